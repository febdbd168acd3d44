import Derived.Test.YtnfadmifdncjoaaGreatSGa
import Derived.Test.YtnfadmifdncjoaaGreatSGb
import Derived.Test.YtnfadmifdncjoaaGreatSGc
import Derived.Test.YtnfadmifdncjoaaGreatSGd
import Derived.Test.YtnfadmifdncjoaaGreatSGe
import Derived.Test.YtnfadmifdncjoaaGreatSGf
import Derived.Test.YtnfadmifdncjoaaGreatSGg
/- GroupPlays: a round of the loop, behind Open. -/
namespace Go.Proofs.YtnfadmifdncjoaaGreat
set_option linter.unusedSimpArgs false
set_option linter.unusedVariables false
open Go.RowKit Go.Maps

noncomputable def c_p15 : Code := (cR (cR (cR (cR (cR (cB (cL (cR (cR (cO c_loop))))))))))
theorem wp_seq_cut {P : Program} {A B : Code} {Q : Exit → Act → World → Prop} {a : Act} {w : World} (I : Act → World → Prop) (h1 : ∀ K : Act → World → Prop, (∀ a w, I a w → K a w) → A.wp P (Exit.then K Q) a w) (h2 : ∀ a w, I a w → B.wp P Q a w) : (Code.seq A B).wp P Q a w := wp_seq (h1 _ h2)
def Keep (S : List Nat) (f f' : Nat → Value) : Prop := ∀ k ∈ S, f' k = f k
theorem Keep.refl (S : List Nat) (f : Nat → Value) : Keep S f f := fun _ _ => rfl
theorem Keep.upd {S : List Nat} {f f' : Nat → Value} (h : Keep S f f') (d : Nat) (v : Value) (hd : d ∉ S) : Keep S f (updA f' d v) := fun k hk => by
  unfold updA
  rw [if_neg (fun (e : k = d) => hd (e ▸ hk))]
  exact h k hk
theorem Keep.trans {S : List Nat} {f f' f'' : Nat → Value} (h : Keep S f f') (h' : Keep S f' f'') : Keep S f f'' := fun k hk => (h' k hk).trans (h k hk)
theorem Keep.less {S S' : List Nat} {f f' : Nat → Value} (h : Keep S f f') (hs : ∀ k ∈ S', k ∈ S) : Keep S' f f' := fun k hk => h k (hs k hk)
def K0 : List Nat := [7, 9, 11, 12, 14, 16, 17, 18, 82, 83, 84]
def K1 : List Nat := 20 :: K0
def K2 : List Nat := 21 :: K1
def K3 : List Nat := 22 :: K2
def K4 : List Nat := 23 :: 20 :: 22 :: K0
def K5 : List Nat := 21 :: 23 :: 20 :: 22 :: K0
def K6 : List Nat := 24 :: K5
theorem wrap64_rng (x : Int) : -9223372036854775808 ≤ wrap64 x ∧ wrap64 x < 9223372036854775808 := by
  unfold wrap64
  omega
set_option maxHeartbeats 80000000 in
set_option maxRecDepth 200000 in
theorem round_a (F : (Nat → Value) → Act) (hFr : Frm 418 F) (f : Nat → Value) (w6 v2 : World) (q p t m dd gg mo tk yb nd qa bR i B0 P0 M DA NB N L LM K : Nat) (g : Cf.Ge) (Y X V : Nat → Nat → Int) (T : Nat → Bool) (kind xn xb : Int) (raw : Bool) (rc : List Value)
    (hL : NB + 1 = L) (hN4 : 4 ≤ NB) (hL5 : NB ≤ 512) (hLM : M + 1 = LM) (hM8 : M ≤ 128) (hK : K < 100000000) (hg : GG g B0 P0 M DA NB N) (hx : Cx w6 q p t m dd gg mo tk yb nd qa v2.heap.size)
    (hG : Gr v2 q p t m dd gg i g B0 NB N ⟨[], Y⟩ Y K) (hR : Rl B0 P0 M DA NB Y T X V) (hM : Mo v2 mo tk yb nd L LM T X V) (hkf : Kf w6 v2 [dd, gg]) (hA : Vl v2 qa [.int .u8 kind, .int .i64 xn, .int .u8 xb, .bool raw])
    (hk0 : 0 ≤ kind ∧ kind < 256) (hxn : -9223372036854775808 ≤ xn ∧ xn < 9223372036854775808) (hxb : 0 ≤ xb ∧ xb < 256)
    (hbR : Vl v2 bR rc) (hr3 : rc[3]? = some (.int .i64 NB)) (hr4 : rc[4]? = some (.int .i64 M)) (hw6 : w6.heap.size ≤ v2.heap.size)
    (h12 : f 12 = .pointer (some ⟨bR, 0, none⟩)) (h14 : f 14 = .pointer (some ⟨mo, 0, none⟩)) (h16 : f 16 = .pointer (some ⟨qa, 0, none⟩)) (h17 : f 17 = .pointer (some ⟨t, 0, none⟩)) (h18 : f 18 = .pointer (some ⟨q, 0, none⟩)) (h20 : f 20 = .int .i64 xn)
    (Q : Exit → Act → World → Prop) (hQp : ∀ c a a' w, a'.defers = a.defers → Q (.panic c) a w → Q (.panic c) a' w)
    (hQ : ∀ f' w', Keep [7, 9, 11, 12, 14, 82, 83, 84] f f' → (∃ Y T X V, Rd w' t m dd gg N ⟨[], Y⟩ Y (K + 900) ∧ Rl B0 P0 M DA NB Y T X V ∧ Mo w' mo tk yb nd L LM T X V) → Kf w6 w' [dd, gg] → Q .normal (F f') w') : c_p15.wp Tryz.prog Q (F f) v2 := by
  have fa1 := hFr.get
  have fa2 := hFr.put
  have fa3 := hFr.fold
  have fa4 := updA_at
  have fa5 := hFr.defers
  have HFr := Lib.hid hFr
  clear hFr
  have HG := Lib.hid hG
  have HR := Lib.hid hR
  have HM := Lib.hid hM
  have HK := Lib.hid hkf
  have HA := Lib.hid hA
  have HB := Lib.hid hbR
  have HX := Lib.hid hx
  have HQ := Lib.hid hQ
  have HQp := Lib.hid hQp
  have Hg := Lib.hid hg
  have HL := Lib.hid hL
  have HLM := Lib.hid hLM
  have HKK := Lib.hid hK
  have HW6 := Lib.hid hw6
  have HK0 := Lib.hid hk0
  have HXB := Lib.hid hxb
  have HR3 := Lib.hid hr3
  have HR4 := Lib.hid hr4
  have HXN := Lib.hid hxn
  clear hG hR hM hkf hA hbR hx hQ hQp hg hL hLM hK hw6 hk0 hxb hr3 hr4 hxn
  conv => arg 2; whnf
  obtain ⟨f1, hf1⟩ : ∃ z, z = f := ⟨f, rfl⟩
  obtain ⟨w', hw'⟩ : ∃ z, z = v2 := ⟨v2, rfl⟩
  have hk1 : Keep K0 f f1 := by rw [hf1]; exact Keep.refl _ _
  rw [← hf1] at h20 ⊢
  clear hf1
  subst hw'
  -- n
  have g12 := (hk1 12 (by decide)).trans h12
  have g16 := (hk1 16 (by decide)).trans h16
  refine wp_seq_cut (fun a w2 => ∃ f' : Nat → Value, a = F f' ∧ w2 = w' ∧ Keep K0 f1 f' ∧ ∃ x : Int, f' 20 = .int .i64 x ∧ -9223372036854775808 ≤ x ∧ x < 9223372036854775808) ?_ ?_
  · intro KK hKK
    have HKK2 := Lib.hid hKK
    clear hKK
    have a3 := HA.out.c 3 _ rfl
    have b3 := HB.out.c 3 _ HR3.out
    cases raw
    · obtain ⟨x1, x2⟩ := HXN.out
      (go_wp2_with fail); repeat ((first | (refine HFr.out.cond_t (by decide) (updA_same _ _ _) ?_) | (refine HFr.out.cond_f (by decide) (updA_same _ _ _) ?_)); (go_wp2_with fail))
      refine HKK2.out _ _ ⟨_, rfl, rfl, by repeat' first | exact Keep.refl _ _ | refine Keep.upd ?_ _ _ (by decide), _, updA_same _ _ _, ?_⟩
      first | exact wrap64_rng _ | exact ⟨(wrap64_rng _).1, (wrap64_rng _).2⟩ | (constructor <;> omega)
    · (go_wp2_with fail); repeat ((first | (refine HFr.out.cond_t (by decide) (updA_same _ _ _) ?_) | (refine HFr.out.cond_f (by decide) (updA_same _ _ _) ?_)); (go_wp2_with fail))
      exact HKK2.out _ _ ⟨_, rfl, rfl, by repeat' first | exact Keep.refl _ _ | refine Keep.upd ?_ _ _ (by decide), _, by simpa [updA_at] using h20, HXN.out.1, HXN.out.2⟩
  rintro a w2 ⟨f2, rfl, hw2, hk2, x, h20x, hx0, hx1⟩
  obtain rfl : w' = w2 := hw2.symm
  clear hw2
  have c12 := (hk2 12 (by decide)).trans g12
  refine wp_seq_cut (fun a w2 => ∃ f' : Nat → Value, a = F f' ∧ w2 = w' ∧ Keep K1 f2 f' ∧ f' 21 = .bool (decide (1 ≤ x ∧ x ≤ (NB : Int)))) ?_ ?_
  · intro KK hKK
    have HKK2 := Lib.hid hKK
    clear hKK
    have b3 := HB.out.c 3 _ HR3.out
    by_cases h1 : 1 ≤ x
    · by_cases h2 : x ≤ (NB : Int)
      · (go_wp2_with fail); repeat ((first | (refine HFr.out.cond_t (by decide) (updA_same _ _ _) ?_) | (refine HFr.out.cond_f (by decide) (updA_same _ _ _) ?_)); (go_wp2_with fail))
        exact HKK2.out _ _ ⟨_, rfl, rfl, by repeat' first | exact Keep.refl _ _ | refine Keep.upd ?_ _ _ (by decide), by rw [decide_eq_true (show 1 ≤ x ∧ x ≤ (NB : Int) from ⟨h1, h2⟩)]; exact updA_same _ _ _⟩
      · have h2' : decide (x ≤ (NB : Int)) = false := decide_eq_false h2
        (go_wp2_with fail); repeat ((first | (refine HFr.out.cond_t (by decide) (updA_same _ _ _) ?_) | (refine HFr.out.cond_f (by decide) (updA_same _ _ _) ?_)); (go_wp2_with fail))
        exact HKK2.out _ _ ⟨_, rfl, rfl, by repeat' first | exact Keep.refl _ _ | refine Keep.upd ?_ _ _ (by decide), by rw [decide_eq_false (show ¬ (1 ≤ x ∧ x ≤ (NB : Int)) by omega)]; exact updA_same _ _ _⟩
    · have h1' : decide (1 ≤ x) = false := decide_eq_false h1
      (go_wp2_with fail); repeat ((first | (refine HFr.out.cond_t (by decide) (updA_same _ _ _) ?_) | (refine HFr.out.cond_f (by decide) (updA_same _ _ _) ?_)); (go_wp2_with fail))
      exact HKK2.out _ _ ⟨_, rfl, rfl, by repeat' first | exact Keep.refl _ _ | refine Keep.upd ?_ _ _ (by decide), by rw [decide_eq_false (show ¬ (1 ≤ x ∧ x ≤ (NB : Int)) by omega)]; exact updA_same _ _ _⟩
  rintro a w2 ⟨f3, rfl, hw2, hk3, h21f3⟩
  obtain rfl : w' = w2 := hw2.symm
  clear hw2
  have d12 := (hk3 12 (by decide)).trans c12
  have h20y := (hk3 20 (by decide)).trans h20x
  clear c12 g12 h20x
  refine wp_seq_cut (fun a w2 => ∃ f' : Nat → Value, a = F f' ∧ w2 = w' ∧ Keep K2 f3 f' ∧ f' 22 = .bool (decide (1 ≤ x ∧ x ≤ (M : Int)))) ?_ ?_
  · intro KK hKK
    have HKK2 := Lib.hid hKK
    clear hKK
    have b3 := HB.out.c 4 _ HR4.out
    by_cases h1 : 1 ≤ x
    · by_cases h2 : x ≤ (M : Int)
      · (go_wp2_with fail); repeat ((first | (refine HFr.out.cond_t (by decide) (updA_same _ _ _) ?_) | (refine HFr.out.cond_f (by decide) (updA_same _ _ _) ?_)); (go_wp2_with fail))
        exact HKK2.out _ _ ⟨_, rfl, rfl, by repeat' first | exact Keep.refl _ _ | refine Keep.upd ?_ _ _ (by decide), by rw [decide_eq_true (show 1 ≤ x ∧ x ≤ (M : Int) from ⟨h1, h2⟩)]; exact updA_same _ _ _⟩
      · have h2' : decide (x ≤ (M : Int)) = false := decide_eq_false h2
        (go_wp2_with fail); repeat ((first | (refine HFr.out.cond_t (by decide) (updA_same _ _ _) ?_) | (refine HFr.out.cond_f (by decide) (updA_same _ _ _) ?_)); (go_wp2_with fail))
        exact HKK2.out _ _ ⟨_, rfl, rfl, by repeat' first | exact Keep.refl _ _ | refine Keep.upd ?_ _ _ (by decide), by rw [decide_eq_false (show ¬ (1 ≤ x ∧ x ≤ (M : Int)) by omega)]; exact updA_same _ _ _⟩
    · have h1' : decide (1 ≤ x) = false := decide_eq_false h1
      (go_wp2_with fail); repeat ((first | (refine HFr.out.cond_t (by decide) (updA_same _ _ _) ?_) | (refine HFr.out.cond_f (by decide) (updA_same _ _ _) ?_)); (go_wp2_with fail))
      exact HKK2.out _ _ ⟨_, rfl, rfl, by repeat' first | exact Keep.refl _ _ | refine Keep.upd ?_ _ _ (by decide), by rw [decide_eq_false (show ¬ (1 ≤ x ∧ x ≤ (M : Int)) by omega)]; exact updA_same _ _ _⟩
  rintro a w2 ⟨f4, rfl, hw2, hk4, h22f4⟩
  obtain rfl : w' = w2 := hw2.symm
  clear hw2
  have h21g := (hk4 21 (by decide)).trans h21f3
  have h20z := (hk4 20 (by decide)).trans h20y
  clear d12 h20y h21f3
  refine wp_seq_cut (fun a w2 => ∃ f' : Nat → Value, a = F f' ∧ w2 = w' ∧ Keep K3 f4 f' ∧ f' 23 = .int .u16 0) ?_ ?_
  · intro KK hKK
    have HKK2 := Lib.hid hKK
    clear hKK
    (go_wp2_with fail); repeat ((first | (refine HFr.out.cond_t (by decide) (updA_same _ _ _) ?_) | (refine HFr.out.cond_f (by decide) (updA_same _ _ _) ?_)); (go_wp2_with fail))
    exact HKK2.out _ _ ⟨_, rfl, rfl, by repeat' first | exact Keep.refl _ _ | refine Keep.upd ?_ _ _ (by decide), updA_same _ _ _⟩
  rintro a w2 ⟨f5, rfl, hw2, hk5, h23⟩
  obtain rfl : w' = w2 := hw2.symm
  clear hw2
  have h20u := (hk5 20 (by decide)).trans h20z
  have h21u := (hk5 21 (by decide)).trans h21g
  have h22u := (hk5 22 (by decide)).trans h22f4
  clear h20z h21g h22f4
  obtain ⟨bi, hbi⟩ : ∃ b, decide (1 ≤ x ∧ x ≤ (NB : Int)) = b := ⟨_, rfl⟩
  obtain ⟨bn, hbn⟩ : ∃ b, decide (1 ≤ x ∧ x ≤ (M : Int)) = b := ⟨_, rfl⟩
  rw [hbi] at h21u
  rw [hbn] at h22u
  have HBI := Lib.hid hbi
  have HBN := Lib.hid hbn
  clear hbi hbn
  refine wp_seq_cut (fun a w2 => ∃ f' : Nat → Value, a = F f' ∧ w2 = w' ∧ Keep (21 :: 20 :: 22 :: K0) f5 f' ∧ ∃ z : Int, f' 23 = .int .u16 z ∧ 0 ≤ z ∧ z < 65536 ∧ (0 ≤ x ∧ x < 65536 → z = x) ∧ (¬ (0 ≤ x ∧ x < 65536) → z = 0)) ?_ ?_
  · intro KK hKK
    have HKK2 := Lib.hid hKK
    clear hKK
    by_cases h1 : 0 ≤ x
    · by_cases h2 : x < 65536
      · (go_wp2_with fail); repeat ((first | (refine HFr.out.cond_t (by decide) (updA_same _ _ _) ?_) | (refine HFr.out.cond_f (by decide) (updA_same _ _ _) ?_)); (go_wp2_with fail))
        exact HKK2.out _ _ ⟨_, rfl, rfl, by repeat' first | exact Keep.refl _ _ | refine Keep.upd ?_ _ _ (by decide), x, updA_same _ _ _, h1, h2, fun _ => rfl, fun h => by omega⟩
      · have h2' : decide (x < 65536) = false := decide_eq_false h2
        (go_wp2_with fail); repeat ((first | (refine HFr.out.cond_t (by decide) (updA_same _ _ _) ?_) | (refine HFr.out.cond_f (by decide) (updA_same _ _ _) ?_)); (go_wp2_with fail))
        exact HKK2.out _ _ ⟨_, rfl, rfl, by repeat' first | exact Keep.refl _ _ | refine Keep.upd ?_ _ _ (by decide), 0, by simpa [updA_at] using h23, by decide, by decide, fun h => by omega, fun _ => rfl⟩
    · have h1' : decide (0 ≤ x) = false := decide_eq_false h1
      (go_wp2_with fail); repeat ((first | (refine HFr.out.cond_t (by decide) (updA_same _ _ _) ?_) | (refine HFr.out.cond_f (by decide) (updA_same _ _ _) ?_)); (go_wp2_with fail))
      exact HKK2.out _ _ ⟨_, rfl, rfl, by repeat' first | exact Keep.refl _ _ | refine Keep.upd ?_ _ _ (by decide), 0, by simpa [updA_at] using h23, by decide, by decide, fun h => by omega, fun _ => rfl⟩
  rintro a w2 ⟨f6, rfl, hw2, hk6, z, h23z, hz0, hz1, hzt, hzf⟩
  obtain rfl : w' = w2 := hw2.symm
  clear hw2
  have h20v := (hk6 20 (by decide)).trans h20u
  have h21v := (hk6 21 (by decide)).trans h21u
  have h22v := (hk6 22 (by decide)).trans h22u
  have HZT : Hid (bi = true → z = x ∧ 1 ≤ x ∧ x ≤ NB) := Lib.hid (fun h => by
    have h3 := HBI.out
    rw [h] at h3
    have h4 := of_decide_eq_true h3
    exact ⟨hzt (by omega), h4.1, h4.2⟩)
  have HZF : Hid (bi = false → ¬ (1 ≤ z ∧ z ≤ NB)) := Lib.hid (fun h => by
    have h3 := HBI.out
    rw [h] at h3
    have h4 := of_decide_eq_false h3
    by_cases h5 : 0 ≤ x ∧ x < 65536
    · rw [hzt h5]; exact h4
    · rw [hzf h5]; omega)
  have HNT : Hid (bn = true → 1 ≤ x ∧ x ≤ M) := Lib.hid (fun h => by
    have h3 := HBN.out
    rw [h] at h3
    exact of_decide_eq_true h3)
  have HNF : Hid (bn = false → ¬ (1 ≤ x ∧ x ≤ M)) := Lib.hid (fun h => by
    have h3 := HBN.out
    rw [h] at h3
    exact of_decide_eq_false h3)
  clear hzt hzf HBI HBN h20u h21u h22u h23
  refine wp_seq_cut (fun a w2 => ∃ f' : Nat → Value, a = F f' ∧ w2 = w' ∧ Keep (23 :: 20 :: 22 :: K0) f6 f' ∧ f' 21 = .bool bi) ?_ ?_
  · intro KK hKK
    have HKK2 := Lib.hid hKK
    clear hKK
    cases bi
    · (go_wp2_with fail); repeat ((first | (refine HFr.out.cond_t (by decide) (updA_same _ _ _) ?_) | (refine HFr.out.cond_f (by decide) (updA_same _ _ _) ?_)); (go_wp2_with fail))
      exact HKK2.out _ _ ⟨_, rfl, rfl, by repeat' first | exact Keep.refl _ _ | refine Keep.upd ?_ _ _ (by decide), updA_same _ _ _⟩
    · obtain ⟨hzx, -, -⟩ := HZT.out rfl
      have hzb : (z == x) = true := by rw [hzx]; exact beq_self_eq_true x
      clear hzx
      (go_wp2_with fail); repeat ((first | (refine HFr.out.cond_t (by decide) (updA_same _ _ _) ?_) | (refine HFr.out.cond_f (by decide) (updA_same _ _ _) ?_)); (go_wp2_with fail))
      exact HKK2.out _ _ ⟨_, rfl, rfl, by repeat' first | exact Keep.refl _ _ | refine Keep.upd ?_ _ _ (by decide), updA_same _ _ _⟩
  rintro a w2 ⟨f7, rfl, hw2, hk7, h21⟩
  obtain rfl : w' = w2 := hw2.symm
  clear hw2
  have h20 := (hk7 20 (by decide)).trans h20v
  have h22 := (hk7 22 (by decide)).trans h22v
  have h23 := (hk7 23 (by decide)).trans h23z
  have hkA : Keep K0 f f7 := (((((hk1.trans hk2).trans (hk3.less (by decide))).trans (hk4.less (by decide))).trans (hk5.less (by decide))).trans (hk6.less (by decide))).trans (hk7.less (by decide))
  clear hk1 hk2 hk3 hk4 hk5 hk6 hk7 h20v h22v h23z h21v g16
  have e12 := (hkA 12 (by decide)).trans h12
  have e14 := (hkA 14 (by decide)).trans h14
  have e16 := (hkA 16 (by decide)).trans h16
  have e17 := (hkA 17 (by decide)).trans h17
  have e18 := (hkA 18 (by decide)).trans h18
  refine wp_seq_cut (fun a w4 => ∃ f' : Nat → Value, a = F f' ∧ Keep K5 f7 f' ∧ f' 24 = .pointer (some ⟨w'.heap.size, 0, none⟩) ∧ Fl w4 w'.heap.size 64 (fun _ => 0) ∧ Below w'.heap.size w' w4) ?_ ?_
  · intro KK hKK
    have HKK2 := Lib.hid hKK
    clear hKK
    go_wp2_with (refine wpList_alloc_byts (w := w') rfl 59 64 rfl Tryz.zero36 ?_; intro w4 F4 hb4 hz4; have HQ4 := Lib.hid hb4; clear hb4 hz4)
    try simp only [fa2]
    exact HKK2.out _ _ ⟨_, rfl, by repeat' first | exact Keep.refl _ _ | refine Keep.upd ?_ _ _ (by decide), updA_same _ _ _, F4.out, HQ4.out⟩
  rintro a w4 ⟨f8, rfl, hk8, h24, hF4, hb4⟩
  have HG4 := Lib.hid (HG.out.keep hb4)
  have HM4 := Lib.hid (HM.out.keep hb4)
  have HA4 := Lib.hid (HA.out.keep hb4)
  have HK4 := Lib.hid (HK.out.more hb4)
  have hqX : qa < w'.heap.size := HA.out.lt
  have hXY : w'.heap.size ≠ yb := by have := HM.out.lts.2.2.1; omega
  have hmX := HM.out.lts
  have hXW := HW6.out
  have HNX := Lib.hid (HG.out.notin (Nat.le_refl _))
  obtain ⟨bX, hbX⟩ : ∃ z, w'.heap.size = z := ⟨_, rfl⟩
  rw [hbX] at h24 hF4 hqX hmX HNX hXW HX hXY
  clear hbX hb4
  have f20 := (hk8 20 (by decide)).trans h20
  have f21 := (hk8 21 (by decide)).trans h21
  have f22 := (hk8 22 (by decide)).trans h22
  have f23 := (hk8 23 (by decide)).trans h23
  have f14 := (hk8 14 (by decide)).trans e14
  have f16 := (hk8 16 (by decide)).trans e16
  have f17 := (hk8 17 (by decide)).trans e17
  have f18 := (hk8 18 (by decide)).trans e18
  have HF4 := Lib.hid hF4
  clear h20 h21 h22 h23 e12 e14 e16 e17 e18 hF4 h12 h14 h16 h17 h18
  obtain ⟨x0, x1⟩ := HXB.out
  refine wp_seq_cut (fun a w5 => ∃ f' : Nat → Value, a = F f' ∧ Keep K6 f8 f' ∧ Fl w5 bX 64 (fun _ => xb) ∧ Kp w4 w5 bX bX) ?_ ?_
  · intro KK hKK
    have HKK2 := Lib.hid hKK
    clear hKK
    go_upto_block 2 with fail
    refine wp_block ?_
    refine wp_loop (fun a w5 => ∃ f' : Nat → Value, ∃ j : Nat, a = F f' ∧ j ≤ 64 ∧ f' 144 = .int .i64 j ∧ Keep K6 f8 f' ∧ Fl w5 bX 64 (fun c => if c < j then xb else 0) ∧ Kp w4 w5 bX bX) (fun a _ => 64 - (intOf (a.eval (.tmp 144))).toNat) ⟨_, 0, rfl, Nat.zero_le _, updA_same _ _ _, by repeat' first | exact Keep.refl _ _ | refine Keep.upd ?_ _ _ (by decide), HF4.out.congr (fun c _ => by rw [if_neg (Nat.not_lt_zero c)]), Kp.refl _ _ _⟩ ?_
    rintro a w5 ⟨f9, j, rfl, hj, h144, hkq, hFj, hKj⟩
    obtain ⟨K', hK1, hK2⟩ : ∃ K' : Act → World → Prop, (∀ a w1, K' a w1 → ((fun a w5 => ∃ f' : Nat → Value, ∃ j : Nat, a = F f' ∧ j ≤ 64 ∧ f' 144 = .int .i64 j ∧ Keep K6 f8 f' ∧ Fl w5 bX 64 (fun c => if c < j then xb else 0) ∧ Kp w4 w5 bX bX) a w1 ∧ (fun a (_ : World) => 64 - (intOf (a.eval (.tmp 144))).toNat) a w1 < (fun a (_ : World) => 64 - (intOf (a.eval (.tmp 144))).toNat) (F f9) w5)) ∧ (∀ a w1, ((fun a w5 => ∃ f' : Nat → Value, ∃ j : Nat, a = F f' ∧ j ≤ 64 ∧ f' 144 = .int .i64 j ∧ Keep K6 f8 f' ∧ Fl w5 bX 64 (fun c => if c < j then xb else 0) ∧ Kp w4 w5 bX bX) a w1 ∧ (fun a (_ : World) => 64 - (intOf (a.eval (.tmp 144))).toNat) a w1 < (fun a (_ : World) => 64 - (intOf (a.eval (.tmp 144))).toNat) (F f9) w5) → K' a w1) := ⟨_, fun _ _ h => h, fun _ _ h => h⟩
    refine Code.wp_mono (Q := Exit.then K' (Exit.inBlock 2 (Exit.then KK Q))) (fun e a w1 q => by cases e <;> first | exact hK1 _ _ q | exact q) ?_
    have HK2 := Lib.hid hK2
    clear hK1 hK2
    have g16 := (hkq 16 (by decide)).trans f16
    have g24 := (hkq 24 (by decide)).trans h24
    have HFj := Lib.hid hFj
    have HKj := Lib.hid hKj
    have HAj := Lib.hid (HA4.out.kp hKj (by omega) (by omega))
    clear hFj hKj
    by_cases hj64 : j < 64
    · have hj0 : (0 : Int) ≤ j := by omega
      have hj6 : (j : Int) < 64 := by omega
      have a2 := HAj.out.c 2 _ rfl
      have cj := HFj.out.c j hj64
      have zj := HFj.out.z j hj64
      (go_wp2_with fail); repeat ((first | (refine HFr.out.cond_t (by decide) (updA_same _ _ _) ?_) | (refine HFr.out.cond_f (by decide) (updA_same _ _ _) ?_)); (go_wp2_with fail))
      refine HK2.out _ _ ⟨⟨_, j + 1, rfl, by omega, ?_, by repeat' first | exact hkq | exact Keep.refl _ _ | refine Keep.upd ?_ _ _ (by decide), (HFj.out.set j hj64 xb).congr (fun c hc => ?_), HKj.out.setA j _⟩, ?_⟩
      · simp only [updA_at, Nat.reduceEqDiff, reduceIte]
        first | rfl | (congr 1; omega) | (simp; done)
      · by_cases e : c = j
        · rw [if_pos e, if_pos (by omega)]
        · rw [if_neg e]
          by_cases e2 : c < j
          · rw [if_pos e2, if_pos (by omega)]
          · rw [if_neg e2, if_neg (by omega)]
      · simp only [HFr.out.eval _ _ (show (144 : Nat) < 418 by decide), updA_at, Nat.reduceEqDiff, reduceIte, h144, intOf]
        omega
    · obtain rfl : j = 64 := by omega
      have h144' : f9 144 = .int .i64 64 := h144
      clear h144
      (go_wp2_with fail); repeat ((first | (refine HFr.out.cond_t (by decide) (updA_same _ _ _) ?_) | (refine HFr.out.cond_f (by decide) (updA_same _ _ _) ?_)); (go_wp2_with fail))
      exact HKK2.out _ _ ⟨_, rfl, by repeat' first | exact hkq | exact Keep.refl _ _ | refine Keep.upd ?_ _ _ (by decide), HFj.out.congr (fun c hc => if_pos hc), HKj.out⟩
  rintro a w5 ⟨f9, rfl, hk9, hF5, hK5⟩
  have HG5 := Lib.hid (HG4.out.kp hK5 HNX)
  have HM5 := Lib.hid (HM4.out.kp hK5 (by omega) (by omega) (by omega) (by omega))
  have HA5 := Lib.hid (HA4.out.kp hK5 (by omega) (by omega))
  have HKf5 := Lib.hid (HK4.out.new hK5 hXW)
  have HF5 := Lib.hid hF5
  have g14 := (hk9 14 (by decide)).trans f14
  have g16 := (hk9 16 (by decide)).trans f16
  have g17 := (hk9 17 (by decide)).trans f17
  have g18 := (hk9 18 (by decide)).trans f18
  have g20 := (hk9 20 (by decide)).trans f20
  have g21 := (hk9 21 (by decide)).trans f21
  have g22 := (hk9 22 (by decide)).trans f22
  have g23 := (hk9 23 (by decide)).trans f23
  have g24 := (hk9 24 (by decide)).trans h24
  clear hF5 hK5 HG4 HM4 HA4 HK4 HF4 f14 f16 f17 f18 f20 f21 f22 f23 h24 HNX hmX hqX hXW
  refine wp_seq_cut (fun a w2 => ∃ f' : Nat → Value, a = F f' ∧ Same f9 f' ∧ Sw w6 w2 q p t m dd gg mo tk yb nd i B0 P0 M DA NB N L LM (K + 700) g) ?_ ?_
  · intro KK hKK
    have HKK2 := Lib.hid hKK
    clear hKK
    have a0 := HA5.out.c 0 _ rfl
    obtain ⟨kk0, kk1⟩ := HK0.out
    obtain ⟨kk, hkk⟩ : ∃ x, Int.tmod kind 8 = x := ⟨_, rfl⟩
    have hkc : kk = 0 ∨ kk = 1 ∨ kk = 2 ∨ kk = 3 ∨ kk = 4 ∨ kk = 5 ∨ kk = 6 ∨ kk = 7 := by
      have h1 : 0 ≤ kk := by rw [← hkk, Int.tmod_eq_emod_of_nonneg kk0]; omega
      have h2 : kk < 8 := by rw [← hkk, Int.tmod_eq_emod_of_nonneg kk0]; omega
      omega
    have HKC := Lib.hid hkc
    clear hkc
    go_upto_block 4 with fail
    clear hkk a0
    refine wp_block ?_
    have HP : Hid (∀ c a a' w, a'.defers = a.defers → Exit.inBlock 4 (Exit.then KK Q) (.panic c) a w → Exit.inBlock 4 (Exit.then KK Q) (.panic c) a' w) := Lib.hid (fun c a a' w h q => HQp.out c a a' w h q)
    have HE : Hid (∀ f1, Same f9 f1 → ∀ f' w', Same f1 f' → Sw w6 w' q p t m dd gg mo tk yb nd i B0 P0 M DA NB N L LM (K + 700) g → Exit.inBlock 4 (Exit.then KK Q) .normal (F f') w') := Lib.hid (fun f1 h1 f' w' hs hsw => HKK2.out _ _ ⟨f', rfl, h1.trans hs, hsw⟩)
    rcases HKC.out with rfl | rfl | rfl | rfl | rfl | rfl | rfl | rfl
    · go_wp2_with fail
      refine HFr.out.cond_f (by decide) (updA_same _ _ _) ?_
      go_wp2_with fail
      refine HFr.out.cond_f (by decide) (updA_same _ _ _) ?_
      go_wp2_with fail
      refine HFr.out.cond_f (by decide) (updA_same _ _ _) ?_
      go_wp2_with fail
      refine HFr.out.cond_f (by decide) (updA_same _ _ _) ?_
      go_wp2_with fail
      refine HFr.out.cond_f (by decide) (updA_same _ _ _) ?_
      go_wp2_with fail
      refine HFr.out.cond_f (by decide) (updA_same _ _ _) ?_
      exact way_take F HFr.out _ w6 w5 q p t m dd gg mo tk yb nd qa bX i B0 P0 M DA NB N L LM K g Y X V T kind xn xb raw HL.out hL5 HLM.out hM8 HKK.out Hg.out HX.out HG5.out HR.out HM5.out HKf5.out HA5.out HF5.out (by simp [updA_at, g14]) (by simp [updA_at, g16]) (by simp [updA_at, g18]) (by simp [updA_at, g24]) _ HP.out (HE.out _ (by unfold Same; simp [updA_at]))
    · go_wp2_with fail
      refine HFr.out.cond_f (by decide) (updA_same _ _ _) ?_
      go_wp2_with fail
      refine HFr.out.cond_f (by decide) (updA_same _ _ _) ?_
      go_wp2_with fail
      refine HFr.out.cond_f (by decide) (updA_same _ _ _) ?_
      go_wp2_with fail
      refine HFr.out.cond_f (by decide) (updA_same _ _ _) ?_
      go_wp2_with fail
      refine HFr.out.cond_f (by decide) (updA_same _ _ _) ?_
      go_wp2_with fail
      refine HFr.out.cond_f (by decide) (updA_same _ _ _) ?_
      exact way_take F HFr.out _ w6 w5 q p t m dd gg mo tk yb nd qa bX i B0 P0 M DA NB N L LM K g Y X V T kind xn xb raw HL.out hL5 HLM.out hM8 HKK.out Hg.out HX.out HG5.out HR.out HM5.out HKf5.out HA5.out HF5.out (by simp [updA_at, g14]) (by simp [updA_at, g16]) (by simp [updA_at, g18]) (by simp [updA_at, g24]) _ HP.out (HE.out _ (by unfold Same; simp [updA_at]))
    · go_wp2_with fail
      refine HFr.out.cond_t (by decide) (updA_same _ _ _) ?_
      exact way_give F HFr.out _ w6 w5 q p t m dd gg mo tk yb nd qa bX i B0 P0 M DA NB N L LM K g Y X V T kind xn xb raw HL.out hL5 HLM.out hM8 HKK.out Hg.out HX.out HG5.out HR.out HM5.out HKf5.out HA5.out HF5.out (by simp [updA_at, g14]) (by simp [updA_at, g16]) (by simp [updA_at, g18]) (by simp [updA_at, g24]) x z bi (by simp [updA_at, g20]) (by simp [updA_at, g21]) (by simp [updA_at, g23]) hz0 hz1 HZT.out HZF.out _ HP.out (HE.out _ (by unfold Same; simp [updA_at]))
    · go_wp2_with fail
      refine HFr.out.cond_f (by decide) (updA_same _ _ _) ?_
      go_wp2_with fail
      refine HFr.out.cond_t (by decide) (updA_same _ _ _) ?_
      exact way_put F HFr.out _ w6 w5 q p t m dd gg mo tk yb nd qa bX i B0 P0 M DA NB N L LM K g Y X V T kind xn xb raw HL.out hL5 HLM.out hM8 HKK.out Hg.out HX.out HG5.out HR.out HM5.out HKf5.out HA5.out HF5.out (by simp [updA_at, g14]) (by simp [updA_at, g16]) (by simp [updA_at, g18]) (by simp [updA_at, g24]) x z bi (by simp [updA_at, g20]) (by simp [updA_at, g21]) (by simp [updA_at, g23]) hz0 hz1 HZT.out HZF.out (fun c _ => HXB.out) hXY _ HP.out (HE.out _ (by unfold Same; simp [updA_at]))
    · go_wp2_with fail
      refine HFr.out.cond_f (by decide) (updA_same _ _ _) ?_
      go_wp2_with fail
      refine HFr.out.cond_f (by decide) (updA_same _ _ _) ?_
      go_wp2_with fail
      refine HFr.out.cond_t (by decide) (updA_same _ _ _) ?_
      exact way_make F HFr.out _ w6 w5 q p t m dd gg mo tk yb nd qa bX i B0 P0 M DA NB N L LM K g Y X V T kind xn xb raw HL.out hL5 HLM.out hM8 HKK.out Hg.out HX.out HG5.out HR.out HM5.out HKf5.out HA5.out HF5.out (by simp [updA_at, g14]) (by simp [updA_at, g16]) (by simp [updA_at, g18]) (by simp [updA_at, g24]) HXB.out _ HP.out (HE.out _ (by unfold Same; simp [updA_at]))
    · go_wp2_with fail
      refine HFr.out.cond_f (by decide) (updA_same _ _ _) ?_
      go_wp2_with fail
      refine HFr.out.cond_f (by decide) (updA_same _ _ _) ?_
      go_wp2_with fail
      refine HFr.out.cond_f (by decide) (updA_same _ _ _) ?_
      go_wp2_with fail
      refine HFr.out.cond_t (by decide) (updA_same _ _ _) ?_
      exact way_wipe F HFr.out _ w6 w5 q p t m dd gg mo tk yb nd qa bX i B0 P0 M DA NB N L LM K g Y X V T kind xn xb raw HL.out hL5 HLM.out hM8 HKK.out Hg.out HX.out HG5.out HR.out HM5.out HKf5.out HA5.out HF5.out (by simp [updA_at, g14]) (by simp [updA_at, g16]) (by simp [updA_at, g18]) (by simp [updA_at, g24]) x bn (by simp [updA_at, g20]) (by simp [updA_at, g22]) HNT.out HNF.out _ HP.out (HE.out _ (by unfold Same; simp [updA_at]))
    · go_wp2_with fail
      refine HFr.out.cond_f (by decide) (updA_same _ _ _) ?_
      go_wp2_with fail
      refine HFr.out.cond_f (by decide) (updA_same _ _ _) ?_
      go_wp2_with fail
      refine HFr.out.cond_f (by decide) (updA_same _ _ _) ?_
      go_wp2_with fail
      refine HFr.out.cond_f (by decide) (updA_same _ _ _) ?_
      go_wp2_with fail
      refine HFr.out.cond_t (by decide) (updA_same _ _ _) ?_
      exact way_get F HFr.out _ w6 w5 q p t m dd gg mo tk yb nd qa bX i B0 P0 M DA NB N L LM K g Y X V T kind xn xb raw HL.out hL5 HLM.out hM8 HKK.out Hg.out HX.out HG5.out HR.out HM5.out HKf5.out HA5.out HF5.out (by simp [updA_at, g14]) (by simp [updA_at, g16]) (by simp [updA_at, g18]) (by simp [updA_at, g24]) x z bi (by simp [updA_at, g20]) (by simp [updA_at, g21]) (by simp [updA_at, g23]) hz0 hz1 HZT.out HZF.out _ HP.out (HE.out _ (by unfold Same; simp [updA_at]))
    · go_wp2_with fail
      refine HFr.out.cond_f (by decide) (updA_same _ _ _) ?_
      go_wp2_with fail
      refine HFr.out.cond_f (by decide) (updA_same _ _ _) ?_
      go_wp2_with fail
      refine HFr.out.cond_f (by decide) (updA_same _ _ _) ?_
      go_wp2_with fail
      refine HFr.out.cond_f (by decide) (updA_same _ _ _) ?_
      go_wp2_with fail
      refine HFr.out.cond_f (by decide) (updA_same _ _ _) ?_
      go_wp2_with fail
      refine HFr.out.cond_t (by decide) (updA_same _ _ _) ?_
      exact way_set F HFr.out _ w6 w5 q p t m dd gg mo tk yb nd qa bX i B0 P0 M DA NB N L LM K g Y X V T kind xn xb raw HL.out hL5 HLM.out hM8 HKK.out Hg.out HX.out HG5.out HR.out HM5.out HKf5.out HA5.out HF5.out (by simp [updA_at, g14]) (by simp [updA_at, g16]) (by simp [updA_at, g18]) (by simp [updA_at, g24]) x bn (by simp [updA_at, g20]) (by simp [updA_at, g22]) HNT.out HNF.out HXB.out _ HP.out (HE.out _ (by unfold Same; simp [updA_at]))
  rintro a w2 ⟨f10, rfl, hs, ⟨Y1, T1, X1, V1, ln1, hG1, hl1, hR1, hM1⟩, hK1⟩
  have g17' := hs.2.2.2.2.2.1.trans g17
  have HG1 := Lib.hid hG1
  have HM1 := Lib.hid hM1
  have HR1 := Lib.hid hR1
  have HKL := Lib.hid hK1
  have hkS : Keep [7, 9, 11, 12, 14, 82, 83, 84] f f10 := by
    have h1 : Keep K0 f f9 := (hkA.trans (hk8.less (by decide))).trans (hk9.less (by decide))
    have h2 : Keep [7, 9, 11, 12, 14, 82, 83, 84] f9 f10 := by
      obtain ⟨e1, e2, e3, e4, e5, e6, e7, e8, e9⟩ := hs
      intro k hk
      simp only [List.mem_cons, List.not_mem_nil, or_false] at hk
      rcases hk with rfl | rfl | rfl | rfl | rfl | rfl | rfl | rfl <;> assumption
    exact (h1.less (by decide)).trans h2
  have HKS := Lib.hid hkS
  have HL1 := Lib.hid hl1
  clear hG1 hl1 hR1 hM1 hK1 hs hkS hkA hk8 hk9
  go_wp2_with fail
  refine (commit7 t m dd gg (K + 700) Y1 HL1.out (by have := HKK.out; omega) w2 HG1.out.rd).mono ?_
  rintro e w9 ⟨rfl, hR9, hk9⟩
  have HR9 := Lib.hid hR9
  have HK9 := Lib.hid (HKL.out.tx hk9 HX.out.s5 HX.out.s6)
  have HM9 := Lib.hid (HM1.out.kf hk9 HX.out.ne)
  clear hR9 hk9
  (go_wp2_with fail); repeat ((first | (refine HFr.out.cond_t (by decide) (updA_same _ _ _) ?_) | (refine HFr.out.cond_f (by decide) (updA_same _ _ _) ?_)); (go_wp2_with fail))
  refine HQ.out _ _ ?_ ⟨Y1, T1, X1, V1, HR9.out.mono (by omega), HR1.out, HM9.out⟩ HK9.out
  repeat' first | exact HKS.out | refine Keep.upd ?_ _ _ (by decide)
end Go.Proofs.YtnfadmifdncjoaaGreat
