import Derived.Test.YtlpbhijfdeceoaaB8
import Derived.Deep.CutBlock
import Derived.Deep.DeepCutAuto
/- The map of bits: List, Count; a block that there is not. -/
namespace Go.Proofs.Ytlpbhijfdeceoaa
set_option linter.unusedSimpArgs false
set_option linter.unusedVariables false
open Go.RowKit Go.Maps


theorem ownsRow_base {w : World} {base base' : Nat} {e : TypeId} {size n : Nat} {v : Value} {xs : List Value} (h : w.ownsRow base e size v n xs) (hb : base' ≤ base) : w.ownsRow base' e size v n xs := by
  obtain ⟨hl, ⟨hv, hn⟩ | ⟨g, cap, cur, hv, hg, r⟩⟩ := h
  · exact ⟨hl, .inl ⟨hv, hn⟩⟩
  · exact ⟨hl, .inr ⟨g, cap, cur, hv, by omega, r⟩⟩
def nsV (L : List Nat) : List Value := L.map fun (k : Nat) => Value.int .i64 (k : Int)
set_option maxHeartbeats 4000000 in
set_option maxRecDepth 100000 in
theorem list_any (p t m d g fi n K : Nat) (T : TS) (hf : fi ≤ 65536) (hn : n ≤ 65536) (hx : ∀ i, i < n → fi + i / 512 < 40) (hK : K < 600000) (w : World) (hm : Mb w p t fi n) (hr : Rd w t m d g T K) (hp : p ∉ [t, m, d, g]) :
    Calls Try.prog 13 #[.pointer (some ⟨p, 0, none⟩)] w fun e w' => ∃ v, e = .returned (.tuple #[v, .int .i64 0]) ∧ w'.ownsRow w.heap.size 3 1 v (setL (bt T fi) n).length (nsV (setL (bt T fi) n)) ∧ Rd w' t m d g T (K + 200) ∧ Kf w w' [t, m, d, g] := by
  have hmf : ∀ (fn : Fn) (first cap : Array Value) (w : World), (Instr.makeFunc fn first cap).run Try.prog w = .ok (.func fn first cap) w := fun _ _ _ _ => rfl
  have HM := Lib.hid hm
  have HR := Lib.hid hr
  clear hm hr
  go_enter Try.func13, Try.ntmps13
  go_wp2_with fail
  obtain ⟨w1, hw1⟩ : ∃ x, w.alloc (Obj.cells #[Value.slice none 0 0] 38) = x := ⟨_, rfl⟩
  have hb1 : Below w.heap.size w w1 := by rw [← hw1]; exact (Below.refl _ _).alloc (Nat.le_refl _) _
  have hc1 : w1.cell? ⟨w.heap.size, 0, none⟩ = some (.slice none 0 0) := by rw [← hw1, World.cell?_alloc_at _ _ _ _ rfl]; rfl
  have hz1 : w1.frozen? ⟨w.heap.size, 0, none⟩ = false := by rw [← hw1]; simp
  have hs1 : w.heap.size < w1.heap.size := by rw [← hw1]; simp
  have hlts := HR.out.lts
  have hpl := HM.out.lt
  have HB1 := Lib.hid hb1
  rw [hw1]
  clear hw1
  obtain ⟨q, hq⟩ : ∃ q, w.heap.size = q := ⟨_, rfl⟩
  have hB0 : w.heap.size ≤ q := by omega
  rw [hq] at hc1 hz1 hs1 hlts hpl ⊢
  have hE := each_any p t m d g fi n K 30 q T
    (fun i W => (∃ v, W.cell? ⟨q, 0, none⟩ = some v ∧ W.frozen? ⟨q, 0, none⟩ = false ∧ W.ownsRow (w1.heap.size + 1) 3 1 v (setL (bt T fi) i).length (nsV (setL (bt T fi) i))) ∧ q < W.heap.size)
    (fun _ => False)
    hf hn hx hK w1 (HM.out.keep hb1) (HR.out.keep hb1) hp (by simp; omega) hs1 (fun args W => by rfl)
    (fun W hb => ⟨⟨_, (hb.cell (p := ⟨q, 0, none⟩) hs1).trans hc1, (hb.frozen (p := ⟨q, 0, none⟩) hs1).trans hz1, World.ownsRow_nil _ _ _ _⟩, Nat.lt_of_lt_of_le hs1 hb.size⟩)
    (fun i W W' h hk => by
      obtain ⟨⟨v, h1, h2, h3⟩, h4⟩ := h
      refine ⟨⟨v, (hk.cell (p := ⟨q, 0, none⟩) h4 (by simp; omega)).trans h1, (hk.frozen (p := ⟨q, 0, none⟩) h4 (by simp; omega)).trans h2, ownsRow_keep h3 (fun k hk' => hk.block k (h3.lt k hk').2 ?_)⟩, Nat.lt_of_lt_of_le h4 hk.size⟩
      have := (h3.lt k hk').1
      simp
      omega)
    (fun i W hi h hz => by
      obtain ⟨⟨v, h1, h2, h3⟩, h4⟩ := h
      refine (list1_any q i (w1.heap.size + 1) _ v (setL (bt T fi) i) W h1 h2 h3 (by omega) (by have := setL_len (bt T fi) i; omega) (by omega)).mono ?_
      rintro e w' ⟨he, hk, v', h5, h6, h7⟩
      refine ⟨_, he, hk, ?_⟩
      simp only [if_true]
      have hbt : bitOf (vw T (fi + i / 512)) i = bt T fi i := rfl
      rw [hbt] at h7
      refine ⟨⟨v', h5, h6, ?_⟩, Nat.lt_of_lt_of_le h4 hk.size⟩
      rw [setL_succ]
      exact h7)
  refine hE.mono ?_
  rintro e w2 ⟨rfl, hR2, hK2, hI⟩
  have HR2 := Lib.hid hR2
  have HK2 : Hid (Kf w w2 [t, m, d, g]) := by
    refine ⟨hK2.os.trans HB1.out.os, hK2.tape.trans HB1.out.tape, hK2.output.trans HB1.out.output, Nat.le_trans HB1.out.size hK2.size, fun k hk hn => ?_⟩
    refine (hK2.block k (Nat.lt_of_lt_of_le hk HB1.out.size) (fun hm => hn ?_)).trans (HB1.out.block k hk)
    simp at hm ⊢
    omega
  obtain ⟨v, hv, hO⟩ : ∃ v, w2.cell? ⟨q, 0, none⟩ = some v ∧ w2.ownsRow q 3 1 v (setL (bt T fi) n).length (nsV (setL (bt T fi) n)) := by
    rcases hI with ⟨⟨v, h1, _, h3⟩, _⟩ | h
    · exact ⟨v, h1, ownsRow_base h3 (by omega)⟩
    · exact h.elim
  have HO := Lib.hid hO
  clear hI hE hR2 hK2 hO HB1 hb1 hc1 hz1 HM HR hx
  obtain ⟨av, cv, rfl⟩ := ownsRow_slice HO.out
  go_wp2_with fail
  refine bodyPost_ret (v := .tuple #[.slice av (setL (bt T fi) n).length cv, .int .i64 0]) (by simp [results, Try.results13, go_sem]) rfl ⟨_, rfl, ownsRow_base HO.out hB0, HR2.out, HK2.out⟩
theorem list_err (q : Value) (c : Int) (hc : c ≠ 0) (w : World) (HE : ∀ f W, Below w.heap.size w W → Calls Try.prog 29 #[q, f] W fun e w' => e = .returned (.int .i64 c) ∧ Below w.heap.size w w') :
    Calls Try.prog 13 #[q] w fun e w' => e = .returned (.tuple #[.slice none 0 0, .int .i64 c]) ∧ Below w.heap.size w w' := by
  have hmf : ∀ (fn : Fn) (first cap : Array Value) (w : World), (Instr.makeFunc fn first cap).run Try.prog w = .ok (.func fn first cap) w := fun _ _ _ _ => rfl
  have HH := Lib.hid HE
  clear HE
  go_enter Try.func13, Try.ntmps13
  go_wp2_with fail
  refine (HH.out _ _ ((Below.refl _ _).alloc (Nat.le_refl _) _)).mono ?_
  rintro e w1 ⟨rfl, hb⟩
  have HB := Lib.hid hb
  clear hb HH
  go_wp2_with fail
  refine bodyPost_ret (v := .tuple #[.slice none 0 0, .int .i64 c]) (by simp [results, Try.results13, go_sem]) rfl ⟨rfl, HB.out⟩
theorem list_nil (w : World) : Calls Try.prog 13 #[.pointer none] w fun e w' => e = .returned (.tuple #[.slice none 0 0, .int .i64 1]) ∧ Below w.heap.size w w' :=
  list_err _ 1 (by decide) w fun f W hb => (each_nil f W).mono fun e w' ⟨h1, h2⟩ => ⟨h1, by rw [h2]; exact hb⟩
theorem count_nil (w : World) : Calls Try.prog 15 #[.pointer none] w fun e w' => e = .returned (.tuple #[.int .i64 0, .int .i64 1]) ∧ Below w.heap.size w w' := by
  go_enter Try.func15, Try.ntmps15
  go_wp2_with fail
  refine (list_nil w).mono ?_
  rintro e w1 ⟨rfl, hb⟩
  have HB := Lib.hid hb
  clear hb
  go_wp2
  refine bodyPost_ret (v := .tuple #[.int .i64 0, .int .i64 1]) (by simp [results, Try.results15, go_sem]) rfl ⟨rfl, HB.out⟩
set_option maxHeartbeats 2000000 in
theorem count_any (p t m d g fi n K : Nat) (T : TS) (hf : fi ≤ 65536) (hn : n ≤ 65536) (hx : ∀ i, i < n → fi + i / 512 < 40) (hK : K < 600000) (w : World) (hm : Mb w p t fi n) (hr : Rd w t m d g T K) (hp : p ∉ [t, m, d, g]) :
    Calls Try.prog 15 #[.pointer (some ⟨p, 0, none⟩)] w fun e w' => e = .returned (.tuple #[.int .i64 (setL (bt T fi) n).length, .int .i64 0]) ∧ Rd w' t m d g T (K + 200) ∧ Kf w w' [t, m, d, g] := by
  have HL := Lib.hid (list_any p t m d g fi n K T hf hn hx hK w hm hr hp)
  obtain ⟨L, hL⟩ : ∃ L, setL (bt T fi) n = L := ⟨_, rfl⟩
  have hlen := setL_len (bt T fi) n
  rw [hL] at HL hlen ⊢
  clear hm hr hL hx
  go_enter Try.func15, Try.ntmps15
  go_wp2_with fail
  refine HL.out.mono ?_
  rintro e w1 ⟨v, rfl, hO, hR, hK1⟩
  obtain ⟨av, cv, rfl⟩ := ownsRow_slice hO
  have HR := Lib.hid hR
  have HK := Lib.hid hK1
  clear hO hR hK1 HL
  go_wp2
  refine bodyPost_ret (v := .tuple #[.int .i64 L.length, .int .i64 0]) (by simp [results, Try.results15, go_sem]) rfl ⟨rfl, HR.out, HK.out⟩
set_option maxHeartbeats 20000000 in
set_option maxRecDepth 100000 in
theorem each_out (p t m d g fi n K : Nat) (T : TS) (f : Value) (hf : fi ≤ 65536) (hn : n ≤ 65536) (hn0 : 0 < n) (hx : 40 ≤ fi) (hT : find T fi = none) (hK : K < 600000) (w : World) (hm : Mb w p t fi n) (hr : Rd w t m d g T K) (hp : p ∉ [t, m, d, g]) :
    Calls Try.prog 29 #[.pointer (some ⟨p, 0, none⟩), f] w fun e w' => e = .returned (.int .i64 27) ∧ Rd w' t m d g T K ∧ Kf w w' [t, m, d, g] := by
  have HM := Lib.hid hm
  have HR := Lib.hid hr
  have c2 := hm.c2
  have hpl := hm.lt
  have hlts := hr.lts
  have HG := Lib.hid (fun W h => get5_out t m d g K T fi (by omega) (by omega) (by omega) hT (by omega) W h)
  have HP := Lib.hid (fun W h => place_any p t fi n 0 hf (by omega) W h)
  clear hm hr
  have h0n : (0 : Int) < n := by omega
  have h1n : (n : Int) ≤ 65536 := by omega
  obtain ⟨V, hV⟩ : ∃ V : Nat → Int, (fun _ => 0) = V := ⟨_, rfl⟩
  have HVV := Lib.hid hV
  rw [hV] at HG
  clear hV
  go_enter Try.func29, Try.ntmps29
  go_wp2_with (refine wpList_alloc_byts rfl 49 64 rfl Try.zero36 ?_; intro w1 F1 hb1 hz1; have HF1 := F1; have HK1 := Lib.hid (Kf.of_below hb1 [t, m, d, g]); have HM1 := Lib.hid (HM.out.keep hb1); have HR1 := Lib.hid (HR.out.keep hb1); replace c2 := HM1.out.c2; clear hb1 hz1 F1)
  obtain ⟨b5, hb5⟩ : ∃ b, w.heap.size = b := ⟨_, rfl⟩
  have hb5' : w.heap.size ≤ b5 := by omega
  rw [hb5] at HF1 hpl hlts ⊢
  clear hb5 HM HR c2
  go_loopw [6, 7, 14] (fun _ _ i wr => i = .int .i64 0 ∧ wr = w1) (fun _ _ i _ => 0)
  case atStart => exact ⟨rfl, rfl⟩
  case round =>
    obtain ⟨rfl, hwr⟩ := hrel
    subst hwr
    obtain ⟨w1, rfl⟩ : ∃ x, x = wr := ⟨wr, rfl⟩
    go_wp2_with fail
    refine wp_region_held (S := fun W => Mb W p t fi n) (by kernel_rfl) ?_
    change wpAnyH _ _ _ _ _ _ _ _ (World.drew _)
    have hS0 : Mb w1.drew p t fi n := HM1.out.keep (Below.refl _ _).drew
    have HR2 := Lib.hid (HR1.out.keep (Below.refl _ _).drew)
    have HF2 := Lib.hid (HF1.out.below (Below.refl _ _).drew HF1.out.lt)
    have HK2 := Lib.hid (HK1.out.trans (Kf.of_below (Below.refl w1.heap.size w1).drew [t, m, d, g]))
    obtain ⟨w2, hw2⟩ : ∃ x, World.drew w1 = x := ⟨_, rfl⟩
    rw [hw2] at hS0 HR2 HF2 HK2 ⊢
    clear hw2 HR1 HK1 HM1 HF1
    refine wpAnyH_take (i := 0) (v := ?_) rfl (by kernel_rfl) (by kernel_rfl) (by kernel_rfl) (fun _ _ _ h => h) (Or.inl ⟨by rfl, ?_⟩) hS0 ?_
    rotate_left 1
    · intro W hW
      go_simp
      try with_reducible rfl
    simp only [Act.put, List.getElem_toArray, List.getElem_cons_zero, List.getElem_cons_succ, List.setIfInBounds_toArray, List.set_cons_zero, List.set_cons_succ]
    refine wpAnyH_take (i := 1) (v := ?_) rfl (by kernel_rfl) (by kernel_rfl) (by kernel_rfl) (fun _ _ _ h => h) (Or.inl ⟨by rfl, ?_⟩) hS0 ?_
    rotate_left 1
    · intro W hW
      go_simp
      try with_reducible rfl
    simp only [Act.put, List.getElem_toArray, List.getElem_cons_zero, List.getElem_cons_succ, List.setIfInBounds_toArray, List.set_cons_zero, List.set_cons_succ]
    refine wpAnyH_take (i := 2) (v := ?_) rfl (by kernel_rfl) (by kernel_rfl) (by kernel_rfl) (fun _ _ _ h => h) (Or.inl ⟨by rfl, ?_⟩) hS0 ?_
    rotate_left 1
    · intro W hW
      go_simp
      try with_reducible rfl
    simp only [Act.put, List.getElem_toArray, List.getElem_cons_zero, List.getElem_cons_succ, List.setIfInBounds_toArray, List.set_cons_zero, List.set_cons_succ]
    refine wpAnyH_take (i := 3) (v := ?_) rfl (by kernel_rfl) (by kernel_rfl) (by kernel_rfl) (fun _ _ _ h => h) (Or.inl ⟨by rfl, ?_⟩) hS0 ?_
    rotate_left 1
    · intro W hW
      have c0 := hW.c0
      go_simp
      try with_reducible rfl
    simp only [Act.put, List.getElem_toArray, List.getElem_cons_zero, List.getElem_cons_succ, List.setIfInBounds_toArray, List.set_cons_zero, List.set_cons_succ]
    refine wpAnyH_take (i := 4) (v := ?_) rfl (by kernel_rfl) (by kernel_rfl) (by kernel_rfl) (fun _ _ _ h => h) (Or.inl ⟨by rfl, ?_⟩) hS0 ?_
    rotate_left 1
    · intro W hW
      go_simp
      try with_reducible rfl
    simp only [Act.put, List.getElem_toArray, List.getElem_cons_zero, List.getElem_cons_succ, List.setIfInBounds_toArray, List.set_cons_zero, List.set_cons_succ]
    refine wpAnyH_take (i := 5) (v := ?_) rfl (by kernel_rfl) (by kernel_rfl) (by kernel_rfl) (fun _ _ _ h => h) (Or.inl ⟨by rfl, ?_⟩) hS0 ?_
    rotate_left 1
    · intro W hW
      go_simp
      try with_reducible rfl
    simp only [Act.put, List.getElem_toArray, List.getElem_cons_zero, List.getElem_cons_succ, List.setIfInBounds_toArray, List.set_cons_zero, List.set_cons_succ]
    refine wpAnyH_take (i := 7) (v := ?_) rfl (by kernel_rfl) (by kernel_rfl) (by kernel_rfl) (fun _ _ _ h => h) (Or.inl ⟨by rfl, ?_⟩) hS0 ?_
    rotate_left 1
    · intro W hW
      go_simp
      try with_reducible rfl
    simp only [Act.put, List.getElem_toArray, List.getElem_cons_zero, List.getElem_cons_succ, List.setIfInBounds_toArray, List.set_cons_zero, List.set_cons_succ]
    refine wpAnyH_take (i := 8) (v := ?_) rfl (by kernel_rfl) (by kernel_rfl) (by kernel_rfl) (fun _ _ _ h => h) (Or.inl ⟨by rfl, ?_⟩) hS0 ?_
    rotate_left 1
    · intro W hW
      go_simp
      try with_reducible rfl
    simp only [Act.put, List.getElem_toArray, List.getElem_cons_zero, List.getElem_cons_succ, List.setIfInBounds_toArray, List.set_cons_zero, List.set_cons_succ]
    refine wpAnyH_ready (rs := [6]) (by kernel_rfl) (by simp) (AllReadyH.cons rfl (fun KK hKK => ?_) AllReadyH.nil)
    go_simp
    refine (HP.out w2 hS0).mono ?_
    rintro e wz ⟨rfl, hwz⟩
    rw [hwz]
    clear hwz
    refine hKK _ _ hS0 ?_
    intro _
    clear hKK KK
    try simp only [Act.put, List.getElem_toArray, List.getElem_cons_zero, List.getElem_cons_succ, List.setIfInBounds_toArray, List.set_cons_zero, List.set_cons_succ]
    refine wpAnyH_ready (rs := [9]) (by kernel_rfl) (by simp) (AllReadyH.cons rfl (fun KK hKK => ?_) AllReadyH.nil)
    have hmg := method_get t
    go_simp
    clear hmg
    refine (HG.out w2 HR2.out).mono ?_
    rintro e w3 ⟨rfl, hR3, hk3⟩
    have HR3 := Lib.hid hR3
    have HF3 := Lib.hid (HF2.out.kf hk3 (by have := HR2.out.lts; first | (simp; done) | (simp; omega)))
    have HK3 := Lib.hid (HK2.out.trans hk3)
    replace hS0 : Mb w3 p t fi n := hS0.kf hk3 hp
    clear hR3 hk3 HR2 HK2 HF2
    refine hKK _ _ hS0 ?_
    intro _
    clear hKK KK
    try simp only [Act.put, List.getElem_toArray, List.getElem_cons_zero, List.getElem_cons_succ, List.setIfInBounds_toArray, List.set_cons_zero, List.set_cons_succ]
    refine wpAnyH_take (i := 10) (v := ?_) rfl (by kernel_rfl) (by kernel_rfl) (by kernel_rfl) (fun _ _ _ h => h) (Or.inl ⟨by rfl, ?_⟩) hS0 ?_
    rotate_left 1
    · intro W hW
      go_simp
      try with_reducible rfl
    simp only [Act.put, List.getElem_toArray, List.getElem_cons_zero, List.getElem_cons_succ, List.setIfInBounds_toArray, List.set_cons_zero, List.set_cons_succ]
    refine wpAnyH_take (i := 11) (v := ?_) rfl (by kernel_rfl) (by kernel_rfl) (by kernel_rfl) (fun _ _ _ h => h) (Or.inl ⟨by rfl, ?_⟩) hS0 ?_
    rotate_left 1
    · intro W hW
      go_simp
      try with_reducible rfl
    simp only [Act.put, List.getElem_toArray, List.getElem_cons_zero, List.getElem_cons_succ, List.setIfInBounds_toArray, List.set_cons_zero, List.set_cons_succ]
    refine wpAnyH_take (i := 12) (v := ?_) rfl (by kernel_rfl) (by kernel_rfl) (by kernel_rfl) (fun _ _ _ h => h) (Or.inl ⟨by rfl, ?_⟩) hS0 ?_
    rotate_left 1
    · intro W hW
      go_simp
      try with_reducible rfl
    simp only [Act.put, List.getElem_toArray, List.getElem_cons_zero, List.getElem_cons_succ, List.setIfInBounds_toArray, List.set_cons_zero, List.set_cons_succ]
    refine wpAnyH_ready (rs := [13]) (by kernel_rfl) (by simp) (AllReadyH.cons rfl (fun KK hKK => ?_) AllReadyH.nil)
    refine step_store_mid rfl 49 _ _ rfl b5 0 (byts 64 V).toArray rfl rfl (by rw [byts_size]; exact HF3.out.there 0 64 (Nat.le_refl _)) (size36' _) (byts_all _ _) ?_
    rw [List.toList_toArray]
    have HF4 := Lib.hid (HF3.out.stored V)
    have hk4 : Kp w3 (w3.setCells b5 0 (byts 64 V)) b5 b5 := (Kp.refl _ _ _).setCells b5 0 (.inl rfl) _
    have HR4 := Lib.hid (HR3.out.kp hk4 (by first | (simp; done) | (simp; omega)) (by first | (simp; done) | (simp; omega)))
    have HM4 := Lib.hid (hS0.kp hk4 (by omega))
    have HK4 := Lib.hid (HK3.out.setNew b5 (by omega) (byts 64 V))
    obtain ⟨w4, hw4⟩ : ∃ x, w3.setCells b5 0 (byts 64 V) = x := ⟨_, rfl⟩
    rw [hw4] at HF4 HR4 HM4 HK4 ⊢
    clear hS0 hk4 hw4 HF3 HR3 HK3
    have hS0 : Mb w4 p t fi n := HM4.out
    refine hKK _ _ hS0 ?_
    intro _
    clear hKK KK
    try simp only [Act.put, List.getElem_toArray, List.getElem_cons_zero, List.getElem_cons_succ, List.setIfInBounds_toArray, List.set_cons_zero, List.set_cons_succ]
    refine wpAnyH_take (i := 14) (v := ?_) rfl (by kernel_rfl) (by kernel_rfl) (by kernel_rfl) (fun _ _ _ h => h) (Or.inl ⟨by rfl, ?_⟩) hS0 ?_
    rotate_left 1
    · intro W hW
      go_simp
      try with_reducible rfl
    simp only [Act.put, List.getElem_toArray, List.getElem_cons_zero, List.getElem_cons_succ, List.setIfInBounds_toArray, List.set_cons_zero, List.set_cons_succ]
    refine wpAnyH_done (by kernel_rfl) ?_ _
    clear hS0
    have HR5 := Lib.hid (HR4.out)
    go_wp2_with fail
    go_ret
    exact ⟨rfl, HR4.out, HK4.out⟩
theorem free_out (p t m d g fi n K : Nat) (T : TS) (hf : fi ≤ 65536) (hn : n ≤ 65536) (hn0 : 0 < n) (hx : 40 ≤ fi) (hT : find T fi = none) (hK : K < 600000) (w : World) (hm : Mb w p t fi n) (hr : Rd w t m d g T K) (hp : p ∉ [t, m, d, g]) :
    Calls Try.prog 14 #[.pointer (some ⟨p, 0, none⟩)] w fun e w' => e = .returned (.tuple #[.int .i64 (-1), .int .i64 27]) ∧ Kf w w' [t, m, d, g] := by
  have hmf : ∀ (fn : Fn) (first cap : Array Value) (w : World), (Instr.makeFunc fn first cap).run Try.prog w = .ok (.func fn first cap) w := fun _ _ _ _ => rfl
  have HM := Lib.hid hm
  have HR := Lib.hid hr
  clear hm hr
  go_enter Try.func14, Try.ntmps14
  go_wp2_with fail
  obtain ⟨w1, hw1⟩ : ∃ x, w.alloc (Obj.cells #[Value.int IntKind.i64 (-1)] 3) = x := ⟨_, rfl⟩
  have hb1 : Below w.heap.size w w1 := by rw [← hw1]; exact (Below.refl _ _).alloc (Nat.le_refl _) _
  have hc1 : w1.cell? ⟨w.heap.size, 0, none⟩ = some (.int .i64 (-1)) := by rw [← hw1, World.cell?_alloc_at _ _ _ _ rfl]; rfl
  have hs1 : w.heap.size < w1.heap.size := by rw [← hw1]; simp
  have hlts := HR.out.lts
  rw [hw1]
  clear hw1
  refine (each_out p t m d g fi n K T _ hf hn hn0 hx hT hK w1 (HM.out.keep hb1) (HR.out.keep hb1) hp).mono ?_
  rintro e w2 ⟨rfl, hR2, hK2⟩
  have hc2 : w2.cell? ⟨w.heap.size, 0, none⟩ = some (.int .i64 (-1)) := (hK2.cell (p := ⟨w.heap.size, 0, none⟩) hs1 (by simp; omega)).trans hc1
  have HK2 := Lib.hid ((Kf.of_below hb1 [t, m, d, g]).trans hK2)
  obtain ⟨q, hq⟩ : ∃ q, w.heap.size = q := ⟨_, rfl⟩
  rw [hq] at hc2 ⊢
  clear hR2 hK2 hb1 hc1 hs1 HM HR hq hlts
  go_wp2_with fail
  refine bodyPost_ret (v := .tuple #[.int .i64 (-1), .int .i64 27]) (by simp [results, Try.results14, go_sem]) rfl ⟨rfl, HK2.out⟩
end Go.Proofs.Ytlpbhijfdeceoaa
