import Derived.Test.YtnfadmifdncjoaaGreatSH
import Derived.Test.YtnfadmifdncjoaaGreatL1
/- GroupPlays: the loop over the calls. -/
namespace Go.Proofs.YtnfadmifdncjoaaGreat
set_option linter.unusedSimpArgs false
set_option linter.unusedVariables false
open Go.RowKit Go.Maps

noncomputable def c_blk0 : Code := (cR (cL (cR (cR (cR (cR (cR (cR (cR (cR c_body))))))))))
structure AC where
  kind : Int
  n : Int
  b : Int
  raw : Bool
structure ActAt (w : World) (b o : Nat) (x : AC) : Prop where
  lt : b < w.heap.size
  c0 : w.cell? ⟨b, o, none⟩ = some (.int .u8 x.kind)
  c1 : w.cell? ⟨b, o + 1, none⟩ = some (.int .i64 x.n)
  c2 : w.cell? ⟨b, o + 2, none⟩ = some (.int .u8 x.b)
  c3 : w.cell? ⟨b, o + 3, none⟩ = some (.bool x.raw)
  k0 : 0 ≤ x.kind ∧ x.kind < 256
  k1 : -9223372036854775808 ≤ x.n ∧ x.n < 9223372036854775808
  k2 : 0 ≤ x.b ∧ x.b < 256
theorem ActAt.below {w w' : World} {B b o : Nat} {x : AC} (h : ActAt w b o x) (hb : Below B w w') (hB : b < B) : ActAt w' b o x :=
  ⟨Nat.lt_of_lt_of_le h.lt hb.size, (hb.cell (p := ⟨b, o, none⟩) hB).trans h.c0, (hb.cell (p := ⟨b, o + 1, none⟩) hB).trans h.c1, (hb.cell (p := ⟨b, o + 2, none⟩) hB).trans h.c2, (hb.cell (p := ⟨b, o + 3, none⟩) hB).trans h.c3, h.k0, h.k1, h.k2⟩
/-- a slice of calls -/
def Acts (w : World) (v : Value) (n : Nat) : Prop := ∃ p c, v = .slice p n c ∧ n ≤ maxLen ∧ ∀ i, i < n → ∃ b o x, p = some ⟨b, o, none⟩ ∧ ActAt w b (o + i * 4) x
def Lp (w6 : World) (dd gg mo tk yb nd B0 P0 M DA NB N L LM K : Nat) (wr : World) : Prop := (∃ t' m' Y T X V, Rd wr t' m' dd gg N ⟨[], Y⟩ Y K ∧ Rl B0 P0 M DA NB Y T X V ∧ Mo wr mo tk yb nd L LM T X V) ∧ Kf w6 wr [dd, gg]
theorem Lp.keep {w6 : World} {dd gg mo tk yb nd B0 P0 M DA NB N L LM K : Nat} {wr w' : World} (h : Lp w6 dd gg mo tk yb nd B0 P0 M DA NB N L LM K wr) (hb : Below wr.heap.size wr w') : Lp w6 dd gg mo tk yb nd B0 P0 M DA NB N L LM K w' := by
  obtain ⟨⟨t, m, Y, T, X, V, h1, h2, h3⟩, h4⟩ := h
  exact ⟨⟨t, m, Y, T, X, V, h1.keep hb, h2, h3.keep hb⟩, h4.more hb⟩
set_option maxHeartbeats 80000000 in
set_option maxRecDepth 200000 in
theorem acts_loop (F : (Nat → Value) → Act) (hFr : Frm 418 F) (f : Nat → Value) (w w6 wL : World) (dd gg mo tk yb nd bR i n l B0 P0 M DA NB N L LM kn ca : Nat) (pa : Option Addr) (g : Cf.Ge) (rc : List Value) (vr vm vg : Value) (R : List Cf.Rg) (MS : List (Int × Int))
    (hL : NB + 1 = L) (hN4 : 4 ≤ NB) (hL5 : NB ≤ 512) (hLM : M + 1 = LM) (hM8 : M ≤ 128) (hg : GG g B0 P0 M DA NB N) (hiR : i < R.length) (hgi : (Cf.layF R).1[i]'(by rw [Cf.lay_len]; exact hiR) = g)
    (hbx : ∀ W, Kf w6 W [dd, gg] → Below w.heap.size w W) (hcf : ∀ W, Kf w6 W [dd, gg] → Cf.CF n W vr vm vg R MS) (hlg : Lg w6 l dd 1) (hnl : l ∉ [dd, gg]) (hbR : Vl w6 bR rc) (hnR : bR ∉ [dd, gg]) (hr3 : rc[3]? = some (.int .i64 NB)) (hr4 : rc[4]? = some (.int .i64 M))
    (hmx : Mx mo tk yb nd) (s1 : w6.heap.size ≤ mo) (s2 : w6.heap.size ≤ tk) (s3 : w6.heap.size ≤ yb) (s4 : w6.heap.size ≤ nd) (hno : ∀ a ∈ [dd, gg], a ≠ mo ∧ a ≠ tk ∧ a ≠ yb ∧ a ≠ nd)
    (hkn : kn ≤ maxLen) (hac : ∀ k, k < kn → ∃ b o x, pa = some ⟨b, o, none⟩ ∧ ActAt w b (o + k * 4) x) (hst : Lp w6 dd gg mo tk yb nd B0 P0 M DA NB N L LM 1 wL)
    (h7 : f 7 = .pointer (some ⟨n + 3, 0, none⟩)) (h9 : f 9 = .pointer (some ⟨l, 0, none⟩)) (h11 : f 11 = .int .i64 i) (h12 : f 12 = .pointer (some ⟨bR, 0, none⟩)) (h14 : f 14 = .pointer (some ⟨mo, 0, none⟩)) (h82 : f 82 = .slice pa kn ca) (h83 : f 83 = .int .i64 kn) (h84 : f 84 = .int .i64 0)
    (Q : Exit → Act → World → Prop) (hQp : ∀ c a a' w, a'.defers = a.defers → Q (.panic c) a w → Q (.panic c) a' w)
    (hQ : ∀ f' w' k, k ≤ 81 → Keep [7, 9, 11, 14] f f' → Lp w6 dd gg mo tk yb nd B0 P0 M DA NB N L LM (1 + 1000 * k) w' → Q .normal (F f') w') : c_blk0.wp Tryz.prog Q (F f) wL := by
  have fa1 := hFr.get
  have fa2 := hFr.put
  have fa3 := hFr.fold
  have fa4 := updA_at
  have fa5 := hFr.defers
  have HFr := Lib.hid hFr
  clear hFr
  have HL := Lib.hid hL
  have HLM := Lib.hid hLM
  have Hg := Lib.hid hg
  have HBX := Lib.hid hbx
  have HCF := Lib.hid hcf
  have HLG := Lib.hid hlg
  have HNL := Lib.hid hnl
  have HBR := Lib.hid hbR
  have HNR := Lib.hid hnR
  have HR3 := Lib.hid hr3
  have HR4 := Lib.hid hr4
  have HMX := Lib.hid hmx
  have HNO := Lib.hid hno
  have HAC := Lib.hid hac
  have HST := Lib.hid hst
  have HQ := Lib.hid hQ
  have HQp := Lib.hid hQp
  have HGI := Lib.hid hgi
  have HS4 := Lib.hid (show w6.heap.size ≤ mo ∧ w6.heap.size ≤ tk ∧ w6.heap.size ≤ yb ∧ w6.heap.size ≤ nd from ⟨s1, s2, s3, s4⟩)
  have hkn' : (kn : Int) ≤ 9223372036854775807 := by unfold maxLen at hkn; omega
  clear hL hLM hg hbx hcf hlg hnl hbR hnR hr3 hr4 hmx hno hac hst hQ hQp hgi hkn s1 s2 s3 s4
  conv => arg 2; whnf
  refine wp_block ?_
  refine wp_loop (fun a wr => ∃ f' : Nat → Value, ∃ k : Nat, a = F f' ∧ k ≤ kn ∧ k ≤ 81 ∧ f' 84 = .int .i64 k ∧ Keep [7, 9, 11, 12, 14, 82, 83] f f' ∧ Lp w6 dd gg mo tk yb nd B0 P0 M DA NB N L LM (1 + 1000 * k) wr) (fun a _ => kn - (intOf (a.eval (.tmp 84))).toNat) ⟨f, 0, rfl, Nat.zero_le _, Nat.zero_le _, by rw [h84]; rfl, Keep.refl _ _, HST.out⟩ ?_
  rintro a wX ⟨f1, k, rfl, hk, hk81, g84, hkq, hLp⟩
  obtain ⟨K', hK1, hK2⟩ : ∃ K' : Act → World → Prop, (∀ a w1, K' a w1 → ((fun a wr => ∃ f' : Nat → Value, ∃ k : Nat, a = F f' ∧ k ≤ kn ∧ k ≤ 81 ∧ f' 84 = .int .i64 k ∧ Keep [7, 9, 11, 12, 14, 82, 83] f f' ∧ Lp w6 dd gg mo tk yb nd B0 P0 M DA NB N L LM (1 + 1000 * k) wr) a w1 ∧ (fun a (_ : World) => kn - (intOf (a.eval (.tmp 84))).toNat) a w1 < (fun a (_ : World) => kn - (intOf (a.eval (.tmp 84))).toNat) (F f1) wX)) ∧ (∀ a w1, ((fun a wr => ∃ f' : Nat → Value, ∃ k : Nat, a = F f' ∧ k ≤ kn ∧ k ≤ 81 ∧ f' 84 = .int .i64 k ∧ Keep [7, 9, 11, 12, 14, 82, 83] f f' ∧ Lp w6 dd gg mo tk yb nd B0 P0 M DA NB N L LM (1 + 1000 * k) wr) a w1 ∧ (fun a (_ : World) => kn - (intOf (a.eval (.tmp 84))).toNat) a w1 < (fun a (_ : World) => kn - (intOf (a.eval (.tmp 84))).toNat) (F f1) wX) → K' a w1) := ⟨_, fun _ _ h => h, fun _ _ h => h⟩
  refine Code.wp_mono (Q := Exit.then K' (Exit.inBlock 0 Q)) (fun e a w1 q => by cases e <;> first | exact hK1 _ _ q | exact q) ?_
  have HK2 := Lib.hid hK2
  clear hK1 hK2
  have g7 := (hkq 7 (by decide)).trans h7
  have g9 := (hkq 9 (by decide)).trans h9
  have g11 := (hkq 11 (by decide)).trans h11
  have g12 := (hkq 12 (by decide)).trans h12
  have g14 := (hkq 14 (by decide)).trans h14
  have g82 := (hkq 82 (by decide)).trans h82
  have g83 := (hkq 83 (by decide)).trans h83
  have HKQ := Lib.hid hkq
  have HLP := Lib.hid hLp
  clear h7 h9 h11 h12 h14 h82 h83 h84 hkq hLp
  by_cases hlt : k < kn
  · have hkk : (k : Int) < kn := by omega
    have hk0 : (0 : Int) ≤ k := by omega
    obtain ⟨ab, ao, x, hpa, hx⟩ := HAC.out k hlt
    subst hpa
    have hx' := hx.below (HBX.out wX HLP.out.2) hx.lt
    have e0 := hx'.c0
    have e1 := hx'.c1
    have e2 := hx'.c2
    have e3 := hx'.c3
    have HX0 := Lib.hid hx.k0
    have HX1 := Lib.hid hx.k1
    have HX2 := Lib.hid hx.k2
    obtain ⟨kind, xn, xb, raw⟩ := x
    simp only at e0 e1 e2 e3 HX0 HX1 HX2
    have HKL := Lib.hid hlt
    have HK81 := Lib.hid hk81
    clear hx hx' hlt hk hk81
    by_cases h80 : 80 < k
    · have h80' : (80 : Int) < k := by omega
      (go_wp2_with fail); repeat ((first | (refine HFr.out.cond_t (by decide) (updA_same _ _ _) ?_) | (refine HFr.out.cond_f (by decide) (updA_same _ _ _) ?_)); (go_wp2_with fail))
      refine HQ.out _ _ k HK81.out ?_ (HLP.out.keep ((Below.refl _ _).alloc (Nat.le_refl _) _))
      have hkz := HKQ.out.less (S' := [7, 9, 11, 14]) (by decide)
      repeat' first | exact hkz | refine Keep.upd ?_ _ _ (by decide)
    · have h80' : ¬ ((80 : Int) < k) := by omega
      have hk80 : k ≤ 80 := by omega
      have hd80 : decide ((80 : Int) < k) = false := decide_eq_false h80'
      (go_upto_region 13 with fail); repeat ((first | (refine HFr.out.cond_t (by decide) (updA_same _ _ _) ?_) | (refine HFr.out.cond_f (by decide) (updA_same _ _ _) ?_)); (go_upto_region 13 with fail))
      clear e0 e1 e2 e3 h80' hd80
      have HA0 := Lib.hid (Vl.new wX [.int .u8 kind, .int .i64 xn, .int .u8 xb, .bool raw] 51)
      have hbA : Below wX.heap.size wX (wX.alloc (.cells #[.int .u8 kind, .int .i64 xn, .int .u8 xb, .bool raw] 51)) := (Below.refl _ _).alloc (Nat.le_refl _) _
      have hqa : wX.heap.size < (wX.alloc (.cells #[.int .u8 kind, .int .i64 xn, .int .u8 xb, .bool raw] 51)).heap.size := by simp
      change Hid (Vl (wX.alloc (.cells #[.int .u8 kind, .int .i64 xn, .int .u8 xb, .bool raw] 51)) _ _) at HA0
      obtain ⟨wa, hwa⟩ : ∃ z, (wX.alloc (.cells #[.int .u8 kind, .int .i64 xn, .int .u8 xb, .bool raw] 51)) = z := ⟨_, rfl⟩
      rw [hwa] at HA0 hbA hqa
      try rw [hwa]
      clear hwa
      obtain ⟨⟨t0, m0, Y, T, X, V, hRd, hRl, hMo⟩, hkf⟩ := HLP.out
      have hsz := hkf.size
      have hRlt := hRd.lts
      have hMlt := hMo.lts
      have HRl := Lib.hid hRl
      have HMa := Lib.hid (hMo.keep hbA)
      have HKa := Lib.hid (hkf.more hbA)
      have HRa := Lib.hid (hRd.keep hbA)
      have HLa := Lib.hid ((HLG.out.kf hkf HNL.out).keep hbA)
      have haS := hbA.size
      obtain ⟨qa, hqe⟩ : ∃ z, wX.heap.size = z := ⟨_, rfl⟩
      rw [hqe] at HA0 hqa hsz hRlt hMlt haS
      try rw [hqe]
      clear hRd hRl hMo hkf hbA hqe
      go_wp2_with fail
      refine (begin7 l t0 m0 dd gg (1 + 1000 * k) Y wa HRa.out HLa.out).mono ?_
      rintro e v1 ⟨t', m', rfl, ht', hm', hRd', hb⟩
      have HR1 := Lib.hid hRd'
      have HM1 := Lib.hid (HMa.out.keep hb)
      have HK1 := Lib.hid (HKa.out.more hb)
      have HA1 : Hid (Vl v1 qa [.int .u8 kind, .int .i64 xn, .int .u8 xb, .bool raw]) := Lib.hid (HA0.out.keep hb)
      have hbs := hb.size
      clear hRd' hb HRa HMa HKa HLa HA0
      go_wp2_with fail
      refine (gopen_in t' m' dd gg n B0 P0 M DA NB N (1 + 1000 * k) Y vr vm vg R MS i hiR g HGI.out Hg.out v1 (HCF.out v1 HK1.out) HR1.out).mono ?_
      rintro e v2 ⟨q, p, rfl, hq, hp, hGr, hb⟩
      have HG2 := Lib.hid hGr
      have HM2 := Lib.hid (HM1.out.keep hb)
      have HK2w := Lib.hid (HK1.out.more hb)
      have HA2 := Lib.hid (HA1.out.keep hb)
      have HB2 := Lib.hid (HBR.out.kf HK2w.out HNR.out)
      have hb2s := hb.size
      have HN2 := Lib.hid (HG2.out.notin (Nat.le_refl _))
      clear hGr hb HR1 HM1 HK1 HA1
      obtain ⟨s1, s2, s3, s4⟩ := HS4.out
      have HCX : Hid (Cx w6 q p t' m' dd gg mo tk yb nd qa v2.heap.size) := Lib.hid {
        mx := HMX.out, s1 := s1, s2 := s2, s3 := s3, s4 := s4, s5 := by omega, s6 := by omega
        ne := fun a ha => by
          simp only [List.mem_cons, List.not_mem_nil, or_false] at ha
          rcases ha with rfl | rfl | rfl | rfl
          · omega
          · omega
          · exact HNO.out _ (by simp)
          · exact HNO.out _ (by simp)
        nq := fun a ha => by
          have hd1 := HNO.out dd (by simp)
          have hd2 := HNO.out gg (by simp)
          simp only [List.mem_cons, List.not_mem_nil, or_false] at ha
          rcases ha with rfl | rfl | rfl | rfl | rfl | rfl
          · simp only [List.mem_cons, List.not_mem_nil, or_false, not_or]; omega
          · simp only [List.mem_cons, List.not_mem_nil, or_false, not_or]; omega
          · simp only [List.mem_cons, List.not_mem_nil, or_false, not_or]; omega
          · simp only [List.mem_cons, List.not_mem_nil, or_false, not_or]; omega
          · simp only [List.mem_cons, List.not_mem_nil, or_false, not_or]; omega
          · exact HN2.out }
      have h6 : w6.heap.size ≤ v2.heap.size := by omega
      clear hRlt hMlt hqa hsz haS ht' hm' hbs hq hp hb2s s1 s2 s3 s4
      go_upto_region 15 with fail
      rename_i KZ hKZ
      have HKZ2 := Lib.hid hKZ
      clear hKZ
      have a1 := HA2.out.c 1 _ rfl
      go_wp2_with fail
      clear a1
      refine HKZ2.out _ _ ?_
      refine round_a F HFr.out _ w6 v2 q p t' m' dd gg mo tk yb nd qa bR i B0 P0 M DA NB N L LM (1 + 1000 * k) g Y X V T kind xn xb raw rc HL.out hN4 hL5 HLM.out hM8 (by omega) Hg.out HCX.out HG2.out HRl.out HM2.out HK2w.out HA2.out HX0.out HX1.out HX2.out HB2.out HR3.out HR4.out h6 (by simp [updA_at, g12]) (by simp [updA_at, g14]) (by simp [updA_at]) (by simp [updA_at]) (by simp [updA_at]) (by simp [updA_at]) _ (fun c a a' w h q => HQp.out c a a' w h q) ?_
      rintro f3 w9 hk9 ⟨Y1, T1, X1, V1, hR9, hRl9, hM9⟩ hkf9
      have HLP9 : Hid (Lp w6 dd gg mo tk yb nd B0 P0 M DA NB N L LM (1 + 1000 * (k + 1)) w9) := Lib.hid ⟨⟨t', m', Y1, T1, X1, V1, hR9.mono (by omega), hRl9, hM9⟩, hkf9⟩
      have j84 : f3 84 = .int .i64 k := (hk9 84 (by decide)).trans (by simp [updA_at, g84])
      have hkz : Keep [7, 9, 11, 12, 14, 82, 83] f f3 := by
        refine Keep.trans ?_ (hk9.less (by decide))
        have hkz := HKQ.out
        repeat' first | exact hkz | refine Keep.upd ?_ _ _ (by decide)
      have HKZ := Lib.hid hkz
      clear hR9 hRl9 hM9 hkf9 hk9 hkz HCX HG2 HRl HM2 HK2w HA2 HB2 HN2
      go_wp2_with fail
      refine HK2.out _ _ ⟨⟨_, k + 1, rfl, HKL.out, by omega, ?_, ?_, HLP9.out⟩, ?_⟩
      · simp only [updA_at, Nat.reduceEqDiff, reduceIte]
        first | rfl | (congr 1; omega) | (simp; done)
      · have hkz := HKZ.out
        repeat' first | exact hkz | refine Keep.upd ?_ _ _ (by decide)
      · have h1 := HKL.out
        simp only [HFr.out.eval _ _ (show (84 : Nat) < 418 by decide), updA_at, Nat.reduceEqDiff, reduceIte, g84, intOf]
        omega
  · have hkk : ¬ ((k : Int) < kn) := by omega
    (go_wp2_with fail); repeat ((first | (refine HFr.out.cond_t (by decide) (updA_same _ _ _) ?_) | (refine HFr.out.cond_f (by decide) (updA_same _ _ _) ?_)); (go_wp2_with fail))
    refine HQ.out _ _ k hk81 ?_ HLP.out
    have hkz := HKQ.out.less (S' := [7, 9, 11, 14]) (by decide)
    repeat' first | exact hkz | refine Keep.upd ?_ _ _ (by decide)
end Go.Proofs.YtnfadmifdncjoaaGreat
