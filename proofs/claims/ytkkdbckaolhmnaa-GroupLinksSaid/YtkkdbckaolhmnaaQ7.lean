import Derived.Test.YtkkdbckaolhmnaaQ6
import Derived.Deep.CutBlock
import Derived.Deep.DeepCutAuto
/- A group: MakeLink; Fresh: a disk whose groups have their own nodes. -/
namespace Go.Proofs.Ytkkdbckaolhmnaa
set_option linter.unusedSimpArgs false
set_option linter.unusedVariables false
open Go.RowKit Go.Maps

variable {ln : Nat}
/-- a symbolic link of a length, whose bytes lie in a block -/
def lnk (s b : Int) : Nat → Int := fun i => if i = 0 then 4 else if i = 1 then 1 else if i = 3 then s else if i = 4 then b else 0
theorem Try.build27_lnk (s : Int) (w : World) : (Instr.build 64 #[(0, .int .u8 4), (1, .int .u8 1), (3, .int .u32 s)]).run Try.prog w = .ok (.agg (ndc (lnk s 0)).toArray) w := by kernel_rfl
theorem lnk_set (s b : Int) : (ndc (lnk s 0)).set 4 (.int .u16 b) = ndc (lnk s b) := rfl
theorem lnk_ok (s b : Int) (s0 : 0 ≤ s) (s1 : s ≤ 60) (b0 : 0 ≤ b) (b1 : b < 65536) : NdOk (lnk s b) := by
  refine ⟨(by show (0 : Int) ≤ 4 ∧ (4 : Int) < 256; decide), (by show (0 : Int) ≤ 1 ∧ (1 : Int) < 256; decide), (by show (0 : Int) ≤ 0 ∧ (0 : Int) < 65536; decide), ⟨s0, (by show s < 4294967296; omega)⟩, fun i h2 h3 => ?_⟩
  unfold lnk
  rw [if_neg (by omega), if_neg (by omega), if_neg (by omega)]
  split
  · exact ⟨b0, b1⟩
  · exact ⟨Int.le_refl _, by decide⟩
theorem lnk_mbl (s b : Int) (s0 : 1 ≤ s) (s1 : s ≤ 60) : mbl (lnk s b 0) (lnk s b 3) = true := by
  show mbl 4 s = true
  unfold mbl
  rw [if_neg (by decide), if_neg (by decide), if_neg (by decide)]
  simp
  omega
theorem wpList_bld3 {P : Program} {ops : Array Oper} {rest : List Oper} {op : Oper} {a : Act} {w : World} {Q : Exit → Act → World → Prop} (hgd : op.guard = none) (ty : TypeId) (i0 i1 i2 : Nat) (x0 x1 x2 : Operand) (ho : op.op = .build ty #[(i0, x0), (i1, x1), (i2, x2)]) (v0 v1 v2 : Value) (h0 : a.eval x0 = v0) (h1 : a.eval x1 = v1) (h2 : a.eval x2 = v2) (v : Value)
    (hr : (Instr.build ty #[(i0, v0), (i1, v1), (i2, v2)]).run P w = .ok v w) (h : wpList P ops Q rest (a.put op.dst v) w) : wpList P ops Q (op :: rest) a w := by
  refine wpList_plain hgd fun K' hK' => ?_
  unfold Oper.wp
  simp [execOp, ho, h0, h1, h2, hr, Result.andThen]
  exact hK' _ _ h
theorem glink_size (q : Nat) (s b : Int) (hs : s < 1 ∨ 60 < s) (w : World) : Calls Try.prog 19 #[.pointer (some ⟨q, 0, none⟩), .int .i64 s, .int .i64 b] w fun e w' => e = .returned (.tuple #[.int .i64 0, .int .i64 27]) ∧ w' = w := by
  by_cases h1 : s < 1
  · clear hs
    go_enter Try.func19, Try.ntmps19
    go_wp2
    exact bodyPost_ret (v := .tuple #[.int .i64 0, .int .i64 27]) (by simp [results, Try.results19, go_sem]) rfl ⟨rfl, rfl⟩
  · have h2 : 60 < s := by omega
    clear hs
    go_enter Try.func19, Try.ntmps19
    go_wp2
    exact bodyPost_ret (v := .tuple #[.int .i64 0, .int .i64 27]) (by simp [results, Try.results19, go_sem]) rfl ⟨rfl, rfl⟩
theorem glink_block (q t p : Nat) (lab : Int) (g : Cf.Ge) (s b : Int) (s0 : 1 ≤ s) (s1 : s ≤ 60) (hb : ¬ (1 ≤ b ∧ b ≤ g.bl)) (w : World) (hV : Vl w q (gpc t lab g p)) : Calls Try.prog 19 #[.pointer (some ⟨q, 0, none⟩), .int .i64 s, .int .i64 b] w fun e w' => e = .returned (.tuple #[.int .i64 0, .int .i64 27]) ∧ w' = w := by
  have HRe := Lib.hid (reach_out q g.bl b hb w (hV.c 6 _ rfl))
  clear hb hV
  go_enter Try.func19, Try.ntmps19
  go_wp2_with fail
  refine HRe.out.mono ?_
  rintro e w' ⟨rfl, hww⟩
  rw [hww]
  clear hww
  go_wp2_with fail
  exact bodyPost_ret (v := .tuple #[.int .i64 0, .int .i64 27]) (by simp [results, Try.results19, go_sem]) rfl ⟨rfl, rfl⟩
set_option maxHeartbeats 20000000 in
set_option maxRecDepth 100000 in
theorem glink_in (q p t m d gg lab B0 P0 M DA NB N K : Nat) (g : Cf.Ge) (Y : Nat → Nat → Int) (V : Nat → Nat → Int) (s b : Int) (s0 : 1 ≤ s) (s1 : s ≤ 60) (b0 : 1 ≤ b) (b1 : b ≤ NB) (n0 : Nat) (k1 : 1 ≤ n0) (k2 : n0 ≤ M) (hz : V n0 0 = 0) (hnz : ∀ j, 1 ≤ j → j < n0 → V j 0 ≠ 0) (x : Int) (hx : IntKind.u16.wrap (V n0 2 + 1) = x) (x0 : 0 ≤ x) (x1 : x < 65536) (hT : ln < 30) (hK : K < 500000) (hI : Tab P0 M Y V) (hg : GG g B0 P0 M DA NB N) (w : World) (h : Gr w q p t m d gg lab g B0 NB N ln Y K) :
    Calls Try.prog 19 #[.pointer (some ⟨q, 0, none⟩), .int .i64 s, .int .i64 b] w fun e w' => e = .returned (.tuple #[.int .i64 n0, .int .i64 0]) ∧ Gr w' q p t m d gg lab g B0 NB N (ln + 1) (tabW P0 n0 (setG (lnk s b) x) Y) (K + 200) ∧ Kf w w' [t, m, d, gg] := by
  obtain ⟨d27, hu27, hd27⟩ := Try.desc27
  have HU27 := Lib.hid hu27
  have HD27 := Lib.hid hd27
  have h5 := hg.n512
  have HRe := Lib.hid (reach_in q g.bl b b0 (by have := hg.bl; omega) w (h.gb.c 6 _ rfl))
  have HAd := Lib.hid (fun W hW => gadd_in (ln := ln) q p t m d gg lab B0 P0 M DA NB N K g Y V (lnk s b) (lnk_ok s b (by omega) s1 (by omega) (by omega)) n0 k1 k2 hz hnz x hx x0 x1 (show (0 : Int) < 1 by decide) (lnk_mbl s b s0 s1) hT hK hI hg W hW)
  obtain ⟨Z, hZ⟩ : ∃ Z, tabW P0 n0 (setG (lnk s b) x) Y = Z := ⟨_, rfl⟩
  rw [hZ] at HAd ⊢
  have HG := Lib.hid h
  have hb5 : b ≤ 512 := by omega
  clear hu27 hd27 hz hnz hx hI hg h hZ b1 x0 x1
  go_enter Try.func19, Try.ntmps19
  go_wp2_with fail
  refine HRe.out.mono ?_
  rintro e w' ⟨rfl, hww⟩
  rw [hww]
  clear hww HRe
  go_upto_region 9 with (first | (refine wpList_bld3 rfl 64 0 1 3 _ _ (.tmp 25) rfl (.int .u8 4) (.int .u8 1) (.int .u32 s) rfl rfl rfl (.agg (ndc (lnk s 0)).toArray) (Try.build27_lnk s _) ?_) | (refine wpList_alloc_list (w := w) rfl 64 rfl (ndc zpt) Try.zero27 ?_; intro u2 G2 hb2 hz2; simp only [Act.put, List.getElem_toArray, List.getElem_cons_zero, List.getElem_cons_succ, List.setIfInBounds_toArray, List.set_cons_zero, List.set_cons_succ]; refine wpList_store_list rfl 64 (.tmp 9) (.tmp 26) rfl w.heap.size (ndc zpt) (ndc (lnk s 0)) rfl rfl G2.out rfl (size27 _) (ndc_one _) ?_; intro u3 F3 HP3; have HQ2 := Lib.hid hb2; clear hb2 hz2 G2))
  obtain ⟨c, hc⟩ : ∃ c, w.heap.size = c := ⟨_, rfl⟩
  have hcw := Lib.hid (Nat.le_of_eq hc)
  have HNc := Lib.hid (HG.out.notin (Nat.le_of_eq hc))
  have HK3 := Lib.hid ((Kf.of_below HQ2.out [t, m, d, gg]).new HP3.out (Nat.le_refl _))
  have HG3 := Lib.hid ((HG.out.keep HQ2.out).kp HP3.out (HG.out.notin (Nat.le_refl _)))
  rw [hc] at F3
  try rw [hc]
  clear hc HQ2 HP3 HG
  have e4 := F3.out.c 4 _ rfl
  have z4 := F3.out.z 4 (show 4 < 12 by decide)
  go_upto_region 10 with fail
  have hkx : Kp u3 (u3.setCell ⟨c, 4, none⟩ (.int .u16 b)) c c := (Kp.refl u3 c c).setCell (p := ⟨c, 4, none⟩) (.inl rfl) _
  have HG4 := Lib.hid (HG3.out.kp hkx HNc.out)
  have HK4 := Lib.hid (HK3.out.new hkx hcw.out)
  have F4 := Lib.hid (F3.out.set 4 (show 4 < 12 by decide) (.int .u16 b))
  obtain ⟨u4, hu4⟩ : ∃ z, u3.setCell ⟨c, 4, none⟩ (.int .u16 b) = z := ⟨_, rfl⟩
  rw [hu4] at HG4 HK4 F4 ⊢
  rw [lnk_set] at F4
  clear hu4 hkx HG3 HK3 F3 e4 z4
  go_wp2_with (first | (refine wpList_load_mid rfl 64 (.tmp 9) rfl c 0 rfl (ndc (lnk s b)) d27 F4.out.range0 HU27.out HD27.out (size27 _) ?_))
  refine (HAd.out u4 HG4.out).mono ?_
  rintro e u5 ⟨rfl, hG, hk⟩
  have HG5 := Lib.hid hG
  have HK5 := Lib.hid (HK4.out.trans hk)
  clear hG hk HAd HG4 HK4
  go_wp2_with fail
  exact bodyPost_ret (v := .tuple #[.int .i64 n0, .int .i64 0]) (by simp [results, Try.results19, go_sem]) rfl ⟨rfl, HG5.out, HK5.out⟩
/-! ### Fresh -/
/-- a group's own nodes: a directory, two files -/
def own (k : Int) : Nat → Int := fun i => if i = 0 then k else if i = 1 then 1 else if i = 2 then 1 else 0
def kd (n : Nat) : Int := if n = 1 then 2 else 1
def VF (j : Nat) : Nat → Nat → Int := fun n => if 1 ≤ n ∧ n ≤ j then own (kd n) else zpt
theorem kd_in (n : Nat) : kd n = 1 ∨ kd n = 2 := by unfold kd; split <;> simp
theorem own_ok (n : Nat) : NdOk (own (kd n)) := by
  rcases kd_in n with h | h <;> rw [h] <;> exact ⟨by decide, by decide, by decide, by decide, fun i h2 h3 => by unfold own; rw [if_neg (by omega), if_neg (by omega), if_neg (by omega)]; exact ⟨Int.le_refl _, by decide⟩⟩
theorem own_code (n : Nat) : codeN (own (kd n)) = 0 := by
  rcases kd_in n with h | h <;> rw [h] <;> decide
theorem VF_zero : VF 0 = fun _ => zpt := by
  funext n
  unfold VF
  rw [if_neg (by omega)]
theorem VF_put (j : Nat) : vput (j + 1) (own (kd (j + 1))) (VF j) = VF (j + 1) := by
  funext n
  unfold vput VF
  by_cases c : j + 1 = n
  · subst c
    rw [if_pos rfl, if_pos ⟨by omega, by omega⟩]
  · rw [if_neg c]
    by_cases c2 : 1 ≤ n ∧ n ≤ j
    · rw [if_pos c2, if_pos ⟨c2.1, by omega⟩]
    · rw [if_neg c2, if_neg (by omega)]
theorem Try.build27_own (k : Int) (w : World) : (Instr.build 64 #[(0, .int .u8 k), (1, .int .u8 1), (2, .int .u16 1)]).run Try.prog w = .ok (.agg (ndc (own k)).toArray) w := by kernel_rfl
/-- a group is fresh: its three nodes, no block taken -/
def FreshG (g : Cf.Ge) (N : Nat) (Y : Nat → Nat → Int) : Prop := ∀ B0 P0 M DA NB : Nat, GG g B0 P0 M DA NB N → Tab P0 M Y (VF 3) ∧ ∀ j, j < 512 → bt Y B0 j = false
/-- the first k groups are fresh, from the next one on all is nought -/
structure FreshK (R : List Cf.Rg) (N k : Nat) (Y : Nat → Nat → Int) : Prop where
  done : ∀ (i : Nat) (hi : i < R.length), i < k → FreshG ((Cf.layF R).1[i]'(by rw [Cf.lay_len]; exact hi)) N Y
  rest : ∀ x : Nat, (Cf.layF (R.take k)).2 ≤ x → Y x = fun _ => 0
theorem FreshK.zero (R : List Cf.Rg) (N : Nat) : FreshK R N 0 (fun _ _ => 0) := ⟨fun i hi h => absurd h (by omega), fun _ _ => rfl⟩
/-- writing its nodes makes the next group fresh -/
theorem FreshK.next {R : List Cf.Rg} {N k : Nat} {Y Y' : Nat → Nat → Int} (h : FreshK R N k Y) (hs : ∀ r ∈ R, Cf.Small r) (h64 : R.length ≤ 64) (hN : (Cf.layF R).2 = N) (hk : k < R.length) (B0 P0 M DA NB : Nat)
    (hg : GG ((Cf.layF R).1[k]'(by rw [Cf.lay_len]; exact hk)) B0 P0 M DA NB N) (hT : Tab P0 M Y' (VF 3)) (hY : ∀ x : Nat, x < P0 ∨ P0 + 2 ≤ x → Y' x = Y x) : FreshK R N (k + 1) Y' := by
  have h1 := Cf.lay_nth R k hk
  have h2 := Cf.lay_fin R k hk
  obtain ⟨g, hgk⟩ : ∃ g, (Cf.layF R).1[k]'(by rw [Cf.lay_len]; exact hk) = g := ⟨_, rfl⟩
  rw [hgk] at h1 h2 hg
  have hb : (Cf.layF (R.take k)).2 = B0 := by
    rw [← hg.base, h1]
    rfl
  have hf : (Cf.layF (R.take (k + 1))).2 = ((DA + NB : Nat) : Int) := by
    rw [← h2]
    have := hg.da
    have := hg.bl
    unfold Cf.Ge.fin
    omega
  have hbp := hg.bp
  have hpd := hg.pd
  have hm4 := hg.m4
  refine ⟨fun i hi hik => ?_, fun x hx => ?_⟩
  · by_cases e : i = k
    · subst e
      rw [hgk]
      intro B1 P1 M1 DA1 NB1 hg1
      have e1 : B1 = B0 := by have := hg.base; have := hg1.base; omega
      have e2 : P1 = P0 := by have := hg.tab; have := hg1.tab; omega
      have e3 : M1 = M := by have := hg.nd; have := hg1.nd; omega
      subst e1 e2 e3
      refine ⟨hT, fun j hj => ?_⟩
      unfold bt
      rw [hY _ (by omega), h.rest _ (by rw [hb]; omega)]
      exact bitOf_zero _
    · intro B1 P1 M1 DA1 NB1 hg1
      have hlt : i < k := by omega
      obtain ⟨g1, g2⟩ := h.done i hi hlt B1 P1 M1 DA1 NB1 hg1
      have q1 := Cf.lay_fin R i hi
      have q2 := layF_le R hs (i + 1) k (by omega) (by omega)
      have q3 : ((Cf.layF R).1[i]'(by rw [Cf.lay_len]; exact hi)).fin = ((DA1 + NB1 : Nat) : Int) := by
        have := hg1.da
        have := hg1.bl
        unfold Cf.Ge.fin
        omega
      have q4 : DA1 + NB1 ≤ B0 := by rw [← q1, q3, hb] at q2; omega
      have p1 := hg1.bp
      have p2 := hg1.pd
      have p4 := hg1.n4
      refine ⟨g1.congr fun x hx1 hx2 => hY x (by omega), fun j hj => ?_⟩
      have := g2 j hj
      unfold bt at this ⊢
      rwa [hY _ (by omega)]
  · rw [hf] at hx
    rw [hY x (by omega), h.rest x (by rw [hb]; omega)]
end Go.Proofs.Ytkkdbckaolhmnaa
