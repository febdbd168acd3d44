import Derived.Test.YtnfadmifdncjoaaGreatR2
import Derived.Test.YtnfadmifdncjoaaGreatBB
/- A group: its block, its short calls, Get, Put. -/
namespace Go.Proofs.YtnfadmifdncjoaaGreat
set_option linter.unusedSimpArgs false
set_option linter.unusedVariables false
open Go.RowKit Go.Maps

variable {ln : Lm}
/-- where a group lies, in natural numbers -/
structure GG (g : Cf.Ge) (B0 P0 M DA NB N : Nat) : Prop where
  base : g.base = B0
  tab : g.base + g.bm = P0
  bm0 : 0 ≤ g.bm
  da : g.da = DA
  bl : g.bl = NB
  nd : g.nd = M
  b32 : 32 ≤ B0
  bp : B0 + 1 ≤ P0
  pd : P0 + (M + 1) / 2 ≤ DA
  dn : DA + NB ≤ N
  n4 : 4 ≤ NB
  n512 : NB ≤ 512
  m4 : 4 ≤ M
  m128 : M ≤ 128
/-- a group's block: its transaction, its label, where it lies, its map of bits -/
def gpc (t : Nat) (lab : Int) (g : Cf.Ge) (p : Nat) : List Value := [.pointer (some ⟨t, 0, none⟩), .int .i64 lab, .int .i64 g.base, .int .i64 g.bm, .int .i64 g.tb, .int .i64 g.da, .int .i64 g.bl, .int .i64 g.nd, .pointer (some ⟨p, 0, none⟩)]
structure Gr (w : World) (q p t m d gg : Nat) (lab : Nat) (g : Cf.Ge) (B0 NB N : Nat) (ln : Lm) (Y : Nat → Nat → Int) (K : Nat) : Prop where
  gb : Vl w q (gpc t lab g p)
  mb : Mb w p t B0 NB
  rd : Rd w t m d gg N ln Y K
  nq : q ∉ [t, m, d, gg]
  np : p ∉ [t, m, d, gg]
theorem Gr.keep {w w' : World} {q p t m d gg lab B0 NB N K : Nat} {ln : Lm} {g : Cf.Ge} {Y : Nat → Nat → Int} (h : Gr w q p t m d gg lab g B0 NB N ln Y K) (hb : Below w.heap.size w w') : Gr w' q p t m d gg lab g B0 NB N ln Y K :=
  ⟨h.gb.keep hb, h.mb.keep hb, h.rd.keep hb, h.nq, h.np⟩
theorem Gr.mono {w : World} {q p t m d gg lab B0 NB N K K' : Nat} {ln ln' : Lm} {g : Cf.Ge} {Y : Nat → Nat → Int} (h : Gr w q p t m d gg lab g B0 NB N ln Y K) (hl : Lm.Le ln ln') (hk : K ≤ K') : Gr w q p t m d gg lab g B0 NB N ln' Y K' :=
  ⟨h.gb, h.mb, h.rd.mono2 hl hk, h.nq, h.np⟩
/-- behind a call on its transaction -/
theorem Gr.call {w w' : World} {q p t m d gg lab B0 NB N K K' : Nat} {ln ln' : Lm} {g : Cf.Ge} {Y Y' : Nat → Nat → Int} (h : Gr w q p t m d gg lab g B0 NB N ln Y K) (hR : Rd w' t m d gg N ln' Y' K') (hk : Kf w w' [t, m, d, gg]) : Gr w' q p t m d gg lab g B0 NB N ln' Y' K' :=
  ⟨h.gb.kf hk h.nq, h.mb.kf hk h.np, hR, h.nq, h.np⟩
theorem Gr.kp {w w' : World} {b q p t m d gg lab B0 NB N K : Nat} {ln : Lm} {g : Cf.Ge} {Y : Nat → Nat → Int} (h : Gr w q p t m d gg lab g B0 NB N ln Y K) (hk : Kp w w' b b) (hb : b ∉ [q, p, t, m, d, gg]) : Gr w' q p t m d gg lab g B0 NB N ln Y K := by
  simp only [List.mem_cons, List.not_mem_nil, or_false, not_or] at hb
  have hb4 : b ∉ [t, m, d, gg] := by simp; omega
  exact ⟨h.gb.kp hk (by omega) (by omega), h.mb.kp hk (by omega), h.rd.kp hk hb4 hb4, h.nq, h.np⟩
theorem Gr.lts {w : World} {q p t m d gg lab B0 NB N K : Nat} {ln : Lm} {g : Cf.Ge} {Y : Nat → Nat → Int} (h : Gr w q p t m d gg lab g B0 NB N ln Y K) : q < w.heap.size ∧ p < w.heap.size ∧ t < w.heap.size ∧ m < w.heap.size ∧ d < w.heap.size ∧ gg < w.heap.size :=
  ⟨h.gb.lt, h.mb.lt, h.rd.lts⟩
theorem Gr.notin {w : World} {b q p t m d gg lab B0 NB N K : Nat} {ln : Lm} {g : Cf.Ge} {Y : Nat → Nat → Int} (h : Gr w q p t m d gg lab g B0 NB N ln Y K) (hb : w.heap.size ≤ b) : b ∉ [q, p, t, m, d, gg] := by
  obtain ⟨h1, h2, h3, h4, h5, h6⟩ := h.lts
  simp
  omega
theorem nin6 {B q p t m d g b : Nat} (h0 : q < B) (h0' : p < B) (h1 : t < B) (h2 : m < B) (h3 : d < B) (h4 : g < B) (hb : B ≤ b) : b ∉ [q, p, t, m, d, g] := by
  simp
  omega

/-! ### short calls -/
theorem bit_any (n : Int) (h0 : 0 ≤ n) (h1 : n < 65536) (w : World) : Calls Tryz.prog 51 #[.int .u16 n] w fun e w' => e = .returned (.int .i64 (n - 1)) ∧ w' = w := by
  go_enter Tryz.func51, Tryz.ntmps51
  go_wp2
  go_ret
  exact ⟨rfl, rfl⟩
theorem reach_nil (x : Int) (w : World) : Calls Tryz.prog 49 #[.pointer none, .int .i64 x] w fun e w' => e = .returned (.int .i64 1) ∧ w' = w := by
  go_enter Tryz.func49, Tryz.ntmps49
  go_wp2
  go_ret
  exact ⟨rfl, rfl⟩
theorem reach_in (q : Nat) (NB : Int) (x : Int) (h0 : 1 ≤ x) (h1 : x ≤ NB) (w : World) (c6 : w.cell? ⟨q, 6, none⟩ = some (.int .i64 NB)) : Calls Tryz.prog 49 #[.pointer (some ⟨q, 0, none⟩), .int .i64 x] w fun e w' => e = .returned (.int .i64 0) ∧ w' = w := by
  go_enter Tryz.func49, Tryz.ntmps49
  go_wp2
  go_ret
  exact ⟨rfl, rfl⟩
theorem reach_out (q : Nat) (NB : Int) (x : Int) (h : ¬ (1 ≤ x ∧ x ≤ NB)) (w : World) (c6 : w.cell? ⟨q, 6, none⟩ = some (.int .i64 NB)) : Calls Tryz.prog 49 #[.pointer (some ⟨q, 0, none⟩), .int .i64 x] w fun e w' => e = .returned (.int .i64 27) ∧ w' = w := by
  by_cases h1 : x < 1
  · clear h
    go_enter Tryz.func49, Tryz.ntmps49
    go_wp2
    go_ret
    exact ⟨rfl, rfl⟩
  · have h2 : NB < x := by omega
    clear h
    go_enter Tryz.func49, Tryz.ntmps49
    go_wp2
    go_ret
    exact ⟨rfl, rfl⟩
theorem below_same {w : World} : Below w.heap.size w w := Below.refl _ _
set_option maxHeartbeats 20000000 in
set_option maxRecDepth 100000 in
theorem place7_any (q : Nat) (DA n : Int) (h0 : 0 ≤ n) (h1 : n < 65536) (d0 : 0 ≤ DA) (d1 : DA ≤ 65536) (w : World) (c5 : w.cell? ⟨q, 5, none⟩ = some (.int .i64 DA)) : Calls Tryz.prog 54 #[.pointer (some ⟨q, 0, none⟩), .int .u16 n] w fun e w' => e = .returned (.int .i64 (DA + (n - 1))) ∧ Below w.heap.size w w' := by
  go_enter Tryz.func54, Tryz.ntmps54
  go_wp2_with fail
  go_quiet ((go_at_call 51; exact Calls.quiet_of_same (bit_any _ (by omega) (by omega) _)))
  go_wp2_with fail
  go_ret
  exact ⟨rfl, ⟨rfl, rfl, rfl, Nat.le_refl _, fun _ _ => rfl⟩⟩
theorem lab_nil (w : World) : Calls Tryz.prog 65 #[.pointer none] w fun e w' => e = .returned (.int .i64 0) ∧ w' = w := by
  go_enter Tryz.func65, Tryz.ntmps65
  go_wp2
  go_ret
  exact ⟨rfl, rfl⟩
theorem lab_any (q : Nat) (lab : Int) (w : World) (c1 : w.cell? ⟨q, 1, none⟩ = some (.int .i64 lab)) : Calls Tryz.prog 65 #[.pointer (some ⟨q, 0, none⟩)] w fun e w' => e = .returned (.int .i64 lab) ∧ w' = w := by
  go_enter Tryz.func65, Tryz.ntmps65
  go_wp2
  go_ret
  exact ⟨rfl, rfl⟩
theorem gput_nil (n : Int) (h0 : 0 ≤ n) (h1 : n < 65536) (f : Nat → Int) (w : World) : Calls Tryz.prog 15 #[.pointer none, .int .u16 n, .agg (byts 64 f).toArray] w fun e w' => e = .returned (.int .i64 1) ∧ Below w.heap.size w w' := by
  go_enter Tryz.func15, Tryz.ntmps15
  go_wp2_with (first | (refine wpList_box_byts rfl 59 _ 64 rfl f rfl ?_; intro w1 F1 hb1 hz1; have HB1 := Lib.hid hb1; clear hb1 hz1 F1))
  refine (reach_nil _ _).mono ?_
  rintro e w' ⟨rfl, rfl⟩
  go_wp2_with fail
  go_ret
  exact ⟨rfl, HB1.out⟩
theorem gput_out (q p t m d gg lab B0 P0 M DA NB N K : Nat) (g : Cf.Ge) (Y : Nat → Nat → Int) (n : Nat) (h1 : n < 65536) (hn : ¬ (1 ≤ n ∧ n ≤ NB)) (f : Nat → Int) (hg : GG g B0 P0 M DA NB N) (w : World) (h : Gr w q p t m d gg lab g B0 NB N ln Y K) : Calls Tryz.prog 15 #[.pointer (some ⟨q, 0, none⟩), .int .u16 n, .agg (byts 64 f).toArray] w fun e w' => e = .returned (.int .i64 27) ∧ Below w.heap.size w w' := by
  have HV := Lib.hid h.gb
  obtain ⟨x, hx⟩ : ∃ x : Int, (n : Int) = x := ⟨_, rfl⟩
  have hx0 : 0 ≤ x := by omega
  have hx1 : x < 65536 := by omega
  have HX := Lib.hid (show ¬ (1 ≤ x ∧ x ≤ g.bl) by have := hg.bl; omega)
  rw [hx]
  clear h hx hn hg h1
  go_enter Tryz.func15, Tryz.ntmps15
  go_wp2_with (first | (refine wpList_box_byts rfl 59 _ 64 rfl f rfl ?_; intro w1 F1 hb1 hz1; have HB1 := Lib.hid hb1; have HV1 := Lib.hid (HV.out.keep hb1); clear hb1 hz1 F1))
  refine (reach_out q g.bl x HX.out w1 (HV1.out.c 6 _ rfl)).mono ?_
  rintro e w' ⟨rfl, rfl⟩
  go_wp2_with fail
  go_ret
  exact ⟨rfl, HB1.out⟩
set_option maxHeartbeats 20000000 in
set_option maxRecDepth 100000 in
theorem gput_in (q p t m d gg lab B0 P0 M DA NB N K : Nat) (g : Cf.Ge) (Y : Nat → Nat → Int) (n : Nat) (hn0 : 1 ≤ n) (hn : n ≤ NB) (f : Nat → Int) (hf : Byt f) (hT : Has ln (DA + (n - 1))) (hg : GG g B0 P0 M DA NB N) (w : World) (h : Gr w q p t m d gg lab g B0 NB N ln Y K) :
    Calls Tryz.prog 15 #[.pointer (some ⟨q, 0, none⟩), .int .u16 n, .agg (byts 64 f).toArray] w fun e w' => e = .returned (.int .i64 0) ∧ Gr w' q p t m d gg lab g B0 NB N ln (vput (DA + (n - 1)) f Y) K ∧ Kf w w' [t, m, d, gg] := by
  have hN := h.rd.hN
  have HPut := Lib.hid (fun W (hW : Rd W t m d gg N ln Y K) => put6 t m d gg K Y (DA + (n - 1)) f hf (by have := hg.b32; have := hg.bp; have := hg.pd; omega) (by have := hg.dn; omega) hT W hW)
  have hGr := h
  have HG := Lib.hid hGr
  have HR := Lib.hid (show 1 ≤ (n : Int) ∧ (n : Int) ≤ g.bl by have := hg.bl; omega)
  have HP : Hid (∀ W : World, W.cell? ⟨q, 5, none⟩ = some (.int .i64 g.da) → Calls Tryz.prog 54 #[.pointer (some ⟨q, 0, none⟩), .int .u16 n] W fun e w' => e = .returned (.int .i64 ((DA + (n - 1) : Nat) : Int)) ∧ Below W.heap.size W w') := fun W hc => by
    have hda := hg.da
    have h5 := hg.n512
    have hdn := hg.dn
    have := place7_any q g.da n (by omega) (by omega) (by omega) (by omega) W hc
    rwa [show g.da + ((n : Int) - 1) = ((DA + (n - 1) : Nat) : Int) by omega] at this
  obtain ⟨X, hX⟩ : ∃ X, DA + (n - 1) = X := ⟨_, rfl⟩
  rw [hX] at HPut HP ⊢
  have hx1 : (n : Int) < 65536 := by have := hg.n512; omega
  have lts := Lib.hid h.lts
  have hq0 := h.lts.1
  clear hX hN hf hT hn0 hn hGr h
  obtain ⟨x, hx⟩ : ∃ x : Int, (n : Int) = x := ⟨_, rfl⟩
  have hx0 : 0 ≤ x := by omega
  rw [hx] at HR HP hx1 ⊢
  clear hx hg
  go_enter Tryz.func15, Tryz.ntmps15
  go_upto_region 4 with (first | (refine wpList_box_byts rfl 59 _ 64 rfl f rfl ?_; intro w1 F1 hb1 hz1; have HB1 := Lib.hid hb1; have HG1 := Lib.hid (HG.out.keep hb1); clear hb1 hz1) | (go_at_call 49; refine (reach_in q g.bl x HR.out.1 HR.out.2 w1 (HG1.out.gb.c 6 _ rfl)).mono ?_; rintro e w' ⟨rfl, hww⟩; rw [hww]; clear hww))
  obtain ⟨b, hb⟩ : ∃ b, w.heap.size = b := ⟨_, rfl⟩
  have NB6 := Lib.hid (nin6 lts.out.1 lts.out.2.1 lts.out.2.2.1 lts.out.2.2.2.1 lts.out.2.2.2.2.1 lts.out.2.2.2.2.2 (Nat.le_of_eq hb))
  have HK1 := Lib.hid (Kf.of_below HB1.out [t, m, d, gg])
  rw [hb] at F1 hq0
  try rw [hb]
  clear hb lts HB1 HG
  refine wp_region_held (S := fun W => Vl W q (gpc t lab g p) ∧ Fl W b 64 f) (by kernel_rfl) ?_
  change wpAnyH _ _ _ _ _ _ _ _ (World.drew _)
  have hS0 : (fun W => Vl W q (gpc t lab g p) ∧ Fl W b 64 f) w1.drew := ⟨HG1.out.gb.keep (Below.refl _ _).drew, F1.out.below (Below.refl _ _).drew F1.out.lt⟩
  have HG2 := Lib.hid (HG1.out.keep (Below.refl w1.heap.size w1).drew)
  have HK2 := Lib.hid (HK1.out.trans (Kf.of_below (Below.refl w1.heap.size w1).drew _))
  obtain ⟨w2, hw2⟩ : ∃ x, World.drew w1 = x := ⟨_, rfl⟩
  rw [hw2] at hS0 HG2 HK2 ⊢
  clear hw2
  clear HG1 HK1 F1
  refine wpAnyH_take (i := 0) (v := ?_) rfl (by kernel_rfl) (by kernel_rfl) (by kernel_rfl) (fun _ _ _ h => h) (Or.inl ⟨by rfl, ?_⟩) hS0 ?_
  rotate_left 1
  · intro W hW
    go_simp
    try with_reducible rfl
  simp only [Act.put, List.getElem_toArray, List.getElem_cons_zero, List.getElem_cons_succ, List.setIfInBounds_toArray, List.set_cons_zero, List.set_cons_succ]
  refine wpAnyH_take (i := 1) (v := ?_) rfl (by kernel_rfl) (by kernel_rfl) (by kernel_rfl) (fun _ _ _ h => h) (Or.inl ⟨by rfl, ?_⟩) hS0 ?_
  rotate_left 1
  · intro W hW
    go_simp
    try with_reducible rfl
  simp only [Act.put, List.getElem_toArray, List.getElem_cons_zero, List.getElem_cons_succ, List.setIfInBounds_toArray, List.set_cons_zero, List.set_cons_succ]
  refine wpAnyH_take (i := 2) (v := ?_) rfl (by kernel_rfl) (by kernel_rfl) (by kernel_rfl) (fun _ _ _ h => h) (Or.inl ⟨by rfl, ?_⟩) hS0 ?_
  rotate_left 1
  · intro W hW
    go_simp
    try with_reducible rfl
  simp only [Act.put, List.getElem_toArray, List.getElem_cons_zero, List.getElem_cons_succ, List.setIfInBounds_toArray, List.set_cons_zero, List.set_cons_succ]
  refine wpAnyH_take (i := 3) (v := ?_) rfl (by kernel_rfl) (by kernel_rfl) (by kernel_rfl) (fun _ _ _ h => h) (Or.inl ⟨by rfl, ?_⟩) hS0 ?_
  rotate_left 1
  · intro W hW
    have c0 := hW.1.c 0 _ rfl
    go_simp
    try with_reducible rfl
  simp only [Act.put, List.getElem_toArray, List.getElem_cons_zero, List.getElem_cons_succ, List.setIfInBounds_toArray, List.set_cons_zero, List.set_cons_succ]
  refine wpAnyH_take (i := 4) (v := ?_) rfl (by kernel_rfl) (by kernel_rfl) (by kernel_rfl) (fun _ _ _ h => h) (Or.inl ⟨by rfl, ?_⟩) hS0 ?_
  rotate_left 1
  · intro W hW
    go_simp
    try with_reducible rfl
  simp only [Act.put, List.getElem_toArray, List.getElem_cons_zero, List.getElem_cons_succ, List.setIfInBounds_toArray, List.set_cons_zero, List.set_cons_succ]
  refine wpAnyH_take (i := 5) (v := ?_) rfl (by kernel_rfl) (by kernel_rfl) (by kernel_rfl) (fun _ _ _ h => h) (Or.inl ⟨by rfl, ?_⟩) hS0 ?_
  rotate_left 1
  · intro W hW
    go_simp
    try with_reducible rfl
  simp only [Act.put, List.getElem_toArray, List.getElem_cons_zero, List.getElem_cons_succ, List.setIfInBounds_toArray, List.set_cons_zero, List.set_cons_succ]
  refine wpAnyH_take (i := 7) (v := .agg (byts 64 f).toArray) rfl (by kernel_rfl) (by kernel_rfl) (by kernel_rfl) (fun _ _ _ h => h) ?_ hS0 ?_
  · exact yieldsIf_load_mid (by rfl) 59 _ rfl b 0 rfl (byts 64 f) (.array 64 5) (fun _ h => h.2.range0) Tryz.arr36 rfl (size36 _)
  simp only [Act.put, List.getElem_toArray, List.getElem_cons_zero, List.getElem_cons_succ, List.setIfInBounds_toArray, List.set_cons_zero, List.set_cons_succ]
  refine wpAnyH_ready (rs := [6]) (by kernel_rfl) (by simp) (AllReadyH.cons rfl (fun KK hKK => ?_) AllReadyH.nil)
  go_simp
  refine (HP.out w2 (hS0.1.c 5 _ rfl)).mono ?_
  rintro e w3 ⟨rfl, hb3⟩
  have HG3 := Lib.hid (HG2.out.keep hb3)
  have HK3 := Lib.hid (HK2.out.trans (Kf.of_below hb3 _))
  have hS1 : (fun W => Vl W q (gpc t lab g p) ∧ Fl W b 64 f) w3 := ⟨hS0.1.keep hb3, hS0.2.below hb3 hS0.2.lt⟩
  clear hb3 HG2 HK2 hS0
  have hS0 := hS1
  clear hS1
  refine hKK _ _ hS0 ?_
  intro _
  clear hKK KK
  try simp only [Act.put, List.getElem_toArray, List.getElem_cons_zero, List.getElem_cons_succ, List.setIfInBounds_toArray, List.set_cons_zero, List.set_cons_succ]
  refine wpAnyH_ready (rs := [8]) (by kernel_rfl) (by simp) (AllReadyH.cons rfl (fun KK hKK => ?_) AllReadyH.nil)
  go_simp
  refine (HPut.out w3 HG3.out.rd).mono ?_
  rintro e w4 ⟨rfl, hR4, hk4⟩
  have HG4 := Lib.hid (HG3.out.call hR4 hk4)
  have HK4 := Lib.hid (HK3.out.trans hk4)
  have nb4 : b ∉ [t, m, d, gg] := by have := NB6.out; simp at this ⊢; omega
  have hS1 : (fun W => Vl W q (gpc t lab g p) ∧ Fl W b 64 f) w4 := ⟨HG4.out.gb, hS0.2.kf hk4 nb4⟩
  clear hR4 hk4 HG3 HK3 hS0 nb4
  have hS0 := hS1
  clear hS1
  refine hKK _ _ hS0 ?_
  intro _
  clear hKK KK
  try simp only [Act.put, List.getElem_toArray, List.getElem_cons_zero, List.getElem_cons_succ, List.setIfInBounds_toArray, List.set_cons_zero, List.set_cons_succ]
  refine wpAnyH_take (i := 9) (v := ?_) rfl (by kernel_rfl) (by kernel_rfl) (by kernel_rfl) (fun _ _ _ h => h) (Or.inl ⟨by rfl, ?_⟩) hS0 ?_
  rotate_left 1
  · intro W hW
    go_simp
    try with_reducible rfl
  simp only [Act.put, List.getElem_toArray, List.getElem_cons_zero, List.getElem_cons_succ, List.setIfInBounds_toArray, List.set_cons_zero, List.set_cons_succ]
  refine wpAnyH_done (by kernel_rfl) ?_ _
  clear hS0
  go_wp2_with fail
  go_ret
  exact ⟨rfl, HG4.out, HK4.out⟩
end Go.Proofs.YtnfadmifdncjoaaGreat
