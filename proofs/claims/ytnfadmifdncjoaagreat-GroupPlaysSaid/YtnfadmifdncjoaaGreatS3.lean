import Derived.Test.YtnfadmifdncjoaaGreatS2
import Derived.Test.YtnfadmifdncjoaaGreatQ4
/- A group: Ino. -/
namespace Go.Proofs.YtnfadmifdncjoaaGreat
set_option linter.unusedSimpArgs false
set_option linter.unusedVariables false
open Go.RowKit Go.Maps

variable {ln : Lm}
set_option maxHeartbeats 20000000 in
set_option maxRecDepth 100000 in
theorem gino_free (q p t m d gg lab B0 P0 M DA NB N K : Nat) (g : Cf.Ge) (Y : Nat → Nat → Int) (V : Nat → Nat → Int) (n : Nat) (h1 : 1 ≤ n) (h2 : n ≤ M) (hz : V n 0 = 0) (hK : K < 500000000) (hI : Tab P0 M Y V) (hg : GG g B0 P0 M DA NB N) (w : World) (h : Gr w q p t m d gg lab g B0 NB N ln Y K) :
    Calls Tryz.prog 64 #[.pointer (some ⟨q, 0, none⟩), .int .i64 n] w fun e w' => e = .returned (.tuple #[.agg (inc 0 0 0).toArray, .int .i64 3]) ∧ Gr w' q p t m d gg lab g B0 NB N ln Y (K + 1) ∧ Kf w w' [t, m, d, gg] := by
  obtain ⟨dI, huI, hdI⟩ := Tryz.descIno
  have HUI := Lib.hid huI
  have HDI := Lib.hid hdI
  have HN := Lib.hid (fun W hW => gnode_in (ln := ln) q p t m d gg lab B0 P0 M DA NB N K g Y V n h1 h2 (by omega) hI hg W hW)
  obtain ⟨f, hf⟩ : ∃ f, V n = f := ⟨_, rfl⟩
  rw [hf] at HN hz
  try rw [hf]
  have lts := Lib.hid h.lts
  have NB0 := Lib.hid (h.notin (Nat.le_refl _))
  have HG := Lib.hid h
  clear hf hI h hg hK huI hdI
  go_enter Tryz.func64, Tryz.ntmps64
  go_wp2_with (first | (refine wpList_alloc_list (w := w) rfl 157 rfl (inc 0 0 0) Tryz.zeroIno ?_; intro w1 F1 hb1 hz1; have HK1 := Lib.hid (Kf.of_below hb1 [t, m, d, gg]); have HG1 := Lib.hid (HG.out.keep hb1); have hlt1 := hb1.size; clear hb1))
  refine (HN.out w1 HG1.out).mono ?_
  rintro e w2 ⟨rfl, hG, hk⟩
  have HG2 := Lib.hid hG
  have HK2 := Lib.hid (HK1.out.trans hk)
  obtain ⟨b, hb0⟩ : ∃ b, w.heap.size = b := ⟨_, rfl⟩
  rw [hb0] at F1 NB0 hz1 hlt1
  have I2 := Lib.hid (F1.out.kf hk (fun hh => NB0.out (by simp only [List.mem_cons, List.not_mem_nil, or_false] at hh ⊢; omega)))
  have hwb := Lib.hid (Nat.le_of_eq hb0)
  try rw [hb0]
  have hww := hk.size
  have hbb : b < w2.heap.size := by omega
  have NB6 := Lib.hid (hG.notin (Nat.le_refl _))
  clear hG hk HN HG1 F1 HK1 HG hb0 hz1 hlt1 hww
  go_upto_region 2 with (first | (refine wpList_alloc_list (w := w2) rfl 68 rfl (ndc zpt) Tryz.zero27 ?_; intro w3 F3 hb3 hz3; have HG3 := Lib.hid (HG2.out.keep hb3); have HK3 := Lib.hid (HK2.out.more hb3); have I3 := Lib.hid (I2.out.keep hb3); clear hb3 hz3) | (refine wpList_store_list rfl 68 (.tmp 6) (.tmp 12) rfl w2.heap.size (ndc zpt) (ndc f) rfl rfl F3.out rfl (size27 _) (ndc_one _) ?_; intro w4 F4 HK4))
  obtain ⟨b4, hb4⟩ : ∃ b, w2.heap.size = b := ⟨_, rfl⟩
  rw [hb4] at F4 HK4 NB6 hbb
  try rw [hb4]
  have HG4 := Lib.hid (HG3.out.kp HK4.out NB6.out)
  have I4 := Lib.hid (I3.out.kp HK4.out (by omega) (by omega))
  have HK5 := Lib.hid (HK3.out.fresh HK4.out (by have := hwb.out; omega))
  clear hb4 HG2 HG3 HK2 HK3 HK4 F3 I2 I3 lts
  have c0 := F4.out.c 0 _ rfl
  go_wp2_with (first | (refine wpList_yields (.agg (inc 0 0 0).toArray) (yields_bld0 (by rfl) 157 rfl _ Tryz.buildIno0) ?_) | (refine wpList_store_list rfl 157 (.tmp 4) (.tmp 21) rfl b (inc 0 0 0) (inc 0 0 0) rfl rfl I4.out rfl (sizeIno _ _ _) (inc_one _ _ _) ?_; intro w7 F7 HK7))
  have NBb : b ∉ [q, p, t, m, d, gg] := NB0.out
  exact bodyPost_ret_by (results_mid_tmp rfl _ _ b (inc 0 0 0) dI rfl F7.out.range0 HUI.out HDI.out (sizeIno _ _ _)) rfl ⟨rfl, HG4.out.kp HK7.out NBb, HK5.out.fresh HK7.out hwb.out⟩
theorem u8_in (n : Int) (h0 : 0 ≤ n) (h1 : n < 256) : IntKind.u8.wrap n = n := by
  simp [IntKind.wrap, IntKind.bits, IntKind.signed]; omega
theorem u16_in (n : Int) (h0 : 0 ≤ n) (h1 : n < 65536) : IntKind.u16.wrap n = n := by
  simp [IntKind.wrap, IntKind.bits, IntKind.signed]; omega
theorem Tryz.buildIno3 (a b c : Int) (w : World) : (Instr.build 157 #[(0, .int .u8 a), (1, .int .u16 b), (2, .int .u16 c)]).run Tryz.prog w = .ok (.agg (inc a b c).toArray) w := by kernel_rfl
theorem Tryz.isizeIno' : (Tryz.prog.info? 157).map (·.size) = some 3 := by kernel_rfl
theorem sizeIno' (a b c : Int) : (Tryz.prog.info? 157).map (·.size) = some (inc a b c).toArray.size := Tryz.isizeIno'
theorem yields_bld3 {P : Program} {ops : Array Oper} {S : World → Prop} {op : Oper} {a : Act} (hw : Region.wanted op (yielded ops a.tmps) = true) (ty : TypeId) (i0 i1 i2 : Nat) (x0 x1 x2 : Operand) (ho : op.op = .build ty #[(i0, x0), (i1, x1), (i2, x2)]) (v0 v1 v2 : Value) (h0 : a.eval x0 = v0) (h1 : a.eval x1 = v1) (h2 : a.eval x2 = v2) (v : Value)
    (hr : ∀ w, (Instr.build ty #[(i0, v0), (i1, v1), (i2, v2)]).run P w = .ok v w) : YieldsIf P ops S op v a :=
  .inl ⟨hw, fun w _ => by
    have hr := hr w
    unfold execOp
    simp [ho, h0, h1, h2, hr, Result.andThen]⟩
set_option maxHeartbeats 20000000 in
set_option maxRecDepth 100000 in
theorem gino_used (q p t m d gg lab B0 P0 M DA NB N K : Nat) (g : Cf.Ge) (Y : Nat → Nat → Int) (V : Nat → Nat → Int) (n : Nat) (h1 : 1 ≤ n) (h2 : n ≤ M) (hz : ¬ V n 0 = 0) (hl : lab < 256) (hn : n < 65536) (hK : K < 500000000) (hI : Tab P0 M Y V) (hg : GG g B0 P0 M DA NB N) (w : World) (h : Gr w q p t m d gg lab g B0 NB N ln Y K) :
    Calls Tryz.prog 64 #[.pointer (some ⟨q, 0, none⟩), .int .i64 n] w fun e w' => e = .returned (.tuple #[.agg (inc lab n (V n 2)).toArray, .int .i64 0]) ∧ Gr w' q p t m d gg lab g B0 NB N ln Y (K + 1) ∧ Kf w w' [t, m, d, gg] := by
  have hwl : IntKind.u8.wrap (lab : Int) = lab := u8_in _ (by omega) (by omega)
  have hwn : IntKind.u16.wrap (n : Int) = n := u16_in _ (by omega) (by omega)
  have HWL := Lib.hid hwl
  have HWN := Lib.hid hwn
  clear hwl hwn
  obtain ⟨dI, huI, hdI⟩ := Tryz.descIno
  have HUI := Lib.hid huI
  have HDI := Lib.hid hdI
  have HN := Lib.hid (fun W hW => gnode_in (ln := ln) q p t m d gg lab B0 P0 M DA NB N K g Y V n h1 h2 (by omega) hI hg W hW)
  obtain ⟨f, hf⟩ : ∃ f, V n = f := ⟨_, rfl⟩
  rw [hf] at HN hz
  try rw [hf]
  have lts := Lib.hid h.lts
  have NB0 := Lib.hid (h.notin (Nat.le_refl _))
  have HG := Lib.hid h
  clear hf hI h hg hK huI hdI
  go_enter Tryz.func64, Tryz.ntmps64
  go_wp2_with (first | (refine wpList_alloc_list (w := w) rfl 157 rfl (inc 0 0 0) Tryz.zeroIno ?_; intro w1 F1 hb1 hz1; have HK1 := Lib.hid (Kf.of_below hb1 [t, m, d, gg]); have HG1 := Lib.hid (HG.out.keep hb1); have hlt1 := hb1.size; clear hb1))
  refine (HN.out w1 HG1.out).mono ?_
  rintro e w2 ⟨rfl, hG, hk⟩
  have HG2 := Lib.hid hG
  have HK2 := Lib.hid (HK1.out.trans hk)
  obtain ⟨b, hb0⟩ : ∃ b, w.heap.size = b := ⟨_, rfl⟩
  rw [hb0] at F1 NB0 hz1 hlt1
  have I2 := Lib.hid (F1.out.kf hk (fun hh => NB0.out (by simp only [List.mem_cons, List.not_mem_nil, or_false] at hh ⊢; omega)))
  have hwb := Lib.hid (Nat.le_of_eq hb0)
  try rw [hb0]
  have hww := hk.size
  have hbb : b < w2.heap.size := by omega
  have NB6 := Lib.hid (hG.notin (Nat.le_refl _))
  clear hG hk HN HG1 F1 HK1 HG hb0 hz1 hlt1 hww
  go_upto_region 2 with (first | (refine wpList_alloc_list (w := w2) rfl 68 rfl (ndc zpt) Tryz.zero27 ?_; intro w3 F3 hb3 hz3; have HG3 := Lib.hid (HG2.out.keep hb3); have HK3 := Lib.hid (HK2.out.more hb3); have I3 := Lib.hid (I2.out.keep hb3); clear hb3 hz3) | (refine wpList_store_list rfl 68 (.tmp 6) (.tmp 12) rfl w2.heap.size (ndc zpt) (ndc f) rfl rfl F3.out rfl (size27 _) (ndc_one _) ?_; intro w4 F4 HK4))
  obtain ⟨b4, hb4⟩ : ∃ b, w2.heap.size = b := ⟨_, rfl⟩
  rw [hb4] at F4 HK4 NB6 hbb
  try rw [hb4]
  have HG4 := Lib.hid (HG3.out.kp HK4.out NB6.out)
  have I4 := Lib.hid (I3.out.kp HK4.out (by omega) (by omega))
  have HK5 := Lib.hid (HK3.out.fresh HK4.out (by have := hwb.out; omega))
  clear hb4 HG2 HG3 HK2 HK3 HK4 F3 I2 I3 lts
  have c0 := F4.out.c 0 _ rfl
  clear c0
  have c0 := F4.out.c 0 _ rfl
  go_upto_region 6 with fail
  clear c0
  refine wp_region_held (S := fun W => Vl W q (gpc t lab g p) ∧ Vl W b4 (ndc f)) (by kernel_rfl) ?_
  change wpAnyH _ _ _ _ _ _ _ _ (World.drew _)
  have hS0 : (fun W => Vl W q (gpc t lab g p) ∧ Vl W b4 (ndc f)) w4.drew := ⟨HG4.out.gb.keep (Below.refl _ _).drew, F4.out.keep (Below.refl _ _).drew⟩
  have HG6 := Lib.hid (HG4.out.keep (Below.refl w4.heap.size w4).drew)
  have HK6 := Lib.hid (HK5.out.more (Below.refl w4.heap.size w4).drew)
  have I6 := Lib.hid (I4.out.keep (Below.refl w4.heap.size w4).drew)
  obtain ⟨w6, hw6⟩ : ∃ x, World.drew w4 = x := ⟨_, rfl⟩
  rw [hw6] at hS0 HG6 HK6 I6 ⊢
  clear hw6
  clear HG4 HK5 I4 F4
  refine wpAnyH_take (i := 0) (v := ?_) rfl (by kernel_rfl) (by kernel_rfl) (by kernel_rfl) (fun _ _ _ h => h) (Or.inl ⟨by rfl, ?_⟩) hS0 ?_
  rotate_left 1
  · intro W hW
    go_simp
    try with_reducible rfl
  simp only [Act.put, List.getElem_toArray, List.getElem_cons_zero, List.getElem_cons_succ, List.setIfInBounds_toArray, List.set_cons_zero, List.set_cons_succ]
  refine wpAnyH_take (i := 1) (v := ?_) rfl (by kernel_rfl) (by kernel_rfl) (by kernel_rfl) (fun _ _ _ h => h) (Or.inl ⟨by rfl, ?_⟩) hS0 ?_
  rotate_left 1
  · intro W hW
    go_simp
    try with_reducible rfl
  simp only [Act.put, List.getElem_toArray, List.getElem_cons_zero, List.getElem_cons_succ, List.setIfInBounds_toArray, List.set_cons_zero, List.set_cons_succ]
  refine wpAnyH_take (i := 2) (v := ?_) rfl (by kernel_rfl) (by kernel_rfl) (by kernel_rfl) (fun _ _ _ h => h) (Or.inl ⟨by rfl, ?_⟩) hS0 ?_
  rotate_left 1
  · intro W hW
    go_simp
    try with_reducible rfl
  simp only [Act.put, List.getElem_toArray, List.getElem_cons_zero, List.getElem_cons_succ, List.setIfInBounds_toArray, List.set_cons_zero, List.set_cons_succ]
  refine wpAnyH_take (i := 3) (v := ?_) rfl (by kernel_rfl) (by kernel_rfl) (by kernel_rfl) (fun _ _ _ h => h) (Or.inl ⟨by rfl, ?_⟩) hS0 ?_
  rotate_left 1
  · intro W hW
    have c0 := hW.1.c 1 _ rfl
    go_simp
    try with_reducible rfl
  simp only [Act.put, List.getElem_toArray, List.getElem_cons_zero, List.getElem_cons_succ, List.setIfInBounds_toArray, List.set_cons_zero, List.set_cons_succ]
  refine wpAnyH_take (i := 4) (v := .int .u8 lab) rfl (by kernel_rfl) (by kernel_rfl) (by kernel_rfl) (fun _ _ _ h => h) ?_ hS0 ?_
  · exact Or.inl ⟨by rfl, fun W hW => by have e := HWL.out; go_simp⟩
  simp only [Act.put, List.getElem_toArray, List.getElem_cons_zero, List.getElem_cons_succ, List.setIfInBounds_toArray, List.set_cons_zero, List.set_cons_succ]
  refine wpAnyH_take (i := 5) (v := ?_) rfl (by kernel_rfl) (by kernel_rfl) (by kernel_rfl) (fun _ _ _ h => h) (Or.inl ⟨by rfl, ?_⟩) hS0 ?_
  rotate_left 1
  · intro W hW
    go_simp
    try with_reducible rfl
  simp only [Act.put, List.getElem_toArray, List.getElem_cons_zero, List.getElem_cons_succ, List.setIfInBounds_toArray, List.set_cons_zero, List.set_cons_succ]
  refine wpAnyH_take (i := 6) (v := .int .u16 n) rfl (by kernel_rfl) (by kernel_rfl) (by kernel_rfl) (fun _ _ _ h => h) ?_ hS0 ?_
  · exact Or.inl ⟨by rfl, fun W hW => by have e := HWN.out; go_simp⟩
  simp only [Act.put, List.getElem_toArray, List.getElem_cons_zero, List.getElem_cons_succ, List.setIfInBounds_toArray, List.set_cons_zero, List.set_cons_succ]
  refine wpAnyH_take (i := 7) (v := ?_) rfl (by kernel_rfl) (by kernel_rfl) (by kernel_rfl) (fun _ _ _ h => h) (Or.inl ⟨by rfl, ?_⟩) hS0 ?_
  rotate_left 1
  · intro W hW
    go_simp
    try with_reducible rfl
  simp only [Act.put, List.getElem_toArray, List.getElem_cons_zero, List.getElem_cons_succ, List.setIfInBounds_toArray, List.set_cons_zero, List.set_cons_succ]
  refine wpAnyH_take (i := 8) (v := ?_) rfl (by kernel_rfl) (by kernel_rfl) (by kernel_rfl) (fun _ _ _ h => h) (Or.inl ⟨by rfl, ?_⟩) hS0 ?_
  rotate_left 1
  · intro W hW
    have c0 := hW.2.c 2 _ rfl
    go_simp
    try with_reducible rfl
  simp only [Act.put, List.getElem_toArray, List.getElem_cons_zero, List.getElem_cons_succ, List.setIfInBounds_toArray, List.set_cons_zero, List.set_cons_succ]
  refine wpAnyH_take (i := 9) (v := .agg (inc lab n (f 2)).toArray) rfl (by kernel_rfl) (by kernel_rfl) (by kernel_rfl) (fun _ _ _ h => h) ?_ hS0 ?_
  · exact yields_bld3 (by rfl) 157 0 1 2 (.tmp 26) (.tmp 28) (.tmp 30) rfl (.int .u8 lab) (.int .u16 n) (.int .u16 (f 2)) rfl rfl rfl _ (Tryz.buildIno3 lab n (f 2))
  simp only [Act.put, List.getElem_toArray, List.getElem_cons_zero, List.getElem_cons_succ, List.setIfInBounds_toArray, List.set_cons_zero, List.set_cons_succ]
  refine wpAnyH_ready (rs := [10]) (by kernel_rfl) (by simp) (AllReadyH.cons rfl (fun KK hKK => ?_) AllReadyH.nil)
  refine step_store_mid rfl 157 _ _ rfl b 0 (inc lab n (f 2)).toArray rfl rfl (I6.out.there0 3 rfl) (sizeIno' _ _ _) (all_oneCell_toArray (inc_one _ _ _)) ?_
  rw [List.toList_toArray]
  have F7 := Lib.hid (I6.out.stored (inc lab n (f 2)) rfl)
  have hk7 : Kp w6 (w6.setCells b 0 (inc lab n (f 2))) b b := (Kp.refl _ _ _).setCells b 0 (.inl rfl) _
  have NBb : b ∉ [q, p, t, m, d, gg] := NB0.out
  have HG7 := Lib.hid (HG6.out.kp hk7 NBb)
  have HK7 := Lib.hid (HK6.out.fresh hk7 hwb.out)
  replace hS0 : (fun W => Vl W q (gpc t lab g p) ∧ Vl W b4 (ndc f)) (w6.setCells b 0 (inc lab n (f 2))) := ⟨HG7.out.gb, hS0.2.kp hk7 (by omega) (by omega)⟩
  obtain ⟨w7, hw7⟩ : ∃ x, w6.setCells b 0 (inc lab n (f 2)) = x := ⟨_, rfl⟩
  rw [hw7] at F7 HG7 HK7 hS0 ⊢
  clear hk7 hw7 I6 HG6 HK6 NBb
  refine hKK _ _ hS0 ?_
  intro _
  clear hKK KK
  try simp only [Act.put, List.getElem_toArray, List.getElem_cons_zero, List.getElem_cons_succ, List.setIfInBounds_toArray, List.set_cons_zero, List.set_cons_succ]
  refine wpAnyH_take (i := 11) (v := ?_) rfl (by kernel_rfl) (by kernel_rfl) (by kernel_rfl) (fun _ _ _ h => h) (Or.inl ⟨by rfl, ?_⟩) hS0 ?_
  rotate_left 1
  · intro W hW
    go_simp
    try with_reducible rfl
  simp only [Act.put, List.getElem_toArray, List.getElem_cons_zero, List.getElem_cons_succ, List.setIfInBounds_toArray, List.set_cons_zero, List.set_cons_succ]
  refine wpAnyH_done (by kernel_rfl) ?_ _
  clear hS0
  go_wp2_with fail
  exact bodyPost_ret_by (results_mid_tmp rfl _ _ b (inc lab n (f 2)) dI rfl F7.out.range0 HUI.out HDI.out (sizeIno _ _ _)) rfl ⟨rfl, HG7.out, HK7.out⟩
end Go.Proofs.YtnfadmifdncjoaaGreat
