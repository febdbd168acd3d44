import Derived.Test.YtbnpgkclnebnmaaGreatFA1
import Derived.Test.YtbnpgkclnebnmaaGreatF21
import Derived.Test.YtbnpgkclnebnmaaGreatF23
/- Files: one that would be too long; a block that no file has; the configuration of one label. -/
namespace Go.Proofs.YtbnpgkclnebnmaaGreat
set_option linter.unusedSimpArgs false
set_option linter.unusedVariables false
open Go.RowKit Go.Maps

theorem wpList_bld0 {P : Program} {ops : Array Oper} {rest : List Oper} {op : Oper} {a : Act} {w : World} {Q : Exit → Act → World → Prop} (hgd : op.guard = none) (ty : TypeId) (ho : op.op = .build ty #[]) (v : Value)
    (hr : (Instr.build ty #[]).run P w = .ok v w) (h : wpList P ops Q rest (a.put op.dst v) w) : wpList P ops Q (op :: rest) a w := by
  refine wpList_plain hgd fun K' hK' => ?_
  unfold Oper.wp
  simp [execOp, ho, hr, Result.andThen]
  exact hK' _ _ h
theorem wpList_bld6 {P : Program} {ops : Array Oper} {rest : List Oper} {op : Oper} {a : Act} {w : World} {Q : Exit → Act → World → Prop} (hgd : op.guard = none) (ty : TypeId) (i0 i1 i2 i3 i4 i5 : Nat) (x0 x1 x2 x3 x4 x5 : Operand) (ho : op.op = .build ty #[(i0, x0), (i1, x1), (i2, x2), (i3, x3), (i4, x4), (i5, x5)]) (v0 v1 v2 v3 v4 v5 : Value) (h0 : a.eval x0 = v0) (h1 : a.eval x1 = v1) (h2 : a.eval x2 = v2) (h3 : a.eval x3 = v3) (h4 : a.eval x4 = v4) (h5 : a.eval x5 = v5) (v : Value)
    (hr : (Instr.build ty #[(i0, v0), (i1, v1), (i2, v2), (i3, v3), (i4, v4), (i5, v5)]).run P w = .ok v w) (h : wpList P ops Q rest (a.put op.dst v) w) : wpList P ops Q (op :: rest) a w := by
  refine wpList_plain hgd fun K' hK' => ?_
  unfold Oper.wp
  simp [execOp, ho, h0, h1, h2, h3, h4, h5, hr, Result.andThen]
  exact hK' _ _ h
theorem Tryz.buildRg (bl : Nat) (w : World) : (Instr.build 41 #[(0, .string ⟨#[108, 111, 119]⟩), (2, .int .i64 bl), (3, .int .i64 8), (4, .int .i64 1), (5, .int .i64 1), (6, .int .i64 1)]).run Tryz.prog w = .ok (.agg (RBc bl).cells.toArray) w := by kernel_rfl
theorem Tryz.sliceRg (bl : Nat) (w : World) : (Instr.buildSlice 107 1 #[(0, .agg (RBc bl).cells.toArray)]).run Tryz.prog w = .ok (.slice (some ⟨w.heap.size, 0, none⟩) 1 1) (w.alloc (.cells (RBc bl).cells.toArray 41)) := by kernel_rfl
theorem Tryz.buildN0 (w : World) : (Instr.build 68 #[]).run Tryz.prog w = .ok (.agg (ndc zpt).toArray) w := by kernel_rfl
theorem wpList_sliceRg {ops : Array Oper} {rest : List Oper} {op : Oper} {a : Act} {w : World} {Q : Exit → Act → World → Prop} (hgd : op.guard = none) (x : Operand) (ho : op.op = .buildSlice 107 1 #[(0, x)]) (bl : Nat) (hx : a.eval x = .agg (RBc bl).cells.toArray)
    (h : ∀ w', Hid (Vl w' w.heap.size (RBc bl).cells) → Hid (Below w.heap.size w w') → wpList Tryz.prog ops Q rest (a.put op.dst (.slice (some ⟨w.heap.size, 0, none⟩) 1 1)) w') : wpList Tryz.prog ops Q (op :: rest) a w := by
  refine wpList_plain hgd fun K hK => ?_
  have hr := Tryz.sliceRg bl w
  unfold Oper.wp
  simp [execOp, ho, hx, hr, Result.andThen]
  exact hK _ _ (h _ (Lib.hid (Vl.new w (RBc bl).cells 41)) (Lib.hid ((Below.refl _ _).alloc (Nat.le_refl _) _)))
theorem tmod_n (a m : Int) (h0 : 0 ≤ a) (hm : 0 < m) : ∃ k : Nat, Int.tmod a m = k ∧ (k : Int) < m := by
  rw [Int.tmod_eq_emod_of_nonneg h0]
  have h1 := Int.emod_nonneg a (show m ≠ 0 by omega)
  have h2 := Int.emod_lt_of_pos a hm
  obtain ⟨k, hk⟩ := Int.eq_ofNat_of_zero_le h1
  exact ⟨k, hk, by omega⟩
set_option maxHeartbeats 40000000 in
set_option maxRecDepth 200000 in
theorem fwrite_big (q p t m d gg lab B0 P0 M DA NB N K : Nat) (ln : Lm) (g : Cf.Ge) (Y0 V : Nat → Nat → Int) (num : Nat) (h1 : 1 ≤ num) (h2 : num ≤ M) (hkd : ¬ V num 0 = 0) (sz : Nat) (hsz : V num 3 = sz) (hsz2 : sz ≤ 16384)
    (hI : Tab P0 M Y0 V) (hK : K < 260000000) (hg : GG g B0 P0 M DA NB N) (w : World) (h : Gr w q p t m d gg lab g B0 NB N ln Y0 K)
    (off len : Nat) (ho : off ≤ sz) (hl : len ≤ 2000) (hol : 16384 < off + len) (pv : Option Addr) (cap : Nat) :
    Calls Tryz.prog 35 #[.pointer (some ⟨q, 0, none⟩), .int .i64 num, .int .i64 off, .slice pv len cap] w fun e w' => e = .returned (.int .i64 11) ∧ Gr w' q p t m d gg lab g B0 NB N ln Y0 (K + 1) ∧ Kf w w' [t, m, d, gg] := by
  have HO := Lib.hid (fopen_in (ln := ln) q p t m d gg lab B0 P0 M DA NB N K g Y0 V num h1 h2 hkd (by omega) hI hg w h)
  obtain ⟨f0, hf⟩ : ∃ f, V num = f := ⟨_, rfl⟩
  rw [hf] at HO hsz hkd
  have HSz := Lib.hid (fun b q W hW => size_any b q f0 (by omega) (by omega) W hW)
  rw [hsz] at HSz
  have hs0 : (0 : Int) ≤ sz := by omega
  have hs1 : (sz : Int) ≤ 16384 := by omega
  obtain ⟨zi, hzi⟩ : ∃ z : Int, (sz : Int) = z := ⟨_, rfl⟩
  rw [hzi] at HSz
  have hz0 : 0 ≤ zi := by omega
  have hz1 : zi ≤ 16384 := by omega
  have ho0 : (0 : Int) ≤ off := by omega
  have hoz : (off : Int) ≤ zi := by omega
  have hll : (16384 : Int) - off < len := by omega
  have hl0 : (0 : Int) ≤ len := by omega
  have hl1 : (len : Int) ≤ 2000 := by omega
  have h0' : decide ((off : Int) < 0) = false := decide_eq_false (by omega)
  have h0d : decide (zi < (off : Int)) = false := decide_eq_false (by omega)
  have h0e : decide (16384 - (off : Int) < (len : Int)) = true := decide_eq_true (by omega)
  clear h1 h2 hkd hsz hI hg h hf hzi hs0 hs1
  go_enter Tryz.func35, Tryz.ntmps35
  go_wp2_with fail
  refine HO.out.mono ?_
  rintro e w1 ⟨b, rfl, hb, hG, hVb, hk⟩
  have HG1 := Lib.hid hG
  have HK1 := Lib.hid hk
  have HS1 := Lib.hid (HSz.out b q w1 hVb)
  clear hG hVb hk HO HSz
  go_wp2_with fail
  refine HS1.out.mono ?_
  rintro e wz ⟨rfl, hwz⟩
  rw [hwz]
  clear hwz HS1
  go_wp2_with fail
  go_ret
  exact ⟨rfl, HG1.out.mono (Lm.le_refl _) (by omega), HK1.out⟩
set_option maxHeartbeats 40000000 in
set_option maxRecDepth 200000 in
theorem fblock_big (q : Nat) (w : World) : Calls Tryz.prog 41 #[.pointer (some ⟨q, 0, none⟩), .agg (ndc zpt).toArray, .int .i64 256] w fun e w' => e = .returned (.tuple #[.int .u16 0, .int .i64 11]) ∧ Below w.heap.size w w' := by
  go_enter Tryz.func41, Tryz.ntmps41
  go_upto_region 1 with (first | (refine wpList_box_list (w := w) rfl 68 _ rfl (ndc zpt) rfl ?_; intro w1 F1 hb1 hz1; have HB1 := Lib.hid hb1; have hs1 := hb1.size; clear hb1 hz1))
  clear F1
  have HW := Lib.hid (wayto_out 256 (.inr (by decide)) w1)
  go_wp2_with fail
  refine HW.out.mono ?_
  rintro e w2 ⟨rfl, hb⟩
  have HB2 := Lib.hid (HB1.out.trans (hb.mono hs1))
  clear hb HW HB1
  obtain ⟨dw, hu, hd⟩ := Tryz.descWy
  have HU := Lib.hid hu
  have HD := Lib.hid hd
  clear hu hd
  go_upto_region 4 with (first | (refine wpList_alloc_list (w := w2) rfl 181 rfl (wyc 0 0 0) Tryz.zeroWy ?_; intro w3 F3 hb3 hz3; have HB3 := Lib.hid (HB2.out.trans (hb3.mono HB2.out.size)); clear hb3 hz3; simp only [Act.put, List.getElem_toArray, List.getElem_cons_zero, List.getElem_cons_succ, List.setIfInBounds_toArray, List.set_cons_zero, List.set_cons_succ]) | (refine wpList_store_list rfl 181 (.tmp 8) (.tmp 13) rfl w2.heap.size (wyc 0 0 0) (wyc 0 0 0) rfl rfl F3.out rfl (sizeWy _ _ _) (wyc_one _ _ _) ?_; intro w4 F4 HK4))
  have HB4 := Lib.hid (HB3.out.trans (HK4.out.below HB2.out.size HB2.out.size HB3.out.size))
  have HR4 := Lib.hid F4.out.range0
  clear HB3 HK4 HB2 F3
  have HEQ := Lib.hid (fun W => eqWy 0 0 0 0 0 0 W)
  go_upto_region 5 with (first | (refine wpList_load_mid rfl 181 _ rfl w2.heap.size 0 rfl (wyc 0 0 0) dw HR4.out HU.out HD.out (sizeWy _ _ _) ?_) | (refine wpList_bld0 rfl 181 rfl (.agg (wyc 0 0 0).toArray) (Tryz.buildWy0 _) ?_) | (refine wpList_yields _ (yields_eql (by kernel_rfl) 181 181 (.tmp 14) (.tmp 15) rfl (wyc 0 0 0).toArray (wyc 0 0 0).toArray rfl rfl true Tryz.guardWy (fun W _ => HEQ.out W)) ?_))
  go_wp2_with fail
  go_ret2
  exact ⟨rfl, HB4.out⟩
/-- conf.New of that one label, as a law calls it -/
theorem newO (bl : Nat) (h : bl = 270 ∨ bl = 300) (b : Nat) (w : World) (hV : Vl w b (RBc bl).cells) :
    Calls Tryz.prog 38 #[.slice (some ⟨b, 0, none⟩) 1 1, .slice none 0 0] w fun e w' => ∃ n vr vm vg, e = .returned (.tuple #[.pointer (some ⟨n + 3, 0, none⟩), .int .i64 0]) ∧ w.heap.size ≤ n ∧ Below w.heap.size w w' ∧ Cf.CF n w' vr vm vg (RB bl) [] := by
  have hr : Cf.Row9 w b 0 (RB bl) := by
    refine ⟨?_, ?_, ?_, ?_, ?_, ?_, ?_, ?_, ?_⟩ <;> intro i hi <;> obtain rfl : i = 0 := by (have : i < 1 := hi; omega)
    · exact hV.c 0 _ rfl
    · exact hV.c 1 _ rfl
    · exact hV.c 2 _ rfl
    · exact hV.c 3 _ rfl
    · exact hV.c 4 _ rfl
    · exact hV.c 5 _ rfl
    · exact hV.c 6 _ rfl
    · exact hV.c 7 _ rfl
    · exact hV.c 8 _ rfl
  refine (Cf.new_some b 0 1 (RB bl) (.slice none 0 0) [] w hV.lt Nat.one_pos (show 1 ≤ 64 by decide) hr (RB_ok bl) (.inl ⟨none, 0, rfl, rfl⟩) (fun m hm => by cases hm) (by decide)).mono ?_
  rintro e w' ⟨-, h2⟩
  exact h2 (RB_new bl h)
end Go.Proofs.YtbnpgkclnebnmaaGreat
