import Derived.Test.YteaoabppppbkoaaGreatDoorJ20
import Derived.Laws.IdiomStrings
import Derived.Laws.AppendOwnNone
import Derived.Test.YteaoabppppbkoaaGreatDoorJ15
import Derived.Test.YteaoabppppbkoaaGreatDoorJ17
import Derived.Test.YteaoabppppbkoaaGreatDoorJ16
import Derived.Test.YteaoabppppbkoaaGreatDoorJ1
import Derived.Deep.DeepHandedRow
import Derived.Lib.SmallJoins
import Derived.Lib.LaidTab
import Derived.Test.YteaoabppppbkoaaGreatDoorJ4
import Derived.Test.YteaoabppppbkoaaGreatDoorJ3
import Derived.LoopTactic
import Derived.IntWalk
/- Files: bytes as handed in; as strings; appended. -/
/- Directories: Unpack. -/
/- A group: Ino of a node that is used. -/
/- Own directories: records, their numbers. -/
/- A world in which the listed tables hold what their initialisers lay, for the witnesses; a node as handed in. -/
/- Own directories: a record out of its bytes. -/
/- Files: does a way pass a block. -/
/- Files: what giving blocks leaves (pure). -/
/- Files: giveAt. -/
/- Files: how many blocks a length takes. -/
/- Files: the ways while blocks are given. -/

namespace Go.Proofs.YteaoabppppbkoaaGreatDoor
set_option linter.unusedSimpArgs false
set_option linter.unusedVariables false
open Go.RowKit Go.Maps

/-- a slice of bytes as handed in: nil, or empty, or some bytes -/
def B8 (w : World) (pa : Option Addr) (n c : Nat) (s : Nat → Int) : Prop :=
  (pa = none ∧ n = 0 ∧ c = 0) ∨ (∃ ad, pa = some ad ∧ n = 0) ∨ ∃ b off, pa = some ⟨b, off, none⟩ ∧ b < w.heap.size ∧ ∀ j, j < n → w.cell? ⟨b, off + j, none⟩ = some (.int .u8 (s j))
theorem B8.keep {w w' : World} {pa : Option Addr} {n c : Nat} {s : Nat → Int} (h : B8 w pa n c s) (hb : Below w.heap.size w w') : B8 w' pa n c s := by
  rcases h with h | h | ⟨b, off, h1, h2, h3⟩
  · exact .inl h
  · exact .inr (.inl h)
  · exact .inr (.inr ⟨b, off, h1, Nat.lt_of_lt_of_le h2 hb.size, fun j hj => (hb.cell (p := ⟨b, off + j, none⟩) h2).trans (h3 j hj)⟩)
end Go.Proofs.YteaoabppppbkoaaGreatDoor

namespace Go.Proofs.YteaoabppppbkoaaGreatDoor
set_option linter.unusedSimpArgs false
set_option linter.unusedVariables false
open Go.RowKit Go.Maps

theorem yields_bld2 {P : Program} {ops : Array Oper} {S : World → Prop} {op : Oper} {a : Act} (hw : Region.wanted op (yielded ops a.tmps) = true) (ty : TypeId) (i j : Nat) (x y : Operand) (ho : op.op = .build ty #[(i, x), (j, y)]) (vx vy : Value) (hx : a.eval x = vx) (hy : a.eval y = vy) (v : Value)
    (hr : ∀ w, (Instr.build ty #[(i, vx), (j, vy)]).run P w = .ok v w) : YieldsIf P ops S op v a :=
  .inl ⟨hw, fun w _ => by
    have hr := hr w
    unfold execOp
    simp [ho, hx, hy, hr, Result.andThen]⟩
/-- an entry that may stand in a directory -/
def okE (e : En) : Prop := 0 < e.2 ∧ e.2 < 65536 ∧ nameC e.1 = 0
end Go.Proofs.YteaoabppppbkoaaGreatDoor

namespace Go.Proofs.YteaoabppppbkoaaGreatDoor
set_option linter.unusedSimpArgs false
set_option linter.unusedVariables false
open Go.RowKit Go.Maps

variable {ln : Lm}
theorem u8_in (n : Int) (h0 : 0 ≤ n) (h1 : n < 256) : IntKind.u8.wrap n = n := by
  simp [IntKind.wrap, IntKind.bits, IntKind.signed]; omega
theorem u16_in (n : Int) (h0 : 0 ≤ n) (h1 : n < 65536) : IntKind.u16.wrap n = n := by
  simp [IntKind.wrap, IntKind.bits, IntKind.signed]; omega
theorem Tryz.buildIno3 (a b c : Int) (w : World) : (Instr.build 92 #[(0, .int .u8 a), (1, .int .u16 b), (2, .int .u16 c)]).run Tryz.prog w = .ok (.agg (inc a b c).toArray) w := by kernel_rfl
theorem Tryz.isizeIno' : (Tryz.prog.info? 92).map (·.size) = some 3 := by kernel_rfl
theorem sizeIno' (a b c : Int) : (Tryz.prog.info? 92).map (·.size) = some (inc a b c).toArray.size := Tryz.isizeIno'
theorem yields_bld3 {P : Program} {ops : Array Oper} {S : World → Prop} {op : Oper} {a : Act} (hw : Region.wanted op (yielded ops a.tmps) = true) (ty : TypeId) (i0 i1 i2 : Nat) (x0 x1 x2 : Operand) (ho : op.op = .build ty #[(i0, x0), (i1, x1), (i2, x2)]) (v0 v1 v2 : Value) (h0 : a.eval x0 = v0) (h1 : a.eval x1 = v1) (h2 : a.eval x2 = v2) (v : Value)
    (hr : ∀ w, (Instr.build ty #[(i0, v0), (i1, v1), (i2, v2)]).run P w = .ok v w) : YieldsIf P ops S op v a :=
  .inl ⟨hw, fun w _ => by
    have hr := hr w
    unfold execOp
    simp [ho, h0, h1, h2, hr, Result.andThen]⟩
set_option maxHeartbeats 20000000 in
set_option maxRecDepth 100000 in
theorem gino_used (q p t m d gg lab B0 P0 M DA NB N K : Nat) (g : Cf.Ge) (Y : Nat → Nat → Int) (V : Nat → Nat → Int) (n : Nat) (h1 : 1 ≤ n) (h2 : n ≤ M) (hz : ¬ V n 0 = 0) (hl : lab < 256) (hn : n < 65536) (hK : K < 500000000) (hI : Tab P0 M Y V) (hg : GG g B0 P0 M DA NB N) (w : World) (h : Gr w q p t m d gg lab g B0 NB N ln Y K) :
    Calls Tryz.prog 44 #[.pointer (some ⟨q, 0, none⟩), .int .i64 n] w fun e w' => e = .returned (.tuple #[.agg (inc lab n (V n 2)).toArray, .int .i64 0]) ∧ Gr w' q p t m d gg lab g B0 NB N ln Y (K + 1) ∧ Kf w w' [t, m, d, gg] := by
  have hwl : IntKind.u8.wrap (lab : Int) = lab := u8_in _ (by omega) (by omega)
  have hwn : IntKind.u16.wrap (n : Int) = n := u16_in _ (by omega) (by omega)
  have HWL := Lib.hid hwl
  have HWN := Lib.hid hwn
  clear hwl hwn
  obtain ⟨dI, huI, hdI⟩ := Tryz.descIno
  have HUI := Lib.hid huI
  have HDI := Lib.hid hdI
  have HN := Lib.hid (fun W hW => gnode_in (ln := ln) q p t m d gg lab B0 P0 M DA NB N K g Y V n h1 h2 (by omega) hI hg W hW)
  obtain ⟨f, hf⟩ : ∃ f, V n = f := ⟨_, rfl⟩
  rw [hf] at HN hz
  try rw [hf]
  have lts := Lib.hid h.lts
  have NB0 := Lib.hid (h.notin (Nat.le_refl _))
  have HG := Lib.hid h
  clear hf hI h hg hK huI hdI
  go_enter Tryz.func44, Tryz.ntmps44
  go_wp2_with (first | (refine wpList_alloc_list (w := w) rfl 92 rfl (inc 0 0 0) Tryz.zeroIno ?_; intro w1 F1 hb1 hz1; have HK1 := Lib.hid (Kf.of_below hb1 [t, m, d, gg]); have HG1 := Lib.hid (HG.out.keep hb1); have hlt1 := hb1.size; clear hb1))
  refine (HN.out w1 HG1.out).mono ?_
  rintro e w2 ⟨rfl, hG, hk⟩
  have HG2 := Lib.hid hG
  have HK2 := Lib.hid (HK1.out.trans hk)
  obtain ⟨b, hb0⟩ : ∃ b, w.heap.size = b := ⟨_, rfl⟩
  rw [hb0] at F1 NB0 hz1 hlt1
  have I2 := Lib.hid (F1.out.kf hk (fun hh => NB0.out (by simp only [List.mem_cons, List.not_mem_nil, or_false] at hh ⊢; omega)))
  have hwb := Lib.hid (Nat.le_of_eq hb0)
  try rw [hb0]
  have hww := hk.size
  have hbb : b < w2.heap.size := by omega
  have NB6 := Lib.hid (hG.notin (Nat.le_refl _))
  clear hG hk HN HG1 F1 HK1 HG hb0 hz1 hlt1 hww
  go_upto_region 2 with (first | (refine wpList_alloc_list (w := w2) rfl 77 rfl (ndc zpt) Tryz.zero27 ?_; intro w3 F3 hb3 hz3; have HG3 := Lib.hid (HG2.out.keep hb3); have HK3 := Lib.hid (HK2.out.more hb3); have I3 := Lib.hid (I2.out.keep hb3); clear hb3 hz3) | (refine wpList_store_list rfl 77 (.tmp 6) (.tmp 12) rfl w2.heap.size (ndc zpt) (ndc f) rfl rfl F3.out rfl (size27 _) (ndc_one _) ?_; intro w4 F4 HK4))
  obtain ⟨b4, hb4⟩ : ∃ b, w2.heap.size = b := ⟨_, rfl⟩
  rw [hb4] at F4 HK4 NB6 hbb
  try rw [hb4]
  have HG4 := Lib.hid (HG3.out.kp HK4.out NB6.out)
  have I4 := Lib.hid (I3.out.kp HK4.out (by omega) (by omega))
  have HK5 := Lib.hid (HK3.out.fresh HK4.out (by have := hwb.out; omega))
  clear hb4 HG2 HG3 HK2 HK3 HK4 F3 I2 I3 lts
  have c0 := F4.out.c 0 _ rfl
  clear c0
  have c0 := F4.out.c 0 _ rfl
  go_upto_region 6 with fail
  clear c0
  refine wp_region_held (S := fun W => Vl W q (gpc t lab g p) ∧ Vl W b4 (ndc f)) (by kernel_rfl) ?_
  change wpAnyH _ _ _ _ _ _ _ _ (World.drew _)
  have hS0 : (fun W => Vl W q (gpc t lab g p) ∧ Vl W b4 (ndc f)) w4.drew := ⟨HG4.out.gb.keep (Below.refl _ _).drew, F4.out.keep (Below.refl _ _).drew⟩
  have HG6 := Lib.hid (HG4.out.keep (Below.refl w4.heap.size w4).drew)
  have HK6 := Lib.hid (HK5.out.more (Below.refl w4.heap.size w4).drew)
  have I6 := Lib.hid (I4.out.keep (Below.refl w4.heap.size w4).drew)
  obtain ⟨w6, hw6⟩ : ∃ x, World.drew w4 = x := ⟨_, rfl⟩
  rw [hw6] at hS0 HG6 HK6 I6 ⊢
  clear hw6
  clear HG4 HK5 I4 F4
  refine wpAnyH_take (i := 0) (v := ?_) rfl (by kernel_rfl) (by kernel_rfl) (by kernel_rfl) (fun _ _ _ h => h) (Or.inl ⟨by rfl, ?_⟩) hS0 ?_
  rotate_left 1
  · intro W hW
    go_simp
    try with_reducible rfl
  simp only [Act.put, List.getElem_toArray, List.getElem_cons_zero, List.getElem_cons_succ, List.setIfInBounds_toArray, List.set_cons_zero, List.set_cons_succ]
  refine wpAnyH_take (i := 1) (v := ?_) rfl (by kernel_rfl) (by kernel_rfl) (by kernel_rfl) (fun _ _ _ h => h) (Or.inl ⟨by rfl, ?_⟩) hS0 ?_
  rotate_left 1
  · intro W hW
    go_simp
    try with_reducible rfl
  simp only [Act.put, List.getElem_toArray, List.getElem_cons_zero, List.getElem_cons_succ, List.setIfInBounds_toArray, List.set_cons_zero, List.set_cons_succ]
  refine wpAnyH_take (i := 2) (v := ?_) rfl (by kernel_rfl) (by kernel_rfl) (by kernel_rfl) (fun _ _ _ h => h) (Or.inl ⟨by rfl, ?_⟩) hS0 ?_
  rotate_left 1
  · intro W hW
    go_simp
    try with_reducible rfl
  simp only [Act.put, List.getElem_toArray, List.getElem_cons_zero, List.getElem_cons_succ, List.setIfInBounds_toArray, List.set_cons_zero, List.set_cons_succ]
  refine wpAnyH_take (i := 3) (v := ?_) rfl (by kernel_rfl) (by kernel_rfl) (by kernel_rfl) (fun _ _ _ h => h) (Or.inl ⟨by rfl, ?_⟩) hS0 ?_
  rotate_left 1
  · intro W hW
    have c0 := hW.1.c 1 _ rfl
    go_simp
    try with_reducible rfl
  simp only [Act.put, List.getElem_toArray, List.getElem_cons_zero, List.getElem_cons_succ, List.setIfInBounds_toArray, List.set_cons_zero, List.set_cons_succ]
  refine wpAnyH_take (i := 4) (v := .int .u8 lab) rfl (by kernel_rfl) (by kernel_rfl) (by kernel_rfl) (fun _ _ _ h => h) ?_ hS0 ?_
  · exact Or.inl ⟨by rfl, fun W hW => by have e := HWL.out; go_simp⟩
  simp only [Act.put, List.getElem_toArray, List.getElem_cons_zero, List.getElem_cons_succ, List.setIfInBounds_toArray, List.set_cons_zero, List.set_cons_succ]
  refine wpAnyH_take (i := 5) (v := ?_) rfl (by kernel_rfl) (by kernel_rfl) (by kernel_rfl) (fun _ _ _ h => h) (Or.inl ⟨by rfl, ?_⟩) hS0 ?_
  rotate_left 1
  · intro W hW
    go_simp
    try with_reducible rfl
  simp only [Act.put, List.getElem_toArray, List.getElem_cons_zero, List.getElem_cons_succ, List.setIfInBounds_toArray, List.set_cons_zero, List.set_cons_succ]
  refine wpAnyH_take (i := 6) (v := .int .u16 n) rfl (by kernel_rfl) (by kernel_rfl) (by kernel_rfl) (fun _ _ _ h => h) ?_ hS0 ?_
  · exact Or.inl ⟨by rfl, fun W hW => by have e := HWN.out; go_simp⟩
  simp only [Act.put, List.getElem_toArray, List.getElem_cons_zero, List.getElem_cons_succ, List.setIfInBounds_toArray, List.set_cons_zero, List.set_cons_succ]
  refine wpAnyH_take (i := 7) (v := ?_) rfl (by kernel_rfl) (by kernel_rfl) (by kernel_rfl) (fun _ _ _ h => h) (Or.inl ⟨by rfl, ?_⟩) hS0 ?_
  rotate_left 1
  · intro W hW
    go_simp
    try with_reducible rfl
  simp only [Act.put, List.getElem_toArray, List.getElem_cons_zero, List.getElem_cons_succ, List.setIfInBounds_toArray, List.set_cons_zero, List.set_cons_succ]
  refine wpAnyH_take (i := 8) (v := ?_) rfl (by kernel_rfl) (by kernel_rfl) (by kernel_rfl) (fun _ _ _ h => h) (Or.inl ⟨by rfl, ?_⟩) hS0 ?_
  rotate_left 1
  · intro W hW
    have c0 := hW.2.c 2 _ rfl
    go_simp
    try with_reducible rfl
  simp only [Act.put, List.getElem_toArray, List.getElem_cons_zero, List.getElem_cons_succ, List.setIfInBounds_toArray, List.set_cons_zero, List.set_cons_succ]
  refine wpAnyH_take (i := 9) (v := .agg (inc lab n (f 2)).toArray) rfl (by kernel_rfl) (by kernel_rfl) (by kernel_rfl) (fun _ _ _ h => h) ?_ hS0 ?_
  · exact yields_bld3 (by rfl) 92 0 1 2 (.tmp 26) (.tmp 28) (.tmp 30) rfl (.int .u8 lab) (.int .u16 n) (.int .u16 (f 2)) rfl rfl rfl _ (Tryz.buildIno3 lab n (f 2))
  simp only [Act.put, List.getElem_toArray, List.getElem_cons_zero, List.getElem_cons_succ, List.setIfInBounds_toArray, List.set_cons_zero, List.set_cons_succ]
  refine wpAnyH_ready (rs := [10]) (by kernel_rfl) (by simp) (AllReadyH.cons rfl (fun KK hKK => ?_) AllReadyH.nil)
  refine step_store_mid rfl 92 _ _ rfl b 0 (inc lab n (f 2)).toArray rfl rfl (I6.out.there0 3 rfl) (sizeIno' _ _ _) (all_oneCell_toArray (inc_one _ _ _)) ?_
  rw [List.toList_toArray]
  have F7 := Lib.hid (I6.out.stored (inc lab n (f 2)) rfl)
  have hk7 : Kp w6 (w6.setCells b 0 (inc lab n (f 2))) b b := (Kp.refl _ _ _).setCells b 0 (.inl rfl) _
  have NBb : b ∉ [q, p, t, m, d, gg] := NB0.out
  have HG7 := Lib.hid (HG6.out.kp hk7 NBb)
  have HK7 := Lib.hid (HK6.out.fresh hk7 hwb.out)
  replace hS0 : (fun W => Vl W q (gpc t lab g p) ∧ Vl W b4 (ndc f)) (w6.setCells b 0 (inc lab n (f 2))) := ⟨HG7.out.gb, hS0.2.kp hk7 (by omega) (by omega)⟩
  obtain ⟨w7, hw7⟩ : ∃ x, w6.setCells b 0 (inc lab n (f 2)) = x := ⟨_, rfl⟩
  rw [hw7] at F7 HG7 HK7 hS0 ⊢
  clear hk7 hw7 I6 HG6 HK6 NBb
  refine hKK _ _ hS0 ?_
  intro _
  clear hKK KK
  try simp only [Act.put, List.getElem_toArray, List.getElem_cons_zero, List.getElem_cons_succ, List.setIfInBounds_toArray, List.set_cons_zero, List.set_cons_succ]
  refine wpAnyH_take (i := 11) (v := ?_) rfl (by kernel_rfl) (by kernel_rfl) (by kernel_rfl) (fun _ _ _ h => h) (Or.inl ⟨by rfl, ?_⟩) hS0 ?_
  rotate_left 1
  · intro W hW
    go_simp
    try with_reducible rfl
  simp only [Act.put, List.getElem_toArray, List.getElem_cons_zero, List.getElem_cons_succ, List.setIfInBounds_toArray, List.set_cons_zero, List.set_cons_succ]
  refine wpAnyH_done (by kernel_rfl) ?_ _
  clear hS0
  go_wp2_with fail
  exact bodyPost_ret_by (results_mid_tmp rfl _ _ b (inc lab n (f 2)) dI rfl F7.out.range0 HUI.out HDI.out (sizeIno _ _ _)) rfl ⟨rfl, HG7.out, HK7.out⟩
end Go.Proofs.YteaoabppppbkoaaGreatDoor

namespace Go.Proofs.YteaoabppppbkoaaGreatDoor
set_option linter.unusedSimpArgs false
set_option linter.unusedVariables false
open Go.RowKit Go.Maps

/-- which node is meant: of which label, its number, its generation; a record: of which node, the own directory -/
abbrev In := Nat × Nat × Nat
abbrev Rc := In × Nat
def ink (x : In) : List Value := [.int .u8 x.1, .int .u16 x.2.1, .int .u16 x.2.2]
def rcc (r : Rc) : List Value := [.int .u8 r.1.1, .int .u16 r.1.2.1, .int .u16 r.1.2.2, .int .u16 r.2]
def zR : Rc := ((0, 0, 0), 0)
def bdI (x : In) : Prop := x.1 < 256 ∧ x.2.1 < 65536 ∧ x.2.2 < 65536
def bdR (r : Rc) : Prop := bdI r.1 ∧ r.2 < 65536
/-- a record that may stand in a table -/
def okR (r : Rc) : Prop := bdR r ∧ 0 < r.1.2.1 ∧ 3 < r.2
theorem zR_bd : bdR zR := ⟨⟨by decide, by decide, by decide⟩, by decide⟩
theorem rcc_one (r : Rc) : ∀ v ∈ rcc r, v.oneCell' = true := by
  intro v hv
  simp only [rcc, List.mem_cons, List.not_mem_nil, or_false] at hv
  rcases hv with rfl | rfl | rfl | rfl <;> rfl
theorem ink_one (x : In) : ∀ v ∈ ink x, v.oneCell' = true := by
  intro v hv
  simp only [ink, List.mem_cons, List.not_mem_nil, or_false] at hv
  rcases hv with rfl | rfl | rfl <;> rfl
theorem Tryz.zeroRc : (Tryz.prog.info? 172).map (fun i => i.zero) = some (some (.agg (rcc zR).toArray)) := by kernel_rfl
theorem Tryz.isizeRc : (Tryz.prog.info? 172).map (·.size) = some 4 := by kernel_rfl
theorem sizeRc (r : Rc) : (Tryz.prog.info? 172).map (·.size) = some (rcc r).length := Tryz.isizeRc
theorem sizeIk (x : In) : (Tryz.prog.info? 92).map (·.size) = some (ink x).length := Tryz.isizeIno
theorem Tryz.descRc : ∃ d, Tryz.prog.underlying 172 = some d ∧ d.isRow = true := ⟨_, Tryz.underlying172, rfl⟩
theorem Tryz.infoRc : ∃ i, Tryz.prog.info? 172 = some i ∧ i.zero = some (.agg (rcc zR).toArray) ∧ i.size = 4 ∧ i.bytes = 8 := by
  have h : (Tryz.prog.info? 172).map (fun i => (i.zero, i.size, i.bytes)) = some (some (.agg (rcc zR).toArray), 4, 8) := by kernel_rfl
  obtain ⟨i, hi, he⟩ := Option.map_eq_some_iff.1 h
  simp only [Prod.mk.injEq] at he
  exact ⟨i, hi, he.1, he.2.1, he.2.2⟩
theorem Tryz.buildRc0 (w : World) : (Instr.build 172 #[]).run Tryz.prog w = .ok (.agg (rcc zR).toArray) w := by kernel_rfl
theorem Tryz.buildRc2 (a b c o : Int) (w : World) : (Instr.build 172 #[(0, .agg #[.int .u8 a, .int .u16 b, .int .u16 c]), (1, .int .u16 o)]).run Tryz.prog w = .ok (.agg #[.int .u8 a, .int .u16 b, .int .u16 c, .int .u16 o]) w := by kernel_rfl
theorem Tryz.buildIk3 (a b c : Int) (w : World) : (Instr.build 92 #[(0, .int .u8 a), (1, .int .u16 b), (2, .int .u16 c)]).run Tryz.prog w = .ok (.agg #[.int .u8 a, .int .u16 b, .int .u16 c]) w := by kernel_rfl
theorem Tryz.guardRc : Tryz.prog.eqGuardType Tryz.prog.depth 172 = false := by kernel_rfl
theorem Tryz.guardIk : Tryz.prog.eqGuardType Tryz.prog.depth 92 = false := by kernel_rfl
theorem Tryz.clRc : Tryz.prog.cellsOf 172 = 4 := by kernel_rfl
theorem Tryz.clIk : Tryz.prog.cellsOf 92 = 3 := by kernel_rfl
theorem Tryz.keyRc : Tryz.prog.keyTypeAt 3 172 = true := by kernel_rfl
theorem Tryz.keyIk : Tryz.prog.keyTypeAt 3 92 = true := by kernel_rfl
def ikl (x : In) : List Lit := [.int .u8 x.1, .int .u16 x.2.1, .int .u16 x.2.2]
def rcl (r : Rc) : List Lit := [.int .u8 r.1.1, .int .u16 r.1.2.1, .int .u16 r.1.2.2, .int .u16 r.2]
theorem ikl_is (x : In) (h : bdI x) : Tryz.prog.keyLits 4 92 (ink x) = some (ikl x) := by
  obtain ⟨h1, h2, h3⟩ := h
  have w0 := wf8 (x.1 : Int) ⟨by omega, by omega⟩
  have w1 := wf16 (x.2.1 : Int) ⟨by omega, by omega⟩
  have w2 := wf16 (x.2.2 : Int) ⟨by omega, by omega⟩
  simp [ink, ikl, Program.keyLits, Tryz.underlying92, Tryz.underlying5, Tryz.underlying36, Tryz.clIk, Tryz.cl5, Tryz.cl23, w0, w1, w2]
theorem rcl_is (r : Rc) (h : bdR r) : Tryz.prog.keyLits 4 172 (rcc r) = some (rcl r) := by
  obtain ⟨⟨h1, h2, h3⟩, h4⟩ := h
  have w0 := wf8 (r.1.1 : Int) ⟨by omega, by omega⟩
  have w1 := wf16 (r.1.2.1 : Int) ⟨by omega, by omega⟩
  have w2 := wf16 (r.1.2.2 : Int) ⟨by omega, by omega⟩
  have w3 := wf16 (r.2 : Int) ⟨by omega, by omega⟩
  simp [rcc, rcl, Program.keyLits, Tryz.underlying172, Tryz.underlying92, Tryz.underlying5, Tryz.underlying36, Tryz.clRc, Tryz.clIk, Tryz.cl5, Tryz.cl23, w0, w1, w2, w3]
  rw [if_pos (by decide)]
  rfl
theorem rcc_formed (r : Rc) : (Value.agg (rcc r).toArray).formed Tryz.prog 172 = true := by simp [Value.formed, Tryz.underlying172, Tryz.clRc, rcc]
theorem ink_formed (x : In) : (Value.agg (ink x).toArray).formed Tryz.prog 92 = true := by simp [Value.formed, Tryz.underlying92, Tryz.clIk, ink]
theorem ikl_inj (x y : In) : ikl x = ikl y ↔ x = y := by
  constructor
  · intro h
    simp only [ikl, List.cons.injEq, Lit.int.injEq, and_true, true_and] at h
    obtain ⟨a, b, c⟩ := x
    obtain ⟨a', b', c'⟩ := y
    obtain ⟨h1, h2, h3⟩ := h
    simp only [Prod.mk.injEq]
    exact ⟨Int.ofNat_inj.1 h1, Int.ofNat_inj.1 h2, Int.ofNat_inj.1 h3⟩
  · rintro rfl
    rfl
theorem rcl_inj (x y : Rc) : rcl x = rcl y ↔ x = y := by
  constructor
  · intro h
    simp only [rcl, List.cons.injEq, Lit.int.injEq, and_true, true_and] at h
    obtain ⟨⟨a, b, c⟩, o⟩ := x
    obtain ⟨⟨a', b', c'⟩, o'⟩ := y
    obtain ⟨h1, h2, h3, h4⟩ := h
    simp only [Prod.mk.injEq]
    exact ⟨⟨Int.ofNat_inj.1 h1, Int.ofNat_inj.1 h2, Int.ofNat_inj.1 h3⟩, Int.ofNat_inj.1 h4⟩
  · rintro rfl
    rfl
theorem eqRc (x y : Rc) (h1 : bdR x) (h2 : bdR y) (w : World) : (Op.equalIn 10000 172 (.agg (rcc x).toArray) (.agg (rcc y).toArray)).run Tryz.prog w = .ok (decide (x = y)) w := by
  obtain ⟨r, hr, hiff⟩ := run_equalIn_deep (P := Tryz.prog) 9997 3 172 Tryz.keyRc w 4 4 _ _ _ _ (rcc_formed x) (rcc_formed y) (rcl_is x h1) (rcl_is y h2)
  rw [show 9997 + 3 = 10000 from rfl] at hr
  rw [hr, show r = decide (x = y) from Bool.eq_iff_iff.2 (hiff.trans ((rcl_inj x y).trans decide_eq_true_iff.symm))]
theorem eqIk (x y : In) (h1 : bdI x) (h2 : bdI y) (w : World) : (Op.equalIn 10000 92 (.agg (ink x).toArray) (.agg (ink y).toArray)).run Tryz.prog w = .ok (decide (x = y)) w := by
  obtain ⟨r, hr, hiff⟩ := run_equalIn_deep (P := Tryz.prog) 9997 3 92 Tryz.keyIk w 4 4 _ _ _ _ (ink_formed x) (ink_formed y) (ikl_is x h1) (ikl_is y h2)
  rw [show 9997 + 3 = 10000 from rfl] at hr
  rw [hr, show r = decide (x = y) from Bool.eq_iff_iff.2 (hiff.trans ((ikl_inj x y).trans decide_eq_true_iff.symm))]
/-- is it what an empty place has? -/
def vacR (r : Rc) : Bool := decide (r = zR)
set_option maxHeartbeats 8000000 in
theorem ivacant_any (r : Rc) (h : bdR r) (w : World) : Calls Tryz.prog 78 #[.agg (rcc r).toArray] w fun x w' => x = .returned (.bool (vacR r)) ∧ Below w.heap.size w w' := by
  obtain ⟨d, hu, hd⟩ := Tryz.descRc
  have HU := Lib.hid hu
  have HD := Lib.hid hd
  have HE := Lib.hid (fun W => eqRc r zR h zR_bd W)
  unfold vacR
  obtain ⟨C, hC⟩ : ∃ C, decide (r = zR) = C := ⟨_, rfl⟩
  rw [hC] at HE ⊢
  clear hu hd hC h
  go_enter Tryz.func78, Tryz.ntmps78
  go_wp2_with (first | (refine wpList_box_list rfl 172 _ rfl (rcc r) rfl ?_; intro w1 F1 hb1 hz1; have HB1 := Lib.hid hb1; clear hb1 hz1) | (refine wpList_load_mid rfl 172 _ rfl w.heap.size 0 rfl (rcc r) d F1.out.range0 HU.out HD.out (sizeRc r) ?_) | (refine wpList_yields (.agg (rcc zR).toArray) (yields_bld0 (by rfl) 172 rfl _ Tryz.buildRc0) ?_) | (refine wpList_yields (.bool C) (yields_eql (by rfl) 172 172 _ _ rfl (rcc r).toArray (rcc zR).toArray rfl rfl C Tryz.guardRc (fun W _ => HE.out W)) ?_))
  go_ret
  exact ⟨rfl, HB1.out⟩
/-- may it be a record? -/
def rgtR (r : Rc) : Bool := decide (0 < r.1.2.1) && decide (3 < r.2)
set_option maxHeartbeats 8000000 in
theorem iright_any (r : Rc) (h : bdR r) (w : World) : Calls Tryz.prog 115 #[.agg (rcc r).toArray] w fun x w' => x = .returned (.bool (rgtR r)) ∧ Below w.heap.size w w' := by
  obtain ⟨⟨h1, h2, h3⟩, h4⟩ := h
  have hr : rgtR r = (decide (0 < r.1.2.1) && decide (3 < r.2)) := rfl
  obtain ⟨⟨a, b, c⟩, o⟩ := r
  simp only at h1 h2 h3 h4 hr
  obtain ⟨C, hC⟩ : ∃ C, rgtR ((a, b, c), o) = C := ⟨_, rfl⟩
  rw [hC] at hr ⊢
  have HR := Lib.hid hr
  have b0 : (0 : Int) ≤ b := by omega
  have o0 : (0 : Int) ≤ o := by omega
  clear hr hC h1 h2 h3 h4
  go_enter Tryz.func115, Tryz.ntmps115
  go_upto_region 1 with (first | (refine wpList_box_list (w := w) rfl 172 _ rfl (rcc ((a, b, c), o)) rfl ?_; intro w1 F1 hb1 hz1; have HB1 := Lib.hid hb1; clear hb1 hz1))
  have c1 := F1.out.c 1 _ rfl
  have c3 := F1.out.c 3 _ rfl
  by_cases hb : (0 : Int) < b
  · have hbb : 0 < b := by omega
    by_cases ho : (3 : Int) < o
    · have hoo : 3 < o := by omega
      go_wp2_with fail
      go_ret
      exact ⟨by rw [HR.out, decide_eq_true hbb, decide_eq_true hoo]; rfl, HB1.out⟩
    · have hoo : ¬ 3 < o := by omega
      go_wp2_with fail
      go_ret
      exact ⟨by rw [HR.out, decide_eq_true hbb, decide_eq_false hoo]; rfl, HB1.out⟩
  · have hbb : ¬ 0 < b := by omega
    go_wp2_with fail
    go_ret
    exact ⟨by rw [HR.out, decide_eq_false hbb]; rfl, HB1.out⟩
set_option maxHeartbeats 8000000 in
set_option maxRecDepth 100000 in
theorem inumber_any (sb so cap : Nat) (P : Nat → Int) (hP : ∀ j, j < 8 → 0 ≤ P j ∧ P j < 256) (k : Nat) (hk : k + 1 < 8) (z : Int) (hz : P k + P (k + 1) * 256 = z) (hc1 : 8 ≤ cap) (hc2 : cap ≤ 100000) (hso : so ≤ 100000) (w : World) (hS : Sb w sb so 8 P) : Calls Tryz.prog 149 #[.slice (some ⟨sb, so, none⟩) 8 cap, .int .i64 k] w fun e w' => e = .returned (.int .u16 z) ∧ Below w.heap.size w w' := by
  obtain ⟨h1, h2⟩ := hP k (by omega)
  obtain ⟨h3, h4⟩ := hP (k + 1) (by omega)
  obtain ⟨u, hu⟩ : ∃ u, P k = u := ⟨_, rfl⟩
  obtain ⟨v, hv⟩ : ∃ u, P (k + 1) = u := ⟨_, rfl⟩
  rw [hu] at h1 h2 hz
  rw [hv] at h3 h4 hz
  have hor := u16_or8 u (v * 256) h1 h2 (by omega) (by omega) (by omega)
  rw [hz] at hor
  have HOR := Lib.hid hor
  have HSH := Lib.hid (shl8 v h3 h4)
  have HUW := Lib.hid (wraps_u16 u h1 (by omega))
  have HVW := Lib.hid (wraps_u16 v h3 (by omega))
  have c0 := hS.c k (by omega)
  have c1 := hS.c (k + 1) hk
  rw [hu] at c0
  rw [hv] at c1
  have hk0 : (0 : Int) ≤ k := by omega
  have hk1 : (k : Int) + 1 < 8 := by omega
  have hk8 : (k : Int) < 8 := by omega
  have hkt : ((k : Int) + 1).toNat = k + 1 := by omega
  have hwr : IntKind.i64.wrap ((k : Int) + 1) = k + 1 := IntWalk.i64_in _ (by omega)
  clear hP hu hv hz hor hS
  go_enter Tryz.func149, Tryz.ntmps149
  go_upto_region 1 with fail
  have k1 := HOR.out
  have k2 := HSH.out
  have k3 := HUW.out
  have k4 := HVW.out
  go_quiet (fail)
  go_wp2_with fail
  go_ret
  exact ⟨rfl, Cf.below_drewN' (Below.refl _ _) _⟩
theorem Tryz.zeroA8 : (Tryz.prog.info? 267).map (fun i => i.zero) = some (some (.agg (byts 8 fun _ => 0).toArray)) := by kernel_rfl
theorem Tryz.arrA8 : Tryz.prog.underlying 267 = some (.array 8 5) := by kernel_rfl
theorem Tryz.isizeA8 : (Tryz.prog.info? 267).map (·.size) = some 8 := by kernel_rfl
theorem sizeA8 (f : Nat → Int) : (Tryz.prog.info? 267).map (·.size) = some (byts 8 f).length := by rw [byts_len]; exact Tryz.isizeA8
theorem sizeA8' (f : Nat → Int) : (Tryz.prog.info? 267).map (·.size) = some (byts 8 f).toArray.size := by rw [List.size_toArray]; exact sizeA8 f
set_option maxHeartbeats 8000000 in
set_option maxRecDepth 100000 in
theorem iputnum (g : Nat) (f : Nat → Int) (p : Nat) (hp : p + 1 < 8) (q : Nat) (hq : q < 65536) (w : World) (F : Fl w g 8 f) : Calls Tryz.prog 179 #[.pointer (some ⟨g, 0, none⟩), .int .i64 p, .int .u16 q] w fun e w' => e = .returned (.tuple #[]) ∧ Fl w' g 8 (putN f p q) ∧ Kp w w' g g := by
  have HF := Lib.hid F
  have q0 : (0 : Int) ≤ q := by omega
  have q1 : (q : Int) < 65536 := by omega
  clear F
  go_enter Tryz.func179, Tryz.ntmps179
  have hp0 : (0 : Int) ≤ p := by omega
  have hp1 : (p : Int) + 1 < 8 := by omega
  have hpt : ((p : Int) + 1).toNat = p + 1 := by omega
  have c0 := HF.out.c p (by omega)
  have z0 := HF.out.z p (by omega)
  go_upto_region 1 with fail
  have F1 := Lib.hid (HF.out.set p (by omega) (q % 256))
  have hk1 : Kp w (w.setCell ⟨g, p, none⟩ (.int .u8 (q % 256))) g g := (Kp.refl w g g).setA p _
  obtain ⟨w1, hw1⟩ : ∃ y, w.setCell ⟨g, p, none⟩ (.int .u8 ((q : Int) % 256)) = y := ⟨_, rfl⟩
  rw [hw1] at F1 hk1 ⊢
  clear hw1 c0 z0
  have HK1 := Lib.hid hk1
  clear hk1
  have hwr : IntKind.i64.wrap ((p : Int) + 1) = p + 1 := IntWalk.i64_in _ (by omega)
  have c1 := F1.out.c (p + 1) hp
  have z1 := F1.out.z (p + 1) hp
  go_wp2_with fail
  go_end0
  refine ⟨rfl, ?_, HK1.out.setA (p + 1) _⟩
  refine (F1.out.set (p + 1) hp (q / 256)).congr fun j hj => ?_
  unfold putN
  by_cases e1 : j = p + 1
  · rw [if_pos e1, if_pos e1]
    omega
  · rw [if_neg e1, if_neg e1]
/-- a record's bytes -/
def rcF (r : Rc) (j : Nat) : Int := if r = zR then 0 else if j = 0 then (r.1.1 : Int) else if j = 1 then 1 else if j = 2 then (r.1.2.1 : Int) % 256 else if j = 3 then (r.1.2.1 : Int) / 256 else if j = 4 then (r.1.2.2 : Int) % 256 else if j = 5 then (r.1.2.2 : Int) / 256 else if j = 6 then (r.2 : Int) % 256 else (r.2 : Int) / 256
theorem rcF_bd (r : Rc) (h : bdR r) (j : Nat) : 0 ≤ rcF r j ∧ rcF r j < 256 := by
  obtain ⟨⟨h1, h2, h3⟩, h4⟩ := h
  unfold rcF
  repeat' split
  all_goals omega
theorem rcF_zero (j : Nat) : rcF zR j = 0 := if_pos rfl
theorem rcF_num (r : Rc) : rcF r 0 = r.1.1 ∧ rcF r 2 + rcF r 3 * 256 = r.1.2.1 ∧ rcF r 4 + rcF r 5 * 256 = r.1.2.2 ∧ rcF r 6 + rcF r 7 * 256 = r.2 := by
  by_cases h : r = zR
  · subst h
    simp only [rcF_zero]
    exact ⟨rfl, rfl, rfl, rfl⟩
  · unfold rcF
    simp only [if_neg h]
    refine ⟨rfl, ?_, ?_, ?_⟩
    · show (r.1.2.1 : Int) % 256 + (r.1.2.1 : Int) / 256 * 256 = _
      omega
    · show (r.1.2.2 : Int) % 256 + (r.1.2.2 : Int) / 256 * 256 = _
      omega
    · show (r.2 : Int) % 256 + (r.2 : Int) / 256 * 256 = _
      omega
theorem rcF_mark (r : Rc) : rcF r 1 = if r = zR then 0 else 1 := by
  unfold rcF
  split <;> rfl
end Go.Proofs.YteaoabppppbkoaaGreatDoor

namespace Go.Proofs.YteaoabppppbkoaaGreatDoor
set_option linter.unusedSimpArgs false
set_option linter.unusedVariables false
open Go.ChangeShapes Go.WideShapes Go.ChangeAt Go.RowKit Go.Deep

set_option maxRecDepth 100000 in
theorem Tryz.own : ownKnob Tryz.prog.godebug = none := by kernel_rfl
set_option maxRecDepth 100000 in
theorem Tryz.laidOut : laidOutB Tryz.prog = true := by kernel_rfl
def litV : Lit → Value
  | .int k z => .int k z
  | .string bs => .string ⟨bs.toArray⟩
  | _ => undef
def oneV : DataW Unit → Value
  | .lit l => litV l
  | _ => undef
def rowV : DataW Unit → List Value
  | .agg ds => ds.map oneV
  | _ => []
def gridV : DataW Unit → List Value
  | .agg ds => ds.flatMap rowV
  | _ => []
def putTab (c : Array Value) : Obj → Obj
  | .cells _ t frozen => .cells c t frozen
  | o => o
noncomputable def laidWorld (os : Os) : World :=
  { World.holding Tryz.prog os ⟨#[], #[], []⟩ with heap := (((World.holding Tryz.prog os ⟨#[], #[], []⟩).heap.modify 0 (putTab (rowV Rows.laid_unicode_utf8_first).toArray)).modify 1 (putTab (gridV Rows.laid_unicode_utf8_acceptRanges).toArray)) }

theorem take_oneN {L : List Value} {i : Nat} {v : Value} (h : (L.drop i).take 1 = [v]) : L[i]? = some v := by
  have := congrArg (·[0]?) h
  simpa [List.getElem?_take, List.getElem?_drop] using this
theorem Tryz.cellsU16 : Tryz.prog.cellsOf 36 = 1 := by kernel_rfl
theorem Tryz.cellsIno : Tryz.prog.cellsOf 92 = 3 := by kernel_rfl
theorem trod_struct3 {H : Type} {enc : TypeId × Value → H} {P : Program} {w : World} {base : Nat} {spare : Nat → Bool} {held : Bool} {t : TypeId} {f0 f1 f2 : Field} {fuel : Nat} {cs : List Value} {x : DataW H × List MemPlace} (ht : P.underlying t = some (.struct #[f0, f1, f2])) (h : DataW.trod enc P w base spare held fuel t cs = some x) :
    ∃ y0 y1 y2 n, x = (.agg [y0.1, y1.1, y2.1], y0.2 ++ (y1.2 ++ y2.2)) ∧ cs.length = P.cellsOf t ∧ DataW.trod enc P w base spare held n f0.type ((cs.drop f0.offset).take (P.cellsOf f0.type)) = some y0 ∧
      DataW.trod enc P w base spare held n f1.type ((cs.drop f1.offset).take (P.cellsOf f1.type)) = some y1 ∧ DataW.trod enc P w base spare held n f2.type ((cs.drop f2.offset).take (P.cellsOf f2.type)) = some y2 := by
  obtain ⟨xs, n, _, rfl, hl, hlen, hf⟩ := DataW.trod_struct ht h
  match xs, hlen with
  | [y0, y1, y2], _ => exact ⟨y0, y1, y2, n, by simp, hl, by simpa using hf 0 f0 rfl, by simpa using hf 1 f1 rfl, by simpa using hf 2 f2 rfl⟩
set_option maxRecDepth 100000 in
/-- what a node's three cells hold -/
theorem ino_cells {H : Type} {enc : TypeId × Value → H} {W : World} {fuel : Nat} {L : List Value} {x : DataW H × List MemPlace}
    (hf : DataW.trod enc Tryz.prog W 0 (fun _ => true) true fuel 92 L = some x) : ∃ y : In, L = ink y ∧ bdI y := by
  obtain ⟨y0, y1, y2, n', -, hl3, t0, t1, t2⟩ := trod_struct3 Tryz.underlying92 hf
  simp only [Tryz.cells5, Tryz.cellsU16] at t0 t1 t2
  rw [Tryz.cellsIno] at hl3
  obtain ⟨z0, e0, -, w0⟩ := DataW.trod_int Tryz.underlying5 t0
  obtain ⟨z1, e1, -, w1⟩ := DataW.trod_int Tryz.underlying36 t1
  obtain ⟨z2, e2, -, w2⟩ := DataW.trod_int Tryz.underlying36 t2
  have g0 := take_oneN e0
  have g1 := take_oneN e1
  have g2 := take_oneN e2
  have b0' := bounds_u8 w0
  have b1' := bounds_u16 w1
  have b2' := bounds_u16 w2
  obtain ⟨n0, rfl⟩ := Int.eq_ofNat_of_zero_le b0'.1
  obtain ⟨n1, rfl⟩ := Int.eq_ofNat_of_zero_le b1'.1
  obtain ⟨n2, rfl⟩ := Int.eq_ofNat_of_zero_le b2'.1
  refine ⟨(n0, n1, n2), ?_, by show n0 < 256; omega, by show n1 < 65536; omega, by show n2 < 65536; omega⟩
  match L, hl3 with
  | [a0, a1, a2], _ =>
    simp only [List.getElem?_cons_succ, List.getElem?_cons_zero, Option.some.injEq] at g0 g1 g2
    subst g0 g1 g2
    rfl
set_option maxRecDepth 100000 in
theorem open_ino {H : Type} {enc : TypeId × Value → H} {W : World} {b0 : Nat} {v : Value} {d : DataW H} {p : List MemPlace} (hv : Value.okWide Tryz.prog W .any b0 92 v)
    (h : DataW.Trod enc Tryz.prog W 0 (fun _ => true) true 92 v d p) : ∃ y : In, v = .agg (ink y).toArray ∧ bdI y := by
  obtain ⟨cs, rfl, -⟩ := okWide_struct Tryz.underlying92 hv
  obtain ⟨fuel, hf⟩ := h
  have hc : (Value.agg cs).cells.toList = cs.toList := rfl
  rw [hc] at hf
  obtain ⟨y, hL, hb⟩ := ino_cells hf
  refine ⟨y, ?_, hb⟩
  rw [← hL]
end Go.Proofs.YteaoabppppbkoaaGreatDoor

namespace Go.Proofs.YteaoabppppbkoaaGreatDoor
set_option linter.unusedSimpArgs false
set_option linter.unusedVariables false
open Go.RowKit Go.Maps

set_option maxHeartbeats 40000000 in
set_option maxRecDepth 100000 in
theorem iunpack_ok (r : Rc) (h : r = zR ∨ okR r) (sb so cap : Nat) (hcap : 8 ≤ cap) (hc2 : cap ≤ 100000) (hso : so ≤ 100000) (w : World) (hS : Sb w sb so 8 (rcF r)) :
    Calls Tryz.prog 120 #[.slice (some ⟨sb, so, none⟩) 8 cap] w fun x w' => x = .returned (.tuple #[.agg (rcc r).toArray, .bool true]) ∧ Below w.heap.size w w' := by
  obtain ⟨d, hu, hd⟩ := Tryz.descRc
  have HU := Lib.hid hu
  have HD := Lib.hid hd
  have hbd : bdR r := by
    rcases h with rfl | h
    · exact zR_bd
    · exact h.1
  have HBd := Lib.hid (fun j (_ : j < 8) => rcF_bd r hbd j)
  have HVc := Lib.hid (fun W => ivacant_any r hbd W)
  have HRg := Lib.hid (fun W => iright_any r hbd W)
  have hm := rcF_mark r
  have hn := rcF_num r
  obtain ⟨P, hP⟩ : ∃ P, rcF r = P := ⟨_, rfl⟩
  rw [hP] at hS HBd hm hn
  obtain ⟨hn0, hn2, hn4, hn6⟩ := hn
  have HN2 := Lib.hid (fun W hW => inumber_any sb so cap P HBd.out 2 (by decide) _ hn2 hcap hc2 hso W hW)
  have HN4 := Lib.hid (fun W hW => inumber_any sb so cap P HBd.out 4 (by decide) _ hn4 hcap hc2 hso W hW)
  have HN6 := Lib.hid (fun W hW => inumber_any sb so cap P HBd.out 6 (by decide) _ hn6 hcap hc2 hso W hW)
  have HP0 := Lib.hid hn0
  have HH := Lib.hid h
  have HM := Lib.hid hm
  have hrc : rcc r = [.int .u8 r.1.1, .int .u16 r.1.2.1, .int .u16 r.1.2.2, .int .u16 r.2] := rfl
  obtain ⟨lb, hlb⟩ : ∃ x : Int, (r.1.1 : Int) = x := ⟨_, rfl⟩
  obtain ⟨nm, hnm⟩ : ∃ x : Int, (r.1.2.1 : Int) = x := ⟨_, rfl⟩
  obtain ⟨gn, hgn⟩ : ∃ x : Int, (r.1.2.2 : Int) = x := ⟨_, rfl⟩
  obtain ⟨ow, how⟩ : ∃ x : Int, (r.2 : Int) = x := ⟨_, rfl⟩
  rw [hlb, hnm, hgn, how] at hrc
  rw [hlb] at HP0
  rw [hnm] at HN2
  rw [hgn] at HN4
  rw [how] at HN6
  have HRc := Lib.hid hrc
  have HOne : Hid (∀ v ∈ [Value.int .u8 lb, .int .u16 nm, .int .u16 gn, .int .u16 ow], v.oneCell' = true) := Lib.hid (hrc ▸ rcc_one r)
  have HSb := Lib.hid hS
  have hcp : (8 : Int) ≤ cap := by omega
  clear hu hd h hbd hm hn0 hn2 hn4 hn6 hS hP hrc hlb hnm hgn how hcap hc2
  go_enter Tryz.func120, Tryz.ntmps120
  go_upto_region 3 with (first | (refine wpList_alloc_list (w := w) rfl 172 rfl (rcc zR) Tryz.zeroRc ?_; intro w1 F1 hb1 hz1; have HB1 := Lib.hid hb1; have hq1 : w.heap.size < w1.heap.size := (by omega); clear hb1 hz1))
  obtain ⟨b2, hb2⟩ : ∃ b, w.heap.size = b := ⟨_, rfl⟩
  have hsb : sb < b2 := by have := HSb.out.lt; omega
  have HSb1 := Lib.hid (HSb.out.keep HB1.out)
  rw [hb2] at F1 HB1 hq1
  try rw [hb2]
  have HW := Lib.hid hb2
  clear hb2 HSb
  go_cut [4] (fun x wc => ∃ b6, x = .pointer (some ⟨b6, 0, none⟩) ∧ b2 < b6 ∧ Vl wc b6 (rcc r) ∧ Sb wc sb so 8 P ∧ Vl wc b2 (rcc zR) ∧ Below b2 w wc)
  case first =>
    refine wp_region_held (S := fun W => Sb W sb so 8 P) (by kernel_rfl) ?_
    change wpAnyH _ _ _ _ _ _ _ _ (World.drew _)
    have hS0 : (fun W => Sb W sb so 8 P) w1.drew := HSb1.out.keep (Below.refl _ _).drew
    have HF2 := Lib.hid (F1.out.keep (Below.refl _ _).drew)
    have HB := Lib.hid HB1.out.drew
    have HZ : Hid (b2 < (World.drew w1).heap.size) := Lib.hid hq1
    obtain ⟨v0, hv0⟩ : ∃ x, World.drew w1 = x := ⟨_, rfl⟩
    rw [hv0] at hS0 HF2 HB HZ ⊢
    clear hv0 F1 HB1 hq1 HSb1
    refine wpAnyH_take (i := 0) (v := ?_) rfl (by kernel_rfl) (by kernel_rfl) (by kernel_rfl) (fun _ _ _ h => h) (Or.inl ⟨by rfl, ?_⟩) hS0 ?_
    rotate_left 1
    · intro W hW
      go_simp
      try with_reducible rfl
    simp only [Act.put, List.getElem_toArray, List.getElem_cons_zero, List.getElem_cons_succ, List.setIfInBounds_toArray, List.set_cons_zero, List.set_cons_succ]
    refine wpAnyH_take (i := 1) (v := ?_) rfl (by kernel_rfl) (by kernel_rfl) (by kernel_rfl) (fun _ _ _ h => h) (Or.inl ⟨by rfl, ?_⟩) hS0 ?_
    rotate_left 1
    · intro W hW
      go_simp
      try with_reducible rfl
    simp only [Act.put, List.getElem_toArray, List.getElem_cons_zero, List.getElem_cons_succ, List.setIfInBounds_toArray, List.set_cons_zero, List.set_cons_succ]
    refine wpAnyH_take (i := 2) (v := ?_) rfl (by kernel_rfl) (by kernel_rfl) (by kernel_rfl) (fun _ _ _ h => h) (Or.inl ⟨by rfl, ?_⟩) hS0 ?_
    rotate_left 1
    · intro W hW
      have c0 : W.cell? ⟨sb, so, none⟩ = some (.int .u8 lb) := by
        have := hW.c 0 (by decide)
        rw [HP0.out] at this
        exact this
      go_simp
      try with_reducible rfl
    simp only [Act.put, List.getElem_toArray, List.getElem_cons_zero, List.getElem_cons_succ, List.setIfInBounds_toArray, List.set_cons_zero, List.set_cons_succ]
    refine wpAnyH_take (i := 3) (v := ?_) rfl (by kernel_rfl) (by kernel_rfl) (by kernel_rfl) (fun _ _ _ h => h) (Or.inl ⟨by rfl, ?_⟩) hS0 ?_
    rotate_left 1
    · intro W hW
      go_simp
      try with_reducible rfl
    simp only [Act.put, List.getElem_toArray, List.getElem_cons_zero, List.getElem_cons_succ, List.setIfInBounds_toArray, List.set_cons_zero, List.set_cons_succ]
    refine wpAnyH_take (i := 5) (v := ?_) rfl (by kernel_rfl) (by kernel_rfl) (by kernel_rfl) (fun _ _ _ h => h) (Or.inl ⟨by rfl, ?_⟩) hS0 ?_
    rotate_left 1
    · intro W hW
      go_simp
      try with_reducible rfl
    simp only [Act.put, List.getElem_toArray, List.getElem_cons_zero, List.getElem_cons_succ, List.setIfInBounds_toArray, List.set_cons_zero, List.set_cons_succ]
    refine wpAnyH_take (i := 8) (v := ?_) rfl (by kernel_rfl) (by kernel_rfl) (by kernel_rfl) (fun _ _ _ h => h) (Or.inl ⟨by rfl, ?_⟩) hS0 ?_
    rotate_left 1
    · intro W hW
      go_simp
      try with_reducible rfl
    simp only [Act.put, List.getElem_toArray, List.getElem_cons_zero, List.getElem_cons_succ, List.setIfInBounds_toArray, List.set_cons_zero, List.set_cons_succ]
    refine wpAnyH_ready (rs := [4, 11]) (by kernel_rfl) (by simp) (AllReadyH.cons rfl (fun KK hKK => ?_) (AllReadyH.cons rfl (fun KK hKK => ?_) AllReadyH.nil))
    focus
     go_simp
     refine (HN2.out v0 hS0).mono ?_
     rintro e v1 ⟨rfl, hb⟩
     replace hS0 : (fun W => Sb W sb so 8 P) v1 := hS0.keep hb
     replace HF2 := Lib.hid (HF2.out.keep hb)
     replace HB := Lib.hid (HB.out.trans (hb.mono (Nat.le_of_lt HZ.out)))
     replace HZ := Lib.hid (Nat.lt_of_lt_of_le HZ.out hb.size)
     clear hb
     refine hKK _ _ hS0 ?_
     intro _
     clear hKK KK
     try simp only [Act.put, List.getElem_toArray, List.getElem_cons_zero, List.getElem_cons_succ, List.setIfInBounds_toArray, List.set_cons_zero, List.set_cons_succ]
     refine wpAnyH_ready (rs := [6, 11]) (by kernel_rfl) (by simp) (AllReadyH.cons rfl (fun KK hKK => ?_) (AllReadyH.cons rfl (fun KK hKK => ?_) AllReadyH.nil))
     focus
      go_simp
      refine (HN4.out v1 hS0).mono ?_
      rintro e v2 ⟨rfl, hb⟩
      replace hS0 : (fun W => Sb W sb so 8 P) v2 := hS0.keep hb
      replace HF2 := Lib.hid (HF2.out.keep hb)
      replace HB := Lib.hid (HB.out.trans (hb.mono (Nat.le_of_lt HZ.out)))
      replace HZ := Lib.hid (Nat.lt_of_lt_of_le HZ.out hb.size)
      clear hb
      refine hKK _ _ hS0 ?_
      intro _
      clear hKK KK
      try simp only [Act.put, List.getElem_toArray, List.getElem_cons_zero, List.getElem_cons_succ, List.setIfInBounds_toArray, List.set_cons_zero, List.set_cons_succ]
      refine wpAnyH_take (i := 7) (v := .agg #[.int .u8 lb, .int .u16 nm, .int .u16 gn]) rfl (by kernel_rfl) (by kernel_rfl) (by kernel_rfl) (fun _ _ _ h => h) ?_ hS0 ?_
      · exact yields_bld3 (by rfl) 92 0 1 2 (.tmp 11) (.tmp 13) (.tmp 15) rfl (.int .u8 lb) (.int .u16 nm) (.int .u16 gn) rfl rfl rfl _ (Tryz.buildIk3 lb nm gn)
      simp only [Act.put, List.getElem_toArray, List.getElem_cons_zero, List.getElem_cons_succ, List.setIfInBounds_toArray, List.set_cons_zero, List.set_cons_succ]
      refine wpAnyH_ready (rs := [9, 11]) (by kernel_rfl) (by simp) (AllReadyH.cons rfl (fun KK hKK => ?_) (AllReadyH.cons rfl (fun KK hKK => ?_) AllReadyH.nil))
      focus
       go_simp
       refine (HN6.out v2 hS0).mono ?_
       rintro e v3 ⟨rfl, hb⟩
       replace hS0 : (fun W => Sb W sb so 8 P) v3 := hS0.keep hb
       replace HF2 := Lib.hid (HF2.out.keep hb)
       replace HB := Lib.hid (HB.out.trans (hb.mono (Nat.le_of_lt HZ.out)))
       replace HZ := Lib.hid (Nat.lt_of_lt_of_le HZ.out hb.size)
       clear hb
       refine hKK _ _ hS0 ?_
       intro _
       clear hKK KK
       try simp only [Act.put, List.getElem_toArray, List.getElem_cons_zero, List.getElem_cons_succ, List.setIfInBounds_toArray, List.set_cons_zero, List.set_cons_succ]
       refine wpAnyH_take (i := 10) (v := .agg #[.int .u8 lb, .int .u16 nm, .int .u16 gn, .int .u16 ow]) rfl (by kernel_rfl) (by kernel_rfl) (by kernel_rfl) (fun _ _ _ h => h) ?_ hS0 ?_
       · exact yields_bld2 (by rfl) 172 0 1 (.tmp 16) (.tmp 18) rfl (.agg #[.int .u8 lb, .int .u16 nm, .int .u16 gn]) (.int .u16 ow) rfl rfl _ (Tryz.buildRc2 lb nm gn ow)
       simp only [Act.put, List.getElem_toArray, List.getElem_cons_zero, List.getElem_cons_succ, List.setIfInBounds_toArray, List.set_cons_zero, List.set_cons_succ]
       refine wpAnyH_ready (rs := [11]) (by kernel_rfl) (by simp) (AllReadyH.cons rfl (fun KK hKK => ?_) AllReadyH.nil)
       refine step_alloc_list rfl 172 (rcc zR) rfl Tryz.zeroRc ?_
       intro v4 FA hb hz
       obtain ⟨b6, hb6⟩ : ∃ b6, v3.heap.size = b6 := ⟨_, rfl⟩
       have hb26 : b2 < b6 := hb6 ▸ HZ.out
       rw [hb6] at FA
       try rw [hb6]
       clear hz hb6
       replace hS0 : (fun W => Sb W sb so 8 P) v4 := hS0.keep hb
       replace HF2 := Lib.hid (HF2.out.keep hb)
       replace HB := Lib.hid (HB.out.trans (hb.mono (Nat.le_of_lt HZ.out)))
       replace HZ := Lib.hid (Nat.lt_of_lt_of_le HZ.out hb.size)
       have HA := Lib.hid FA
       clear FA hb
       refine hKK _ _ hS0 ?_
       intro _
       clear hKK KK
       try simp only [Act.put, List.getElem_toArray, List.getElem_cons_zero, List.getElem_cons_succ, List.setIfInBounds_toArray, List.set_cons_zero, List.set_cons_succ]
       skip
      rotate_left 1
      focus
       refine step_alloc_list rfl 172 (rcc zR) rfl Tryz.zeroRc ?_
       intro v3 FA hb hz
       obtain ⟨b6, hb6⟩ : ∃ b6, v2.heap.size = b6 := ⟨_, rfl⟩
       have hb26 : b2 < b6 := hb6 ▸ HZ.out
       rw [hb6] at FA
       try rw [hb6]
       clear hz hb6
       replace hS0 : (fun W => Sb W sb so 8 P) v3 := hS0.keep hb
       replace HF2 := Lib.hid (HF2.out.keep hb)
       replace HB := Lib.hid (HB.out.trans (hb.mono (Nat.le_of_lt HZ.out)))
       replace HZ := Lib.hid (Nat.lt_of_lt_of_le HZ.out hb.size)
       have HA := Lib.hid FA
       clear FA hb
       refine hKK _ _ hS0 ?_
       intro _
       clear hKK KK
       try simp only [Act.put, List.getElem_toArray, List.getElem_cons_zero, List.getElem_cons_succ, List.setIfInBounds_toArray, List.set_cons_zero, List.set_cons_succ]
       refine wpAnyH_ready (rs := [9]) (by kernel_rfl) (by simp) (AllReadyH.cons rfl (fun KK hKK => ?_) AllReadyH.nil)
       go_simp
       refine (HN6.out v3 hS0).mono ?_
       rintro e v4 ⟨rfl, hb⟩
       replace hS0 : (fun W => Sb W sb so 8 P) v4 := hS0.keep hb
       replace HF2 := Lib.hid (HF2.out.keep hb)
       replace HB := Lib.hid (HB.out.trans (hb.mono (Nat.le_of_lt HZ.out)))
       replace HZ := Lib.hid (Nat.lt_of_lt_of_le HZ.out hb.size)
       replace HA := Lib.hid (HA.out.keep hb)
       clear hb
       refine hKK _ _ hS0 ?_
       intro _
       clear hKK KK
       try simp only [Act.put, List.getElem_toArray, List.getElem_cons_zero, List.getElem_cons_succ, List.setIfInBounds_toArray, List.set_cons_zero, List.set_cons_succ]
       refine wpAnyH_take (i := 10) (v := .agg #[.int .u8 lb, .int .u16 nm, .int .u16 gn, .int .u16 ow]) rfl (by kernel_rfl) (by kernel_rfl) (by kernel_rfl) (fun _ _ _ h => h) ?_ hS0 ?_
       · exact yields_bld2 (by rfl) 172 0 1 (.tmp 16) (.tmp 18) rfl (.agg #[.int .u8 lb, .int .u16 nm, .int .u16 gn]) (.int .u16 ow) rfl rfl _ (Tryz.buildRc2 lb nm gn ow)
       simp only [Act.put, List.getElem_toArray, List.getElem_cons_zero, List.getElem_cons_succ, List.setIfInBounds_toArray, List.set_cons_zero, List.set_cons_succ]
       skip
      rotate_left 1
     rotate_left 2
     focus
      refine step_alloc_list rfl 172 (rcc zR) rfl Tryz.zeroRc ?_
      intro v2 FA hb hz
      obtain ⟨b6, hb6⟩ : ∃ b6, v1.heap.size = b6 := ⟨_, rfl⟩
      have hb26 : b2 < b6 := hb6 ▸ HZ.out
      rw [hb6] at FA
      try rw [hb6]
      clear hz hb6
      replace hS0 : (fun W => Sb W sb so 8 P) v2 := hS0.keep hb
      replace HF2 := Lib.hid (HF2.out.keep hb)
      replace HB := Lib.hid (HB.out.trans (hb.mono (Nat.le_of_lt HZ.out)))
      replace HZ := Lib.hid (Nat.lt_of_lt_of_le HZ.out hb.size)
      have HA := Lib.hid FA
      clear FA hb
      refine hKK _ _ hS0 ?_
      intro _
      clear hKK KK
      try simp only [Act.put, List.getElem_toArray, List.getElem_cons_zero, List.getElem_cons_succ, List.setIfInBounds_toArray, List.set_cons_zero, List.set_cons_succ]
      refine wpAnyH_ready (rs := [6]) (by kernel_rfl) (by simp) (AllReadyH.cons rfl (fun KK hKK => ?_) AllReadyH.nil)
      go_simp
      refine (HN4.out v2 hS0).mono ?_
      rintro e v3 ⟨rfl, hb⟩
      replace hS0 : (fun W => Sb W sb so 8 P) v3 := hS0.keep hb
      replace HF2 := Lib.hid (HF2.out.keep hb)
      replace HB := Lib.hid (HB.out.trans (hb.mono (Nat.le_of_lt HZ.out)))
      replace HZ := Lib.hid (Nat.lt_of_lt_of_le HZ.out hb.size)
      replace HA := Lib.hid (HA.out.keep hb)
      clear hb
      refine hKK _ _ hS0 ?_
      intro _
      clear hKK KK
      try simp only [Act.put, List.getElem_toArray, List.getElem_cons_zero, List.getElem_cons_succ, List.setIfInBounds_toArray, List.set_cons_zero, List.set_cons_succ]
      refine wpAnyH_take (i := 7) (v := .agg #[.int .u8 lb, .int .u16 nm, .int .u16 gn]) rfl (by kernel_rfl) (by kernel_rfl) (by kernel_rfl) (fun _ _ _ h => h) ?_ hS0 ?_
      · exact yields_bld3 (by rfl) 92 0 1 2 (.tmp 11) (.tmp 13) (.tmp 15) rfl (.int .u8 lb) (.int .u16 nm) (.int .u16 gn) rfl rfl rfl _ (Tryz.buildIk3 lb nm gn)
      simp only [Act.put, List.getElem_toArray, List.getElem_cons_zero, List.getElem_cons_succ, List.setIfInBounds_toArray, List.set_cons_zero, List.set_cons_succ]
      refine wpAnyH_ready (rs := [9]) (by kernel_rfl) (by simp) (AllReadyH.cons rfl (fun KK hKK => ?_) AllReadyH.nil)
      go_simp
      refine (HN6.out v3 hS0).mono ?_
      rintro e v4 ⟨rfl, hb⟩
      replace hS0 : (fun W => Sb W sb so 8 P) v4 := hS0.keep hb
      replace HF2 := Lib.hid (HF2.out.keep hb)
      replace HB := Lib.hid (HB.out.trans (hb.mono (Nat.le_of_lt HZ.out)))
      replace HZ := Lib.hid (Nat.lt_of_lt_of_le HZ.out hb.size)
      replace HA := Lib.hid (HA.out.keep hb)
      clear hb
      refine hKK _ _ hS0 ?_
      intro _
      clear hKK KK
      try simp only [Act.put, List.getElem_toArray, List.getElem_cons_zero, List.getElem_cons_succ, List.setIfInBounds_toArray, List.set_cons_zero, List.set_cons_succ]
      refine wpAnyH_take (i := 10) (v := .agg #[.int .u8 lb, .int .u16 nm, .int .u16 gn, .int .u16 ow]) rfl (by kernel_rfl) (by kernel_rfl) (by kernel_rfl) (fun _ _ _ h => h) ?_ hS0 ?_
      · exact yields_bld2 (by rfl) 172 0 1 (.tmp 16) (.tmp 18) rfl (.agg #[.int .u8 lb, .int .u16 nm, .int .u16 gn]) (.int .u16 ow) rfl rfl _ (Tryz.buildRc2 lb nm gn ow)
      simp only [Act.put, List.getElem_toArray, List.getElem_cons_zero, List.getElem_cons_succ, List.setIfInBounds_toArray, List.set_cons_zero, List.set_cons_succ]
      skip
     rotate_left 1
    rotate_left 3
    focus
     refine step_alloc_list rfl 172 (rcc zR) rfl Tryz.zeroRc ?_
     intro v1 FA hb hz
     obtain ⟨b6, hb6⟩ : ∃ b6, v0.heap.size = b6 := ⟨_, rfl⟩
     have hb26 : b2 < b6 := hb6 ▸ HZ.out
     rw [hb6] at FA
     try rw [hb6]
     clear hz hb6
     replace hS0 : (fun W => Sb W sb so 8 P) v1 := hS0.keep hb
     replace HF2 := Lib.hid (HF2.out.keep hb)
     replace HB := Lib.hid (HB.out.trans (hb.mono (Nat.le_of_lt HZ.out)))
     replace HZ := Lib.hid (Nat.lt_of_lt_of_le HZ.out hb.size)
     have HA := Lib.hid FA
     clear FA hb
     refine hKK _ _ hS0 ?_
     intro _
     clear hKK KK
     try simp only [Act.put, List.getElem_toArray, List.getElem_cons_zero, List.getElem_cons_succ, List.setIfInBounds_toArray, List.set_cons_zero, List.set_cons_succ]
     refine wpAnyH_ready (rs := [4]) (by kernel_rfl) (by simp) (AllReadyH.cons rfl (fun KK hKK => ?_) AllReadyH.nil)
     go_simp
     refine (HN2.out v1 hS0).mono ?_
     rintro e v2 ⟨rfl, hb⟩
     replace hS0 : (fun W => Sb W sb so 8 P) v2 := hS0.keep hb
     replace HF2 := Lib.hid (HF2.out.keep hb)
     replace HB := Lib.hid (HB.out.trans (hb.mono (Nat.le_of_lt HZ.out)))
     replace HZ := Lib.hid (Nat.lt_of_lt_of_le HZ.out hb.size)
     replace HA := Lib.hid (HA.out.keep hb)
     clear hb
     refine hKK _ _ hS0 ?_
     intro _
     clear hKK KK
     try simp only [Act.put, List.getElem_toArray, List.getElem_cons_zero, List.getElem_cons_succ, List.setIfInBounds_toArray, List.set_cons_zero, List.set_cons_succ]
     refine wpAnyH_ready (rs := [6]) (by kernel_rfl) (by simp) (AllReadyH.cons rfl (fun KK hKK => ?_) AllReadyH.nil)
     go_simp
     refine (HN4.out v2 hS0).mono ?_
     rintro e v3 ⟨rfl, hb⟩
     replace hS0 : (fun W => Sb W sb so 8 P) v3 := hS0.keep hb
     replace HF2 := Lib.hid (HF2.out.keep hb)
     replace HB := Lib.hid (HB.out.trans (hb.mono (Nat.le_of_lt HZ.out)))
     replace HZ := Lib.hid (Nat.lt_of_lt_of_le HZ.out hb.size)
     replace HA := Lib.hid (HA.out.keep hb)
     clear hb
     refine hKK _ _ hS0 ?_
     intro _
     clear hKK KK
     try simp only [Act.put, List.getElem_toArray, List.getElem_cons_zero, List.getElem_cons_succ, List.setIfInBounds_toArray, List.set_cons_zero, List.set_cons_succ]
     refine wpAnyH_take (i := 7) (v := .agg #[.int .u8 lb, .int .u16 nm, .int .u16 gn]) rfl (by kernel_rfl) (by kernel_rfl) (by kernel_rfl) (fun _ _ _ h => h) ?_ hS0 ?_
     · exact yields_bld3 (by rfl) 92 0 1 2 (.tmp 11) (.tmp 13) (.tmp 15) rfl (.int .u8 lb) (.int .u16 nm) (.int .u16 gn) rfl rfl rfl _ (Tryz.buildIk3 lb nm gn)
     simp only [Act.put, List.getElem_toArray, List.getElem_cons_zero, List.getElem_cons_succ, List.setIfInBounds_toArray, List.set_cons_zero, List.set_cons_succ]
     refine wpAnyH_ready (rs := [9]) (by kernel_rfl) (by simp) (AllReadyH.cons rfl (fun KK hKK => ?_) AllReadyH.nil)
     go_simp
     refine (HN6.out v3 hS0).mono ?_
     rintro e v4 ⟨rfl, hb⟩
     replace hS0 : (fun W => Sb W sb so 8 P) v4 := hS0.keep hb
     replace HF2 := Lib.hid (HF2.out.keep hb)
     replace HB := Lib.hid (HB.out.trans (hb.mono (Nat.le_of_lt HZ.out)))
     replace HZ := Lib.hid (Nat.lt_of_lt_of_le HZ.out hb.size)
     replace HA := Lib.hid (HA.out.keep hb)
     clear hb
     refine hKK _ _ hS0 ?_
     intro _
     clear hKK KK
     try simp only [Act.put, List.getElem_toArray, List.getElem_cons_zero, List.getElem_cons_succ, List.setIfInBounds_toArray, List.set_cons_zero, List.set_cons_succ]
     refine wpAnyH_take (i := 10) (v := .agg #[.int .u8 lb, .int .u16 nm, .int .u16 gn, .int .u16 ow]) rfl (by kernel_rfl) (by kernel_rfl) (by kernel_rfl) (fun _ _ _ h => h) ?_ hS0 ?_
     · exact yields_bld2 (by rfl) 172 0 1 (.tmp 16) (.tmp 18) rfl (.agg #[.int .u8 lb, .int .u16 nm, .int .u16 gn]) (.int .u16 ow) rfl rfl _ (Tryz.buildRc2 lb nm gn ow)
     simp only [Act.put, List.getElem_toArray, List.getElem_cons_zero, List.getElem_cons_succ, List.setIfInBounds_toArray, List.set_cons_zero, List.set_cons_succ]
     skip
    rotate_left 1
    all_goals
      refine wpAnyH_ready (rs := [12]) (by kernel_rfl) (by simp) (AllReadyH.cons rfl (fun KK hKK => ?_) AllReadyH.nil)
      refine step_store_mid rfl 172 _ _ rfl b6 0 #[.int .u8 lb, .int .u16 nm, .int .u16 gn, .int .u16 ow] rfl rfl (HA.out.there0 4 rfl) Tryz.isizeRc (all_oneCell_toArray HOne.out) ?_
      rw [List.toList_toArray]
      have HA6 := Lib.hid (HA.out.stored [.int .u8 lb, .int .u16 nm, .int .u16 gn, .int .u16 ow] rfl)
      have hk6 : Kp v4 (v4.setCells b6 0 [.int .u8 lb, .int .u16 nm, .int .u16 gn, .int .u16 ow]) b6 b6 := (Kp.refl _ _ _).setCells b6 0 (.inl rfl) _
      have HF6 := Lib.hid (HF2.out.kp hk6 (by omega) (by omega))
      have HB6 := Lib.hid (HB.out.trans (hk6.below (by omega) (by omega) (Nat.le_of_lt HZ.out)))
      replace hS0 : (fun W => Sb W sb so 8 P) (v4.setCells b6 0 [.int .u8 lb, .int .u16 nm, .int .u16 gn, .int .u16 ow]) := hS0.kp hk6 (by omega)
      obtain ⟨v5, hv5⟩ : ∃ x, v4.setCells b6 0 [.int .u8 lb, .int .u16 nm, .int .u16 gn, .int .u16 ow] = x := ⟨_, rfl⟩
      rw [hv5] at HA6 HF6 HB6 hS0 ⊢
      clear hk6 hv5 HA HF2 HB HZ
      refine hKK _ _ hS0 ?_
      intro _
      clear hKK KK
      try simp only [Act.put, List.getElem_toArray, List.getElem_cons_zero, List.getElem_cons_succ, List.setIfInBounds_toArray, List.set_cons_zero, List.set_cons_succ]
      refine wpAnyH_done (by kernel_rfl) ?_ _
      go_wp2_with fail
      go_meet
      case rel => exact ⟨b6, rfl, hb26, HRc.out ▸ HA6.out, hS0, HF6.out, HB6.out⟩
  case rest =>
    obtain ⟨b6, rfl, hb26, hA, hS, hF, hB⟩ := hcut
    obtain ⟨wY, rfl⟩ : ∃ x, x = wc := ⟨wc, rfl⟩
    have HA := Lib.hid hA
    have HS := Lib.hid hS
    have HF := Lib.hid hF
    have HB := Lib.hid hB
    have h6lt := hA.lt
    have HRA := Lib.hid hA.range0
    clear hA hS hF hB F1 HB1 hq1 HSb1
    by_cases hz : r = zR
    · have m1 : P 1 = 0 := by rw [HM.out, if_pos hz]
      have c1 := HS.out.c 1 (by decide)
      rw [m1] at c1
      have hv : vacR r = true := decide_eq_true hz
      rw [hv] at HVc
      clear m1 hv hz
      go_wp2_with (refine wpList_yields (.agg (rcc r).toArray) (yieldsIf_load_mid (by rfl) 172 _ rfl b6 0 rfl (rcc r) d (fun W hW => (hW ▸ HRA.out : W.rangeAt b6 0 (rcc r))) HU.out HD.out (sizeRc r)) ?_)
      refine (HVc.out _).mono ?_
      rintro e w7 ⟨rfl, hb⟩
      have HA7 := Lib.hid (HA.out.keep hb)
      have HF7 := Lib.hid (HF.out.keep hb)
      have HB7 := Lib.hid (HB.out.trans (hb.mono (Nat.le_trans (Nat.le_of_lt hb26) (Nat.le_of_lt h6lt))))
      have HR7 := Lib.hid HA7.out.range0
      clear hb HA HF HB HRA c1
      go_wp2_with (first | (refine wpList_load_mid rfl 172 _ rfl b6 0 rfl (rcc r) d HR7.out HU.out HD.out (sizeRc r) ?_) | (refine wpList_store_list rfl 172 (.tmp 2) (.tmp 28) rfl b2 (rcc zR) (rcc r) rfl rfl HF7.out rfl (sizeRc _) (rcc_one _) ?_; intro w8 F8 HK8))
      exact bodyPost_ret_by (results_mid_tmp rfl _ _ b2 (rcc r) d rfl F8.out.range0 HU.out HD.out (sizeRc r)) rfl ⟨rfl, by rw [HW.out]; exact HB7.out.trans (HK8.out.below (Nat.le_refl _) (Nat.le_refl _) (Nat.le_of_lt HF7.out.lt))⟩
    · have m1 : P 1 = 1 := by rw [HM.out, if_neg hz]
      have c1 := HS.out.c 1 (by decide)
      rw [m1] at c1
      have hok := HH.out.resolve_left hz
      have hv : rgtR r = true := by unfold rgtR; rw [decide_eq_true hok.2.1, decide_eq_true hok.2.2]; rfl
      rw [hv] at HRg
      clear m1 hv hz hok
      go_wp2_with (refine wpList_yields (.agg (rcc r).toArray) (yieldsIf_load_mid (by rfl) 172 _ rfl b6 0 rfl (rcc r) d (fun W hW => (hW ▸ HRA.out : W.rangeAt b6 0 (rcc r))) HU.out HD.out (sizeRc r)) ?_)
      refine (HRg.out _).mono ?_
      rintro e w7 ⟨rfl, hb⟩
      have HA7 := Lib.hid (HA.out.keep hb)
      have HF7 := Lib.hid (HF.out.keep hb)
      have HB7 := Lib.hid (HB.out.trans (hb.mono (Nat.le_trans (Nat.le_of_lt hb26) (Nat.le_of_lt h6lt))))
      have HR7 := Lib.hid HA7.out.range0
      clear hb HA HF HB HRA c1
      go_wp2_with (first | (refine wpList_load_mid rfl 172 _ rfl b6 0 rfl (rcc r) d HR7.out HU.out HD.out (sizeRc r) ?_) | (refine wpList_store_list rfl 172 (.tmp 2) (.tmp 39) rfl b2 (rcc zR) (rcc r) rfl rfl HF7.out rfl (sizeRc _) (rcc_one _) ?_; intro w8 F8 HK8))
      exact bodyPost_ret_by (results_mid_tmp rfl _ _ b2 (rcc r) d rfl F8.out.range0 HU.out HD.out (sizeRc r)) rfl ⟨rfl, by rw [HW.out]; exact HB7.out.trans (HK8.out.below (Nat.le_refl _) (Nat.le_refl _) (Nat.le_of_lt HF7.out.lt))⟩
end Go.Proofs.YteaoabppppbkoaaGreatDoor

namespace Go.Proofs.YteaoabppppbkoaaGreatDoor
set_option linter.unusedSimpArgs false
set_option linter.unusedVariables false
open Go.RowKit Go.Maps

end Go.Proofs.YteaoabppppbkoaaGreatDoor

namespace Go.Proofs.YteaoabppppbkoaaGreatDoor
set_option linter.unusedSimpArgs false
set_option linter.unusedVariables false
open Go.RowKit Go.Maps

/-- while blocks are given: R is left, S is what is still told of -/
structure Gv (B0 DA NB : Nat) (Kp : Nat → Bool) (Y0 : Nat → Nat → Int) (f0 : Nat → Int) (S0 : Nat → Bool) (b : Nat → Nat) (Y : Nat → Nat → Int) (f : Nat → Int) (S R : Nat → Bool) : Prop where
  fi : Fi DA NB Y f S b
  rs : ∀ c, R c = true → S c = true
  ss : ∀ c, S c = true → S0 c = true
  st : ∀ c, S c = true → R c = false → isR c = false ∧ Kp (parS c) = false
  kr : ∀ c, Kp c = true → R c = true
  u : ∀ j, j < NB → (bt Y B0 j = true ↔ bt Y0 B0 j = true ∧ ¬ ∃ c, S0 c = true ∧ R c = false ∧ b c = j + 1)
  y : ∀ z, z ≠ B0 → (∀ c, Kp c = true → 2000 ≤ c → z ≠ DA + (b c - 1)) → Y z = Y0 z
  f4 : ∀ i, i < 4 → f i = f0 i
theorem Gv.start {B0 DA NB : Nat} {Kp : Nat → Bool} {Y0 : Nat → Nat → Int} {f0 : Nat → Int} {S0 : Nat → Bool} {b : Nat → Nat} (h : Fi DA NB Y0 f0 S0 b) (hk : ∀ c, Kp c = true → S0 c = true) : Gv B0 DA NB Kp Y0 f0 S0 b Y0 f0 S0 S0 :=
  ⟨h, fun _ h => h, fun _ h => h, fun c h1 h2 => by (rw [h1] at h2; cases h2), hk, fun j _ => ⟨fun h => ⟨h, fun ⟨c, h1, h2, _⟩ => by (rw [h1] at h2; cases h2)⟩, fun h => h.1⟩, fun _ _ _ => rfl, fun _ _ => rfl⟩
theorem Gv.told {B0 DA NB : Nat} {Kp : Nat → Bool} {Y0 : Nat → Nat → Int} {f0 : Nat → Int} {S0 : Nat → Bool} {b : Nat → Nat} {Y : Nat → Nat → Int} {f : Nat → Int} {S R : Nat → Bool} (h : Gv B0 DA NB Kp Y0 f0 S0 b Y f S R) (hus : ∀ c, S0 c = true → bt Y0 B0 (b c - 1) = true) (hinj : ∀ c c', S0 c = true → S0 c' = true → b c = b c' → c = c') (c : Nat) (hc : R c = true) : bt Y B0 (b c - 1) = true := by
  have r := h.fi.rng c (h.rs c hc)
  refine (h.u (b c - 1) (by omega)).2 ⟨hus c (h.ss c (h.rs c hc)), fun ⟨c', h1, h2, h3⟩ => ?_⟩
  obtain rfl := hinj c' c h1 (h.ss c (h.rs c hc)) (by omega)
  rw [hc] at h2
  cases h2
end Go.Proofs.YteaoabppppbkoaaGreatDoor

namespace Go.Proofs.YteaoabppppbkoaaGreatDoor
set_option linter.unusedSimpArgs false
set_option linter.unusedVariables false
open Go.RowKit Go.Maps

variable {ln : Lm}
end Go.Proofs.YteaoabppppbkoaaGreatDoor

namespace Go.Proofs.YteaoabppppbkoaaGreatDoor
set_option linter.unusedSimpArgs false
set_option linter.unusedVariables false
open Go.RowKit Go.Maps

end Go.Proofs.YteaoabppppbkoaaGreatDoor

namespace Go.Proofs.YteaoabppppbkoaaGreatDoor
set_option linter.unusedSimpArgs false
set_option linter.unusedVariables false
open Go.RowKit Go.Maps

variable {ln : Lm}
/-- the slots on the way to a data block, the last one first -/
def ps (i j : Nat) : Nat := if j = 0 then i else if j = 1 then parS i else 2001
end Go.Proofs.YteaoabppppbkoaaGreatDoor
