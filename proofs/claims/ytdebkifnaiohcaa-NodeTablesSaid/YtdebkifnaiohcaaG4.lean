import Derived.Test.YtdebkifnaiohcaaG3
import Derived.Test.YtdebkifnaiohcaaD7
/- Blank; what yields a struct, or compares two. -/
namespace Go.Proofs.Ytdebkifnaiohcaa
set_option linter.unusedSimpArgs false
set_option linter.unusedVariables false
open Go.RowKit Go.Maps


theorem yields_bld {P : Program} {ops : Array Oper} {S : World → Prop} {op : Oper} {a : Act} (hw : Region.wanted op (yielded ops a.tmps) = true) (ty : TypeId) (ps : Array (Nat × Operand)) (ho : op.op = .build ty ps) (v : Value)
    (hr : ∀ w, (Instr.build ty (ps.map fun p => (p.1, a.eval p.2))).run P w = .ok v w) : YieldsIf P ops S op v a :=
  .inl ⟨hw, fun w _ => by
    have hr := hr w
    unfold execOp
    simp [ho, hr, Result.andThen]⟩
theorem yields_bld0 {P : Program} {ops : Array Oper} {S : World → Prop} {op : Oper} {a : Act} (hw : Region.wanted op (yielded ops a.tmps) = true) (ty : TypeId) (ho : op.op = .build ty #[]) (v : Value)
    (hr : ∀ w, (Instr.build ty #[]).run P w = .ok v w) : YieldsIf P ops S op v a :=
  .inl ⟨hw, fun w _ => by
    have hr := hr w
    unfold execOp
    simp [ho, hr, Result.andThen]⟩
theorem yields_eql {P : Program} {ops : Array Oper} {S : World → Prop} {op : Oper} {a : Act} (hw : Region.wanted op (yielded ops a.tmps) = true) (ty ty' : TypeId) (x y : Operand) (ho : op.op = .binOp .eql ty x y ty') (xs ys : Array Value) (hx : a.eval x = .agg xs) (hy : a.eval y = .agg ys) (b : Bool)
    (hg : P.eqGuardType P.depth ty = false) (hr : ∀ w, S w → (Op.equalIn 10000 ty (.agg xs) (.agg ys)).run P w = .ok b w) : YieldsIf P ops S op (.bool b) a :=
  .inl ⟨hw, fun w hS => by
    have hr := hr w hS
    have hgd := run_eqGuard_agg (P := P) w .eql ty x y xs ys hg
    unfold execOp
    simp [ho, hx, hy, hgd, run_eql_struct, hr, Result.andThen]⟩
theorem yields_neq {P : Program} {ops : Array Oper} {S : World → Prop} {op : Oper} {a : Act} (hw : Region.wanted op (yielded ops a.tmps) = true) (ty ty' : TypeId) (x y : Operand) (ho : op.op = .binOp .neq ty x y ty') (xs ys : Array Value) (hx : a.eval x = .agg xs) (hy : a.eval y = .agg ys) (b : Bool)
    (hg : P.eqGuardType P.depth ty = false) (hr : ∀ w, S w → (Op.equalIn 10000 ty (.agg xs) (.agg ys)).run P w = .ok b w) : YieldsIf P ops S op (.bool (!b)) a :=
  .inl ⟨hw, fun w hS => by
    have hr := hr w hS
    have hgd := run_eqGuard_agg (P := P) w .neq ty x y xs ys hg
    unfold execOp
    simp [ho, hx, hy, hgd, run_neq_struct, hr, Result.andThen]⟩
theorem Try.guard27 : Try.prog.eqGuardType Try.prog.depth 27 = false := by kernel_rfl
theorem Try.desc27 : ∃ d, Try.prog.underlying 27 = some d ∧ d.isRow = true := ⟨_, Try.underlying27, rfl⟩
def genN (x : Int) : Nat → Int := fun i => if i = 2 then x else 0
def blankB (f : Nat → Int) : Bool := eqb 12 f (genN (f 2))
theorem genN_ok {x : Int} (h : 0 ≤ x ∧ x < 65536) : NdOk (genN x) := ⟨⟨Int.le_refl _, by show (0 : Int) < 256; decide⟩, ⟨Int.le_refl _, by show (0 : Int) < 256; decide⟩, h, ⟨Int.le_refl _, by show (0 : Int) < 4294967296; decide⟩, fun i h1 h2 => by
  unfold genN
  rw [if_neg (by omega)]; decide⟩
theorem build27_gen (x : Int) (w : World) : (Instr.build 27 #[(2, .int .u16 x)]).run Try.prog w = .ok (.agg (ndc (genN x)).toArray) w := by kernel_rfl
set_option maxHeartbeats 2000000 in
set_option maxRecDepth 100000 in
theorem blank_any (f : Nat → Int) (hf : NdOk f) (w : World) : Calls Try.prog 13 #[.agg (ndc f).toArray] w fun e w' => e = .returned (.bool (blankB f)) ∧ Below w.heap.size w w' := by
  obtain ⟨d, hu, hd⟩ := Try.desc27
  have HE := Lib.hid (fun W => eq27 f _ hf (genN_ok hf.g) W)
  have HU := Lib.hid hu
  have HD := Lib.hid hd
  have HBl : Hid (eqb 12 f (genN (f 2)) = blankB f) := rfl
  obtain ⟨C, hC⟩ : ∃ C, blankB f = C := ⟨_, rfl⟩
  rw [hC] at HBl ⊢
  rw [HBl.out] at HE
  obtain ⟨g2, hg2⟩ : ∃ x, f 2 = x := ⟨_, rfl⟩
  rw [hg2] at HE
  clear hC hu hd HBl
  go_enter Try.func13, Try.ntmps13
  go_wp2_with (first | (refine wpList_box_list rfl 27 _ rfl (ndc f) rfl ?_; intro w1 F1 hb1 hz1; have HB1 := Lib.hid hb1; have c2 := F1.out.c 2 _ rfl; rw [hg2] at c2; clear hb1 hz1 hg2) | (refine wpList_load_mid rfl 27 _ rfl w.heap.size 0 rfl (ndc f) d F1.out.range0 HU.out HD.out (size27 f) ?_) | (refine wpList_yields (.agg (ndc (genN g2)).toArray) (yields_bld (by rfl) 27 _ rfl _ (build27_gen g2)) ?_) | (refine wpList_yields (.bool C) (yields_eql (by rfl) 27 27 _ _ rfl (ndc f).toArray (ndc (genN g2)).toArray rfl rfl C Try.guard27 (fun W _ => HE.out W)) ?_))
  go_ret
  exact ⟨rfl, HB1.out⟩
end Go.Proofs.Ytdebkifnaiohcaa
