import Derived.Test.YtnfadmifdncjoaaGreatProg
import Derived.WalkKit
import Derived.ProofKit
/- A frame as a function of its slots: of a great frame what matters stands as facts on single slots. Pieces of a function's code. -/
namespace Go.Proofs.YtnfadmifdncjoaaGreat
set_option linter.unusedSimpArgs false
set_option linter.unusedVariables false
open Go.RowKit

def FA (n : Nat) (f : Nat → Value) : Act := ⟨(Array.range n).map f, []⟩
def updA (f : Nat → Value) (d : Nat) (v : Value) : Nat → Value := fun k => if k = d then v else f k
theorem updA_at (f : Nat → Value) (d : Nat) (v : Value) (k : Nat) : updA f d v k = if k = d then v else f k := rfl
theorem updA_same (f : Nat → Value) (d : Nat) (v : Value) : updA f d v d = v := if_pos rfl
theorem FA_get (n : Nat) (f : Nat → Value) (k : Nat) : (FA n f).tmps[k]? = if k < n then some (f k) else none := by
  unfold FA
  simp only [Array.getElem?_map, Array.getElem?_range]
  split <;> rfl
theorem FA_defers (n : Nat) (f : Nat → Value) : (FA n f).defers = [] := rfl
theorem FA_size (n : Nat) (f : Nat → Value) : (FA n f).tmps.size = n := by simp [FA]
theorem FA_set (n : Nat) (f : Nat → Value) (d : Nat) (v : Value) : (FA n f).tmps.setIfInBounds d v = (FA n (updA f d v)).tmps := by
  apply Array.ext_getElem?
  intro k
  rw [Array.getElem?_setIfInBounds, FA_get, FA_get, FA_size]
  unfold updA
  by_cases h : d = k
  · subst h; simp
  · rw [if_neg h]; simp [show ¬ k = d by omega]
theorem FA_put (n : Nat) (f : Nat → Value) (d : Nat) (v : Value) : (FA n f).put (some d) v = FA n (updA f d v) := by
  unfold Act.put
  simp only [FA_set]
  rfl
theorem FA_mk (n : Nat) (f : Nat → Value) (d : Nat) (v : Value) : (⟨(FA n f).tmps.setIfInBounds d v, []⟩ : Act) = FA n (updA f d v) := by
  rw [FA_set]; rfl
theorem FA_of (l : Array Value) : (⟨l, []⟩ : Act) = FA l.size (fun k => l.getD k undef) := by
  unfold FA
  congr 1
  apply Array.ext_getElem?
  intro k
  rw [Array.getElem?_map, Array.getElem?_range]
  by_cases h : k < l.size
  · rw [if_pos h, Array.getElem?_eq_getElem h]; simp [h]
  · rw [if_neg h, Array.getElem?_eq_none (by omega)]; rfl
/-- what is asked of such frames: so that nobody opens them -/
structure Frm (n : Nat) (F : (Nat → Value) → Act) : Prop where
  get : ∀ f k, (F f).tmps[k]? = if k < n then some (f k) else none
  put : ∀ f d v, (F f).put (some d) v = F (updA f d v)
  fold : ∀ f d v, (⟨(F f).tmps.setIfInBounds d v, []⟩ : Act) = F (updA f d v)
  defers : ∀ f, (F f).defers = []
theorem Frm.fa (n : Nat) : Frm n (FA n) := ⟨FA_get n, FA_put n, FA_mk n, FA_defers n⟩
theorem Frm.eval {n : Nat} {F : (Nat → Value) → Act} (hF : Frm n F) (f : Nat → Value) (k : Nat) (h : k < n) : (F f).eval (.tmp k) = f k := by
  show (F f).tmps.getD k undef = f k
  rw [Array.getD_eq_getD_getElem?, hF.get, if_pos h]; rfl
theorem Frm.cond_t {P : Program} {Q : Exit → Act → World → Prop} {n k : Nat} {F : (Nat → Value) → Act} (hF : Frm n F) {f : Nat → Value} {w : World} {x y : Code} (hk : k < n) (h : f k = .bool true) (hx : x.wp P Q (F f) w) : (Code.cond (.tmp k) x y).wp P Q (F f) w := wp_cond_true ((hF.eval f k hk).trans h) hx
theorem Frm.cond_f {P : Program} {Q : Exit → Act → World → Prop} {n k : Nat} {F : (Nat → Value) → Act} (hF : Frm n F) {f : Nat → Value} {w : World} {x y : Code} (hk : k < n) (h : f k = .bool false) (hy : y.wp P Q (F f) w) : (Code.cond (.tmp k) x y).wp P Q (F f) w := wp_cond_false ((hF.eval f k hk).trans h) hy
/-- pieces of a code: what comes first, what behind; what hangs on a test; what is within -/
def cL : Code → Code
  | .seq a _ => a
  | c => c
def cR : Code → Code
  | .seq _ b => b
  | c => c
def cT : Code → Code
  | .cond _ a _ => a
  | c => c
def cE : Code → Code
  | .cond _ _ b => b
  | c => c
def cB : Code → Code
  | .block _ c => c
  | c => c
def cO : Code → Code
  | .loop c => c
  | c => c
end Go.Proofs.YtnfadmifdncjoaaGreat
