import Derived.Test.YtnfadmifdncjoaaGreatQ6
import Derived.Deep.CutBlock
import Derived.Deep.DeepCutAuto
/- A group: MakeLink; Fresh: a disk whose groups have their own nodes. -/
namespace Go.Proofs.YtnfadmifdncjoaaGreat
set_option linter.unusedSimpArgs false
set_option linter.unusedVariables false
open Go.RowKit Go.Maps

variable {ln : Lm}
/-- a symbolic link of a length, whose bytes lie in a block -/
def lnk (s b : Int) : Nat → Int := fun i => if i = 0 then 4 else if i = 1 then 1 else if i = 3 then s else if i = 4 then b else 0
theorem Tryz.build27_lnk (s : Int) (w : World) : (Instr.build 68 #[(0, .int .u8 4), (1, .int .u8 1), (3, .int .u32 s)]).run Tryz.prog w = .ok (.agg (ndc (lnk s 0)).toArray) w := by kernel_rfl
theorem lnk_set (s b : Int) : (ndc (lnk s 0)).set 4 (.int .u16 b) = ndc (lnk s b) := rfl
theorem lnk_ok (s b : Int) (s0 : 0 ≤ s) (s1 : s ≤ 60) (b0 : 0 ≤ b) (b1 : b < 65536) : NdOk (lnk s b) := by
  refine ⟨(by show (0 : Int) ≤ 4 ∧ (4 : Int) < 256; decide), (by show (0 : Int) ≤ 1 ∧ (1 : Int) < 256; decide), (by show (0 : Int) ≤ 0 ∧ (0 : Int) < 65536; decide), ⟨s0, (by show s < 4294967296; omega)⟩, fun i h2 h3 => ?_⟩
  unfold lnk
  rw [if_neg (by omega), if_neg (by omega), if_neg (by omega)]
  split
  · exact ⟨b0, b1⟩
  · exact ⟨Int.le_refl _, by decide⟩
theorem lnk_mbl (s b : Int) (s0 : 1 ≤ s) (s1 : s ≤ 60) : mbl (lnk s b 0) (lnk s b 3) = true := by
  show mbl 4 s = true
  unfold mbl
  rw [if_neg (by decide), if_neg (by decide), if_neg (by decide)]
  simp
  omega
theorem wpList_bld3 {P : Program} {ops : Array Oper} {rest : List Oper} {op : Oper} {a : Act} {w : World} {Q : Exit → Act → World → Prop} (hgd : op.guard = none) (ty : TypeId) (i0 i1 i2 : Nat) (x0 x1 x2 : Operand) (ho : op.op = .build ty #[(i0, x0), (i1, x1), (i2, x2)]) (v0 v1 v2 : Value) (h0 : a.eval x0 = v0) (h1 : a.eval x1 = v1) (h2 : a.eval x2 = v2) (v : Value)
    (hr : (Instr.build ty #[(i0, v0), (i1, v1), (i2, v2)]).run P w = .ok v w) (h : wpList P ops Q rest (a.put op.dst v) w) : wpList P ops Q (op :: rest) a w := by
  refine wpList_plain hgd fun K' hK' => ?_
  unfold Oper.wp
  simp [execOp, ho, h0, h1, h2, hr, Result.andThen]
  exact hK' _ _ h
/-! ### Fresh -/
/-- a group's own nodes: a directory, two files -/
def own (k : Int) : Nat → Int := fun i => if i = 0 then k else if i = 1 then 1 else if i = 2 then 1 else 0
def kd (n : Nat) : Int := if n = 1 then 2 else 1
def VF (j : Nat) : Nat → Nat → Int := fun n => if 1 ≤ n ∧ n ≤ j then own (kd n) else zpt
theorem kd_in (n : Nat) : kd n = 1 ∨ kd n = 2 := by unfold kd; split <;> simp
theorem own_ok (n : Nat) : NdOk (own (kd n)) := by
  rcases kd_in n with h | h <;> rw [h] <;> exact ⟨by decide, by decide, by decide, by decide, fun i h2 h3 => by unfold own; rw [if_neg (by omega), if_neg (by omega), if_neg (by omega)]; exact ⟨Int.le_refl _, by decide⟩⟩
theorem own_code (n : Nat) : codeN (own (kd n)) = 0 := by
  rcases kd_in n with h | h <;> rw [h] <;> decide
theorem VF_zero : VF 0 = fun _ => zpt := by
  funext n
  unfold VF
  rw [if_neg (by omega)]
theorem VF_put (j : Nat) : vput (j + 1) (own (kd (j + 1))) (VF j) = VF (j + 1) := by
  funext n
  unfold vput VF
  by_cases c : j + 1 = n
  · subst c
    rw [if_pos rfl, if_pos ⟨by omega, by omega⟩]
  · rw [if_neg c]
    by_cases c2 : 1 ≤ n ∧ n ≤ j
    · rw [if_pos c2, if_pos ⟨c2.1, by omega⟩]
    · rw [if_neg c2, if_neg (by omega)]
theorem Tryz.build27_own (k : Int) (w : World) : (Instr.build 68 #[(0, .int .u8 k), (1, .int .u8 1), (2, .int .u16 1)]).run Tryz.prog w = .ok (.agg (ndc (own k)).toArray) w := by kernel_rfl
/-- a group is fresh: its three nodes, no block taken -/
def FreshG (g : Cf.Ge) (N : Nat) (Y : Nat → Nat → Int) : Prop := ∀ B0 P0 M DA NB : Nat, GG g B0 P0 M DA NB N → Tab P0 M Y (VF 3) ∧ ∀ j, j < 512 → bt Y B0 j = false
/-- the first k groups are fresh, from the next one on all is nought -/
structure FreshK (R : List Cf.Rg) (N k : Nat) (Y : Nat → Nat → Int) : Prop where
  done : ∀ (i : Nat) (hi : i < R.length), i < k → FreshG ((Cf.layF R).1[i]'(by rw [Cf.lay_len]; exact hi)) N Y
  rest : ∀ x : Nat, (Cf.layF (R.take k)).2 ≤ x → Y x = fun _ => 0
theorem FreshK.zero (R : List Cf.Rg) (N : Nat) : FreshK R N 0 (fun _ _ => 0) := ⟨fun i hi h => absurd h (by omega), fun _ _ => rfl⟩
/-- writing its nodes makes the next group fresh -/
theorem FreshK.next {R : List Cf.Rg} {N k : Nat} {Y Y' : Nat → Nat → Int} (h : FreshK R N k Y) (hs : ∀ r ∈ R, Cf.Small r) (h64 : R.length ≤ 64) (hN : (Cf.layF R).2 = N) (hk : k < R.length) (B0 P0 M DA NB : Nat)
    (hg : GG ((Cf.layF R).1[k]'(by rw [Cf.lay_len]; exact hk)) B0 P0 M DA NB N) (hT : Tab P0 M Y' (VF 3)) (hY : ∀ x : Nat, x < P0 ∨ P0 + 2 ≤ x → Y' x = Y x) : FreshK R N (k + 1) Y' := by
  have h1 := Cf.lay_nth R k hk
  have h2 := Cf.lay_fin R k hk
  obtain ⟨g, hgk⟩ : ∃ g, (Cf.layF R).1[k]'(by rw [Cf.lay_len]; exact hk) = g := ⟨_, rfl⟩
  rw [hgk] at h1 h2 hg
  have hb : (Cf.layF (R.take k)).2 = B0 := by
    rw [← hg.base, h1]
    rfl
  have hf : (Cf.layF (R.take (k + 1))).2 = ((DA + NB : Nat) : Int) := by
    rw [← h2]
    have := hg.da
    have := hg.bl
    unfold Cf.Ge.fin
    omega
  have hbp := hg.bp
  have hpd := hg.pd
  have hm4 := hg.m4
  refine ⟨fun i hi hik => ?_, fun x hx => ?_⟩
  · by_cases e : i = k
    · subst e
      rw [hgk]
      intro B1 P1 M1 DA1 NB1 hg1
      have e1 : B1 = B0 := by have := hg.base; have := hg1.base; omega
      have e2 : P1 = P0 := by have := hg.tab; have := hg1.tab; omega
      have e3 : M1 = M := by have := hg.nd; have := hg1.nd; omega
      subst e1 e2 e3
      refine ⟨hT, fun j hj => ?_⟩
      unfold bt
      rw [hY _ (by omega), h.rest _ (by rw [hb]; omega)]
      exact bitOf_zero _
    · intro B1 P1 M1 DA1 NB1 hg1
      have hlt : i < k := by omega
      obtain ⟨g1, g2⟩ := h.done i hi hlt B1 P1 M1 DA1 NB1 hg1
      have q1 := Cf.lay_fin R i hi
      have q2 := layF_le R hs (i + 1) k (by omega) (by omega)
      have q3 : ((Cf.layF R).1[i]'(by rw [Cf.lay_len]; exact hi)).fin = ((DA1 + NB1 : Nat) : Int) := by
        have := hg1.da
        have := hg1.bl
        unfold Cf.Ge.fin
        omega
      have q4 : DA1 + NB1 ≤ B0 := by rw [← q1, q3, hb] at q2; omega
      have p1 := hg1.bp
      have p2 := hg1.pd
      have p4 := hg1.n4
      refine ⟨g1.congr fun x hx1 hx2 => hY x (by omega), fun j hj => ?_⟩
      have := g2 j hj
      unfold bt at this ⊢
      rwa [hY _ (by omega)]
  · rw [hf] at hx
    rw [hY x (by omega), h.rest x (by rw [hb]; omega)]
end Go.Proofs.YtnfadmifdncjoaaGreat
