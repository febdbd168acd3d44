import Derived.Test.YtnfadmifdncjoaaGreatQ3
import Derived.Laws.BitsAllLaws
/- What loops of transactions carry. -/
namespace Go.Proofs.YtnfadmifdncjoaaGreat
set_option linter.unusedSimpArgs false
set_option linter.unusedVariables false
open Go.RowKit Go.Maps

variable {ln : Lm}
theorem Kf.join {w w1 w2 : World} {L L' : List Nat} (h : Kf w w1 L) (k : Kf w1 w2 L') (hL : ∀ a ∈ L', a ∈ L ∨ w.heap.size ≤ a) : Kf w w2 L :=
  ⟨k.os.trans h.os, k.tape.trans h.tape, k.output.trans h.output, Nat.le_trans h.size k.size, fun i hi hn => (k.block i (Nat.lt_of_lt_of_le hi h.size) (fun hm => by rcases hL i hm with h' | h'; exact hn h'; omega)).trans (h.block i hi hn)⟩
theorem Kf.more {w w1 w2 : World} {L : List Nat} (h : Kf w w1 L) (hb : Below w1.heap.size w1 w2) : Kf w w2 L := h.low hb h.size
/-- behind a transaction's call: t, m are younger than w, the disk is d, g -/
theorem Kf.tx {w w1 w2 : World} {t m d g : Nat} (h : Kf w w1 [d, g]) (k : Kf w1 w2 [t, m, d, g]) (ht : w.heap.size ≤ t) (hm : w.heap.size ≤ m) : Kf w w2 [d, g] :=
  h.join k fun a ha => by
    simp only [List.mem_cons, List.not_mem_nil, or_false] at ha ⊢
    rcases ha with rfl | rfl | rfl | rfl
    · exact .inr ht
    · exact .inr hm
    · exact .inl (.inl rfl)
    · exact .inl (.inr rfl)
theorem Kf.new {w w1 w2 : World} {L : List Nat} {b : Nat} (h : Kf w w1 L) (k : Kp w1 w2 b b) (hb : w.heap.size ≤ b) : Kf w w2 L := h.fresh k hb
theorem Lg.kf {w w' : World} {l d fi : Nat} {L : List Nat} (h : Lg w l d fi) (hk : Kf w w' L) (hl : l ∉ L) : Lg w' l d fi :=
  ⟨Nat.lt_of_lt_of_le h.lt hk.size, (hk.cell (p := ⟨l, 0, none⟩) h.lt hl).trans h.c0, (hk.cell (p := ⟨l, 1, none⟩) h.lt hl).trans h.c1⟩
theorem Kf.bel {w w' : World} {B d g : Nat} (h : Kf w w' [d, g]) (hd : B ≤ d) (hg : B ≤ g) (hB : B ≤ w.heap.size) : Below B w w' :=
  h.below (fun a ha => by simp only [List.mem_cons, List.not_mem_nil, or_false] at ha; omega) hB
theorem Tryz.zeroReg : (Tryz.prog.info? 41).map (fun i => i.zero) = some (some (.agg Cf.zeroRg.cells.toArray)) := by kernel_rfl
theorem Tryz.isizeReg : (Tryz.prog.info? 41).map (·.size) = some 9 := by kernel_rfl
theorem sizeReg (r : Cf.Rg) : (Tryz.prog.info? 41).map (·.size) = some r.cells.length := Tryz.isizeReg
theorem reg_one (r : Cf.Rg) : ∀ v ∈ r.cells, v.oneCell' = true := by
  intro v hv
  simp [Cf.Rg.cells] at hv
  rcases hv with rfl | rfl | rfl | rfl | rfl | rfl | rfl | rfl | rfl <;> rfl
theorem creg_in (n : Nat) (vr vm vg : Value) (rs : List Cf.Rg) (ms : List (Int × Int)) (i : Nat) (hi : i < rs.length) (w : World) (h : Cf.CF n w vr vm vg rs ms) :
    Calls Tryz.prog 11 #[.pointer (some ⟨n + 3, 0, none⟩), .int .i64 i] w fun e w' => e = .returned (.tuple #[.agg rs[i].cells.toArray, .bool true]) ∧ Below w.heap.size w w' :=
  Cf.reg_in (n + 3) vr rs i hi w (by have := h.cb.lt; omega) h.cb.c0 (Cf.regs_of_row h.row)
theorem u8_or_bd (l x : Int) (h0 : 0 ≤ l) (h1 : l < 256) (h2 : 0 ≤ x) (h3 : x < 256) : 0 ≤ Go.bits .or .u8 l x ∧ Go.bits .or .u8 l x < 256 ∧ (Go.bits .or .u8 l x = 0 ↔ l = 0 ∧ x = 0) := by
  obtain ⟨a, rfl⟩ := Int.eq_ofNat_of_zero_le h0
  obtain ⟨b, rfl⟩ := Int.eq_ofNat_of_zero_le h2
  rw [u8_or_nat a b (by omega) (by omega)]
  have := Nat.or_lt_two_pow (x := a) (y := b) (n := 8) (by omega) (by omega)
  refine ⟨by omega, by omega, ?_⟩
  have hz : (a ||| b = 0) ↔ a = 0 ∧ b = 0 := Nat.or_eq_zero_iff
  constructor
  · intro h
    have h' : a ||| b = 0 := by exact_mod_cast h
    have := hz.1 h'
    omega
  · rintro ⟨e1, e2⟩
    have : a ||| b = 0 := hz.2 ⟨by omega, by omega⟩
    rw [this]; rfl
end Go.Proofs.YtnfadmifdncjoaaGreat
