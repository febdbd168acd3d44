import Derived.Test.YtfackmiojbdjhaaDoorC3
import Derived.Deep.QuietTactic
import Derived.BigQuiet
import Derived.Sort.Grow
/- Registered labels in a row; what the calls of a configuration read of them. -/
namespace Go.Proofs.YtfackmiojbdjhaaDoor
set_option linter.unusedSimpArgs false
set_option linter.unusedVariables false
open Go.RowKit

structure Row9 (w : World) (b off : Nat) (rs : List Rg) : Prop where
  k0 : ∀ i (h : i < rs.length), w.cell? ⟨b, off + i * 9, none⟩ = some (.string rs[i].nm)
  k1 : ∀ i (h : i < rs.length), w.cell? ⟨b, off + i * 9 + 1, none⟩ = some (.int .u8 rs[i].lv)
  k2 : ∀ i (h : i < rs.length), w.cell? ⟨b, off + i * 9 + 2, none⟩ = some (.int .u16 rs[i].cs)
  k3 : ∀ i (h : i < rs.length), w.cell? ⟨b, off + i * 9 + 3, none⟩ = some (.int .i64 rs[i].bl)
  k4 : ∀ i (h : i < rs.length), w.cell? ⟨b, off + i * 9 + 4, none⟩ = some (.int .i64 rs[i].nd)
  k5 : ∀ i (h : i < rs.length), w.cell? ⟨b, off + i * 9 + 5, none⟩ = some (.int .i64 rs[i].fr)
  k6 : ∀ i (h : i < rs.length), w.cell? ⟨b, off + i * 9 + 6, none⟩ = some (.int .i64 rs[i].pr)
  k7 : ∀ i (h : i < rs.length), w.cell? ⟨b, off + i * 9 + 7, none⟩ = some (.int .i64 rs[i].op)
  k8 : ∀ i (h : i < rs.length), w.cell? ⟨b, off + i * 9 + 8, none⟩ = some (.int .i64 rs[i].cl)
theorem Row9.below {w w' : World} {B b off : Nat} {rs : List Rg} (h : Row9 w b off rs) (hb : Below B w w') (hB : b < B) : Row9 w' b off rs :=
  ⟨fun i hi => (hb.cell (p := ⟨b, off + i * 9, none⟩) hB).trans (h.k0 i hi), fun i hi => (hb.cell (p := ⟨b, off + i * 9 + 1, none⟩) hB).trans (h.k1 i hi), fun i hi => (hb.cell (p := ⟨b, off + i * 9 + 2, none⟩) hB).trans (h.k2 i hi), fun i hi => (hb.cell (p := ⟨b, off + i * 9 + 3, none⟩) hB).trans (h.k3 i hi), fun i hi => (hb.cell (p := ⟨b, off + i * 9 + 4, none⟩) hB).trans (h.k4 i hi), fun i hi => (hb.cell (p := ⟨b, off + i * 9 + 5, none⟩) hB).trans (h.k5 i hi), fun i hi => (hb.cell (p := ⟨b, off + i * 9 + 6, none⟩) hB).trans (h.k6 i hi), fun i hi => (hb.cell (p := ⟨b, off + i * 9 + 7, none⟩) hB).trans (h.k7 i hi), fun i hi => (hb.cell (p := ⟨b, off + i * 9 + 8, none⟩) hB).trans (h.k8 i hi)⟩
/-- a slice of registered labels -/
def Regs (w : World) (v : Value) (rs : List Rg) : Prop :=
  (∃ a cap, v = .slice a 0 cap ∧ rs = []) ∨ ∃ b off cap, v = .slice (some ⟨b, off, none⟩) rs.length cap ∧ b < w.heap.size ∧ rs.length ≤ maxLen ∧ Row9 w b off rs
theorem Regs.below {w w' : World} {v : Value} {rs : List Rg} (h : Regs w v rs) (hb : Below w.heap.size w w') : Regs w' v rs := by
  rcases h with h | ⟨b, off, cap, hv, hl, hm, hr⟩
  · exact .inl h
  · exact .inr ⟨b, off, cap, hv, Nat.lt_of_lt_of_le hl hb.size, hm, hr.below hb hl⟩
theorem Regs.form {w : World} {v : Value} {rs : List Rg} (h : Regs w v rs) : ∃ a cap, v = .slice a rs.length cap := by
  rcases h with ⟨a, cap, rfl, rfl⟩ | ⟨b, off, cap, rfl, _⟩
  · exact ⟨a, cap, rfl⟩
  · exact ⟨_, cap, rfl⟩
theorem Regs.max {w : World} {v : Value} {rs : List Rg} (h : Regs w v rs) : rs.length ≤ maxLen := by
  rcases h with ⟨a, cap, rfl, rfl⟩ | ⟨b, off, cap, rfl, _, hm, _⟩
  · exact Nat.zero_le _
  · exact hm
theorem Regs.row {w : World} {v : Value} {rs : List Rg} (h : Regs w v rs) (h0 : 0 < rs.length) : ∃ b off cap, v = .slice (some ⟨b, off, none⟩) rs.length cap ∧ b < w.heap.size ∧ rs.length ≤ maxLen ∧ Row9 w b off rs := by
  rcases h with ⟨a, cap, rfl, rfl⟩ | h
  · exact absurd h0 (Nat.lt_irrefl _)
  · exact h

def zeroRg : Rg := ⟨⟨#[]⟩, 0, 0, 0, 0, 0, 0, 0, 0⟩
def Rg.val (r : Rg) : Value := .agg #[.string r.nm, .int .u8 r.lv, .int .u16 r.cs, .int .i64 r.bl, .int .i64 r.nd, .int .i64 r.fr, .int .i64 r.pr, .int .i64 r.op, .int .i64 r.cl]

theorem cell_al {w : World} {p : Addr} {v : Value} (h : w.cell? p = some v) (o : Obj) : (w.alloc o).cell? p = some v := by
  rw [World.cell?_alloc_some _ _ _ (by rw [h]; rfl)]; exact h

theorem len_any (bc : Nat) (a : Option Addr) (n cap : Nat) (w : World) (hc : w.cell? ⟨bc, 0, none⟩ = some (.slice a n cap)) (hl : n ≤ maxLen) :
    Calls Tryd.prog 20 #[.pointer (some ⟨bc, 0, none⟩)] w fun e w' => e = .returned (.int .i64 n) ∧ w' = w := by
  unfold maxLen at hl
  go_enter Tryd.func20, Tryd.ntmps20
  go_wp2
  go_ret
  exact ⟨rfl, rfl⟩

set_option maxHeartbeats 1000000 in
theorem reg_in (bc : Nat) (v : Value) (rs : List Rg) (i : Nat) (hi : i < rs.length) (w : World) (hbc : bc < w.heap.size) (hc : w.cell? ⟨bc, 0, none⟩ = some v) (h : Regs w v rs) :
    Calls Tryd.prog 19 #[.pointer (some ⟨bc, 0, none⟩), .int .i64 i] w fun e w' => e = .returned (.tuple #[rs[i].val, .bool true]) ∧ Below w.heap.size w w' := by
  obtain ⟨b, off, cap, rfl, hbl, hm, hr⟩ := h.row (by omega)
  unfold maxLen at hm
  have hlt : w.heap.size < w.heap.size + 1 := Nat.lt_succ_self _
  have e0 := hr.k0 i hi
  have e1 := hr.k1 i hi
  have e2 := hr.k2 i hi
  have e3 := hr.k3 i hi
  have e4 := hr.k4 i hi
  have e5 := hr.k5 i hi
  have e6 := hr.k6 i hi
  have e7 := hr.k7 i hi
  have e8 := hr.k8 i hi
  clear hr
  generalize rs[i] = r at *
  have hlen := fun W h => len_any bc (some ⟨b, off, none⟩) rs.length cap W h (by unfold maxLen; omega)
  have hi0 : (0 : Int) ≤ (i : Int) := by omega
  have hi1 : (i : Int) < (rs.length : Int) := by omega
  go_enter Tryd.func19, Tryd.ntmps19
  go_wp2_with fail
  refine (hlen _ (cell_al hc _)).mono ?_
  rintro e w1 ⟨rfl, rfl⟩
  go_wp2
  refine bodyPost_ret (v := .tuple #[r.val, .bool true]) (by simp [results, Tryd.results19, go_sem, Rg.val, World.cell?_alloc_new]) rfl ⟨rfl, (Below.refl _ _).alloc (Nat.le_refl _) _⟩

set_option maxHeartbeats 1000000 in
theorem reg_out (bc : Nat) (v : Value) (rs : List Rg) (i : Int) (hi : i < 0 ∨ (rs.length : Int) ≤ i) (w : World) (hbc : bc < w.heap.size) (hc : w.cell? ⟨bc, 0, none⟩ = some v) (h : Regs w v rs) :
    Calls Tryd.prog 19 #[.pointer (some ⟨bc, 0, none⟩), .int .i64 i] w fun e w' => e = .returned (.tuple #[zeroRg.val, .bool false]) ∧ Below w.heap.size w w' := by
  obtain ⟨a, cap, rfl⟩ := h.form
  have hm := h.max
  have hlen := fun W h => len_any bc a rs.length cap W h hm
  unfold maxLen at hm
  clear h
  rcases hi with hi | hi
  · go_enter Tryd.func19, Tryd.ntmps19
    go_wp2
    refine bodyPost_ret (v := .tuple #[zeroRg.val, .bool false]) (by simp [results, Tryd.results19, go_sem, Rg.val, zeroRg, World.cell?_alloc_new]) rfl ⟨rfl, (Below.refl _ _).alloc (Nat.le_refl _) _⟩
  · have hi0 : ¬ (i < 0) := by omega
    go_enter Tryd.func19, Tryd.ntmps19
    go_wp2_with fail
    refine (hlen _ (cell_al hc _)).mono ?_
    rintro e w1 ⟨rfl, rfl⟩
    go_wp2
    refine bodyPost_ret (v := .tuple #[zeroRg.val, .bool false]) (by simp [results, Tryd.results19, go_sem, Rg.val, zeroRg, World.cell?_alloc_new]) rfl ⟨rfl, (Below.refl _ _).alloc (Nat.le_refl _) _⟩
/-- what Reg answers -/
def regAt (rs : List Rg) (i : Int) : Rg × Bool := if 0 ≤ i then (match rs[i.toNat]? with | some r => (r, true) | none => (zeroRg, false)) else (zeroRg, false)
theorem regAt_in (rs : List Rg) (i : Nat) (hi : i < rs.length) : regAt rs (i : Int) = (rs[i], true) := by
  unfold regAt
  rw [if_pos (by omega), Int.toNat_natCast, List.getElem?_eq_getElem hi]
theorem regAt_out (rs : List Rg) (i : Int) (hi : i < 0 ∨ (rs.length : Int) ≤ i) : regAt rs i = (zeroRg, false) := by
  unfold regAt
  rcases hi with hi | hi
  · rw [if_neg (by omega)]
  · split
    · rw [List.getElem?_eq_none (by omega)]
    · rfl
theorem reg_any (bc : Nat) (v : Value) (rs : List Rg) (i : Int) (w : World) (hbc : bc < w.heap.size) (hc : w.cell? ⟨bc, 0, none⟩ = some v) (h : Regs w v rs) :
    Calls Tryd.prog 19 #[.pointer (some ⟨bc, 0, none⟩), .int .i64 i] w fun e w' => e = .returned (.tuple #[(regAt rs i).1.val, .bool (regAt rs i).2]) ∧ Below w.heap.size w w' := by
  by_cases hi : i < 0 ∨ (rs.length : Int) ≤ i
  · rw [regAt_out rs i hi]
    exact reg_out bc v rs i hi w hbc hc h
  · obtain ⟨n, rfl⟩ : ∃ n : Nat, i = (n : Int) := ⟨i.toNat, by omega⟩
    rw [regAt_in rs n (by omega)]
    exact reg_in bc v rs n (by omega) w hbc hc h
def leqAt (rs : List Rg) (a b : Int) : Bool := (regAt rs a).2 && (regAt rs b).2 && leqB (regAt rs a).1.lv (regAt rs a).1.cs (regAt rs b).1.lv (regAt rs b).1.cs

set_option maxHeartbeats 1000000 in
set_option maxRecDepth 100000 in
theorem cleq_any (bc : Nat) (v : Value) (rs : List Rg) (i j : Int) (w : World) (hbc : bc < w.heap.size) (hc : w.cell? ⟨bc, 0, none⟩ = some v) (h : Regs w v rs) :
    Calls Tryd.prog 26 #[.pointer (some ⟨bc, 0, none⟩), .int .i64 i, .int .i64 j] w fun e w' => e = .returned (.bool (leqAt rs i j)) ∧ Below w.heap.size w w' := by
  have q0 := fun W (hb : Below w.heap.size w W) n => reg_any bc v rs n W (Nat.lt_of_lt_of_le hbc hb.size) ((hb.cell (p := ⟨bc, 0, none⟩) hbc).trans hc) (h.below hb)
  unfold leqAt
  have qi := fun W (hb : Below w.heap.size w W) => q0 W hb i
  have qj := fun W (hb : Below w.heap.size w W) => q0 W hb j
  clear q0 h hc
  generalize regAt rs i = x at qi ⊢
  generalize regAt rs j = y at qj ⊢
  obtain ⟨⟨nm, lv, cs, bl, nd, fr, pr, op, cl⟩, bi⟩ := x
  obtain ⟨⟨nm', lv', cs', bl', nd', fr', pr', op', cl'⟩, bj⟩ := y
  simp only [Rg.val] at qi qj ⊢
  go_enter Tryd.func26, Tryd.ntmps26
  go_wp2_with fail
  refine (qi _ (Below.refl _ _)).mono ?_
  rintro e w1 ⟨rfl, hb1⟩
  have HB1 := Lib.hid hb1
  go_wp2_with fail
  refine (qj _ ?_).mono ?_
  · exact HB1.out.alloc HB1.out.size _
  rintro e w2 ⟨rfl, hb2⟩
  have hz1 := hb1.size
  have hz2 := hb2.size
  simp at hz2
  have hlt : w1.heap.size < w2.heap.size := by omega
  have c1 : w2.cell? ⟨w1.heap.size, 1, none⟩ = some (.int .u8 lv) := (hb2.cell (p := ⟨w1.heap.size, 1, none⟩) (by simp)).trans (by simp [World.cell?_alloc_new])
  have c2 : w2.cell? ⟨w1.heap.size, 2, none⟩ = some (.int .u16 cs) := (hb2.cell (p := ⟨w1.heap.size, 2, none⟩) (by simp)).trans (by simp [World.cell?_alloc_new])
  have hB2 : Below w.heap.size w w2 := (hb1.alloc hb1.size _).trans (hb2.mono (by simp; omega))
  have HB := Lib.hid hB2
  clear hB2 hb2 hb1 qi qj
  cases bi
  · go_wp2
    go_ret
    exact ⟨rfl, HB.out.alloc HB.out.size _⟩
  · cases bj
    · go_wp2
      go_ret
      exact ⟨rfl, HB.out.alloc HB.out.size _⟩
    · go_wp2_with fail
      refine (leq_any lv cs lv' cs' _).mono ?_
      rintro e w3 ⟨rfl, hb3⟩
      have HB3 := Lib.hid ((HB.out.alloc HB.out.size _).trans (hb3.mono (by have := HB.out.size; simp; omega)))
      clear hb3
      go_wp2
      go_ret
      exact ⟨by simp, HB3.out⟩
end Go.Proofs.YtfackmiojbdjhaaDoor
