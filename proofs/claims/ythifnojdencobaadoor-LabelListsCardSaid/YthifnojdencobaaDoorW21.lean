import Derived.Lib.SmallJoins
import Derived.IntWalk
import Derived.Test.YthifnojdencobaaDoorSplit
import Derived.Test.YthifnojdencobaaDoorW19
import Derived.Test.YthifnojdencobaaDoorW16
import Derived.OwnWalk
import Derived.Deep.DeepCutAuto
import Derived.Laws.AppendOwnNone
namespace Go.Proofs.YthifnojdencobaaDoor
open Go.RowKit

/-- labels as a row of cells -/
def flat : List (Int × Int) → List Value
  | [] => []
  | x :: r => .int .u8 x.1 :: .int .u16 x.2 :: flat r
theorem flat_len : ∀ l : List (Int × Int), (flat l).length = l.length * 2
  | [] => rfl
  | x :: r => by rw [flat, List.length_cons, List.length_cons, flat_len r, List.length_cons]; omega
theorem flat_at : ∀ (l : List (Int × Int)) (i : Nat) (h : i < l.length), (flat l)[i * 2]? = some (.int .u8 l[i].1) ∧ (flat l)[i * 2 + 1]? = some (.int .u16 l[i].2)
  | [], i, h => by simp at h
  | x :: r, 0, _ => ⟨rfl, rfl⟩
  | x :: r, i + 1, h => by
    have := flat_at r i (by simpa using h)
    rw [show (i + 1) * 2 = i * 2 + 2 by omega]
    simpa [flat] using this
theorem flat_set : ∀ (l : List (Int × Int)) (i : Nat) (y : Int × Int), ((flat l).set (i * 2) (.int .u8 y.1)).set (i * 2 + 1) (.int .u16 y.2) = flat (l.set i y)
  | [], i, y => rfl
  | x :: r, 0, y => rfl
  | x :: r, i + 1, y => by
    rw [show (i + 1) * 2 = i * 2 + 1 + 1 by omega]
    simp only [flat, List.set_cons_succ]
    rw [flat_set r i y]
theorem flat_one (l : List (Int × Int)) : ∀ u ∈ flat l, u.oneCell' = true := by
  induction l with
  | nil => intro u hu; cases hu
  | cons x r ih =>
    intro u hu
    simp only [flat, List.mem_cons] at hu
    rcases hu with rfl | rfl | hu
    · rfl
    · rfl
    · exact ih u hu
theorem flat_cells {w : World} {b off : Nat} {ls : List (Int × Int)} (h0 : ∀ i (h : i < ls.length), w.cell? ⟨b, off + i * 2, none⟩ = some (.int .u8 ls[i].1)) (h1 : ∀ i (h : i < ls.length), w.cell? ⟨b, off + i * 2 + 1, none⟩ = some (.int .u16 ls[i].2)) :
    ∀ j u, (flat ls)[j]? = some u → w.cell? (Addr.add ⟨b, off, none⟩ j) = some u := by
  intro j u hu
  have hj : j < ls.length * 2 := by
    rw [← flat_len]
    rcases Nat.lt_or_ge j (flat ls).length with h | h
    · exact h
    · rw [List.getElem?_eq_none h] at hu; cases hu
  have ea : ∀ n, Addr.add ⟨b, off, none⟩ n = ⟨b, off + n, none⟩ := by
    intro n
    unfold Addr.add
    split
    · rename_i h; subst h; rfl
    · rfl
  rw [ea]
  have hi : j / 2 < ls.length := by omega
  obtain ⟨f0, f1⟩ := flat_at ls (j / 2) hi
  rcases Nat.mod_two_eq_zero_or_one j with hm | hm
  · have e : j = j / 2 * 2 := by omega
    rw [e] at hu ⊢
    rw [f0] at hu
    rw [← hu]; exact h0 _ hi
  · have e : j = j / 2 * 2 + 1 := by omega
    rw [e] at hu ⊢
    rw [f1] at hu
    rw [← hu, ← Nat.add_assoc]; exact h1 _ hi
theorem ownsRow_labs {w : World} {base : Nat} {v : Value} {ls : List (Int × Int)} (h : w.ownsRow base 25 2 v ls.length (flat ls)) : Labs w v ls := by
  rcases Nat.eq_zero_or_pos ls.length with h0 | h0
  · obtain rfl := List.eq_nil_of_length_eq_zero h0
    obtain ⟨_, ⟨hv, _⟩ | ⟨g, cap, cur, hv, _⟩⟩ := h
    · exact .inl ⟨none, 0, hv, rfl⟩
    · exact .inl ⟨_, cap, hv, rfl⟩
  · obtain ⟨_, ⟨hv, hn⟩ | ⟨g, cap, cur, hv, hg, hh, hc, hm, hs, ht⟩⟩ := id h
    · omega
    · subst hv
      have hlt : g < w.heap.size := by
        rcases Nat.lt_or_ge g w.heap.size with h' | h'
        · exact h'
        · rw [Array.getElem?_eq_none h'] at hh; simp at hh
      refine .inr ⟨g, 0, cap, rfl, hlt, Nat.le_trans hc hm, fun i hi => ?_, fun i hi => ?_⟩
      · rw [Nat.zero_add, h.cellAt (i * 2) (by omega)]; exact (flat_at ls i hi).1
      · rw [Nat.zero_add, h.cellAt (i * 2 + 1) (by omega)]; exact (flat_at ls i hi).2
theorem Tryd.info25 : (Tryd.prog.info? 25).map (fun i => (i.zero, i.size, i.bytes)) = some (some (.agg #[.int .u8 0, .int .u16 0]), 2, 4) := by kernel_rfl

/-- what the first loop makes of the labels -/
def upd (joined : Bool) (L : List (Int × Int)) (k : Nat) : List (Int × Int) := if joined && decide (0 < k) then L.set k (joinC [L.getD (k - 1) (0, 0), L.getD k (0, 0)]) else L
def runJ (joined : Bool) (ls : List (Int × Int)) : Nat → List (Int × Int)
  | 0 => ls
  | k + 1 => upd joined (runJ joined ls k) k
theorem runJ_len (joined : Bool) (ls : List (Int × Int)) : ∀ k, (runJ joined ls k).length = ls.length
  | 0 => rfl
  | k + 1 => by
    rw [runJ, upd]
    split
    · rw [List.length_set, runJ_len joined ls k]
    · exact runJ_len joined ls k

theorem wpOp_step0 {P : Program} {ops : Array Oper} {Q : Exit → Act → World → Prop} {i : Nat} {o : Oper} {K : Act → World → Prop} {a : Act} {w : World} (ho : ops[i]? = some o) (hg : o.guard = none)
    (h : ∀ K' : Act → World → Prop, (∀ a w, K a w → K' a w) → Oper.wp P o a w K' Q) : wpOp P ops Q i K a w :=
  wpOp_step ho fun K' hK => by simp only [Region.wanted, hg, if_true]; exact h K' hK
theorem runJ_false (ls : List (Int × Int)) : ∀ k, runJ false ls k = ls
  | 0 => rfl
  | k + 1 => by rw [runJ, runJ_false ls k]; rfl
theorem runJ_range (joined : Bool) (ls : List (Int × Int)) (h : InRange ls) (hl : ∀ x ∈ ls, 0 ≤ x.1 ∧ x.1 ≤ 255) : ∀ k, k ≤ ls.length → InRange (runJ joined ls k) ∧ ∀ x ∈ runJ joined ls k, 0 ≤ x.1 ∧ x.1 ≤ 255
  | 0, _ => ⟨h, hl⟩
  | k + 1, hk => by
    obtain ⟨h1, h2⟩ := runJ_range joined ls h hl k (by omega)
    rw [runJ, upd]
    split
    · have hlen := runJ_len joined ls k
      have g : ∀ i, i < ls.length → (0 ≤ ((runJ joined ls k).getD i (0, 0)).2 ∧ ((runJ joined ls k).getD i (0, 0)).2 < 65536) ∧ 0 ≤ ((runJ joined ls k).getD i (0, 0)).1 ∧ ((runJ joined ls k).getD i (0, 0)).1 ≤ 255 := by
        intro i hi
        rw [List.getD_eq_getElem?_getD, List.getElem?_eq_getElem (by omega), Option.getD_some]
        exact ⟨h1 _ (List.getElem_mem _), h2 _ (List.getElem_mem _)⟩
      obtain ⟨ga, ga'⟩ := g (k - 1) (by omega)
      obtain ⟨gb, gb'⟩ := g k (by omega)
      generalize (runJ joined ls k).getD (k - 1) (0, 0) = a at *
      generalize (runJ joined ls k).getD k (0, 0) = b at *
      obtain ⟨a1, a2⟩ := a
      obtain ⟨b1, b2⟩ := b
      obtain ⟨A, rfl⟩ := Int.eq_ofNat_of_zero_le ga.1
      obtain ⟨B, rfl⟩ := Int.eq_ofNat_of_zero_le gb.1
      have hA : A < 65536 := by have := ga.2; simp at this; omega
      have hB : B < 65536 := by have := gb.2; simp at this; omega
      rw [joinC2 a1 b1 A B ga'.1 hA hB]
      have ho := or_lt A B hA hB
      refine ⟨fun x hx => ?_, fun x hx => ?_⟩
      · rcases List.mem_or_eq_of_mem_set hx with hx | rfl
        · exact h1 x hx
        · simp; omega
      · rcases List.mem_or_eq_of_mem_set hx with hx | rfl
        · exact h2 x hx
        · simp at ga' gb' ⊢; omega
    · exact ⟨h1, h2⟩

/-- what the store of the first loop has come to -/
structure RJ (wr : World) (v' : Value) (g k : Nat) (X Y T : Int × Int) (f : Nat → Bool) (u29 u30 u31 u32 u33 u34 u35 u36 u37 u38 u39 u40 u41 u42 : Value) (wx : World) : Prop where
  last : f 14 = true → ∀ j, j < 14 → f j = true
  bl : f 14 = false → Below wr.heap.size wr wx
  f0 : f 0 = true → u29 = v'
  f1 : f 1 = true → u30 = .int .i64 k
  f2 : f 2 = true → u31 = v'
  f3 : f 3 = true → u32 = .int .i64 k
  f4 : f 4 = true → u33 = .int .i64 ((k : Int) - 1)
  f5 : f 5 = true → u34 = .pointer (some ⟨g, (k - 1) * 2, none⟩)
  f6 : f 6 = true → u35 = .agg #[.int .u8 X.1, .int .u16 X.2]
  f7 : f 7 = true → u36 = v'
  f8 : f 8 = true → u37 = .int .i64 k
  f9 : f 9 = true → u38 = .pointer (some ⟨g, k * 2, none⟩)
  f10 : f 10 = true → u39 = .agg #[.int .u8 Y.1, .int .u16 Y.2]
  f11 : f 12 = false → f 11 = true → Labs wx u40 [(X.1, X.2), (Y.1, Y.2)]
  f12 : f 12 = true → u41 = .agg #[.int .u8 T.1, .int .u16 T.2]
  f13 : f 13 = true → u42 = .pointer (some ⟨g, k * 2, none⟩)
  f14 : f 14 = true → ∃ wy, Below wr.heap.size wr wy ∧ wx = (wy.setCell ⟨g, k * 2, none⟩ (.int .u8 T.1)).setCell ⟨g, k * 2 + 1, none⟩ (.int .u16 T.2)
theorem RJ.mono {wr : World} {v' : Value} {g k : Nat} {X Y T : Int × Int} {f : Nat → Bool} {u29 u30 u31 u32 u33 u34 u35 u36 u37 u38 u39 u40 u41 u42 : Value} {wx wy : World} (r : RJ wr v' g k X Y T f u29 u30 u31 u32 u33 u34 u35 u36 u37 u38 u39 u40 u41 u42 wx) (h14 : f 14 = false) (h : Below wx.heap.size wx wy) : RJ wr v' g k X Y T f u29 u30 u31 u32 u33 u34 u35 u36 u37 u38 u39 u40 u41 u42 wy :=
  { last := r.last, bl := fun m => below_next (r.bl m) h, f0 := r.f0, f1 := r.f1, f2 := r.f2, f3 := r.f3, f4 := r.f4, f5 := r.f5, f6 := r.f6, f7 := r.f7, f8 := r.f8, f9 := r.f9, f10 := r.f10, f11 := fun m n => (r.f11 m n).below h, f12 := r.f12, f13 := r.f13, f14 := fun m => by rw [h14] at m; cases m }

theorem chainB_congr (L M : List (Int × Int)) : ∀ k, (∀ i, i < k → L.getD i (0, 0) = M.getD i (0, 0)) → chainB L k = chainB M k
  | 0, _ => rfl
  | k + 1, h => by
    rw [chainB, chainB, chainB_congr L M k (fun i hi => h i (by omega)), h k (by omega), h (k - 1) (by omega)]
theorem leq_join (x y : Int × Int) (hx : (0 ≤ x.2 ∧ x.2 < 65536) ∧ 0 ≤ x.1) (hy : 0 ≤ y.2 ∧ y.2 < 65536) : leqB x.1 x.2 (joinC [x, y]).1 (joinC [x, y]).2 = true := by
  obtain ⟨a1, a2⟩ := x
  obtain ⟨b1, b2⟩ := y
  obtain ⟨A, rfl⟩ := Int.eq_ofNat_of_zero_le hx.1.1
  obtain ⟨B, rfl⟩ := Int.eq_ofNat_of_zero_le hy.1
  have hA : A < 65536 := by have := hx.1.2; simp at this; omega
  have hB : B < 65536 := by have := hy.2; simp at this; omega
  rw [joinC2 a1 b1 A B hx.2 hA hB]
  refine (leqB_iff _ _ _ _ hA (or_lt A B hA hB)).2 ⟨by simp; omega, fun i _ h => ?_⟩
  rw [Nat.testBit_or, h, Bool.true_or]
theorem runJ_chain (ls : List (Int × Int)) (h : InRange ls) (hl : ∀ x ∈ ls, 0 ≤ x.1 ∧ x.1 ≤ 255) : ∀ k, k ≤ ls.length → chainB (runJ true ls k) k = true
  | 0, _ => rfl
  | k + 1, hk => by
    have ih := runJ_chain ls h hl k (by omega)
    have hlen := runJ_len true ls k
    obtain ⟨h1, h2⟩ := runJ_range true ls h hl k (by omega)
    rw [runJ, upd]
    rcases Nat.eq_zero_or_pos k with h0 | h0
    · subst h0; rfl
    · rw [if_pos (by simpa using h0), chainB]
      generalize runJ true ls k = L at *
      have g : ∀ i, i < ls.length → (0 ≤ (L.getD i (0, 0)).2 ∧ (L.getD i (0, 0)).2 < 65536) ∧ 0 ≤ (L.getD i (0, 0)).1 := by
        intro i hi
        rw [List.getD_eq_getElem?_getD, List.getElem?_eq_getElem (by omega), Option.getD_some]
        exact ⟨h1 _ (List.getElem_mem _), (h2 _ (List.getElem_mem _)).1⟩
      have e1 : ∀ y i, i ≠ k → (L.set k y).getD i (0, 0) = L.getD i (0, 0) := by
        intro y i hi
        rw [List.getD_eq_getElem?_getD, List.getD_eq_getElem?_getD, List.getElem?_set_ne (by omega)]
      have e2 : ∀ y, (L.set k y).getD k (0, 0) = y := by
        intro y
        rw [List.getD_eq_getElem?_getD, List.getElem?_set_self (by omega)]; rfl
      rw [chainB_congr _ L k (fun i hi => e1 _ i (by omega)), ih, e1 _ (k - 1) (by omega), e2, leq_join _ _ (g (k - 1) (by omega)) (g k (by omega)).1]
      simp
theorem ownsRow_labs' {w : World} {base n : Nat} {v : Value} {L : List (Int × Int)} (h : w.ownsRow base 25 2 v n (flat L)) (hn : n = L.length) : Labs w v L := by
  subst hn; exact ownsRow_labs h
end Go.Proofs.YthifnojdencobaaDoor
