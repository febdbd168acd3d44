import Derived.Test.YtfackmiojbdjhaaDoorC20
import Derived.Test.YtfackmiojbdjhaaDoorC11
import Derived.Test.YtfackmiojbdjhaaDoorShelf
import Derived.Shelf.GgClosure.Gives
import Derived.Lib.FieldsP
import Derived.Lib.SplitLaws
/- Parse: its pieces. -/
namespace Go.Proofs.YtfackmiojbdjhaaDoor
set_option linter.unusedSimpArgs false
set_option linter.unusedVariables false
open Go.RowKit Go.Maps

theorem new_any (vr0 vm0 : Value) (rs : List Rg) (ms : List (Int × Int)) (w : World) (hr : Regs w vr0 rs) (hok : ∀ r ∈ rs, r.ok) (hm : Mks w vm0 ms) (hmk : ∀ m ∈ ms, markOk m) (hml : ms.length ≤ 5000) :
    Calls Tryd.prog 9 #[vr0, vm0] w (NewPost rs ms w) := by
  by_cases h1 : rs.length = 0
  · obtain ⟨a, cap, rfl⟩ := hr.form
    have HE : Hid (newE rs ms = 23) := by show newE rs ms = 23; unfold newE; rw [if_pos (Or.inl (by omega))]
    rw [h1]
    clear hr hok hm hmk h1
    go_enter Tryd.func9, Tryd.ntmps9
    go_wp2
    refine bodyPost_ret (v := .tuple #[.pointer none, .int .i64 23]) (by simp [results, Tryd.results9, go_sem]) rfl (NewPost.bad 23 HE.out (by decide) rfl (Below.refl _ _))
  · by_cases h64 : rs.length ≤ 64
    · obtain ⟨b, off, cap, rfl, hbl, -, hrow⟩ := hr.row (by omega)
      exact new_some b off cap rs vm0 ms w hbl (by omega) h64 hrow hok hm hmk hml
    · have hx := hr.max
      obtain ⟨a, cap, rfl⟩ := hr.form
      have HE : Hid (newE rs ms = 23) := by show newE rs ms = 23; unfold newE; rw [if_pos (Or.inr (by omega))]
      obtain ⟨N, hN⟩ : ∃ N, rs.length = N := ⟨_, rfl⟩
      rw [hN] at h1 h64 hx ⊢
      have i1 : ¬ ((N : Int) = 0) := by omega
      have i2 : 64 < (N : Int) := by omega
      unfold maxLen at hx
      clear hr hok hm hmk hN
      go_enter Tryd.func9, Tryd.ntmps9
      go_wp2
      refine bodyPost_ret (v := .tuple #[.pointer none, .int .i64 23]) (by simp [results, Tryd.results9, go_sem]) rfl (NewPost.bad 23 HE.out (by decide) rfl (Below.refl _ _))

def blankP (r : Nat) : Bool := decide (r = 32) || (decide (9 ≤ r) && decide (r ≤ 13))
theorem isblank_any (r : Nat) (W : World) : Calls Tryd.prog 41 #[.int .i32 (r : Int)] W fun e w' => e = .returned (.bool (blankP r)) ∧ w' = W := by
  by_cases h32 : r = 32
  · have i1 : (r : Int) = 32 := by omega
    have HB : Hid (blankP r = true) := by show blankP r = true; simp [blankP, h32]
    subst h32
    go_enter Tryd.func41, Tryd.ntmps41
    go_wp2
    go_ret
    exact ⟨by rw [HB.out]; rfl, rfl⟩
  · have i1 : ¬ ((r : Int) = 32) := by omega
    by_cases h9 : 9 ≤ r
    · have i2 : 9 ≤ (r : Int) := by omega
      by_cases h13 : r ≤ 13
      · have i3 : (r : Int) ≤ 13 := by omega
        have HB : Hid (blankP r = true) := by show blankP r = true; simp [blankP, h9, h13]
        go_enter Tryd.func41, Tryd.ntmps41
        go_wp2
        go_ret
        exact ⟨by rw [HB.out]; rfl, rfl⟩
      · have i3 : ¬ ((r : Int) ≤ 13) := by omega
        have HB : Hid (blankP r = false) := by show blankP r = false; simp [blankP, h32, h13]
        go_enter Tryd.func41, Tryd.ntmps41
        go_wp2
        go_ret
        exact ⟨by rw [HB.out]; exact ret_bool (beq_eq_false_iff_ne.mpr i1), rfl⟩
    · have i2 : ¬ (9 ≤ (r : Int)) := by omega
      have HB : Hid (blankP r = false) := by show blankP r = false; simp [blankP, h32, h9]
      go_enter Tryd.func41, Tryd.ntmps41
      go_wp2
      go_ret
      exact ⟨by rw [HB.out]; exact ret_bool (beq_eq_false_iff_ne.mpr i1), rfl⟩
theorem isblank_pred (w : World) : PredAt Tryd.prog 41 #[] encR blankP w := by
  intro W r _
  unfold FnGives
  refine (isblank_any r W).mono ?_
  rintro e w' ⟨rfl, rfl⟩
  exact ⟨rfl, 0, rfl⟩

theorem spans_len (p : Nat → Bool) (s : ByteArray) : ∀ (f pos : Nat) (st : Option Nat) (acc : List (Nat × Nat)), (Lib.spansFromP p s f pos st acc).1.length ≤ acc.length + f
  | 0, _, _, acc => by simp [Lib.spansFromP]
  | f + 1, pos, st, acc => by
    unfold Lib.spansFromP
    split
    · split
      · cases st with
        | none => exact Nat.le_trans (spans_len p s f _ _ _) (by omega)
        | some a => exact Nat.le_trans (spans_len p s f _ _ _) (by simp; omega)
      · cases st with
        | none => exact Nat.le_trans (spans_len p s f _ _ _) (by omega)
        | some a => exact Nat.le_trans (spans_len p s f _ _ _) (by omega)
    · exact Nat.le_add_right _ _
theorem fields_len (p : Nat → Bool) (s : ByteArray) : (Lib.goFieldsP p s).length ≤ s.size + 1 := by
  unfold Lib.goFieldsP Lib.spansOfP Lib.closeSpans
  rw [List.length_map]
  have := spans_len p s s.size 0 none []
  simp only [List.length_nil] at this
  split
  · simp; omega
  · omega
theorem extract_le (s : ByteArray) (a b : Nat) : (s.extract a b).size ≤ s.size := by
  rw [ByteArray.size_extract]; omega
theorem fields_size (p : Nat → Bool) (s : ByteArray) : ∀ x ∈ Lib.goFieldsP p s, x.size ≤ s.size := by
  intro x hx
  unfold Lib.goFieldsP at hx
  obtain ⟨y, _, rfl⟩ := List.mem_map.1 hx
  exact extract_le _ _ _
theorem splitB_size (sep : ByteArray) : ∀ (k : Nat) (s : ByteArray), ∀ x ∈ Lib.splitB sep 0 k s, x.size ≤ s.size
  | 0, s, x, hx => by
    simp [Lib.splitB] at hx; rw [hx]; exact Nat.le_refl _
  | k + 1, s, x, hx => by
    unfold Lib.splitB at hx
    split at hx
    · simp at hx; rw [hx]; exact Nat.le_refl _
    · rcases List.mem_cons.1 hx with rfl | hx
      · exact extract_le _ _ _
      · exact Nat.le_trans (splitB_size sep k _ x hx) (extract_le _ _ _)
theorem split_fst_len (c : UInt8) (s : List UInt8) : (splitC c s).1.length ≤ s.length := by
  cases h : (splitC c s).2 with
  | none => rw [(splitC_none c s h).1]; exact Nat.le_refl _
  | some t => have := congrArg List.length (splitC_some c s t h).1; rw [List.length_append] at this; omega
theorem readLv_range (s : List UInt8) : 0 ≤ readLv s ∧ readLv s < 256 := by
  unfold readLv
  cases readL s with
  | none => simp
  | some x => simp only; unfold ofLv; split <;> omega
theorem readCs_range (s : List UInt8) : 0 ≤ readCs s ∧ readCs s < 65536 := by
  unfold readCs
  cases readL s with
  | none => simp
  | some x =>
    simp only
    unfold ofCs
    split
    · rename_i h
      have := ofN_lt x.2 h.2.2
      omega
    · omega
end Go.Proofs.YtfackmiojbdjhaaDoor
