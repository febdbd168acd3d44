import Derived.Test.YtbjniddikgcaeaaDoorC15
/- The state when one of its rows has grown. -/
namespace Go.Proofs.YtbjniddikgcaeaaDoor
set_option linter.unusedSimpArgs false
set_option linter.unusedVariables false
open Go.RowKit Go.Maps

theorem ownsRow_lt0 {w : World} {base : Nat} {e : TypeId} {size : Nat} {v : Value} {n : Nat} {xs : List Value} (h : w.ownsRow base e size v n xs) : ∀ k, v.ownBlock = some k → k < w.heap.size := by
  intro k hk
  obtain ⟨_, ⟨hv, _⟩ | ⟨g, cap, cur, hv, hg, hh, _⟩⟩ := h
  · rw [hv] at hk; simp [Value.ownBlock] at hk
  · rw [hv] at hk
    simp only [Value.ownBlock, Option.some.injEq] at hk
    subst hk
    exact (Array.getElem?_eq_some_iff.1 hh).1
theorem TX.step0 {bt : Nat} {w w6 : World} {vr vc vt v : Value} {rs : List Rg} {cls : List ByteArray} {trs : List (Int × ByteArray × ByteArray)} (rs' : List Rg) (h : TX bt w vr vc vt rs cls trs) (hs : Sx w bt vr w6) (e : w6.heap[bt]? = w.heap[bt]?)
    (hr : w6.ownsRow (bt + 1) 39 9 v rs'.length (flatR rs')) (hv : v.ownBlock = vr.ownBlock ∨ ∃ g, v.ownBlock = some g ∧ w.heap.size ≤ g) :
    TX bt (w6.setCell ⟨bt, 0, none⟩ v) v vc vt rs' cls trs ∧ Fr bt (Own3 vr vc vt) (Own3 v vc vt) w (w6.setCell ⟨bt, 0, none⟩ v) := by
  have x_vc : ∀ k, v.ownBlock = some k → vc.ownBlock ≠ some k := by
    intro k hk hu
    rcases hv with hv | ⟨g, hv, hg⟩
    · rw [hv] at hk
      exact h.d1 k hk hu
    · rw [hv] at hk
      obtain rfl := Option.some.inj hk
      have := ownsRow_lt0 h.rc _ hu
      omega
  have s_vc : ∀ b, vc.ownBlock = some b → w6.heap[b]? = w.heap[b]? := fun b hb => hs.same b (ownsRow_lt0 h.rc b hb) (by have := ownsRow_block h.rc b hb; omega) (fun e => h.d1 b e hb)
  have x_vt : ∀ k, v.ownBlock = some k → vt.ownBlock ≠ some k := by
    intro k hk hu
    rcases hv with hv | ⟨g, hv, hg⟩
    · rw [hv] at hk
      exact h.d2 k hk hu
    · rw [hv] at hk
      obtain rfl := Option.some.inj hk
      have := ownsRow_lt0 h.rt _ hu
      omega
  have s_vt : ∀ b, vt.ownBlock = some b → w6.heap[b]? = w.heap[b]? := fun b hb => hs.same b (ownsRow_lt0 h.rt b hb) (by have := ownsRow_block h.rt b hb; omega) (fun e => h.d2 b e hb)
  have e7 : ∀ b, b ≠ bt → (w6.setCell ⟨bt, 0, none⟩ v).heap[b]? = w6.heap[b]? := fun b hb => heap_set _ _ _ _ hb
  refine ⟨⟨by rw [size_set]; exact Nat.lt_of_lt_of_le h.lt hs.sz, ?_, ?_, ?_, ?_, ?_, ?_, ?_, ?_, ?_, ?_, ?_, ?_⟩, ⟨by rw [size_set]; exact hs.sz, ?_, ?_, (hs.set 0 v).bel⟩⟩
  · exact World.cell?_setCell_same _ _ _ ((cell_same e).trans h.c0)
  · rw [World.cell?_setCell_other _ _ _ _ (by simp)]; exact (cell_same e).trans h.c1
  · rw [World.cell?_setCell_other _ _ _ _ (by simp)]; exact (cell_same e).trans h.c2
  · simpa using (frozen_same e).trans h.f0
  · simpa using (frozen_same e).trans h.f1
  · simpa using (frozen_same e).trans h.f2
  · exact ownsRow_same hr (fun b hb _ => e7 b (by omega))
  · exact ownsRow_same2 (ownsRow_same2 h.rc s_vc) (fun b hb => e7 b (by have := ownsRow_block h.rc b hb; omega))
  · exact ownsRow_same2 (ownsRow_same2 h.rt s_vt) (fun b hb => e7 b (by have := ownsRow_block h.rt b hb; omega))
  · exact x_vc
  · exact x_vt
  · exact h.d3
  · intro b hb hne ho
    exact (e7 b hne).trans (hs.same b hb hne (fun e => ho (.inl e)))
  · intro k hk
    rcases hk with hk | hk | hk
    · rcases hv with hv | ⟨g, hv, hg⟩
      · exact .inl (.inl (hv ▸ hk))
      · rw [hv] at hk
        obtain rfl := Option.some.inj hk
        exact .inr hg
    · exact .inl (.inr (.inl hk))
    · exact .inl (.inr (.inr hk))
theorem TX.step1 {bt : Nat} {w w6 : World} {vr vc vt v : Value} {rs : List Rg} {cls : List ByteArray} {trs : List (Int × ByteArray × ByteArray)} (cls' : List ByteArray) (h : TX bt w vr vc vt rs cls trs) (hs : Sx w bt vc w6) (e : w6.heap[bt]? = w.heap[bt]?)
    (hr : w6.ownsRow (bt + 1) 9 1 v cls'.length (cls'.map Value.string)) (hv : v.ownBlock = vc.ownBlock ∨ ∃ g, v.ownBlock = some g ∧ w.heap.size ≤ g) :
    TX bt (w6.setCell ⟨bt, 1, none⟩ v) vr v vt rs cls' trs ∧ Fr bt (Own3 vr vc vt) (Own3 vr v vt) w (w6.setCell ⟨bt, 1, none⟩ v) := by
  have x_vr : ∀ k, v.ownBlock = some k → vr.ownBlock ≠ some k := by
    intro k hk hu
    rcases hv with hv | ⟨g, hv, hg⟩
    · rw [hv] at hk
      exact h.d1 k hu hk
    · rw [hv] at hk
      obtain rfl := Option.some.inj hk
      have := ownsRow_lt0 h.rr _ hu
      omega
  have s_vr : ∀ b, vr.ownBlock = some b → w6.heap[b]? = w.heap[b]? := fun b hb => hs.same b (ownsRow_lt0 h.rr b hb) (by have := ownsRow_block h.rr b hb; omega) (fun e => h.d1 b hb e)
  have x_vt : ∀ k, v.ownBlock = some k → vt.ownBlock ≠ some k := by
    intro k hk hu
    rcases hv with hv | ⟨g, hv, hg⟩
    · rw [hv] at hk
      exact h.d3 k hk hu
    · rw [hv] at hk
      obtain rfl := Option.some.inj hk
      have := ownsRow_lt0 h.rt _ hu
      omega
  have s_vt : ∀ b, vt.ownBlock = some b → w6.heap[b]? = w.heap[b]? := fun b hb => hs.same b (ownsRow_lt0 h.rt b hb) (by have := ownsRow_block h.rt b hb; omega) (fun e => h.d3 b e hb)
  have e7 : ∀ b, b ≠ bt → (w6.setCell ⟨bt, 1, none⟩ v).heap[b]? = w6.heap[b]? := fun b hb => heap_set _ _ _ _ hb
  refine ⟨⟨by rw [size_set]; exact Nat.lt_of_lt_of_le h.lt hs.sz, ?_, ?_, ?_, ?_, ?_, ?_, ?_, ?_, ?_, ?_, ?_, ?_⟩, ⟨by rw [size_set]; exact hs.sz, ?_, ?_, (hs.set 1 v).bel⟩⟩
  · rw [World.cell?_setCell_other _ _ _ _ (by simp)]; exact (cell_same e).trans h.c0
  · exact World.cell?_setCell_same _ _ _ ((cell_same e).trans h.c1)
  · rw [World.cell?_setCell_other _ _ _ _ (by simp)]; exact (cell_same e).trans h.c2
  · simpa using (frozen_same e).trans h.f0
  · simpa using (frozen_same e).trans h.f1
  · simpa using (frozen_same e).trans h.f2
  · exact ownsRow_same2 (ownsRow_same2 h.rr s_vr) (fun b hb => e7 b (by have := ownsRow_block h.rr b hb; omega))
  · exact ownsRow_same hr (fun b hb _ => e7 b (by omega))
  · exact ownsRow_same2 (ownsRow_same2 h.rt s_vt) (fun b hb => e7 b (by have := ownsRow_block h.rt b hb; omega))
  · exact fun k hk hu => x_vr k hu hk
  · exact h.d2
  · exact x_vt
  · intro b hb hne ho
    exact (e7 b hne).trans (hs.same b hb hne (fun e => ho (.inr (.inl e))))
  · intro k hk
    rcases hk with hk | hk | hk
    · exact .inl (.inl hk)
    · rcases hv with hv | ⟨g, hv, hg⟩
      · exact .inl (.inr (.inl (hv ▸ hk)))
      · rw [hv] at hk
        obtain rfl := Option.some.inj hk
        exact .inr hg
    · exact .inl (.inr (.inr hk))
theorem TX.step2 {bt : Nat} {w w6 : World} {vr vc vt v : Value} {rs : List Rg} {cls : List ByteArray} {trs : List (Int × ByteArray × ByteArray)} (trs' : List (Int × ByteArray × ByteArray)) (h : TX bt w vr vc vt rs cls trs) (hs : Sx w bt vt w6) (e : w6.heap[bt]? = w.heap[bt]?)
    (hr : w6.ownsRow (bt + 1) 138 3 v trs'.length (trs'.flatMap trustCells)) (hv : v.ownBlock = vt.ownBlock ∨ ∃ g, v.ownBlock = some g ∧ w.heap.size ≤ g) :
    TX bt (w6.setCell ⟨bt, 2, none⟩ v) vr vc v rs cls trs' ∧ Fr bt (Own3 vr vc vt) (Own3 vr vc v) w (w6.setCell ⟨bt, 2, none⟩ v) := by
  have x_vr : ∀ k, v.ownBlock = some k → vr.ownBlock ≠ some k := by
    intro k hk hu
    rcases hv with hv | ⟨g, hv, hg⟩
    · rw [hv] at hk
      exact h.d2 k hu hk
    · rw [hv] at hk
      obtain rfl := Option.some.inj hk
      have := ownsRow_lt0 h.rr _ hu
      omega
  have s_vr : ∀ b, vr.ownBlock = some b → w6.heap[b]? = w.heap[b]? := fun b hb => hs.same b (ownsRow_lt0 h.rr b hb) (by have := ownsRow_block h.rr b hb; omega) (fun e => h.d2 b hb e)
  have x_vc : ∀ k, v.ownBlock = some k → vc.ownBlock ≠ some k := by
    intro k hk hu
    rcases hv with hv | ⟨g, hv, hg⟩
    · rw [hv] at hk
      exact h.d3 k hu hk
    · rw [hv] at hk
      obtain rfl := Option.some.inj hk
      have := ownsRow_lt0 h.rc _ hu
      omega
  have s_vc : ∀ b, vc.ownBlock = some b → w6.heap[b]? = w.heap[b]? := fun b hb => hs.same b (ownsRow_lt0 h.rc b hb) (by have := ownsRow_block h.rc b hb; omega) (fun e => h.d3 b hb e)
  have e7 : ∀ b, b ≠ bt → (w6.setCell ⟨bt, 2, none⟩ v).heap[b]? = w6.heap[b]? := fun b hb => heap_set _ _ _ _ hb
  refine ⟨⟨by rw [size_set]; exact Nat.lt_of_lt_of_le h.lt hs.sz, ?_, ?_, ?_, ?_, ?_, ?_, ?_, ?_, ?_, ?_, ?_, ?_⟩, ⟨by rw [size_set]; exact hs.sz, ?_, ?_, (hs.set 2 v).bel⟩⟩
  · rw [World.cell?_setCell_other _ _ _ _ (by simp)]; exact (cell_same e).trans h.c0
  · rw [World.cell?_setCell_other _ _ _ _ (by simp)]; exact (cell_same e).trans h.c1
  · exact World.cell?_setCell_same _ _ _ ((cell_same e).trans h.c2)
  · simpa using (frozen_same e).trans h.f0
  · simpa using (frozen_same e).trans h.f1
  · simpa using (frozen_same e).trans h.f2
  · exact ownsRow_same2 (ownsRow_same2 h.rr s_vr) (fun b hb => e7 b (by have := ownsRow_block h.rr b hb; omega))
  · exact ownsRow_same2 (ownsRow_same2 h.rc s_vc) (fun b hb => e7 b (by have := ownsRow_block h.rc b hb; omega))
  · exact ownsRow_same hr (fun b hb _ => e7 b (by omega))
  · exact h.d1
  · exact fun k hk hu => x_vr k hu hk
  · exact fun k hk hu => x_vc k hu hk
  · intro b hb hne ho
    exact (e7 b hne).trans (hs.same b hb hne (fun e => ho (.inr (.inr e))))
  · intro k hk
    rcases hk with hk | hk | hk
    · exact .inl (.inl hk)
    · exact .inl (.inr (.inl hk))
    · rcases hv with hv | ⟨g, hv, hg⟩
      · exact .inl (.inr (.inr (hv ▸ hk)))
      · rw [hv] at hk
        obtain rfl := Option.some.inj hk
        exact .inr hg
end Go.Proofs.YtbjniddikgcaeaaDoor
