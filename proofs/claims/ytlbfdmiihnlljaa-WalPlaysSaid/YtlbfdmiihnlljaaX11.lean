import Derived.Test.YtlbfdmiihnlljaaX10
/- The answer's transaction half way through a Put. -/
namespace Go.Proofs.Ytlbfdmiihnlljaa
set_option linter.unusedSimpArgs false
set_option linter.unusedVariables false
open Go.RowKit Go.Maps

theorem ownsRow_keep' {w w' : World} {base : Nat} {e : TypeId} {size n : Nat} {v : Value} {xs : List Value} (h : w.ownsRow base e size v n xs) (hk : ∀ k, v.ownBlock = some k → w'.heap[k]? = w.heap[k]?) : w'.ownsRow base e size v n xs := by
  obtain ⟨hl, ⟨hv, hn⟩ | ⟨g, cap, cur, hv, hg, hh, r⟩⟩ := h
  · exact ⟨hl, .inl ⟨hv, hn⟩⟩
  · refine ⟨hl, .inr ⟨g, cap, cur, hv, hg, ?_, r⟩⟩
    rw [hk g (by rw [hv]; simp [Value.ownBlock])]
    exact hh
/-- the list of places has been laid anew, the blocks have not -/
structure Rm (w : World) (x l b5 base : Nat) (va' vb : Value) (T U : TS) (f : Nat → Int) (co : Int) : Prop where
  lt : x < base
  b5x : b5 ≠ x
  b5b : b5 < base
  bw : base ≤ w.heap.size
  c0 : w.cell? ⟨x, 0, none⟩ = some (.pointer (some ⟨l, 0, none⟩))
  c1 : w.cell? ⟨x, 1, none⟩ = some va'
  c2 : w.cell? ⟨x, 2, none⟩ = some vb
  c3 : w.cell? ⟨x, 3, none⟩ = some (.int .i64 co)
  z1 : w.frozen? ⟨x, 1, none⟩ = false
  z2 : w.frozen? ⟨x, 2, none⟩ = false
  z3 : w.frozen? ⟨x, 3, none⟩ = false
  row : w.ownsRow base 3 1 va' U.length (keyV U)
  bv : Bv w vb T
  vbx : Ns.off vb x x
  vbb : ∀ k, vb.ownBlock = some k → k < base
  fl : Fl w b5 64 f
theorem Rm.of {w : World} {x l b5 base : Nat} {va va' vb : Value} {T U : TS} {f : Nat → Int} {co : Int} (h : Rx w x l va vb T co) (hF : Fl w b5 64 f) (ho : w.ownsRow base 3 1 va' U.length (keyV U)) (hx : x < base) (hbw : base ≤ w.heap.size) (hvb : Ns.off vb x x) (hvbb : ∀ k, vb.ownBlock = some k → k < base) (h5 : b5 ≠ x) (h5b : b5 < base) :
    Rm (w.setCell ⟨x, 1, none⟩ va') x l b5 base va' vb T U f co := by
  have hk : Kp w (w.setCell ⟨x, 1, none⟩ va') x x := (Kp.refl w x x).setCell ⟨x, 1, none⟩ (.inl rfl) _
  exact ⟨hx, h5, h5b, by simpa [World.setCell] using hbw, cell_set_other h.c0 _ (by decide), cell_set_same h.c1 _, cell_set_other h.c2 _ (by decide), cell_set_other h.c3 _ (by decide),
    frozen_set h.z1 _, frozen_set h.z2 _, frozen_set h.z3 _, ownsRow_keep' ho (fun k hk' => Below.heap_setCell _ _ _ _ (by have := ownsRow_block ho k hk'; show k ≠ x; omega)), h.bv.kp hk hvb, hvb, hvbb, hF.far _ (by exact fun e => h5 e.symm) _⟩
theorem Rm.below {w w' : World} {x l b5 base : Nat} {va' vb : Value} {T U : TS} {f : Nat → Int} {co : Int} (h : Rm w x l b5 base va' vb T U f co) (hb : Below w.heap.size w w') : Rm w' x l b5 base va' vb T U f co := by
  have hx : x < w.heap.size := Nat.lt_of_lt_of_le h.lt h.bw
  exact ⟨h.lt, h.b5x, h.b5b, Nat.le_trans h.bw hb.size, (hb.cell (p := ⟨x, 0, none⟩) hx).trans h.c0, (hb.cell (p := ⟨x, 1, none⟩) hx).trans h.c1, (hb.cell (p := ⟨x, 2, none⟩) hx).trans h.c2, (hb.cell (p := ⟨x, 3, none⟩) hx).trans h.c3,
    (hb.frozen (p := ⟨x, 1, none⟩) hx).trans h.z1, (hb.frozen (p := ⟨x, 2, none⟩) hx).trans h.z2, (hb.frozen (p := ⟨x, 3, none⟩) hx).trans h.z3, ownsRow_below h.row hb, h.bv.below hb, h.vbx, h.vbb, h.fl.below hb h.fl.lt⟩
theorem Rm.done {w : World} {x l b5 base base2 : Nat} {va' vb vb' : Value} {T U : TS} {f : Nat → Int} {co : Int} (h : Rm w x l b5 base va' vb T U f co) (ho : w.ownsRow base2 50 64 vb' U.length (flatB U)) (h2 : base ≤ base2) :
    Rx (w.setCell ⟨x, 2, none⟩ vb') x l va' vb' U co := by
  have hx : x < w.heap.size := Nat.lt_of_lt_of_le h.lt h.bw
  have hlx := h.lt
  have hkl : (keys U).length = U.length := by simp [keys]
  have hr : (w.setCell ⟨x, 2, none⟩ vb').ownsRow base 3 1 va' (keys U).length (keyV U) := by
    rw [hkl]
    exact ownsRow_keep' h.row (fun k hk' => Below.heap_setCell _ _ _ _ (by have := ownsRow_block h.row k hk'; show k ≠ x; omega))
  have ho2 : (w.setCell ⟨x, 2, none⟩ vb').ownsRow base2 50 64 vb' U.length (flatB U) := ownsRow_keep' ho (fun k hk' => Below.heap_setCell _ _ _ _ (by have := ownsRow_block ho k hk'; show k ≠ x; omega))
  exact ⟨lt_set hx _ _, cell_set_other h.c0 _ (by decide), cell_set_other h.c1 _ (by decide), cell_set_same h.c2 _, cell_set_other h.c3 _ (by decide), frozen_set h.z1 _, frozen_set h.z2 _, frozen_set h.z3 _, (ownsRow_ns hr).1, (ownsRow_bv ho2).1⟩
theorem take_get {α : Type} {L : List α} {k j : Nat} {u : α} (h : (L.take k)[j]? = some u) : L[j]? = some u := by
  have hl : j < (L.take k).length := (List.getElem?_eq_some_iff.1 h).1
  rw [List.length_take] at hl
  rwa [List.getElem?_take_of_lt (by omega)] at h
theorem drop_get {α : Type} {L : List α} {k j : Nat} {u : α} (h : (L.drop k)[j]? = some u) : L[k + j]? = some u := by
  rwa [List.getElem?_drop] at h
theorem one_news {w : World} {b : Nat} {v : Value} (h : w.cell? ⟨b, 0, none⟩ = some v) : ∀ j u, [v][j]? = some u → w.cell? ((⟨b, 0, none⟩ : Addr).add j) = some u := by
  intro j u hj
  cases j with
  | zero =>
    rw [Addr.add_mid]
    simp at hj
    subst hj
    exact h
  | succ j => simp at hj
theorem slice_form {w : World} {base : Nat} {e : TypeId} {size n : Nat} {v : Value} {xs : List Value} (h : w.ownsRow base e size v n xs) : ∃ a c, v = .slice a n c := by
  obtain ⟨hl, ⟨hv, hn⟩ | ⟨g, cap, cur, hv, r⟩⟩ := h
  · exact ⟨_, _, by rw [hv, hn]⟩
  · exact ⟨_, _, hv⟩
end Go.Proofs.Ytlbfdmiihnlljaa
