import Derived.Test.YtfackmiojbdjhaaDoorC9
/- New. -/
namespace Go.Proofs.YtfackmiojbdjhaaDoor
set_option linter.unusedSimpArgs false
set_option linter.unusedVariables false
open Go.RowKit Go.Maps

/-- a slice of marks -/
structure Row2 (w : World) (b off : Nat) (ms : List (Int × Int)) : Prop where
  k0 : ∀ i (h : i < ms.length), w.cell? ⟨b, off + i * 2, none⟩ = some (.int .u8 ms[i].1)
  k1 : ∀ i (h : i < ms.length), w.cell? ⟨b, off + i * 2 + 1, none⟩ = some (.int .u16 ms[i].2)
theorem Row2.below {w w' : World} {B b off : Nat} {ms : List (Int × Int)} (h : Row2 w b off ms) (hb : Below B w w') (hB : b < B) : Row2 w' b off ms :=
  ⟨fun i hi => (hb.cell (p := ⟨b, off + i * 2, none⟩) hB).trans (h.k0 i hi), fun i hi => (hb.cell (p := ⟨b, off + i * 2 + 1, none⟩) hB).trans (h.k1 i hi)⟩
def Mks (w : World) (v : Value) (ms : List (Int × Int)) : Prop :=
  (∃ a cap, v = .slice a 0 cap ∧ ms = []) ∨ ∃ b off cap, v = .slice (some ⟨b, off, none⟩) ms.length cap ∧ b < w.heap.size ∧ ms.length ≤ maxLen ∧ Row2 w b off ms
theorem Mks.below {w w' : World} {v : Value} {ms : List (Int × Int)} (h : Mks w v ms) (hb : Below w.heap.size w w') : Mks w' v ms := by
  rcases h with h | ⟨b, off, cap, hv, hl, hm, hr⟩
  · exact .inl h
  · exact .inr ⟨b, off, cap, hv, Nat.lt_of_lt_of_le hl hb.size, hm, hr.below hb hl⟩
theorem Mks.form {w : World} {v : Value} {ms : List (Int × Int)} (h : Mks w v ms) : ∃ a cap, v = .slice a ms.length cap := by
  rcases h with ⟨a, cap, rfl, rfl⟩ | ⟨b, off, cap, rfl, _⟩
  · exact ⟨a, cap, rfl⟩
  · exact ⟨_, cap, rfl⟩
theorem Mks.row {w : World} {v : Value} {ms : List (Int × Int)} (h : Mks w v ms) (h0 : 0 < ms.length) : ∃ b off cap, v = .slice (some ⟨b, off, none⟩) ms.length cap ∧ b < w.heap.size ∧ ms.length ≤ maxLen ∧ Row2 w b off ms := by
  rcases h with ⟨a, cap, rfl, rfl⟩ | h
  · exact absurd h0 (Nat.lt_irrefl _)
  · exact h
def markOk (m : Int × Int) : Prop := 0 ≤ m.1 ∧ m.1 < 256 ∧ 0 ≤ m.2 ∧ m.2 < 65536
/-- the set of marks, as a map -/
def tD (ms : List (Int × Int)) : DataW Unit := ms.foldl (fun D m => D.put (labKey m.1 m.2) (.agg [])) (.map [])
theorem tD_snoc (ms : List (Int × Int)) (m : Int × Int) : tD (ms ++ [m]) = (tD ms).put (labKey m.1 m.2) (.agg []) := by
  unfold tD; rw [List.foldl_append]; rfl
theorem tD_isMap (ms : List (Int × Int)) : IsMap (tD ms) := by
  induction ms using list_snoc_rec with
  | h0 => exact isMap_empty
  | h1 ms m ih => rw [tD_snoc]; exact ih.put _ _
theorem tD_has (kl : Lit) (ms : List (Int × Int)) : Maps.has (tD ms) kl = ms.any (fun m => (labKey m.1 m.2).sameKey kl) := by
  induction ms using list_snoc_rec with
  | h0 => rfl
  | h1 ms m ih =>
    rw [tD_snoc, List.any_append]
    by_cases e : labKey m.1 m.2 = kl
    · subst e
      rw [has_put_same (tD_isMap ms) (labKey_key _ _)]
      simp [WideAt.sameKey_self (labKey_key _ _)]
    · rw [has_put_other (fun h => e h.symm), ih]
      simp [sameKey_ne e]
theorem tD_has2 (a b : Int) (ms : List (Int × Int)) (hok : ∀ m ∈ ms, markOk m) (h : markOk (a, b)) : Maps.has (tD ms) (labKey a b) = ms.any (fun m => decide (m.1 = a) && decide (m.2 = b)) := by
  rw [tD_has, Bool.eq_iff_iff, List.any_eq_true, List.any_eq_true]
  constructor
  · rintro ⟨x, hx, h'⟩
    have hxok := hok x hx
    obtain ⟨h1, h2⟩ := labKey_inj ⟨hxok.1, hxok.2.1⟩ ⟨hxok.2.2.1, hxok.2.2.2⟩ ⟨h.1, h.2.1⟩ ⟨h.2.2.1, h.2.2.2⟩ ((WideAt.sameKey_iff (labKey_key _ _)).1 h')
    exact ⟨x, hx, by simp [h1, h2]⟩
  · rintro ⟨x, hx, h'⟩
    simp only [Bool.and_eq_true, decide_eq_true_eq] at h'
    refine ⟨x, hx, ?_⟩
    rw [WideAt.sameKey_iff (labKey_key _ _), h'.1, h'.2]
theorem markE_one (rs : List Rg) (ms : List (Int × Int)) (hok : ∀ m ∈ ms, markOk m) (k : Nat) (hk : k < ms.length) : markE rs (tD (ms.take k)) ms[k] = markOne rs ms k := by
  unfold markE markOne
  have e : ms.getD k (0, 0) = ms[k] := by rw [List.getD_eq_getElem?_getD, List.getElem?_eq_getElem hk]; rfl
  simp only [e]
  rw [tD_has2 ms[k].1 ms[k].2 _ (fun m hm => hok m (List.mem_of_mem_take hm)) (hok ms[k] (List.getElem_mem _))]
/-- a configuration as New leaves it -/
structure CF (n : Nat) (w : World) (vr vm vg : Value) (rs : List Rg) (ms : List (Int × Int)) : Prop where
  cb : CB n w vr vm vg
  row : w.ownsRow (n + 4) 39 9 vr rs.length (flatR rs)
  rm : w.ownsRow (n + 4) 34 2 vm ms.length (flatM ms)
  rg : w.ownsRow (n + 4) 69 6 vg rs.length (flatG (layF rs).1)
  mn : w.ownsMap Tryd.prog 9 (plainElem Tryd.prog 3) n rs.length (gD nmKey rs)
  ml : w.ownsMap Tryd.prog 37 (plainElem Tryd.prog 3) (n + 1) rs.length (gD lbKey rs)
  mt : w.ownsMap Tryd.prog 34 (unitElem (H := Unit)) (n + 2) ms.length (tD ms)
theorem CF.below {n : Nat} {w w' : World} {vr vm vg : Value} {rs : List Rg} {ms : List (Int × Int)} (h : CF n w vr vm vg rs ms) (hb : Below w.heap.size w w') : CF n w' vr vm vg rs ms := by
  have := h.cb.lt
  exact ⟨h.cb.below hb this, ownsRow_below h.row hb, ownsRow_below h.rm hb, ownsRow_below h.rg hb, ownsMap_below h.mn hb (by omega), ownsMap_below h.ml hb (by omega), ownsMap_below h.mt hb (by omega)⟩
/-- what New leaves -/
def NewPost (rs : List Rg) (ms : List (Int × Int)) (w : World) (e : Ending) (w' : World) : Prop :=
  (newE rs ms ≠ 0 → e = .returned (.tuple #[.pointer none, .int .i64 (newE rs ms)]) ∧ Below w.heap.size w w') ∧
  (newE rs ms = 0 → ∃ n vr vm vg, e = .returned (.tuple #[.pointer (some ⟨n + 3, 0, none⟩), .int .i64 0]) ∧ w.heap.size ≤ n ∧ Below w.heap.size w w' ∧ CF n w' vr vm vg rs ms)
theorem NewPost.bad {rs : List Rg} {ms : List (Int × Int)} {w w' : World} {e : Ending} (E : Int) (hE : newE rs ms = E) (h0 : E ≠ 0) (he : e = .returned (.tuple #[.pointer none, .int .i64 E])) (hb : Below w.heap.size w w') : NewPost rs ms w e w' := by
  subst hE
  exact ⟨fun _ => ⟨he, hb⟩, fun h => absurd h h0⟩
end Go.Proofs.YtfackmiojbdjhaaDoor
