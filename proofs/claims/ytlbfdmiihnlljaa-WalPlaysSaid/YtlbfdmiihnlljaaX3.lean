import Derived.Test.YtlbfdmiihnlljaaX1
/- put as an insertion (pure), for the answer's Put. -/
namespace Go.Proofs.Ytlbfdmiihnlljaa
set_option linter.unusedSimpArgs false
set_option linter.unusedVariables false
open Go.RowKit Go.Maps

/-- how many keys stand ahead of x -/
def cnt (x : Nat) : TS → Nat
  | [] => 0
  | p :: r => if p.1 < x then cnt x r + 1 else 0
theorem cnt_le (x : Nat) : ∀ T : TS, cnt x T ≤ T.length
  | [] => Nat.le_refl _
  | p :: r => by
    unfold cnt
    split
    · simpa using cnt_le x r
    · exact Nat.zero_le _
theorem cnt_at (x : Nat) : ∀ (T : TS) (i : Nat) (h : i < T.length), i < cnt x T → T[i].1 < x
  | p :: r, 0, h, hc => by
    unfold cnt at hc
    split at hc
    · assumption
    · omega
  | p :: r, i + 1, h, hc => by
    unfold cnt at hc
    split at hc
    · exact cnt_at x r i (by simpa using h) (by omega)
    · omega
theorem cnt_end (x : Nat) : ∀ (T : TS) (h : cnt x T < T.length), ¬ T[cnt x T].1 < x
  | p :: r, h => by
    by_cases hp : p.1 < x
    · have hc : cnt x (p :: r) = cnt x r + 1 := by show (if p.1 < x then cnt x r + 1 else 0) = _; rw [if_pos hp]
      have h2 : cnt x r < r.length := by rw [hc] at h; simpa using h
      have := cnt_end x r h2
      simpa [hc] using this
    · have hc : cnt x (p :: r) = 0 := by show (if p.1 < x then cnt x r + 1 else 0) = _; rw [if_neg hp]
      simpa [hc] using hp
theorem put_none (x : Nat) (f : Nat → Int) : ∀ T : TS, find T x = none → put x f T = T.take (cnt x T) ++ (x, f) :: T.drop (cnt x T)
  | [], _ => rfl
  | p :: r, h => by
    have hne : p.1 ≠ x := fun e => by simp [find, e] at h
    have hr : find r x = none := by
      have : ¬ ((p.1 : Int) = x) := by omega
      simpa [find, this] using h
    have ih := put_none x f r hr
    by_cases hp : p.1 < x
    · have hc : cnt x (p :: r) = cnt x r + 1 := by show (if p.1 < x then cnt x r + 1 else 0) = _; rw [if_pos hp]
      rw [hc]
      unfold put
      simp [show ¬ x < p.1 by omega, show ¬ x = p.1 by omega, ih, hp]
    · have hc : cnt x (p :: r) = 0 := by show (if p.1 < x then cnt x r + 1 else 0) = _; rw [if_neg hp]
      rw [hc]
      unfold put
      simp [show x < p.1 by omega]
theorem put_some (x : Nat) (f : Nat → Int) : ∀ (T : TS) (j : Nat) (hj : j < T.length), Rise T → T[j].1 = x → put x f T = T.set j (x, f)
  | p :: r, 0, hj, hr, hx => by
    have : p.1 = x := hx
    unfold put
    simp [this]
  | p :: r, j + 1, hj, hr, hx => by
    have hj2 : j < r.length := by simpa using hj
    have hx2 : r[j].1 = x := hx
    have hlt : p.1 < x := by
      have := (List.pairwise_cons.1 hr).1 r[j] (List.getElem_mem hj2)
      omega
    unfold put
    simp [show ¬ x < p.1 by omega, show ¬ x = p.1 by omega, put_some x f r j hj2 (List.pairwise_cons.1 hr).2 hx2]
theorem keys_set (x : Nat) (f : Nat → Int) (T : TS) (j : Nat) (hj : j < T.length) (hx : T[j].1 = x) : keys (T.set j (x, f)) = keys T := by
  unfold keys
  rw [List.map_set]
  refine List.ext_getElem (by simp) fun i h1 h2 => ?_
  rw [List.getElem_set]
  split
  · subst_vars
    simp
  · rfl
end Go.Proofs.Ytlbfdmiihnlljaa
