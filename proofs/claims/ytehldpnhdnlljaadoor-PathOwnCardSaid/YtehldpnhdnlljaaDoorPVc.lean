import Derived.Test.YtehldpnhdnlljaaDoorPVa
import Derived.Test.YtehldpnhdnlljaaDoorPVb
/- What a path's text is read as. -/
namespace Go.Proofs.YtehldpnhdnlljaaDoor.Pt
set_option linter.unusedSimpArgs false
set_option linter.unusedVariables false
open Go.RowKit Go.Maps

/-- a part whose text is read as it -/
def goodP (p : Pr) : Bool := !(partT p).isEmpty && (!(partT p).contains 47 && (decide ((partT p).length ≤ 8) && decide (partC (partT p) = (p, 0))))
theorem mdP_good : ∀ n : Fin 256, goodP (mdP n.val) = true := by decide +kernel
theorem mdL_good (zs : List Int) (hz : ∀ z ∈ zs, 0 ≤ z ∧ z < 256) : ∀ p ∈ mdL zs, goodP p = true := by
  intro p hp
  unfold mdL at hp
  obtain ⟨z, hz1, rfl⟩ := List.mem_map.1 hp
  have := hz z (List.mem_of_mem_take hz1)
  exact mdP_good ⟨z.toNat, by omega⟩
theorem goodP_out {p : Pr} (h : goodP p = true) : partT p ≠ [] ∧ (∀ x ∈ partT p, x ≠ 47) ∧ (partT p).length ≤ 8 ∧ partC (partT p) = (p, 0) := by
  unfold goodP at h
  simp only [Bool.and_eq_true, Bool.not_eq_true', decide_eq_true_eq] at h
  obtain ⟨h1, h2, h3, h4⟩ := h
  refine ⟨(fun hh => by rw [hh] at h1; cases h1), fun x hx he => ?_, h3, h4⟩
  subst he
  rw [List.contains_iff_mem.2 hx] at h2
  cases h2
theorem pieces_back : ∀ (L : List Pr), (∀ p ∈ L, goodP p = true) → parsP (pieW 47 (txB L)) = (L, 0)
  | [], _ => by
    show parsP (pieW 47 []) = _
    rw [pieW_none 47 [] rfl]
    rfl
  | [p], h => by
    obtain ⟨h1, h2, -, h4⟩ := goodP_out (h p (List.mem_cons_self ..))
    show parsP (pieW 47 (partT p ++ [])) = _
    rw [List.append_nil, pieW_none 47 _ (by rw [splitC_all 47 _ h2]), parsP_good _ _ h1 _ h4]
    rfl
  | p :: q :: r, h => by
    obtain ⟨h1, h2, -, h4⟩ := goodP_out (h p (List.mem_cons_self ..))
    have ih := pieces_back (q :: r) (fun x hx => h x (List.mem_cons_of_mem _ hx))
    show parsP (pieW 47 (partT p ++ 47 :: txB (q :: r))) = _
    have hs := splitC_app 47 (partT p) (txB (q :: r)) h2
    rw [pieW_some 47 _ (txB (q :: r)) (by rw [hs]), hs, parsP_good _ _ h1 _ h4, ih]
theorem txR_len : ∀ (L : List Pr), (∀ p ∈ L, goodP p = true) → (txR L).length ≤ 9 * L.length
  | [], _ => Nat.zero_le _
  | p :: r, h => by
    have := txR_len r (fun x hx => h x (List.mem_cons_of_mem _ hx))
    have h3 := (goodP_out (h p (List.mem_cons_self ..))).2.2.1
    simp only [txR, List.length_append, List.length_cons]
    omega
theorem txt_len (a : Bool) (L : List Pr) (h : ∀ p ∈ L, goodP p = true) (hl : L.length ≤ 9) : (txt a L).length ≤ 120 := by
  have h1 : (txB L).length ≤ 9 * L.length := by
    cases L with
    | nil => exact Nat.zero_le _
    | cons p r =>
      have := txR_len r (fun x hx => h x (List.mem_cons_of_mem _ hx))
      have h3 := (goodP_out (h p (List.mem_cons_self ..))).2.2.1
      simp only [txB, List.length_append, List.length_cons]
      omega
  unfold txt
  rw [List.length_append]
  cases a
  · simp; omega
  · simp; omega
theorem parse_back (a : Bool) (L : List Pr) (h : ∀ p ∈ L, goodP p = true) (hl : L.length ≤ 9) (hne : txt a L ≠ []) : parseC (txt a L) = ((a, L), 0) := by
  have hlen := txt_len a L h hl
  unfold parseC
  rw [if_neg hne, if_neg (by omega)]
  cases a
  · have e : txt false L = txB L := by unfold txt; simp
    rw [e] at hne ⊢
    rw [pieces_back L h, if_pos rfl]
    have hh : (decide ((txB L).head? = some 47)) = false := decide_eq_false (fun hh => by
      cases L with
      | nil => exact hne rfl
      | cons p r =>
        obtain ⟨h1, h2, -, -⟩ := goodP_out (h p (List.mem_cons_self ..))
        cases hp : partT p with
        | nil => exact h1 hp
        | cons x y =>
          have h5 : (txB (p :: r)).head? = some x := by show (partT p ++ txR r).head? = _; rw [hp]; rfl
          rw [h5] at hh
          exact h2 x (by rw [hp]; exact List.mem_cons_self ..) (Option.some.inj hh))
    rw [hh]
  · have e : txt true L = 47 :: txB L := by unfold txt; simp
    rw [e]
    have hs := splitC_app 47 [] (txB L) (fun x hx => by cases hx)
    have hq : pieW 47 (47 :: txB L) = [] :: pieW 47 (txB L) := by
      rw [pieW_some 47 _ (txB L) (by rw [show (47 :: txB L) = [] ++ 47 :: txB L from rfl, hs]), show (47 :: txB L) = [] ++ 47 :: txB L from rfl, hs]
    rw [hq, parsP_nil, pieces_back L h, if_pos rfl]
    rfl
theorem txt_empty (a : Bool) (L : List Pr) (h : ∀ p ∈ L, goodP p = true) (he : txt a L = []) : a = false ∧ L = [] := by
  cases a
  · refine ⟨rfl, ?_⟩
    have e : txt false L = txB L := by unfold txt; simp
    rw [e] at he
    cases L with
    | nil => rfl
    | cons p r =>
      have h1 := (goodP_out (h p (List.mem_cons_self ..))).1
      have : partT p = [] := (List.append_eq_nil_iff.1 he).1
      exact absurd this h1
  · unfold txt at he
    simp at he
theorem goodP_ok {p : Pr} (h : goodP p = true) : okP p := by
  have h3 := (goodP_out h).2.2
  have := okP_of (l := partT p) (by omega)
  rw [h3.2] at this
  exact this
end Go.Proofs.YtehldpnhdnlljaaDoor.Pt
