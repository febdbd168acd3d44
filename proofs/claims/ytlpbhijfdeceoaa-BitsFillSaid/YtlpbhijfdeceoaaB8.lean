import Derived.Test.YtlpbhijfdeceoaaB7
/- What a Set makes of the bits. -/
namespace Go.Proofs.Ytlpbhijfdeceoaa
set_option linter.unusedSimpArgs false
set_option linter.unusedVariables false
open Go.RowKit Go.Maps


theorem find_cons (p : Nat × (Nat → Int)) (r : TS) (x : Int) : find (p :: r) x = if (p.1 : Int) = x then some p.2 else find r x := by
  unfold find
  rw [List.find?_cons]
  by_cases c : (p.1 : Int) = x <;> simp [c]
theorem find_put (k : Nat) (f : Nat → Int) (x : Int) : ∀ T : TS, find (put k f T) x = if (k : Int) = x then some f else find T x
  | [] => by
    unfold put
    rw [find_cons]
  | p :: r => by
    unfold put
    by_cases c1 : k < p.1
    · rw [if_pos c1, find_cons]
    · rw [if_neg c1]
      by_cases c2 : k = p.1
      · rw [if_pos c2, find_cons, find_cons]
        by_cases c : (k : Int) = x
        · rw [if_pos c, if_pos c]
        · rw [if_neg c, if_neg c, if_neg (by omega)]
      · rw [if_neg c2, find_cons, find_cons, find_put k f x r]
        by_cases c : (p.1 : Int) = x
        · rw [if_pos c, if_pos c, if_neg (by omega)]
        · rw [if_neg c, if_neg c]
theorem vw_put (T : TS) (k : Nat) (f : Nat → Int) (x : Nat) : vw (put k f T) x = if k = x then f else vw T x := by
  unfold vw
  rw [find_put]
  by_cases c : k = x
  · rw [if_pos (by omega), if_pos c]; rfl
  · rw [if_neg (by omega), if_neg c]
theorem bt_set {T : TS} (hT : TB T) (fi i j : Nat) (on : Bool) : bt (setT T (fi + i / 512) i on) fi j = if i = j then on else bt T fi j := by
  unfold setT bt
  by_cases h : bitOf (vw T (fi + i / 512)) i = on
  · rw [if_pos h]
    by_cases e : i = j
    · subst e; rw [if_pos rfl, h]
    · rw [if_neg e]
  · rw [if_neg h, vw_put]
    by_cases c : i / 512 = j / 512
    · rw [if_pos (by omega), bitOf_flp (vw_byt hT _) i j c]
      by_cases e : i = j
      · subst e
        rw [if_pos rfl]
        cases on <;> simpa using h
      · rw [if_neg e, c]
        simp [e]
    · rw [if_neg (by omega)]
      have e : ¬ i = j := fun e => c (by rw [e])
      rw [if_neg e]
theorem setT_tb {T : TS} (hT : TB T) (X i : Nat) (on : Bool) : TB (setT T X i on) := by
  unfold setT
  split
  · exact hT
  · exact hT.put X (flp_byt (vw_byt hT _) i)
theorem setT_keys {T : TS} (X i : Nat) (on : Bool) : ∀ p ∈ setT T X i on, p.1 = X ∨ p ∈ T := by
  unfold setT
  split
  · exact fun p hp => .inr hp
  · intro p hp
    rcases mem_put _ _ _ _ hp with rfl | hp
    · exact .inl rfl
    · exact .inr hp
/-- all keys lie from lo on, c of them at most -/
def In (T : TS) (lo c : Nat) : Prop := ∀ p ∈ T, lo ≤ p.1 ∧ p.1 < lo + c
theorem In.len : ∀ {T : TS} {lo c : Nat}, Rise T → In T lo c → T.length ≤ c
  | [], _, _, _, _ => Nat.zero_le _
  | p :: r, lo, c, hr, hi => by
    obtain ⟨h1, h2⟩ := List.pairwise_cons.1 hr
    obtain ⟨h3, h4⟩ := hi p (by simp)
    have := In.len (T := r) (lo := p.1 + 1) (c := lo + c - (p.1 + 1)) h2 (fun q hq => by
      have := h1 q hq
      have := (hi q (by simp [hq])).2
      omega)
    rw [List.length_cons]
    omega
theorem In.set {T : TS} {lo c : Nat} (h : In T lo c) (X i : Nat) (on : Bool) (h1 : lo ≤ X) (h2 : X < lo + c) : In (setT T X i on) lo c := by
  intro p hp
  rcases setT_keys X i on p hp with rfl | hp
  · exact ⟨h1, h2⟩
  · exact h p hp
theorem bt_nil (fi i : Nat) (h : 1 ≤ fi) : bt [] fi i = false := by
  unfold bt
  rw [vw_zero (by omega) rfl, bitOf_zero]
theorem Fr.uniq {b : Nat → Bool} {n : Nat} {v v' : Int} (h : Fr b n v) (h' : Fr b n v') : v = v' := by
  rcases h with ⟨rfl, h⟩ | ⟨i, hi, rfl, hb, hj⟩ <;> rcases h' with ⟨rfl, h'⟩ | ⟨i', hi', rfl, hb', hj'⟩
  · rfl
  · rw [h i' hi'] at hb'; cases hb'
  · rw [h' i hi] at hb; cases hb
  · have : i = i' := by
      rcases Nat.lt_trichotomy i i' with c | c | c
      · rw [hj' i c] at hb; cases hb
      · exact c
      · rw [hj i' c] at hb'; cases hb'
    rw [this]
theorem setL_congr {b b' : Nat → Bool} {n : Nat} (h : ∀ i, i < n → b i = b' i) : setL b n = setL b' n := by
  unfold setL
  exact List.filter_congr fun i hi => h i (List.mem_range.1 hi)
end Go.Proofs.Ytlpbhijfdeceoaa
