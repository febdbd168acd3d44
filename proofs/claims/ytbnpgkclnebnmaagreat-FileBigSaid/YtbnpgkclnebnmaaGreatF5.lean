import Derived.Test.YtbnpgkclnebnmaaGreatF4
import Derived.Test.YtbnpgkclnebnmaaGreatQ3
/- Files: which blocks a node has (slots): the pure side of taking one. -/
namespace Go.Proofs.YtbnpgkclnebnmaaGreat
set_option linter.unusedSimpArgs false
set_option linter.unusedVariables false
open Go.RowKit Go.Maps

/-- slots: data blocks from 0 on; 2000: Single; 2001: Double; from 2002 on: the rows of Double -/
def isR (c : Nat) : Bool := decide (c < 6) || decide (c = 2000) || decide (c = 2001)
def rtI (c : Nat) : Nat := if c = 2000 then 10 else if c = 2001 then 11 else 4 + c
def parS (c : Nat) : Nat := if c < 38 then 2000 else if c < 1062 then 2002 + (c - 38) / 32 else 2001
def idxS (c : Nat) : Nat := if c < 38 then c - 6 else if c < 1062 then (c - 38) % 32 else c - 2002
def okS (c : Nat) : Bool := decide (c < 1062) || (decide (2000 ≤ c) && decide (c < 2034))
theorem isR_iff (c : Nat) : isR c = true ↔ c < 6 ∨ c = 2000 ∨ c = 2001 := by
  unfold isR
  simp [or_assoc]
theorem isR_no (c : Nat) : isR c = false ↔ ¬ (c < 6 ∨ c = 2000 ∨ c = 2001) := by
  rw [← isR_iff]
  simp
theorem okS_iff (c : Nat) : okS c = true ↔ c < 1062 ∨ 2000 ≤ c ∧ c < 2034 := by
  unfold okS
  simp
theorem parS_ok (c : Nat) (h : okS c = true) (hr : isR c = false) : okS (parS c) = true ∧ 2000 ≤ parS c ∧ parS c ≠ c := by
  rw [okS_iff] at h ⊢
  rw [isR_no] at hr
  unfold parS
  split
  · omega
  · split <;> omega
theorem idxS_lt (c : Nat) (h : okS c = true) (hr : isR c = false) : idxS c < 32 := by
  rw [okS_iff] at h
  rw [isR_no] at hr
  unfold idxS
  split
  · omega
  · split <;> omega
theorem slot_inj (c c' : Nat) (h : okS c = true) (hr : isR c = false) (h' : okS c' = true) (hr' : isR c' = false) (hp : parS c = parS c') (hi : idxS c = idxS c') : c = c' := by
  rw [okS_iff] at h h'
  rw [isR_no] at hr hr'
  unfold parS at hp
  unfold idxS at hi
  split at hp <;> split at hp <;> (try split at hp) <;> (try split at hp) <;> simp_all <;> omega
theorem rtI_inj (c c' : Nat) (hr : isR c = true) (hr' : isR c' = true) (h : rtI c = rtI c') : c = c' := by
  rw [isR_iff] at hr hr'
  unfold rtI at h
  split at h <;> split at h <;> (try split at h) <;> (try split at h) <;> omega
theorem rtI_lt (c : Nat) (hr : isR c = true) : 4 ≤ rtI c ∧ rtI c < 12 := by
  rw [isR_iff] at hr
  unfold rtI
  split
  · omega
  · split <;> omega
theorem putN_wd (f : Nat → Int) (k q : Nat) (hq : q < 65536) (k' : Nat) : wd (putN f (2 * k) q) k' = if k' = k then (q : Int) else wd f k' := by
  unfold wd putN
  by_cases e : k' = k
  · subst e
    rw [if_pos rfl, if_neg (by omega), if_pos rfl, if_pos rfl]
    omega
  · rw [if_neg e, if_neg (by omega), if_neg (by omega), if_neg (by omega), if_neg (by omega)]
theorem putN_byt {f : Nat → Int} (hf : Byt f) (k q : Nat) : Byt (putN f k q) := fun j hj => by
  unfold putN
  split
  · omega
  · split
    · omega
    · exact hf j hj
theorem wd_zero (k : Nat) : wd (fun _ => 0) k = 0 := rfl
/-- what a node with the numbers f has: the slots N, slot c's block b c; its blocks of pointers say so -/
structure Fi (DA NB : Nat) (Y : Nat → Nat → Int) (f : Nat → Int) (N : Nat → Bool) (b : Nat → Nat) : Prop where
  ok : ∀ c, N c = true → okS c = true
  root : ∀ c, isR c = true → f (rtI c) = if N c = true then (b c : Int) else 0
  wrd : ∀ c, okS c = true → isR c = false → N (parS c) = true → wd (Y (DA + (b (parS c) - 1))) (idxS c) = if N c = true then (b c : Int) else 0
  cl : ∀ c, isR c = false → N c = true → N (parS c) = true
  rng : ∀ c, N c = true → 1 ≤ b c ∧ b c ≤ NB
  inj : ∀ c c', N c = true → N c' = true → b c = b c' → c = c'
def addN (N : Nat → Bool) (c : Nat) : Nat → Bool := fun c' => decide (c' = c) || N c'
def addB (b : Nat → Nat) (c x : Nat) : Nat → Nat := fun c' => if c' = c then x else b c'
def addF (f : Nat → Int) (c x : Nat) : Nat → Int := if isR c = true then fun i => if i = rtI c then (x : Int) else f i else f
def addY (DA : Nat) (Y : Nat → Nat → Int) (b : Nat → Nat) (c x : Nat) : Nat → Nat → Int := if isR c = true then Y else vput (DA + (b (parS c) - 1)) (putN (Y (DA + (b (parS c) - 1))) (2 * idxS c) x) Y
theorem addN_self (N : Nat → Bool) (c : Nat) : addN N c c = true := by
  unfold addN
  simp
theorem addN_ne (N : Nat → Bool) {c c' : Nat} (h : c' ≠ c) : addN N c c' = N c' := by
  unfold addN
  rw [decide_eq_false h]
  rfl
theorem addN_of (N : Nat → Bool) {c c' : Nat} (h : addN N c c' = true) : c' = c ∨ N c' = true := by
  unfold addN at h
  simpa using h
theorem addN_old (N : Nat → Bool) (c : Nat) {c' : Nat} (h : N c' = true) : addN N c c' = true := by
  unfold addN
  rw [h]
  simp
theorem addB_self (b : Nat → Nat) (c x : Nat) : addB b c x c = x := if_pos rfl
theorem addB_ne (b : Nat → Nat) {c c' : Nat} (x : Nat) (h : c' ≠ c) : addB b c x c' = b c' := if_neg h
theorem Fi.add {DA NB B0 : Nat} {Y Y1 : Nat → Nat → Int} {f : Nat → Int} {N : Nat → Bool} {b : Nat → Nat} (h : Fi DA NB Y f N b) (hB : B0 < DA) (c : Nat) (hok : okS c = true) (hN : N c = false) (hp : isR c = true ∨ N (parS c) = true) (x : Nat) (hx1 : 1 ≤ x) (hx2 : x ≤ NB) (hNB : NB ≤ 512)
    (hfr : ∀ c', N c' = true → b c' ≠ x) (h1 : ∀ z, z ≠ B0 → z ≠ DA + (x - 1) → Y1 z = Y z) (h2 : Y1 (DA + (x - 1)) = fun _ => 0) :
    Fi DA NB (addY DA Y1 b c x) (addF f c x) (addN N c) (addB b c x) := by
  have hd : ∀ c', N c' = true → DA + (b c' - 1) ≠ DA + (x - 1) := fun c' hc => by
    have := hfr c' hc
    have := h.rng c' hc
    omega
  have hY1 : ∀ c', N c' = true → Y1 (DA + (b c' - 1)) = Y (DA + (b c' - 1)) := fun c' hc => h1 _ (by omega) (hd c' hc)
  refine ⟨fun c' hc => ?_, fun c' hc => ?_, fun c' ho hr hq => ?_, fun c' hr hc => ?_, fun c' hc => ?_, fun c1 c2 k1 k2 he => ?_⟩
  · rcases addN_of N hc with rfl | hc
    · exact hok
    · exact h.ok c' hc
  · unfold addF
    by_cases hcr : isR c = true
    · rw [if_pos hcr]
      by_cases e : c' = c
      · subst e
        rw [if_pos rfl, if_pos (addN_self N c'), addB_self]
      · rw [if_neg (fun he => e (rtI_inj c' c hc hcr he)), addN_ne N e, addB_ne b x e]
        exact h.root c' hc
    · rw [if_neg hcr]
      have e : c' ≠ c := fun e => hcr (e ▸ hc)
      rw [addN_ne N e, addB_ne b x e]
      exact h.root c' hc
  · by_cases e : parS c' = c
    · -- below the new one: nothing
      have hne : c' ≠ c := fun e' => (parS_ok c' ho hr).2.2 (e.trans e'.symm)
      have hno : N c' = false := by
        cases hh : N c'
        · rfl
        · have := h.cl c' hr hh
          rw [e, hN] at this
          cases this
      rw [e, addB_self, addN_ne N hne, hno, if_neg (by decide)]
      have : addY DA Y1 b c x (DA + (x - 1)) = fun _ => 0 := by
        unfold addY
        split
        · exact h2
        · rename_i hcr
          have hpc : N (parS c) = true := hp.resolve_left hcr
          rw [vput_ne _ _ (hd (parS c) hpc)]
          exact h2
      rw [this]
      rfl
    · have hpo : N (parS c') = true := by rwa [addN_ne N e] at hq
      rw [addB_ne b x e]
      unfold addY
      by_cases hcr : isR c = true
      · rw [if_pos hcr, hY1 _ hpo]
        have hne : c' ≠ c := fun e' => by rw [e', hcr] at hr; cases hr
        rw [addN_ne N hne, addB_ne b x hne]
        exact h.wrd c' ho hr hpo
      · have hcr' : isR c = false := by simpa using hcr
        have hpc : N (parS c) = true := hp.resolve_left hcr
        rw [if_neg hcr]
        by_cases ep : parS c' = parS c
        · rw [ep, vput_at, putN_wd _ _ _ (by omega), hY1 _ hpc]
          by_cases ei : idxS c' = idxS c
          · obtain rfl := slot_inj c' c ho hr hok hcr' ep ei
            rw [if_pos rfl, if_pos (addN_self N c'), addB_self]
          · have hne : c' ≠ c := fun e' => ei (by rw [e'])
            rw [if_neg ei, addN_ne N hne, addB_ne b x hne, ← ep]
            exact h.wrd c' ho hr hpo
        · have hne : c' ≠ c := fun e' => ep (by rw [e'])
          have hbb : DA + (b (parS c) - 1) ≠ DA + (b (parS c') - 1) := fun he => by
            have r1 := h.rng _ hpc
            have r2 := h.rng _ hpo
            exact ep (h.inj _ _ hpo hpc (by omega))
          rw [vput_ne _ _ hbb, hY1 _ hpo, addN_ne N hne, addB_ne b x hne]
          exact h.wrd c' ho hr hpo
  · rcases addN_of N hc with rfl | hc
    · rcases hp with hp | hp
      · rw [hp] at hr
        cases hr
      · exact addN_old N _ hp
    · exact addN_old N _ (h.cl c' hr hc)
  · by_cases e : c' = c
    · rw [e, addB_self]
      exact ⟨hx1, hx2⟩
    · rw [addB_ne b x e]
      exact h.rng c' (by rwa [addN_ne N e] at hc)
  · by_cases e1 : c1 = c
    · by_cases e2 : c2 = c
      · rw [e1, e2]
      · rw [e1, addB_self, addB_ne b x e2] at he
        exact absurd he.symm (hfr c2 (by rwa [addN_ne N e2] at k2))
    · by_cases e2 : c2 = c
      · rw [e2, addB_self, addB_ne b x e1] at he
        exact absurd he (hfr c1 (by rwa [addN_ne N e1] at k1))
      · rw [addB_ne b x e1, addB_ne b x e2] at he
        exact h.inj c1 c2 (by rwa [addN_ne N e1] at k1) (by rwa [addN_ne N e2] at k2) he
end Go.Proofs.YtbnpgkclnebnmaaGreat
