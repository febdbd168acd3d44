import Derived.Test.YtfackmiojbdjhaaDoorC8
/- What New answers, in plain words; the maps that it fills. -/
namespace Go.Proofs.YtfackmiojbdjhaaDoor
set_option linter.unusedSimpArgs false
set_option linter.unusedVariables false
open Go.RowKit Go.Maps

def putAt (key : Rg → Lit) (a : DataW Unit × Nat) (r : Rg) : DataW Unit × Nat := (a.1.put (key r) (.lit (.int .i64 a.2)), a.2 + 1)
/-- a map filled with the places of a list's members -/
def gF (key : Rg → Lit) (rs : List Rg) : DataW Unit × Nat := rs.foldl (putAt key) (.map [], 0)
def gD (key : Rg → Lit) (rs : List Rg) : DataW Unit := (gF key rs).1
theorem gF_snd (key : Rg → Lit) : ∀ (rs : List Rg) (a : DataW Unit × Nat), (rs.foldl (putAt key) a).2 = a.2 + rs.length
  | [], a => by simp
  | r :: rs, a => by rw [List.foldl_cons, gF_snd key rs]; simp [putAt]; omega
theorem gD_snoc (key : Rg → Lit) (rs : List Rg) (r : Rg) : gD key (rs ++ [r]) = (gD key rs).put (key r) (.lit (.int .i64 rs.length)) := by
  unfold gD gF
  rw [List.foldl_append, List.foldl_cons, List.foldl_nil, putAt, gF_snd]
  simp
theorem gD_isMap (key : Rg → Lit) (rs : List Rg) : IsMap (gD key rs) := by
  have : ∀ (rs : List Rg) (a : DataW Unit × Nat), IsMap a.1 → IsMap (rs.foldl (putAt key) a).1 := by
    intro rs
    induction rs with
    | nil => intro a h; exact h
    | cons r rs ih => intro a h; rw [List.foldl_cons]; exact ih _ (h.put _ _)
  exact this rs _ isMap_empty
theorem list_snoc_rec {α : Type} {P : List α → Prop} (h0 : P []) (h1 : ∀ l a, P l → P (l ++ [a])) (l : List α) : P l := by
  have : ∀ n (l : List α), l.length = n → P l := by
    intro n
    induction n with
    | zero => intro l hl; obtain rfl := List.eq_nil_of_length_eq_zero hl; exact h0
    | succ n ih =>
      intro l hl
      have hne : l ≠ [] := by intro e; subst e; simp at hl
      rw [← List.dropLast_concat_getLast hne]
      exact h1 _ _ (ih _ (by simp [hl]))
  exact this _ l rfl
theorem gD_has (key : Rg → Lit) (hk : ∀ r, WideAt.IsKeyLit (key r)) (kl : Lit) (rs : List Rg) : Maps.has (gD key rs) kl = rs.any (fun r => (key r).sameKey kl) := by
  induction rs using list_snoc_rec with
  | h0 => rfl
  | h1 rs r ih =>
    rw [gD_snoc, List.any_append]
    by_cases e : key r = kl
    · subst e
      rw [has_put_same (gD_isMap key rs) (hk r)]
      simp [WideAt.sameKey_self (hk r)]
    · rw [has_put_other (fun h => e h.symm), ih]
      simp [sameKey_ne e]
theorem gD_at (key : Rg → Lit) (hk : ∀ r, WideAt.IsKeyLit (key r)) (rs : List Rg) (hd : ∀ i j (hi : i < rs.length) (hj : j < rs.length), key rs[i] = key rs[j] → i = j) (i : Nat) (hi : i < rs.length) : atI (gD key rs) (key rs[i]) = i := by
  induction rs using list_snoc_rec with
  | h0 => simp at hi
  | h1 rs r ih =>
    rw [gD_snoc]
    have hl : (rs ++ [r]).length = rs.length + 1 := by simp
    by_cases e : i = rs.length
    · subst e
      have : (rs ++ [r])[rs.length] = r := by simp
      rw [this]
      unfold atI
      rw [atKey_put_same (gD_isMap key rs) (hk r)]
    · have hi' : i < rs.length := by omega
      have e1 : (rs ++ [r])[i] = rs[i] := by rw [List.getElem_append_left hi']
      have e2 : (rs ++ [r])[rs.length]'(by omega) = r := by simp
      rw [e1]
      have hne : key rs[i] ≠ key r := by
        intro h
        have := hd i rs.length hi (by omega) (by rw [e1, e2]; exact h)
        omega
      have : atI ((gD key rs).put (key r) (.lit (.int .i64 rs.length))) (key rs[i]) = atI (gD key rs) (key rs[i]) := by
        unfold atI
        rw [atKey_put_other hne]
      rw [this]
      refine ih (fun a b ha hb h => hd a b (by omega) (by omega) ?_) hi'
      rw [List.getElem_append_left ha, List.getElem_append_left hb]
      exact h

/-- the mistake of the k-th label, as its own sentence says -/
def oneE (rs : List Rg) (k : Nat) : Int :=
  let r := rs.getD k zeroRg
  if nameB r.nm = false then 30 else if (haveB r && decide (0 ≤ r.cl) && decide (r.cl < rs.length)) = false then 27
  else if ((rs.take k).any fun x => decide (x.nm = r.nm) || (decide (x.lv = r.lv) && decide (x.cs = r.cs))) = true then 29 else 0
def regsE (rs : List Rg) : Nat → Int
  | 0 => 0
  | k + 1 => if regsE rs k = 0 then oneE rs k else regsE rs k
theorem regsE_bad (rs : List Rg) (k : Nat) (h : regsE rs k ≠ 0) : ∀ n, k ≤ n → regsE rs n = regsE rs k := by
  intro n hn
  induction n with
  | zero => obtain rfl : k = 0 := by omega
            rfl
  | succ n ih =>
    rcases Nat.lt_or_ge n k with h' | h'
    · obtain rfl : k = n + 1 := by omega
      rfl
    · rw [regsE, ih h', if_neg h]
def permB (rs : List Rg) : Nat → Bool
  | 0 => true
  | k + 1 => permB rs k && leqAt rs k (rs.getD k zeroRg).cl
theorem permB_bad (rs : List Rg) (k : Nat) (h : permB rs k = false) : ∀ n, k ≤ n → permB rs n = false := by
  intro n hn
  induction n with
  | zero => obtain rfl : k = 0 := by omega
            exact h
  | succ n ih =>
    rcases Nat.lt_or_ge n k with h' | h'
    · obtain rfl : k = n + 1 := by omega
      exact h
    · rw [permB, ih h']; rfl
def markOne (rs : List Rg) (ms : List (Int × Int)) (k : Nat) : Int :=
  let m := ms.getD k (0, 0)
  if ((regAt rs m.1).2 && decide (1 ≤ m.2) && decide (m.2 ≤ (regAt rs m.1).1.nd)) = false then 27 else if ((ms.take k).any fun x => decide (x.1 = m.1) && decide (x.2 = m.2)) = true then 29 else 0
def marksE (rs : List Rg) (ms : List (Int × Int)) : Nat → Int
  | 0 => 0
  | k + 1 => if marksE rs ms k = 0 then markOne rs ms k else marksE rs ms k
theorem marksE_bad (rs : List Rg) (ms : List (Int × Int)) (k : Nat) (h : marksE rs ms k ≠ 0) : ∀ n, k ≤ n → marksE rs ms n = marksE rs ms k := by
  intro n hn
  induction n with
  | zero => obtain rfl : k = 0 := by omega
            rfl
  | succ n ih =>
    rcases Nat.lt_or_ge n k with h' | h'
    · obtain rfl : k = n + 1 := by omega
      rfl
    · rw [marksE, ih h', if_neg h]
/-- New's error -/
def newE (rs : List Rg) (ms : List (Int × Int)) : Int :=
  if rs.length < 1 ∨ 64 < rs.length then 23
  else if regsE rs rs.length ≠ 0 then regsE rs rs.length
  else if (decide ((rs.getD 0 zeroRg).lv = 0) && decide ((rs.getD 0 zeroRg).cs = 0)) = false then 25
  else if permB rs rs.length = false then 2
  else marksE rs ms ms.length

theorem any_or2 {α : Type} (p q : α → Bool) : ∀ l : List α, (l.any p || l.any q) = l.any fun x => p x || q x
  | [] => rfl
  | x :: l => by
    rw [List.any_cons, List.any_cons, List.any_cons, ← any_or2 p q l]
    cases p x <;> cases q x <;> cases l.any p <;> rfl
def nmKey (r : Rg) : Lit := strKey r.nm
def lbKey (r : Rg) : Lit := labKey r.lv r.cs
theorem regE_one (rs : List Rg) (hok : ∀ r ∈ rs, r.ok) (k : Nat) (hk : k < rs.length) : regE (gD nmKey (rs.take k)) (gD lbKey (rs.take k)) rs.length rs[k] = oneE rs k := by
  unfold regE oneE
  have e : rs.getD k zeroRg = rs[k] := by rw [List.getD_eq_getElem?_getD, List.getElem?_eq_getElem hk]; rfl
  simp only [e]
  rw [gD_has nmKey (fun r => strKey_key _), gD_has lbKey (fun r => labKey_key _ _)]
  have e1 : (List.any (rs.take k) fun r => (nmKey r).sameKey (strKey rs[k].nm)) = (List.any (rs.take k) fun r => decide (r.nm = rs[k].nm)) := by
    apply List.any_congr rfl
    intro r
    rw [Bool.eq_iff_iff, WideAt.sameKey_iff (strKey_key _), decide_eq_true_iff]
    exact ⟨fun h => strKey_inj h, fun h => by unfold nmKey; rw [h]⟩
  have e2 : (List.any (rs.take k) fun r => (lbKey r).sameKey (labKey rs[k].lv rs[k].cs)) = (List.any (rs.take k) fun x => (decide (x.lv = rs[k].lv) && decide (x.cs = rs[k].cs))) := by
    rw [Bool.eq_iff_iff, List.any_eq_true, List.any_eq_true]
    have hkok := hok rs[k] (List.getElem_mem _)
    constructor
    · rintro ⟨x, hx, h⟩
      have hxok := hok x (List.mem_of_mem_take hx)
      obtain ⟨h1, h2⟩ := labKey_inj ⟨hxok.2.1, hxok.2.2.1⟩ ⟨hxok.2.2.2.1, hxok.2.2.2.2⟩ ⟨hkok.2.1, hkok.2.2.1⟩ ⟨hkok.2.2.2.1, hkok.2.2.2.2⟩ ((WideAt.sameKey_iff (labKey_key _ _)).1 h)
      exact ⟨x, hx, by simp [h1, h2]⟩
    · rintro ⟨x, hx, h⟩
      refine ⟨x, hx, ?_⟩
      simp only [Bool.and_eq_true, decide_eq_true_eq] at h
      rw [WideAt.sameKey_iff (labKey_key _ _)]
      unfold lbKey
      rw [h.1, h.2]
  rw [e1, e2, any_or2]
end Go.Proofs.YtfackmiojbdjhaaDoor
