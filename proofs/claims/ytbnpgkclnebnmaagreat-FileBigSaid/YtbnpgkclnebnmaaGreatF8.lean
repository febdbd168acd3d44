import Derived.Test.YtbnpgkclnebnmaaGreatF7
import Derived.Test.YtbnpgkclnebnmaaGreatQ10
/- Files: what taking blocks leaves. -/
namespace Go.Proofs.YtbnpgkclnebnmaaGreat
set_option linter.unusedSimpArgs false
set_option linter.unusedVariables false
open Go.RowKit Go.Maps

/-- the blocks that a file's writes touch: its map's, its node's, its slots'; numbers from 3000 on say blocks of others -/
def dl (B0 TB DA : Nat) (b : Nat → Nat) (S : Nat → Bool) (L : List Nat) : List Nat := B0 :: TB :: L.filterMap fun c => if 3000 ≤ c then some (c - 3000) else if S c = true then some (DA + (b c - 1)) else none
theorem dl_len (B0 TB DA : Nat) (b : Nat → Nat) (S : Nat → Bool) (L : List Nat) : (dl B0 TB DA b S L).length ≤ L.length + 2 := by
  unfold dl
  have := List.length_filterMap_le (fun c => if 3000 ≤ c then some (c - 3000) else if S c = true then some (DA + (b c - 1)) else none) L
  simp only [List.length_cons]
  omega
theorem dl_mem (B0 TB DA : Nat) (b : Nat → Nat) (S : Nat → Bool) (L : List Nat) (c : Nat) (h3 : c < 3000) (hc : c ∈ L) (hs : S c = true) : DA + (b c - 1) ∈ dl B0 TB DA b S L := by
  unfold dl
  refine List.mem_cons_of_mem _ (List.mem_cons_of_mem _ (List.mem_filterMap.2 ⟨c, hc, ?_⟩))
  rw [if_neg (by omega), if_pos hs]
theorem dl_ext (B0 TB DA : Nat) (b : Nat → Nat) (S : Nat → Bool) (L : List Nat) (x : Nat) (hc : 3000 + x ∈ L) : x ∈ dl B0 TB DA b S L := by
  unfold dl
  refine List.mem_cons_of_mem _ (List.mem_cons_of_mem _ (List.mem_filterMap.2 ⟨3000 + x, hc, ?_⟩))
  rw [if_pos (by omega), show 3000 + x - 3000 = x by omega]
theorem dl_le {B0 TB DA : Nat} {b b' : Nat → Nat} {S S' : Nat → Bool} (L : List Nat) (D : Nat → Nat → Int) (hn : ∀ c, S c = true → S' c = true) (hb : ∀ c, S c = true → b' c = b c) : Lm.Le ⟨dl B0 TB DA b S L, D⟩ ⟨dl B0 TB DA b' S' L, D⟩ := by
  refine ⟨fun z hz => ?_, rfl⟩
  unfold dl at hz ⊢
  simp only [List.mem_cons, List.mem_filterMap] at hz ⊢
  rcases hz with h | h | ⟨c, h1, h2⟩
  · exact .inl h
  · exact .inr (.inl h)
  · refine .inr (.inr ⟨c, h1, ?_⟩)
    by_cases h3 : 3000 ≤ c
    · rw [if_pos h3] at h2 ⊢
      exact h2
    · rw [if_neg h3] at h2 ⊢
      by_cases hs : S c = true
      · rw [if_pos hs] at h2
        rw [if_pos (hn c hs), hb c hs]
        exact h2
      · rw [if_neg hs] at h2
        cases h2
theorem okS_lt {c : Nat} (h : okS c = true) : c < 3000 := by
  rw [okS_iff] at h
  omega
theorem least_free (b : Nat → Bool) : ∀ n, (∀ j, j < n → b j = true) ∨ ∃ i, i < n ∧ b i = false ∧ ∀ j, j < i → b j = true
  | 0 => .inl fun j hj => absurd hj (Nat.not_lt_zero j)
  | n + 1 => by
    rcases least_free b n with h | ⟨i, h1, h2, h3⟩
    · cases hb : b n
      · exact .inr ⟨n, Nat.lt_succ_self n, hb, h⟩
      · refine .inl fun j hj => ?_
        by_cases e : j = n
        · rw [e]
          exact hb
        · exact h j (by omega)
    · exact .inr ⟨i, by omega, h2, h3⟩
/-- from one state of a node's blocks to a later one: more slots; nothing else has turned but their blocks, and the bits -/
structure Ex (B0 DA NB : Nat) (Y : Nat → Nat → Int) (S : Nat → Bool) (b : Nat → Nat) (Y' : Nat → Nat → Int) (S' : Nat → Bool) (b' : Nat → Nat) : Prop where
  n : ∀ c, S c = true → S' c = true
  b : ∀ c, S c = true → b' c = b c
  y : ∀ z, z ≠ B0 → (∀ c, S' c = true → 2000 ≤ c ∨ S c = false → z ≠ DA + (b' c - 1)) → Y' z = Y z
  z : ∀ c, S' c = true → S c = false → c < 2000 → Y' (DA + (b' c - 1)) = fun _ => 0
  u : ∀ j, j < NB → (bt Y' B0 j = true ↔ bt Y B0 j = true ∨ ∃ c, S' c = true ∧ S c = false ∧ b' c = j + 1)
  fr : ∀ c, S' c = true → S c = false → bt Y B0 (b' c - 1) = false
theorem Ex.refl (B0 DA NB : Nat) (Y : Nat → Nat → Int) (S : Nat → Bool) (b : Nat → Nat) : Ex B0 DA NB Y S b Y S b :=
  ⟨fun _ h => h, fun _ _ => rfl, fun _ _ _ => rfl, fun c h h' => by (rw [h] at h'; cases h'), fun j _ => ⟨fun h => .inl h, fun h => h.elim id fun ⟨c, h1, h2, _⟩ => by (rw [h1] at h2; cases h2)⟩, fun c h h' => by (rw [h] at h'; cases h')⟩
theorem Ex.trans {B0 DA NB : Nat} {Y Y1 Y2 : Nat → Nat → Int} {S S1 S2 : Nat → Bool} {b b1 b2 : Nat → Nat} (hB : B0 < DA) (h : Ex B0 DA NB Y S b Y1 S1 b1) (k : Ex B0 DA NB Y1 S1 b1 Y2 S2 b2)
    (rng : ∀ c, S2 c = true → 1 ≤ b2 c ∧ b2 c ≤ NB) (inj : ∀ c c', S2 c = true → S2 c' = true → b2 c = b2 c' → c = c') : Ex B0 DA NB Y S b Y2 S2 b2 := by
  refine ⟨fun c hc => k.n c (h.n c hc), fun c hc => (k.b c (h.n c hc)).trans (h.b c hc), fun z hz hf => ?_, fun c hc hn h2 => ?_, fun j hj => ?_, fun c hc hn => ?_⟩
  · rw [k.y z hz fun c hc ho => hf c hc (ho.imp id fun hs => ?_), h.y z hz fun c hc ho => ?_]
    · have := hf c (k.n c hc) ho
      rwa [k.b c hc] at this
    · cases hh : S c
      · rfl
      · rw [h.n c hh] at hs
        cases hs
  · cases h1 : S1 c
    · exact k.z c hc h1 h2
    · rw [k.y _ (by omega) fun c' hc' ho he => ?_, k.b c h1]
      · exact h.z c h1 hn h2
      · have r1 := rng c hc
        have r2 := rng c' hc'
        obtain rfl := inj c c' hc hc' (by omega)
        rcases ho with ho | ho
        · omega
        · rw [h1] at ho
          cases ho
  · rw [k.u j hj, h.u j hj]
    constructor
    · rintro ((h1 | ⟨c, h1, h2, h3⟩) | ⟨c, h1, h2, h3⟩)
      · exact .inl h1
      · exact .inr ⟨c, k.n c h1, h2, (k.b c h1).trans h3⟩
      · refine .inr ⟨c, h1, ?_, h3⟩
        cases hh : S c
        · rfl
        · rw [h.n c hh] at h2
          cases h2
    · rintro (h1 | ⟨c, h1, h2, h3⟩)
      · exact .inl (.inl h1)
      · cases hh : S1 c
        · exact .inr ⟨c, h1, hh, h3⟩
        · exact .inl (.inr ⟨c, hh, h2, (k.b c hh).symm.trans h3⟩)
  · cases h1 : S1 c
    · have hf := k.fr c hc h1
      have r := rng c hc
      cases hh : bt Y B0 (b2 c - 1)
      · rfl
      · rw [(h.u (b2 c - 1) (by omega)).2 (.inl hh)] at hf
        cases hf
    · rw [k.b c h1]
      exact h.fr c h1 hn
/-- one slot more -/
theorem add_ex {DA NB B0 : Nat} {Y : Nat → Nat → Int} {f : Nat → Int} {S : Nat → Bool} {b : Nat → Nat} (h : Fi DA NB Y f S b) (hv : ∀ x, Byt (Y x)) (hB : B0 < DA) (c : Nat) (hok : okS c = true) (hN : S c = false) (hp : isR c = true ∨ S (parS c) = true) (i : Nat) (hi : i < NB) (hNB : NB ≤ 512)
    (hfree : bt Y B0 i = false) (hus : ∀ c, S c = true → bt Y B0 (b c - 1) = true) (Y1 : Nat → Nat → Int) (hY1 : vput (DA + i) (fun _ => 0) (setV Y B0 i true) = Y1) :
    Fi DA NB (addY DA Y1 b c (i + 1)) (addF f c (i + 1)) (addN S c) (addB b c (i + 1)) ∧ Ex B0 DA NB Y S b (addY DA Y1 b c (i + 1)) (addN S c) (addB b c (i + 1)) ∧ (∀ c', addN S c c' = true → bt (addY DA Y1 b c (i + 1)) B0 (addB b c (i + 1) c' - 1) = true) := by
  have hfr : ∀ c', S c' = true → b c' ≠ i + 1 := fun c' hc he => by
    have := hus c' hc
    rw [he, show i + 1 - 1 = i by omega, hfree] at this
    cases this
  have e1 : ∀ z, z ≠ B0 → z ≠ DA + (i + 1 - 1) → Y1 z = Y z := fun z h1 h2 => by
    rw [← hY1, vput_ne _ _ (by omega), setV_ne _ _ _ _ h1]
  have e2 : Y1 (DA + (i + 1 - 1)) = fun _ => 0 := by
    rw [← hY1, show i + 1 - 1 = i by omega, vput_at]
  have hF := h.add hB c hok hN hp (i + 1) (by omega) (by omega) hNB hfr e1 e2
  have hbit : ∀ j, j < NB → bt (addY DA Y1 b c (i + 1)) B0 j = if i = j then true else bt Y B0 j := fun j hj => by
    have hb1 : bt Y1 B0 j = if i = j then true else bt Y B0 j := by
      rw [← hY1]
      exact bt_take hv B0 DA i j _ hB (by omega) (by omega)
    unfold addY
    split
    · exact hb1
    · rw [bt_put _ _ _ _ _ (by omega)]
      exact hb1
  have hY : ∀ z, z ≠ B0 → z ≠ DA + i → (isR c = false → z ≠ DA + (b (parS c) - 1)) → addY DA Y1 b c (i + 1) z = Y z := fun z h1 h2 h3 => by
    unfold addY
    split
    · exact e1 z h1 (by omega)
    · rename_i hcr
      rw [vput_ne _ _ (fun e => h3 (by simpa using hcr) e.symm)]
      exact e1 z h1 (by omega)
  refine ⟨hF, ⟨fun c' hc => addN_old S c hc, fun c' hc => addB_ne b _ (fun e => by rw [e, hN] at hc; cases hc), fun z h1 h2 => ?_, fun c' hc hn h2 => ?_, fun j hj => ?_, fun c' hc hn => ?_⟩, fun c' hc => ?_⟩
  · refine hY z h1 ?_ fun hr => ?_
    · have := h2 c (addN_self S c) (.inr hN)
      rwa [addB_self] at this
    · have hpc : S (parS c) = true := hp.resolve_left (by rw [hr]; decide)
      have hne : parS c ≠ c := (parS_ok c hok hr).2.2
      have := h2 (parS c) (addN_old S c hpc) (.inl (parS_ok c hok hr).2.1)
      rwa [addB_ne b _ hne] at this
  · rcases addN_of S hc with rfl | hc'
    · rw [addB_self, show i + 1 - 1 = i by omega]
      unfold addY
      split
      · exact e2
      · rename_i hcr
        have hpc : S (parS c') = true := hp.resolve_left hcr
        have r := h.rng _ hpc
        have := hfr _ hpc
        rw [vput_ne _ _ (by omega)]
        exact e2
    · rw [hc'] at hn
      cases hn
  · rw [hbit j hj]
    constructor
    · intro hh
      by_cases e : i = j
      · exact .inr ⟨c, addN_self S c, hN, by rw [addB_self, e]⟩
      · rw [if_neg e] at hh
        exact .inl hh
    · rintro (hh | ⟨c', h1, h2, h3⟩)
      · rw [hh]
        split <;> rfl
      · rcases addN_of S h1 with rfl | h1
        · rw [addB_self] at h3
          rw [if_pos (by omega)]
        · rw [h1] at h2
          cases h2
  · rcases addN_of S hc with rfl | hc'
    · rw [addB_self, show i + 1 - 1 = i by omega]
      exact hfree
    · rw [hc'] at hn
      cases hn
  · have r := hF.rng c' hc
    rw [hbit _ (by omega)]
    rcases addN_of S hc with rfl | hc'
    · rw [addB_self, if_pos (by omega)]
    · have hne : c' ≠ c := fun e => by rw [e, hN] at hc'; cases hc'
      rw [addB_ne b _ hne, hus c' hc']
      split <;> rfl
end Go.Proofs.YtbnpgkclnebnmaaGreat
