import Derived.Test.YtnfadmifdncjoaaGreatEB
/- What a commit makes of a disk. -/
namespace Go.Proofs.YtnfadmifdncjoaaGreat
set_option linter.unusedSimpArgs false
set_option linter.unusedVariables false
open Go.RowKit Go.Maps
def Out (N fi k : Nat) : Prop := k < N ∧ ¬ (fi ≤ k ∧ k ≤ fi + 30)
/-- block k of f is b -/
def SB (f : Nat → Int) (k : Nat) (b : Nat → Int) : Prop := ∀ i, i < 64 → f (k * 64 + i) = b i
theorem SB.upd_same (f : Nat → Int) (k : Nat) (b : Nat → Int) : SB (upd f (k * 64) 64 b) k b := by
  intro i hi
  unfold upd
  rw [if_pos (by omega), show k * 64 + i - k * 64 = i by omega]
theorem SB.upd_other {f : Nat → Int} {k j : Nat} {b c : Nat → Int} (h : SB f k b) (hne : k ≠ j) : SB (upd f (j * 64) 64 c) k b := by
  intro i hi
  unfold upd
  rw [if_neg (by omega)]
  exact h i hi
theorem SB.congr {f : Nat → Int} {k : Nat} {b c : Nat → Int} (h : SB f k b) (hbc : ∀ i, i < 64 → b i = c i) : SB f k c := fun i hi => (h i hi).trans (hbc i hi)
/-- the write as it goes -/
theorem write_split (s : DS) (k : Nat) (b : Nat → Int) : s.write k b = (24, { s with de := true }) ∧ (s.ar = true ∨ s.de = true) ∨ ∃ lf, s.write k b = (0, { s with f := upd s.f (k * 64) 64 b, lf := lf, wr := s.wr + 1 }) ∧ s.de = false := by
  unfold DS.write
  by_cases h : s.ar = true ∧ s.lf = 0 ∨ s.de = true
  · rw [if_pos h]
    exact .inl ⟨rfl, by rcases h with h | h; exact .inl h.1; exact .inr h⟩
  · rw [if_neg h]
    refine .inr ⟨_, rfl, ?_⟩
    cases hd : s.de
    · rfl
    · exact absurd (.inr hd) h
/-- it lets all through -/
def Awk (s : DS) : Prop := s.ar = false ∧ s.de = false
theorem write_awk {s : DS} (h : Awk s) (k : Nat) (b : Nat → Int) : s.write k b = (0, { s with f := upd s.f (k * 64) 64 b, wr := s.wr + 1 }) := by
  unfold DS.write
  rw [if_neg (by rw [h.1, h.2]; simp)]
  simp [h.1]

/-- an empty log; outside of it the blocks W -/
structure StA (s : DS) (N fi : Nat) (W : Nat → Nat → Int) : Prop where
  n : s.n = N
  head : SB s.f fi (headF [])
  out : ∀ k, Out N fi k → SB s.f k (W k)
/-- a log that holds T; each block outside of it is as it was, or as it is to be -/
structure StB (s : DS) (N fi : Nat) (T : TS) (W I : Nat → Nat → Int) : Prop where
  n : s.n = N
  head : SB s.f fi (headF (keys T))
  log : ∀ i (h : i < T.length), SB s.f (fi + 1 + i) T[i].2
  out : ∀ k, Out N fi k → SB s.f k (W k) ∨ SB s.f k (I k)
/-- what T makes of W -/
def over (T : TS) (W : Nat → Nat → Int) : Nat → Nat → Int := fun k => (find T (k : Int)).getD (W k)
theorem over_at {T : TS} (h : Rise T) (W : Nat → Nat → Int) {i : Nat} (hi : i < T.length) : over T W T[i].1 = T[i].2 := by
  unfold over
  rw [find_at h hi]
  rfl
theorem over_not {T : TS} (W : Nat → Nat → Int) {k : Nat} (hk : k ∉ keys T) : over T W k = W k := by
  unfold over
  cases hf : find T (k : Int) with
  | none => rfl
  | some f =>
    obtain ⟨p, hp, hpk, _⟩ := find_mem hf
    exact absurd (List.mem_map.2 ⟨p, hp, by omega⟩) hk
structure TOk (T : TS) (N fi : Nat) : Prop where
  rise : Rise T
  len : T.length ≤ 30
  out : ∀ p ∈ T, Out N fi p.1
  byt : ∀ p ∈ T, Byt p.2
theorem StA.rdd {s : DS} {N fi : Nat} {W : Nat → Nat → Int} (h : StA s N fi W) : StA s.rdd N fi W := ⟨h.n, h.head, h.out⟩
theorem StB.rdd {s : DS} {N fi : Nat} {T : TS} {W I : Nat → Nat → Int} (h : StB s N fi T W I) : StB s.rdd N fi T W I := ⟨h.n, h.head, h.log, h.out⟩
theorem StB.dead {s : DS} {N fi : Nat} {T : TS} {W I : Nat → Nat → Int} (h : StB s N fi T W I) : StB { s with de := true } N fi T W I := ⟨h.n, h.head, h.log, h.out⟩
theorem StA.dead {s : DS} {N fi : Nat} {W : Nat → Nat → Int} (h : StA s N fi W) : StA { s with de := true } N fi W := ⟨h.n, h.head, h.out⟩

/-- the log's blocks to their places -/
theorem inst_whole {N fi : Nat} {T : TS} (hT : TOk T N fi) (W : Nat → Nat → Int) (hf : fi + 31 ≤ N) : ∀ (r i : Nat) (s : DS), i + r = T.length → StB s N fi T W (over T W) → (∀ j (h : j < T.length), j < i → SB s.f T[j].1 T[j].2) →
    ((inst fi i ((keys T).drop i) s).1 = 0 ∧ StB (inst fi i ((keys T).drop i) s).2 N fi T W (over T W) ∧ (∀ j (h : j < T.length), SB (inst fi i ((keys T).drop i) s).2.f T[j].1 T[j].2) ∧ (Awk s → Awk (inst fi i ((keys T).drop i) s).2)) ∨
    ((inst fi i ((keys T).drop i) s).1 = 24 ∧ StB (inst fi i ((keys T).drop i) s).2 N fi T W (over T W) ∧ ¬ Awk s)
  | 0, i, s, hi, hB, hj => by
    have he : (keys T).drop i = [] := List.drop_eq_nil_of_le (by rw [keys_len]; omega)
    rw [he]
    exact .inl ⟨rfl, hB, fun j h => hj j h (by omega), fun h => h⟩
  | r + 1, i, s, hi, hB, hj => by
    have hlt : i < T.length := by omega
    have he : (keys T).drop i = T[i].1 :: (keys T).drop (i + 1) := by
      rw [List.drop_eq_getElem_cons (by rw [keys_len]; exact hlt)]
      simp [keys]
    have ho := hT.out T[i] (List.getElem_mem hlt)
    have hl := hT.len
    rw [he]
    unfold inst
    have hb : SB s.f (fi + 1 + i) T[i].2 := hB.log i hlt
    have hbk : ∀ x, x < 64 → s.blk (fi + 1 + i) x = T[i].2 x := hb
    rcases write_split s.rdd T[i].1 (s.blk (fi + 1 + i)) with ⟨hw, hd⟩ | ⟨lf, hw, hd⟩
    · rw [hw, if_neg (show ¬ ((24 : Int) = 0) by decide)]
      exact .inr ⟨rfl, hB.rdd.dead, fun h => by rcases hd with hd | hd; exact absurd (h.1.symm.trans hd) (by decide); exact absurd (h.2.symm.trans hd) (by decide)⟩
    · rw [hw, if_pos rfl]
      have hB' : StB { s.rdd with f := upd s.rdd.f (T[i].1 * 64) 64 (s.blk (fi + 1 + i)), lf := lf, wr := s.rdd.wr + 1 } N fi T W (over T W) := by
        refine ⟨hB.n, hB.head.upd_other (by have := ho.2; omega), fun j h => (hB.log j h).upd_other (by have := ho.2; omega), fun k hk => ?_⟩
        by_cases e : k = T[i].1
        · subst e
          right
          rw [over_at hT.rise W hlt]
          exact (SB.upd_same _ _ _).congr hbk
        · rcases hB.out k hk with h | h
          · exact .inl (h.upd_other e)
          · exact .inr (h.upd_other e)
      have hj' : ∀ j (h : j < T.length), j < i + 1 → SB (upd s.rdd.f (T[i].1 * 64) 64 (s.blk (fi + 1 + i))) T[j].1 T[j].2 := by
        intro j h hji
        by_cases e : j = i
        · subst e
          exact (SB.upd_same _ _ _).congr hbk
        · have hlt2 : T[j].1 < T[i].1 := List.pairwise_iff_getElem.1 hT.rise j i h hlt (by omega)
          exact (hj j h (by omega)).upd_other (by omega)
      rcases inst_whole hT W hf r (i + 1) _ (by omega) hB' hj' with ⟨h1, h2, h3, h4⟩ | ⟨h1, h2, h3⟩
      · exact .inl ⟨h1, h2, h3, fun h => h4 ⟨h.1, h.2⟩⟩
      · exact .inr ⟨h1, h2, fun h => h3 ⟨h.1, h.2⟩⟩
/-- install -/
theorem install_whole {N fi : Nat} {T : TS} (hT : TOk T N fi) (W : Nat → Nat → Int) (hf : fi + 31 ≤ N) (s : DS) (hB : StB s N fi T W (over T W)) (h0 : 0 < T.length) :
    ((install fi (keys T) s).1 = 0 ∧ StA (install fi (keys T) s).2 N fi (over T W) ∧ (Awk s → Awk (install fi (keys T) s).2)) ∨ ((install fi (keys T) s).1 = 24 ∧ StB (install fi (keys T) s).2 N fi T W (over T W) ∧ ¬ Awk s) := by
  have hne : keys T ≠ [] := ne_nil_of_pos (by rw [keys_len]; exact h0)
  unfold install
  rw [if_neg hne]
  have h := inst_whole hT W hf T.length 0 s (by omega) hB (fun j _ h => by omega)
  rw [List.drop_zero] at h
  rcases h with ⟨h1, h2, h3, h4⟩ | ⟨h1, h2, h3⟩
  · rw [if_pos h1]
    rcases write_split (inst fi 0 (keys T) s).2 fi (headF []) with ⟨hw, hd⟩ | ⟨lf, hw, hd⟩
    · rw [hw]
      refine .inr ⟨rfl, h2.dead, fun h => ?_⟩
      have := h4 h
      rcases hd with hd | hd
      · exact absurd (this.1.symm.trans hd) (by decide)
      · exact absurd (this.2.symm.trans hd) (by decide)
    · rw [hw]
      refine .inl ⟨rfl, ⟨h2.n, SB.upd_same _ _ _, fun k hk => ?_⟩, fun h => ⟨(h4 h).1, (h4 h).2⟩⟩
      refine SB.upd_other ?_ (by have := hk.2; omega)
      by_cases e : k ∈ keys T
      · obtain ⟨p, hp, rfl⟩ := List.mem_map.1 e
        obtain ⟨j, hj, rfl⟩ := List.getElem_of_mem hp
        rw [over_at hT.rise W hj]
        exact h3 j hj
      · rw [over_not W e]
        rcases h2.out k hk with h | h
        · exact h
        · rw [over_not W e] at h
          exact h
  · rw [if_neg (by rw [h1]; decide)]
    exact .inr ⟨h1, h2, h3⟩

/-- the blocks into the log -/
theorem wlog_whole {N fi : Nat} {T : TS} (hl : T.length ≤ 30) (W : Nat → Nat → Int) (hf : fi + 31 ≤ N) : ∀ (r i : Nat) (s : DS), i + r = T.length → StA s N fi W → (∀ j (h : j < T.length), j < i → SB s.f (fi + 1 + j) T[j].2) →
    ((wlog fi i ((T.drop i).map (·.2)) s).1 = 0 ∧ StA (wlog fi i ((T.drop i).map (·.2)) s).2 N fi W ∧ (∀ j (h : j < T.length), SB (wlog fi i ((T.drop i).map (·.2)) s).2.f (fi + 1 + j) T[j].2) ∧ (Awk s → Awk (wlog fi i ((T.drop i).map (·.2)) s).2)) ∨
    ((wlog fi i ((T.drop i).map (·.2)) s).1 = 24 ∧ StA (wlog fi i ((T.drop i).map (·.2)) s).2 N fi W ∧ ¬ Awk s)
  | 0, i, s, hi, hA, hj => by
    have he : T.drop i = [] := List.drop_eq_nil_of_le (by omega)
    rw [he]
    exact .inl ⟨rfl, hA, fun j h => hj j h (by omega), fun h => h⟩
  | r + 1, i, s, hi, hA, hj => by
    have hlt : i < T.length := by omega
    rw [List.drop_eq_getElem_cons hlt, List.map_cons]
    unfold wlog
    rcases write_split s (fi + 1 + i) T[i].2 with ⟨hw, hd⟩ | ⟨lf, hw, hd⟩
    · rw [hw, if_neg (show ¬ ((24 : Int) = 0) by decide)]
      exact .inr ⟨rfl, hA.dead, fun h => by rcases hd with hd | hd; exact absurd (h.1.symm.trans hd) (by decide); exact absurd (h.2.symm.trans hd) (by decide)⟩
    · rw [hw, if_pos rfl]
      have hA' : StA { s with f := upd s.f ((fi + 1 + i) * 64) 64 T[i].2, lf := lf, wr := s.wr + 1 } N fi W :=
        ⟨hA.n, hA.head.upd_other (by omega), fun k hk => (hA.out k hk).upd_other (by have := hk.2; omega)⟩
      have hj' : ∀ j (h : j < T.length), j < i + 1 → SB (upd s.f ((fi + 1 + i) * 64) 64 T[i].2) (fi + 1 + j) T[j].2 := by
        intro j h hji
        by_cases e : j = i
        · subst e
          exact SB.upd_same _ _ _
        · exact (hj j h (by omega)).upd_other (by omega)
      rcases wlog_whole hl W hf r (i + 1) _ (by omega) hA' hj' with ⟨h1, h2, h3, h4⟩ | ⟨h1, h2, h3⟩
      · exact .inl ⟨h1, h2, h3, fun h => h4 ⟨h.1, h.2⟩⟩
      · exact .inr ⟨h1, h2, fun h => h3 ⟨h.1, h.2⟩⟩
theorem writelog_whole {N fi : Nat} {T : TS} (hT : TOk T N fi) (W : Nat → Nat → Int) (hf : fi + 31 ≤ N) (s : DS) (hA : StA s N fi W) :
    ((writeLog fi T s).1 = 0 ∧ StB (writeLog fi T s).2 N fi T W (over T W) ∧ (Awk s → Awk (writeLog fi T s).2)) ∨ ((writeLog fi T s).1 = 24 ∧ StA (writeLog fi T s).2 N fi W ∧ ¬ Awk s) := by
  unfold writeLog
  have h := wlog_whole hT.len W hf T.length 0 s (by omega) hA (fun j _ h => by omega)
  rw [List.drop_zero] at h
  have hlen := hT.len
  rcases h with ⟨h1, h2, h3, h4⟩ | ⟨h1, h2, h3⟩
  · rw [if_pos h1]
    rcases write_split (wlog fi 0 (T.map (·.2)) s).2 fi (headF (keys T)) with ⟨hw, hd⟩ | ⟨lf, hw, hd⟩
    · rw [hw]
      refine .inr ⟨rfl, h2.dead, fun h => ?_⟩
      have := h4 h
      rcases hd with hd | hd
      · exact absurd (this.1.symm.trans hd) (by decide)
      · exact absurd (this.2.symm.trans hd) (by decide)
    · rw [hw]
      exact .inl ⟨rfl, ⟨h2.n, SB.upd_same _ _ _, fun j h => (h3 j h).upd_other (by omega), fun k hk => .inl ((h2.out k hk).upd_other (by have := hk.2; omega))⟩, fun h => ⟨(h4 h).1, (h4 h).2⟩⟩
  · rw [if_neg (by rw [h1]; decide)]
    exact .inr ⟨h1, h2, h3⟩
/-- Commit: all is written, or nothing but the log, or the rest is for Recover -/
theorem commit_whole {N fi : Nat} {T : TS} (hT : TOk T N fi) (W : Nat → Nat → Int) (hf : fi + 31 ≤ N) (s : DS) (hA : StA s N fi W) :
    ((commit fi T 0 s).1 = 0 ∧ (commit fi T 0 s).2.1 = [] ∧ StA (commit fi T 0 s).2.2 N fi (over T W) ∧ (Awk s → Awk (commit fi T 0 s).2.2)) ∨
    ((commit fi T 0 s).1 = 24 ∧ (StA (commit fi T 0 s).2.2 N fi W ∨ 0 < T.length ∧ StB (commit fi T 0 s).2.2 N fi T W (over T W)) ∧ ¬ Awk s) := by
  unfold commit
  rw [if_neg (by decide)]
  by_cases h0 : T = []
  · rw [if_pos h0]
    subst h0
    refine .inl ⟨rfl, rfl, ⟨hA.n, hA.head, fun k hk => by rw [over_not W (by simp [keys])]; exact hA.out k hk⟩, fun h => h⟩
  · rw [if_neg h0]
    have hpos : 0 < T.length := List.length_pos_iff.2 h0
    rcases writelog_whole hT W hf s hA with ⟨h1, h2, h3⟩ | ⟨h1, h2, h3⟩
    · rw [if_pos h1]
      rcases install_whole hT W hf _ h2 hpos with ⟨g1, g2, g3⟩ | ⟨g1, g2, g3⟩
      · exact .inl ⟨g1, rfl, g2, fun h => g3 (h3 h)⟩
      · exact .inr ⟨g1, .inr ⟨hpos, g2⟩, fun h => g3 (h3 h)⟩
    · rw [if_neg (by rw [h1]; decide)]
      exact .inr ⟨h1, .inl h2, h3⟩

/-! ### what a head says, read back -/
end Go.Proofs.YtnfadmifdncjoaaGreat
