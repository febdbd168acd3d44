import Derived.Test.YtdebkifnaiohcaaH4
import Derived.Test.YtdebkifnaiohcaaH2
/- A table of nodes, as its bytes say. -/
namespace Go.Proofs.Ytdebkifnaiohcaa
set_option linter.unusedSimpArgs false
set_option linter.unusedVariables false
open Go.RowKit Go.Maps

theorem find_cons (p : Nat × (Nat → Int)) (r : TS) (x : Int) : find (p :: r) x = if (p.1 : Int) = x then some p.2 else find r x := by
  unfold find
  rw [List.find?_cons]
  by_cases c : (p.1 : Int) = x <;> simp [c]
theorem find_put (k : Nat) (f : Nat → Int) (x : Int) : ∀ T : TS, find (put k f T) x = if (k : Int) = x then some f else find T x
  | [] => by
    unfold put
    rw [find_cons]
  | p :: r => by
    unfold put
    by_cases c1 : k < p.1
    · rw [if_pos c1, find_cons]
    · rw [if_neg c1]
      by_cases c2 : k = p.1
      · rw [if_pos c2, find_cons, find_cons]
        by_cases c : (k : Int) = x
        · rw [if_pos c, if_pos c]
        · rw [if_neg c, if_neg c, if_neg (by omega)]
      · rw [if_neg c2, find_cons, find_cons, find_put k f x r]
        by_cases c : (p.1 : Int) = x
        · rw [if_pos c, if_pos c, if_neg (by omega)]
        · rw [if_neg c, if_neg c]
theorem vw_put (T : TS) (k : Nat) (f : Nat → Int) (x : Nat) : vw (put k f T) x = if k = x then f else vw T x := by
  unfold vw
  rw [find_put]
  by_cases c : k = x
  · rw [if_pos (by omega), if_pos c]; rfl
  · rw [if_neg (by omega), if_neg c]
theorem codeN_zero : codeN zpt = 0 := by kernel_rfl
theorem encF_zero (j : Nat) : encF zpt j = 0 := by
  have hd : ∀ i, dig 0 i = 0 := fun i => by simp [dig]
  unfold encF
  have hz : ∀ i, zpt i = 0 := fun _ => rfl
  simp only [hz, hd]
  split <;> (try rfl)
  split <;> (try rfl)
  split <;> (try rfl)
  split <;> (try rfl)
  split <;> rfl
/-- the node of a number, as it is meant -/
def ndU (U : TS) (n : Nat) : Nat → Int := (find U n).getD zpt
/-- the table's bytes say those nodes -/
def Tab (P0 M : Nat) (T U : TS) : Prop := ∀ n, 1 ≤ n → n ≤ M → (∀ j, j < 32 → vw T (P0 + (n - 1) / 2) ((n - 1) % 2 * 32 + j) = encF (ndU U n) j) ∧ NdOk (ndU U n) ∧ codeN (ndU U n) = 0
theorem Tab.new (P0 M : Nat) (h : 2 ≤ P0) : Tab P0 M [] [] := fun n _ _ => by
  refine ⟨fun j hj => ?_, zpt_ok, codeN_zero⟩
  rw [vw_zero (T := []) (by omega) rfl]
  exact (encF_zero j).symm
theorem ndU_put (U : TS) (n : Nat) (f : Nat → Int) (k : Nat) : ndU (put n f U) k = if n = k then f else ndU U k := by
  unfold ndU
  rw [find_put]
  by_cases c : n = k
  · rw [if_pos (by omega), if_pos c]; rfl
  · rw [if_neg (by omega), if_neg c]
theorem Tab.put {P0 M : Nat} {T U : TS} (h : Tab P0 M T U) (n : Nat) (h1 : 1 ≤ n) (h2 : n ≤ M) (f : Nat → Int) (hf : NdOk f) (hc : codeN f = 0) (kB A : Nat) (hkB : kB = P0 + (n - 1) / 2) (hA : A = (n - 1) % 2 * 32) :
    Tab P0 M (put kB (wrB (vw T kB) A f) T) (put n f U) := fun k k1 k2 => by
  obtain ⟨g1, g2, g3⟩ := h k k1 k2
  rw [ndU_put]
  by_cases e : n = k
  · rw [if_pos e]
    refine ⟨fun j hj => ?_, hf, hc⟩
    subst e
    rw [vw_put, if_pos hkB, hA]
    unfold wrB upd
    rw [if_pos (by omega)]
    congr 1
    omega
  · rw [if_neg e]
    refine ⟨fun j hj => ?_, g2, g3⟩
    rw [← g1 j hj, vw_put]
    by_cases eb : kB = P0 + (k - 1) / 2
    · rw [if_pos eb, ← eb]
      unfold wrB upd
      rw [if_neg (by omega)]
    · rw [if_neg eb]
theorem Rise.put_len_le {k : Nat} {f : Nat → Int} {T : TS} (h : Rise T) : (put k f T).length ≤ T.length + 1 := by
  rw [put_len k f T h]
  split <;> omega
/-! ### a table's calls, whatever half -/
theorem half {x : Int} {n : Nat} (hx : x = n) (h1 : 1 ≤ n) : (x - 1) % 2 * 32 = 0 ∧ (n - 1) % 2 * 32 = 0 ∨ (x - 1) % 2 * 32 = 32 ∧ (n - 1) % 2 * 32 = 32 := by omega
theorem read_any6 (g : Cf.Ge) (n : Nat) (t m d gg N K P0 M : Nat) (T U : TS) (h1 : 1 ≤ n) (h2 : n ≤ M) (hM : g.nd = M) (hP : g.base + g.bm = P0) (hb0 : 0 ≤ g.base) (hb1 : g.base < 100000) (hm0 : 0 ≤ g.bm) (hm1 : g.bm < 100000) (hn1 : g.nd ≤ 128) (hk : P0 + (M + 1) / 2 ≤ N) (hN : N ≤ 65536) (hK : K < 600000) (hI : Tab P0 M T U) (w : World) (h : Rd w t m d gg N T K) :
    Calls Try.prog 20 #[.pointer (some ⟨t, 0, none⟩), g.val, .int .i64 n] w fun e w' => e = .returned (.tuple #[.agg (ndc (ndU U n)).toArray, .int .i64 0]) ∧ Rd w' t m d gg N T (K + 1) ∧ Kf w w' [t, m, d, gg] := by
  obtain ⟨g1, g2, g3⟩ := hI n h1 h2
  have hx : inP g n := ⟨by omega, by omega⟩
  have hkB : g.base + g.bm + ((n : Int) - 1) / 2 = ((P0 + (n - 1) / 2 : Nat) : Int) := by omega
  have hE := decE_enc g2
  rw [g3] at hE
  have hV := ndc_dec g2 g3
  rcases half (x := n) rfl h1 with ⟨ha, ha'⟩ | ⟨ha, ha'⟩
  · have := read_in0 g n t m d gg N K (P0 + (n - 1) / 2) T hx hb0 hb1 hm0 hm1 hn1 hkB ha (by omega) hN hK (encF (ndU U n)) (encF_byt g2) (fun j hj => by have := g1 j hj; rwa [ha'] at this) w h
    rwa [hE, hV] at this
  · have := read_in32 g n t m d gg N K (P0 + (n - 1) / 2) T hx hb0 hb1 hm0 hm1 hn1 hkB ha (by omega) hN hK (encF (ndU U n)) (encF_byt g2) (fun j hj => by have := g1 j hj; rwa [ha'] at this) w h
    rwa [hE, hV] at this
theorem write_any6 (g : Cf.Ge) (n : Nat) (t m d gg N K P0 M : Nat) (T U : TS) (f : Nat → Int) (hf : NdOk f) (hcd : codeN f = 0) (h1 : 1 ≤ n) (h2 : n ≤ M) (hM : g.nd = M) (hP : g.base + g.bm = P0) (hb0 : 0 ≤ g.base) (hb1 : g.base < 100000) (hm0 : 0 ≤ g.bm) (hm1 : g.bm < 100000) (hn1 : g.nd ≤ 128) (hk : P0 + (M + 1) / 2 ≤ N) (hk32 : 32 ≤ P0) (hN : N ≤ 65536) (hT : T.length < 30) (hK : K < 600000) (hI : Tab P0 M T U) (w : World) (h : Rd w t m d gg N T K) :
    Calls Try.prog 18 #[.pointer (some ⟨t, 0, none⟩), g.val, .int .i64 n, .agg (ndc f).toArray] w fun e w' => ∃ T', e = .returned (.int .i64 0) ∧ Rd w' t m d gg N T' (K + 1) ∧ T'.length ≤ T.length + 1 ∧ Tab P0 M T' (put n f U) ∧ Kf w w' [t, m, d, gg] := by
  have hx : inP g n := ⟨by omega, by omega⟩
  have hkB : g.base + g.bm + ((n : Int) - 1) / 2 = ((P0 + (n - 1) / 2 : Nat) : Int) := by omega
  rcases half (x := n) rfl h1 with ⟨ha, ha'⟩ | ⟨ha, ha'⟩
  · refine (write_in0 g n t m d gg N K (P0 + (n - 1) / 2) T f hf hcd hx hb0 hb1 hm0 hm1 hn1 hkB ha (by omega) (by omega) hN hT hK w h).mono ?_
    rintro e w' ⟨he, hR, hk'⟩
    exact ⟨_, he, hR, h.tx.mp.2.put_len_le, hI.put n h1 h2 f hf hcd _ 0 rfl ha'.symm, hk'⟩
  · refine (write_in32 g n t m d gg N K (P0 + (n - 1) / 2) T f hf hcd hx hb0 hb1 hm0 hm1 hn1 hkB ha (by omega) (by omega) hN hT hK w h).mono ?_
    rintro e w' ⟨he, hR, hk'⟩
    exact ⟨_, he, hR, h.tx.mp.2.put_len_le, hI.put n h1 h2 f hf hcd _ 32 rfl ha'.symm, hk'⟩
end Go.Proofs.Ytdebkifnaiohcaa
