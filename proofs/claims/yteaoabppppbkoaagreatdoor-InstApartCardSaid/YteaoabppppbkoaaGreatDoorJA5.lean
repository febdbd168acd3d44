import Derived.Test.YteaoabppppbkoaaGreatDoorJA4
/- I14 -/
namespace Go.Proofs.YteaoabppppbkoaaGreatDoor
set_option linter.unusedSimpArgs false
set_option linter.unusedVariables false
open Go.RowKit Go.Maps

theorem Dir.fresh0 (B0 DA NB : Nat) (Y : Nat → Nat → Int) : Dir B0 DA NB Y (own 2) (fun _ => 0) [] := by
  refine ⟨rfl, by decide, rfl, by decide, ?_, (fun e he => by cases he), fun i hi => absurd hi (Nat.not_lt_zero _)⟩
  exact Fu.none B0 DA NB Y (own 2) _ (fun i h4 _ => own_noblocks 2 i h4)
def X5 (P : Nat) : List Nat := [P + 1, P + 2, P + 3, P + 4, P + 5]
theorem X5_mem (P n : Nat) (h : 4 ≤ n) (h2 : n ≤ 12) : P + (n - 1) / 2 ∈ X5 P := by
  unfold X5
  simp only [List.mem_cons, List.not_mem_nil, or_false]
  omega
/-- places, each of its own node, or empty -/
structure Can (k : Nat) (E : List Rc) (V : Nat → Nat → Int) : Prop where
  len : E.length = k
  pl : ∀ (j : Nat) (e : Rc), E[j]? = some e → e = zR ∨ (e = ((0, 4 + j, 1), 4 + j) ∧ V (4 + j) = own 2)
theorem idrop1 {N : Nat} {g : Cf.Ge} {B0 P0 M DA NB : Nat} (hg : GG g B0 P0 M DA NB N) (hM : 12 ≤ M) (q p t m d gg lab K : Nat) (Y V D : Nat → Nat → Int) (b : Nat → Nat) (E : List Rc) (k : Nat) (hS : T1 B0 P0 M DA NB Y V b E) (hC : Can k E V) (hk : k ≤ 9) (hK : K < 100000000) (a : Nat) (ha : a < k) (w : World) (h : Gr w q p t m d gg lab g B0 NB N ⟨dl B0 P0 DA b (ndS (nbT E.length)) (LI (X5 P0)), D⟩ Y K) :
    Calls Tryz.prog 37 #[.pointer (some ⟨q, 0, none⟩), .agg (ink (0, 4 + a, 1)).toArray] w fun r w' => (∃ c, r = .returned (.int .i64 c)) ∧ Kf w w' [t, m, d, gg] ∧ ∃ Y' V' b' E', Gr w' q p t m d gg lab g B0 NB N ⟨dl B0 P0 DA b' (ndS (nbT E'.length)) (LI (X5 P0)), D⟩ Y' (K + 40000) ∧ T1 B0 P0 M DA NB Y' V' b' E' ∧ Can k E' V' ∧ ∀ z, z < B0 ∨ DA + NB ≤ z → Y' z = Y z := by
  have hx : bdI (0, 4 + a, 1) := ⟨by show 0 < 256; decide, by show 4 + a < 65536; omega, by show 1 < 65536; decide⟩
  have hlenL : (LI (X5 P0)).length ≤ 28 := by rw [LI_len]; show 9 + 5 ≤ 28; decide
  have hlen := hC.len
  by_cases hno : ∀ e ∈ E, mtI (0, 4 + a, 1) e = false
  · refine (idrop_none (ln := ⟨dl B0 P0 DA b (ndS (nbT E.length)) (LI (X5 P0)), D⟩) q p t m d gg lab B0 P0 M DA NB N K g Y V (by omega) b E hS.it hS.tab (by omega) hg w h _ hx hno).mono ?_
    rintro r w' ⟨rfl, hG, hk'⟩
    exact ⟨⟨0, rfl⟩, hk', Y, V, b, E, hG.mono (Lm.le_refl _) (by omega), hS, hC, fun _ _ => rfl⟩
  · have hex : ∃ e0 ∈ E, mtI (0, 4 + a, 1) e0 = true := by
      refine Classical.byContradiction fun hn => hno fun e he => ?_
      cases hm : mtI (0, 4 + a, 1) e
      · rfl
      · exact absurd ⟨e, he, hm⟩ hn
    obtain ⟨e0, he0, hm0⟩ := hex
    refine (idrop_old (ln := ⟨dl B0 P0 DA b (ndS (nbT E.length)) (LI (X5 P0)), D⟩) q p t m d gg lab B0 P0 M DA NB N K g Y V (by omega) b E hS.it hS.tab (by omega) hg w h _ hx e0 he0 hm0
      (fun _ w' => Kf w w' [t, m, d, gg] ∧ ∃ Y' V' b' E', Gr w' q p t m d gg lab g B0 NB N ⟨dl B0 P0 DA b' (ndS (nbT E'.length)) (LI (X5 P0)), D⟩ Y' (K + 40000) ∧ T1 B0 P0 M DA NB Y' V' b' E' ∧ Can k E' V' ∧ ∀ z, z < B0 ∨ DA + NB ≤ z → Y' z = Y z) (fun i e hie hme _ => ?_)).mono ?_
    · have hil : i < E.length := (List.getElem?_eq_some_iff.1 hie).1
      obtain ⟨rfl, hV⟩ := (hC.pl i e hie).resolve_left (mtI_of hme).2
      have hT : Has ⟨dl B0 P0 DA b (ndS (nbT E.length)) (LI (X5 P0)), D⟩ (P0 + (4 + i - 1) / 2) := ⟨dl_ext B0 P0 DA b _ _ _ (LI_ext (X5_mem P0 (4 + i) (by omega) (by omega))), Ly.len _ hlenL B0 P0 DA b _⟩
      refine ⟨by show 1 ≤ 4 + i; omega, by show 4 + i ≤ M; omega, hT, ⟨fun _ => 0, by show Dir B0 DA NB Y (V (4 + i)) _ []; rw [hV]; exact Dir.fresh0 ..⟩, fun Y1 hY1 W sb hG hkW hsb hF => ?_⟩
      have hv2 : V (4 + i) 2 = 1 := by rw [hV]; rfl
      have hS1 := hS.made hg (4 + i) (by omega) (by omega) (by omega) (genN (V (4 + i) 2)) (by rw [hv2]; exact genN_ok ⟨by decide, by decide⟩) (genN_code _)
      rw [show tabW P0 (4 + i) (genN (V (4 + i) 2)) Y = Y1 from hY1] at hS1
      have hl := setR_len E i zR (Nat.le_of_lt hil)
      have hl' : (setR E i zR).length = E.length := by rw [hl]; omega
      have hlts := h.lts
      refine (iwrite_in q p t m d gg lab B0 P0 M DA NB N (K + 4000) P0 g Y1 (vput (4 + i) (genN (V (4 + i) 2)) V) b (LI (X5 P0)) D hlenL (by omega) (by omega) E hS1.it hS1.tab (by omega) hg W hG i (Nat.le_of_lt hil) (by omega) zR (.inl rfl) (fun j hj => LI_has (X5 P0) (i / 8) (by omega) j hj) sb hF (fun ha => by
        simp only [List.mem_cons, List.not_mem_nil, or_false] at ha
        omega)).mono ?_
      rintro r w' (⟨Y', f, B, rfl, hG', hk', hT', hDd, hMv⟩ | ⟨Y', ln, B, n, -, -, -, -, -, -, ⟨c, hc1, hc2⟩, hB, -⟩)
      · have hbp := hg.bp
        have hpd := hg.pd
        refine ⟨0, rfl, hk', hkW.trans hk', Y', vput 2 f (vput (4 + i) (genN (V (4 + i) 2)) V), B, setR E i zR, hG'.mono (Lm.le_refl _) (by omega), hS1.move hT' (by rw [vput_at]; exact hDd) hMv, ⟨by rw [hl']; exact hlen, fun j e' he' => ?_⟩, fun z hz => ?_⟩
        · rw [setR_get E i zR (Nat.le_of_lt hil) j] at he'
          by_cases hji : j = i
          · rw [if_pos hji] at he'
            injection he' with he'
            exact .inl he'.symm
          · rw [if_neg hji] at he'
            rcases hC.pl j e' he' with h1 | ⟨h1, h2⟩
            · exact .inl h1
            · refine .inr ⟨h1, ?_⟩
              rw [vput_ne _ _ (by omega), vput_ne _ _ (by omega)]
              exact h2
        · rw [hMv.y z (by omega) (by omega) (fun c hc => by have := hS1.it.fu.fi.rng c hc; omega) (fun c hc => by have := hDd.fu.fi.rng c hc; omega), ← hY1]
          exact tabW_ne _ _ _ _ _ (by show z ≠ P0 + (4 + i - 1) / 2; omega)
      · rw [hl'] at hc2
        rw [(hB c hc2).1] at hc1
        cases hc1
    · rintro r w' ⟨c, rfl, hq⟩
      exact ⟨⟨c, rfl⟩, hq.1, hq.2⟩
end Go.Proofs.YteaoabppppbkoaaGreatDoor
