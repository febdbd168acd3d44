import Derived.Test.YtnfadmifdncjoaaGreatSF
/- GroupPlays: the first free node, looked for from the end. -/
namespace Go.Proofs.YtnfadmifdncjoaaGreat
set_option linter.unusedSimpArgs false
set_option linter.unusedVariables false
open Go.RowKit Go.Maps

noncomputable def c_mloop : Code := (cR (cL (cR (cR (cR (cT (cR (cE (cR (cE (cR (cB c_sw))))))))))))
def wF (V : Nat → Nat → Int) (M : Nat) : Nat → Nat
  | 0 => 0
  | d + 1 => if V (M - d) 0 = 0 then M - d else wF V M d
theorem wF_spec (V : Nat → Nat → Int) (M : Nat) : ∀ d, d ≤ M → (wF V M d = 0 ∧ ∀ j, M - d < j → j ≤ M → V j 0 ≠ 0) ∨ (M - d < wF V M d ∧ wF V M d ≤ M ∧ V (wF V M d) 0 = 0 ∧ ∀ j, M - d < j → j < wF V M d → V j 0 ≠ 0)
  | 0, _ => .inl ⟨rfl, fun j h1 h2 => by omega⟩
  | d + 1, hd => by
    have ih := wF_spec V M d (by omega)
    rw [wF]
    by_cases hz : V (M - d) 0 = 0
    · rw [if_pos hz]
      exact .inr ⟨by omega, by omega, hz, fun j h1 h2 => by omega⟩
    · rw [if_neg hz]
      rcases ih with ⟨h1, h2⟩ | ⟨h1, h2, h3, h4⟩
      · exact .inl ⟨h1, fun j h3 h4 => by
          by_cases e : j = M - d
          · rw [e]; exact hz
          · exact h2 j (by omega) h4⟩
      · exact .inr ⟨by omega, h2, h3, fun j h5 h6 => by
          by_cases e : j = M - d
          · rw [e]; exact hz
          · exact h4 j (by omega) h6⟩
def Agr (f f' : Nat → Value) : Prop := ∀ k, k ≠ 31 → k ≠ 32 → ¬ (263 ≤ k ∧ k ≤ 276) → f' k = f k
theorem Agr.upd {f f' : Nat → Value} (h : Agr f f') (d : Nat) (v : Value) (hd : d = 31 ∨ d = 32 ∨ 263 ≤ d ∧ d ≤ 276) : Agr f (updA f' d v) := fun k h1 h2 h3 => by
  unfold updA
  rw [if_neg (by omega)]
  exact h k h1 h2 h3
set_option maxHeartbeats 40000000 in
set_option maxRecDepth 200000 in
theorem make_loop (F : (Nat → Value) → Act) (hFr : Frm 418 F) (f : Nat → Value) (w : World) (mo tk yb nd L LM M : Nat) (T : Nat → Bool) (X V : Nat → Nat → Int) (hM : Mo w mo tk yb nd L LM T X V) (hLM : M + 1 = LM) (hM8 : M ≤ 128)
    (h14 : f 14 = .pointer (some ⟨mo, 0, none⟩)) (h31 : f 31 = .int .i64 0) (h32 : f 32 = .int .i64 M) (Q : Exit → Act → World → Prop)
    (hQ : ∀ f', Agr f f' → f' 31 = .int .i64 (wF V M M) → Q .normal (F f') w) : c_mloop.wp Tryz.prog Q (F f) w := by
  have fa1 := hFr.get
  have fa2 := hFr.put
  have fa3 := hFr.fold
  have fa4 := updA_at
  have fa5 := hFr.defers
  have HFr := Lib.hid hFr
  clear hFr
  have HM := Lib.hid hM
  have HQ := Lib.hid hQ
  have HLM := Lib.hid hLM
  clear hM hQ hLM
  conv => arg 2; whnf
  refine wp_block ?_
  refine wp_loop (fun a w' => ∃ f' : Nat → Value, ∃ d : Nat, a = F f' ∧ w' = w ∧ d ≤ M ∧ f' 32 = .int .i64 ((M - d : Nat) : Int) ∧ f' 31 = .int .i64 ((wF V M d : Nat) : Int) ∧ Agr f f') (fun a _ => (intOf (a.eval (.tmp 32))).toNat) ⟨f, 0, rfl, rfl, Nat.zero_le _, by rw [h32]; rfl, by rw [h31]; rfl, fun k _ _ _ => rfl⟩ ?_
  rintro a w' ⟨f', d, rfl, rfl, hd, h32', h31', hag⟩
  obtain ⟨KK, hK1, hK2⟩ : ∃ K' : Act → World → Prop, (∀ a w1, K' a w1 → ((fun a w'' => ∃ f' : Nat → Value, ∃ d : Nat, a = F f' ∧ w'' = w' ∧ d ≤ M ∧ f' 32 = .int .i64 ((M - d : Nat) : Int) ∧ f' 31 = .int .i64 ((wF V M d : Nat) : Int) ∧ Agr f f') a w1 ∧ (fun a (_ : World) => (intOf (a.eval (.tmp 32))).toNat) a w1 < (fun a (_ : World) => (intOf (a.eval (.tmp 32))).toNat) (F f') w')) ∧ (∀ a w1, ((fun a w'' => ∃ f' : Nat → Value, ∃ d : Nat, a = F f' ∧ w'' = w' ∧ d ≤ M ∧ f' 32 = .int .i64 ((M - d : Nat) : Int) ∧ f' 31 = .int .i64 ((wF V M d : Nat) : Int) ∧ Agr f f') a w1 ∧ (fun a (_ : World) => (intOf (a.eval (.tmp 32))).toNat) a w1 < (fun a (_ : World) => (intOf (a.eval (.tmp 32))).toNat) (F f') w') → K' a w1) := ⟨_, fun _ _ h => h, fun _ _ h => h⟩
  refine Code.wp_mono (Q := Exit.then KK (Exit.inBlock 6 Q)) (fun e a w1 q => by cases e <;> first | exact hK1 _ _ q | exact q) ?_
  have HK2 := Lib.hid hK2
  clear hK1 hK2
  have h14' : f' 14 = .pointer (some ⟨mo, 0, none⟩) := (hag 14 (by decide) (by decide) (by decide)).trans h14
  have HAG := Lib.hid hag
  obtain ⟨k, hk⟩ : ∃ k, M - d = k := ⟨_, rfl⟩
  rw [hk] at h32'
  have HD := Lib.hid hd
  have HKd := Lib.hid hk
  obtain ⟨W, hW⟩ : ∃ x, wF V M d = x := ⟨_, rfl⟩
  rw [hW] at h31'
  have HW := Lib.hid hW
  clear hag h14 h31 h32 hd hW
  by_cases hk0 : k = 0
  · subst hk0
    have e : d = M := by have := HD.out; omega
    have HE := Lib.hid e
    clear hk e
    have h32'' : f' 32 = .int .i64 0 := h32'
    clear h32'
    (go_wp2_with fail); repeat ((first | (refine HFr.out.cond_t (by decide) (updA_same _ _ _) ?_) | (refine HFr.out.cond_f (by decide) (updA_same _ _ _) ?_)); (go_wp2_with fail))
    refine HQ.out _ (((HAG.out.upd 263 _ (by omega)).upd 264 _ (by omega))) ?_
    simp only [updA_at, Nat.reduceEqDiff, reduceIte]
    rw [h31', ← HW.out, HE.out]
  · have hkL : k < LM := by have := HLM.out; omega
    have HKL := Lib.hid hkL
    have hi0 : (1 : Int) ≤ k := by omega
    have hi1 : (k : Int) < LM := by omega
    have hi2 : (k : Int) ≤ 128 := by omega
    have hstep : wF V M (d + 1) = if V k 0 = 0 then k else W := by rw [wF, hk, HW.out]
    have HST := Lib.hid hstep
    have HK0 := Lib.hid hk0
    clear hk hk0 hkL hstep
    have cm := HM.out.m.c 2 _ rfl
    have ck : w'.cell? ⟨nd, k * 12, none⟩ = some (.int .u8 (V k 0)) := HM.out.n.c k HKL.out 0 _ rfl
    by_cases hz : V k 0 = 0
    · have HZ := Lib.hid hz
      rw [hz] at ck
      clear hz
      (go_wp2_with fail); repeat ((first | (refine HFr.out.cond_t (by decide) (updA_same _ _ _) ?_) | (refine HFr.out.cond_f (by decide) (updA_same _ _ _) ?_)); (go_wp2_with fail))
      refine HK2.out _ _ ⟨⟨_, d + 1, rfl, rfl, by have := HD.out; have := HKd.out; have := HK0.out; omega, ?_, ?_, ?_⟩, ?_⟩
      · simp only [updA_at, Nat.reduceEqDiff, reduceIte]
        rw [show ((M - (d + 1) : Nat) : Int) = (k : Int) - 1 by have := HKd.out; have := HK0.out; omega]
      · simp only [updA_at, Nat.reduceEqDiff, reduceIte]
        rw [HST.out, if_pos HZ.out]
      · repeat' first | exact HAG.out | refine Agr.upd ?_ _ _ (by omega)
      · simp only [HFr.out.eval _ _ (show (32 : Nat) < 418 by decide), updA_at, Nat.reduceEqDiff, reduceIte, h32', intOf]
        omega
    · have HZ := Lib.hid hz
      have hb : (V k 0 == 0) = false := beq_eq_false_iff_ne.2 hz
      obtain ⟨vk, hvk⟩ : ∃ x, V k 0 = x := ⟨_, rfl⟩
      rw [hvk] at ck hb hz
      clear hvk
      (go_wp2_with fail); repeat ((first | (refine HFr.out.cond_t (by decide) (updA_same _ _ _) ?_) | (refine HFr.out.cond_f (by decide) (updA_same _ _ _) ?_)); (go_wp2_with fail))
      refine HK2.out _ _ ⟨⟨_, d + 1, rfl, rfl, by have := HD.out; have := HKd.out; have := HK0.out; omega, ?_, ?_, ?_⟩, ?_⟩
      · simp only [updA_at, Nat.reduceEqDiff, reduceIte]
        rw [show ((M - (d + 1) : Nat) : Int) = (k : Int) - 1 by have := HKd.out; have := HK0.out; omega]
      · simp only [updA_at, Nat.reduceEqDiff, reduceIte]
        rw [h31', HST.out, if_neg HZ.out]
      · repeat' first | exact HAG.out | refine Agr.upd ?_ _ _ (by omega)
      · simp only [HFr.out.eval _ _ (show (32 : Nat) < 418 by decide), updA_at, Nat.reduceEqDiff, reduceIte, h32', intOf]
        omega
end Go.Proofs.YtnfadmifdncjoaaGreat
