import Derived.Test.YtlbfdmiihnlljaaD1
import Derived.OrdersHeld
import Derived.Deep.RegionHeld
/- A drawn region whose last operation may break what is held: what is held is shown anew behind all others. -/
namespace Go.Proofs.Ytlbfdmiihnlljaa
set_option linter.unusedSimpArgs false
set_option linter.unusedVariables false
open Go.RowKit Go.Maps

/-- as wpAnyH; but behind operation x0 nothing need be held any more -/
def wpAnyG (P : Program) (md : Region.Mode) (ops : Array Oper) (Q : Exit → Act → World → Prop) (S : World → Prop) (x0 : Nat) : Nat → Array Bool → Act → World → Prop
  | 0, listed, a, w => Region.ready md ops listed = [] ∧ Q .normal a w
  | fuel + 1, listed, a, w =>
    (Region.ready md ops listed = [] → Q .normal a w) ∧
    ∀ i ∈ Region.ready md ops listed, wpOp P ops Q i (fun a' w' => ((listed.setIfInBounds i true).getD x0 true = false → S w') ∧ wpAnyG P md ops Q S x0 fuel (listed.setIfInBounds i true) a' w') a w
section
variable {P : Program} {md : Region.Mode} {ops : Array Oper} {Q : Exit → Act → World → Prop} {S : World → Prop} {x0 : Nat}
theorem wpAny_of_G : ∀ (fuel : Nat) (listed : Array Bool) (a : Act) (w : World), wpAnyG P md ops Q S x0 fuel listed a w → wpAny P md ops Q fuel listed a w
  | 0, _, _, _, h => h
  | fuel + 1, _, _, _, h => ⟨h.1, fun i hi => wpOp_mono (fun a' w' h' => wpAny_of_G fuel _ a' w' h'.2) (h.2 i hi)⟩
theorem wpAnyG_first {i : Nat} {oi : Oper} {v : Value} {S2 : World → Prop} (hi : ops[i]? = some oi) (hsel : ∀ (j : Nat) (o : Oper) cs b, ops[j]? = some o → o.op ≠ .select cs b)
    (hQ : ∀ c a w, Q (.panic c) (a.put oi.dst v) w → Q (.panic c) a w) (hix : i ≠ x0)
    (hS2 : ∀ (listed : Array Bool) (w : World), listed.getD i true = false → (listed.getD x0 true = false → S w) → (listed.getD x0 true = false ∨ ∀ w, S2 w) → S2 w) 
    (hkeep : (∀ w, S2 w) ∨ (∀ o, ops[x0]? = some o → ∃ e ∈ o.after, Region.binds md e = true ∧ e.on = i)) :
    ∀ (fuel : Nat) (listed : Array Bool) (a : Act) (w : World),
      (∀ j oj, ops[j]? = some oj → j ≠ i → listed.getD j true = false → (∀ e ∈ oj.after, Region.binds md e = true → e.on ≠ i) → oi.apart ops oj = true) →
      i ∈ Region.ready md ops listed → YieldsIf P ops S2 oi v a → (listed.getD x0 true = false → S w) → (listed.getD x0 true = false ∨ ∀ w, S2 w) →
      wpAnyG P md ops Q S x0 fuel (listed.setIfInBounds i true) (a.put oi.dst v) w → wpAnyG P md ops Q S x0 (fuel + 1) listed a w := by
  intro fuel
  have hgi : ∀ (listed : Array Bool), i ∈ Region.ready md ops listed → listed.getD i true = false := fun l h => (mem_ready.1 h).1
  have hself : ∀ (listed : Array Bool) (w : World), (listed.getD x0 true = false → S w) → ((listed.setIfInBounds i true).getD x0 true = false → S w) := fun l w h h2 => by
    by_cases e : i = x0
    · subst e
      refine h ?_
      by_cases hl : i < l.size
      · simp [hl] at h2
      · rw [show l.setIfInBounds i true = l from by simp [Array.setIfInBounds, hl]] at h2
        exact h2
    · rw [getD_set_ne true e] at h2
      exact h h2
  induction fuel with
  | zero =>
    intro listed a w _ hr hy hS hx H
    refine ⟨fun h => (by rw [h] at hr; cases hr), fun j hj => ?_⟩
    by_cases hji : j = i
    · subst hji; exact hy.wpOp hi (hS2 listed w (hgi listed hr) hS hx) ⟨hself listed w hS, H⟩
    · have := ready_mono hj hji
      rw [H.1] at this
      cases this
  | succ fuel ih =>
    intro listed a w hfree hr hy hS hx H
    refine ⟨fun h => (by rw [h] at hr; cases hr), fun j hj => ?_⟩
    by_cases hji : j = i
    · subst hji; exact hy.wpOp hi (hS2 listed w (hgi listed hr) hS hx) ⟨hself listed w hS, H⟩
    · have h1 := H.2 j (ready_mono hj hji)
      obtain ⟨hjun, oj, hoj, hall⟩ := mem_ready.1 hj
      have hnot : ∀ e ∈ oj.after, Region.binds md e = true → e.on ≠ i := fun e he hb heq => by
        have h1 := hall e he hb
        have h0 := (mem_ready.1 hr).1
        rw [heq] at h1
        rcases Nat.lt_or_ge i listed.size with h' | h'
        · simp [h'] at h0 h1; rw [h0] at h1; cases h1
        · simp [Array.getElem?_eq_none h'] at h1
      have h2 := wpOp_putIf hoj (hfree j oj hoj hji hjun hnot) (fun cs b => hsel i oi cs b hi) (fun cs b => hsel j oj cs b hoj) hQ hy h1
      have hfree' : ∀ k ok, ops[k]? = some ok → k ≠ i → (listed.setIfInBounds j true).getD k true = false →
          (∀ e ∈ ok.after, Region.binds md e = true → e.on ≠ i) → oi.apart ops ok = true := fun k ok hk hki hun hno => by
        refine hfree k ok hk hki ?_ hno
        by_cases hjk : j = k
        · subst hjk; exact hjun
        · rw [getD_set_ne true hjk] at hun; exact hun
      have hx' : (listed.setIfInBounds j true).getD x0 true = false ∨ ∀ w, S2 w := by
        rcases hx with hx | hx
        · rcases hkeep with hk | hk2
          · exact .inr hk
          · refine .inl ?_
            have hjx : j ≠ x0 := fun e => by
              subst e
              obtain ⟨e, he, hb, hon⟩ := hk2 oj hoj
              exact hnot e he hb hon
            rw [getD_set_ne true hjx]
            exact hx
        · exact .inr hx
      have hdown : ∀ (w' : World), (((listed.setIfInBounds i true).setIfInBounds j true).getD x0 true = false → S w') → ((listed.setIfInBounds j true).getD x0 true = false → S w') ∨ x0 = i := fun w' h => by
        by_cases e : i = x0
        · exact .inr e.symm
        · refine .inl fun h2 => h ?_
          rw [Array.setIfInBounds_comm _ _ (Ne.symm hji), getD_set_ne true e]
          exact h2
      refine wpOp_mono (fun a' w' h3 => ?_) h2
      have hSd : (listed.setIfInBounds j true).getD x0 true = false → S w' := by
        rcases hdown w' h3.2.1 with h | h
        · exact h
        · exact absurd h hix.symm
      refine ⟨hSd, ih (listed.setIfInBounds j true) a' w' hfree' (ready_mono hr (Ne.symm hji)) h3.1 hSd hx' ?_⟩
      rw [Array.setIfInBounds_comm _ _ hji]
      exact h3.2.2
/-- x0 waits for i -/
def waitsB (md : Region.Mode) (ops : Array Oper) (x0 i : Nat) : Bool := (ops[x0]?).all fun o => o.after.any fun e => Region.binds md e && e.on == i
theorem waitsB_spec {i : Nat} (h : waitsB md ops x0 i = true) : ∀ o, ops[x0]? = some o → ∃ e ∈ o.after, Region.binds md e = true ∧ e.on = i := by
  intro o ho
  unfold waitsB at h
  rw [ho] at h
  simp only [Option.all_some, Array.any_eq_true] at h
  obtain ⟨k, hk, hb⟩ := h
  simp only [Bool.and_eq_true, beq_iff_eq] at hb
  exact ⟨o.after[k], Array.getElem_mem hk, hb.1, hb.2⟩
theorem wpAnyG_take {i : Nat} {oi : Oper} {v : Value} {fuel : Nat} {listed : Array Bool} {a : Act} {w : World} (hi : ops[i]? = some oi)
    (hs : Region.noSelect ops = true) (hf : Region.free md ops listed i = true) (hr : (Region.ready md ops listed).contains i = true) (hx : (decide (i ≠ x0) && waitsB md ops x0 i) = true) (hx0 : listed.getD x0 true = false)
    (hQ : ∀ c a w, Q (.panic c) (a.put oi.dst v) w → Q (.panic c) a w) (hy : YieldsIf P ops S oi v a) (hS : S w)
    (h : wpAnyG P md ops Q S x0 fuel (listed.setIfInBounds i true) (a.put oi.dst v) w) : wpAnyG P md ops Q S x0 (fuel + 1) listed a w := by
  rw [Bool.and_eq_true, decide_eq_true_eq] at hx
  exact wpAnyG_first (S2 := S) hi (Region.noSelect_spec hs) hQ hx.1 (fun l w _ h1 h2 => h2.elim h1 fun h => h w) (.inr (waitsB_spec hx.2)) fuel listed a w (Region.free_spec hi hf) (by simpa using hr) hy (fun _ => hS) (.inl hx0) h
/-- an operation that yields in any world -/
theorem wpAnyG_pure {i : Nat} {oi : Oper} {v : Value} {fuel : Nat} {listed : Array Bool} {a : Act} {w : World} (hi : ops[i]? = some oi)
    (hs : Region.noSelect ops = true) (hf : Region.free md ops listed i = true) (hr : (Region.ready md ops listed).contains i = true) (hx : decide (i ≠ x0) = true)
    (hQ : ∀ c a w, Q (.panic c) (a.put oi.dst v) w → Q (.panic c) a w) (hy : YieldsIf P ops (fun _ => True) oi v a) (hS : S w)
    (h : wpAnyG P md ops Q S x0 fuel (listed.setIfInBounds i true) (a.put oi.dst v) w) : wpAnyG P md ops Q S x0 (fuel + 1) listed a w :=
  wpAnyG_first (S2 := fun _ => True) hi (Region.noSelect_spec hs) hQ (of_decide_eq_true hx) (fun _ _ _ _ _ => trivial) (.inl fun _ => trivial) fuel listed a w (Region.free_spec hi hf) (by simpa using hr) hy (fun _ => hS) (.inr fun _ => trivial) h
theorem wpAnyG_done {listed : Array Bool} {a : Act} {w : World} (hr : Region.ready md ops listed = []) (h : Q .normal a w) :
    ∀ fuel, wpAnyG P md ops Q S x0 fuel listed a w
  | 0 => ⟨hr, h⟩
  | _ + 1 => ⟨fun _ => h, by rw [hr]; simp⟩
def AllReadyG (P : Program) (md : Region.Mode) (ops : Array Oper) (Q : Exit → Act → World → Prop) (S : World → Prop) (x0 : Nat) (fuel : Nat) (listed : Array Bool) (a : Act) (w : World) (rs : List Nat) : Prop :=
  ∀ i ∈ rs, wpOp P ops Q i (fun a' w' => ((listed.setIfInBounds i true).getD x0 true = false → S w') ∧ wpAnyG P md ops Q S x0 fuel (listed.setIfInBounds i true) a' w') a w
theorem AllReadyG.nil {fuel : Nat} {listed : Array Bool} {a : Act} {w : World} : AllReadyG P md ops Q S x0 fuel listed a w [] := fun _ h => by cases h
theorem AllReadyG.cons {fuel : Nat} {listed : Array Bool} {a : Act} {w : World} {i : Nat} {o : Oper} {rs : List Nat} (ho : ops[i]? = some o)
    (h : ∀ K' : Act → World → Prop, Shut (∀ a w, ((listed.setIfInBounds i true).getD x0 true = false → S w) → wpAnyG P md ops Q S x0 fuel (listed.setIfInBounds i true) a w → K' a w) → if Region.wanted o (yielded ops a.tmps) = true then Oper.wp P o a w K' Q else K' (a.put o.dst undef) w)
    (hs : AllReadyG P md ops Q S x0 fuel listed a w rs) : AllReadyG P md ops Q S x0 fuel listed a w (i :: rs) := fun j hj => by
  rcases List.mem_cons.1 hj with rfl | hj
  · exact wpOp_step ho (fun K' hK => h K' (fun a w hS hW => hK a w ⟨hS, hW⟩))
  · exact hs j hj
theorem wpAnyG_ready {rs : List Nat} {fuel : Nat} {listed : Array Bool} {a : Act} {w : World} (hr : Region.ready md ops listed = rs) (hne : rs ≠ [])
    (h : AllReadyG P md ops Q S x0 fuel listed a w rs) : wpAnyG P md ops Q S x0 (fuel + 1) listed a w := ⟨fun h0 => absurd (hr ▸ h0) hne, hr ▸ h⟩
theorem wp_region_G (x0 : Nat) {id : Nat} {a : Act} {w : World} (hm : P.follows .mixedOrders = true)
    (h : wpAnyG P .any ops Q S x0 ops.size (Array.replicate ops.size false) a { w with drawn := w.drawn + 1 }) : (Code.region id ops true).wp P Q a w :=
  wp_region_any hm (wpAny_of_G _ _ _ _ h)
end
end Go.Proofs.Ytlbfdmiihnlljaa
