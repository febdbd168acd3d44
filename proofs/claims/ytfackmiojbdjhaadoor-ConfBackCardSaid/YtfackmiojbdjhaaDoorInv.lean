import Derived.Test.YtfackmiojbdjhaaDoorMA
import Derived.RegionTactic
import Derived.Orders
/- A region that draws its order, walked by an invariant over what has come up so far: one step for each operation, whatever the order. -/
namespace Go.Proofs.YtfackmiojbdjhaaDoor
set_option linter.unusedSimpArgs false
set_option linter.unusedVariables false
open Go.RowKit

theorem countP_lt {α : Type} (p q : α → Bool) (l : List α) (h : ∀ x ∈ l, q x = true → p x = true) {i : α} (hi : i ∈ l) (hp : p i = true) (hq : q i = false) : l.countP q < l.countP p := by
  induction l with
  | nil => cases hi
  | cons x r ih =>
    have hmono : r.countP q ≤ r.countP p := List.countP_mono_left (fun y hy => h y (List.mem_cons_of_mem _ hy))
    rw [List.countP_cons, List.countP_cons]
    rcases List.mem_cons.1 hi with rfl | hi'
    · simp [hp, hq]; omega
    · have h1 := ih (fun y hy => h y (List.mem_cons_of_mem _ hy)) hi'
      have h2 := h x (List.mem_cons_self ..)
      cases hqx : q x
      · cases p x <;> simp <;> omega
      · rw [h2 hqx]; simp; omega

theorem wpAny_inv {P : Program} {ops : Array Oper} {Q : Exit → Act → World → Prop} {a : Act}
    (hback0 : ((List.range ops.size).all fun i => ((ops[i]?).map fun o : Oper => o.after.all fun e : Edge => decide (e.on < i)).getD true) = true)
    (Inv : Act → (Nat → Bool) → Act → World → Prop)
    (hstep : ∀ (f : Nat → Bool) a1 w1, Inv a f a1 w1 → ∀ (i : Nat) (o : Oper), ops[i]? = some o → f i = false → (∀ e ∈ o.after, Region.binds .any e = true → f e.on = true) → wpOp P ops Q i (fun a' w' => Inv a (fun j => j == i || f j) a' w') a1 w1)
    (hend : ∀ (f : Nat → Bool) a1 w1, (∀ i, i < ops.size → f i = true) → Inv a f a1 w1 → Q .normal a1 w1) :
    ∀ (fuel : Nat) (L : Array Bool) (f : Nat → Bool) (a1 : Act) (w1 : World), L.size = ops.size → (∀ j, j < ops.size → f j = L.getD j false) → (List.range ops.size).countP (fun j => !L.getD j false) ≤ fuel → Inv a f a1 w1 → wpAny P .any ops Q fuel L a1 w1 := by
  have hback : ∀ (i : Nat) (o : Oper), ops[i]? = some o → ∀ e ∈ o.after, e.on < i := by
    intro i o ho e he
    have h1 := List.all_eq_true.1 hback0 i (List.mem_range.2 (Array.getElem?_eq_some_iff.1 ho).1)
    rw [ho] at h1
    simp only [Option.map_some, Option.getD_some] at h1
    have h2 := Array.all_eq_true'.1 h1 e he
    simpa using h2
  have hall : ∀ L : Array Bool, L.size = ops.size → Region.ready .any ops L = [] → ∀ i, i < ops.size → L.getD i false = true := by
    intro L hL hr i
    induction i using Nat.strongRecOn with
    | ind i ih =>
      intro hi
      cases hv : L.getD i false with
      | true => rfl
      | false =>
        exfalso
        have hmem : i ∈ Region.ready .any ops L := by
          refine mem_ready.2 ⟨?_, ops[i], Array.getElem?_eq_getElem hi, fun e he _ => ih e.on (hback i _ (Array.getElem?_eq_getElem hi) e he) (Nat.lt_trans (hback i _ (Array.getElem?_eq_getElem hi) e he) hi)⟩
          simp only [Array.getD_eq_getD_getElem?, Array.getElem?_eq_getElem (show i < L.size by omega), Option.getD_some] at hv ⊢
          exact hv
        rw [hr] at hmem
        cases hmem
  have key : ∀ (fuel : Nat) (L : Array Bool) (f : Nat → Bool) (a1 : Act) (w1 : World), L.size = ops.size → (∀ j, j < ops.size → f j = L.getD j false) → (List.range ops.size).countP (fun j => !L.getD j false) ≤ fuel → Inv a f a1 w1 → wpAny P .any ops Q fuel L a1 w1 := by
    intro fuel
    induction fuel with
    | zero =>
      intro L f a1 w1 hL hf hc hI
      have hz : ∀ i, i < ops.size → L.getD i false = true := by
        intro i hi
        cases hv : L.getD i false with
        | true => rfl
        | false =>
          exfalso
          have : 0 < (List.range ops.size).countP (fun j => !L.getD j false) := List.countP_pos_iff.2 ⟨i, List.mem_range.2 hi, by simp only [hv]; rfl⟩
          omega
      refine ⟨?_, hend f a1 w1 (fun i hi => by rw [hf i hi]; exact hz i hi) hI⟩
      rw [List.eq_nil_iff_forall_not_mem]
      intro j hj
      obtain ⟨h1, o, ho, _⟩ := mem_ready.1 hj
      have hjl : j < ops.size := (Array.getElem?_eq_some_iff.1 ho).1
      have h2 := hz j hjl
      simp only [Array.getD_eq_getD_getElem?, Array.getElem?_eq_getElem (show j < L.size by omega), Option.getD_some] at h1 h2
      rw [h1] at h2
      cases h2
    | succ fuel ih =>
      intro L f a1 w1 hL hf hc hI
      refine ⟨fun hr => hend f a1 w1 (fun i hi => by rw [hf i hi]; exact hall L hL hr i hi) hI, fun i hi => ?_⟩
      obtain ⟨h1, o, ho, hafter⟩ := mem_ready.1 hi
      have hil : i < ops.size := (Array.getElem?_eq_some_iff.1 ho).1
      have h1' : L.getD i false = false := by
        simp only [Array.getD_eq_getD_getElem?, Array.getElem?_eq_getElem (show i < L.size by omega), Option.getD_some] at h1 ⊢
        exact h1
      have hs := hstep f a1 w1 hI i o ho (by rw [hf i hil]; exact h1') (fun e he hb => by rw [hf e.on (Nat.lt_trans (hback i o ho e he) hil)]; exact hafter e he hb)
      have hget : ∀ j, j < ops.size → (L.setIfInBounds i true).getD j false = (j == i || L.getD j false) := by
        intro j hj
        simp only [Array.getD_eq_getD_getElem?, Array.getElem?_setIfInBounds]
        by_cases e : i = j
        · subst e; simp [show i < L.size by omega]
        · have e2 : (j == i) = false := by simp; omega
          simp [e, e2]
      refine wpOp_mono (fun a' w' h' => ih _ _ a' w' (by simpa using hL) ?_ ?_ h') hs
      · intro j hj
        rw [hget j hj, hf j hj]
      · have hlt := countP_lt (fun j => !L.getD j false) (fun j => !(L.setIfInBounds i true).getD j false) (List.range ops.size) (fun x hx hq => by
          have hxl := List.mem_range.1 hx
          rw [hget x hxl] at hq
          simp only [Bool.not_or, Bool.and_eq_true, Bool.not_eq_true'] at hq ⊢
          exact hq.2) (List.mem_range.2 hil) (by simp only [h1']; rfl) (by rw [hget i hil]; simp)
        omega
  exact key

theorem wp_region_inv {P : Program} {ops : Array Oper} {Q : Exit → Act → World → Prop} {id : Nat} {a : Act} {w : World} (hm : P.follows .mixedOrders = true)
    (hback0 : ((List.range ops.size).all fun i => ((ops[i]?).map fun o : Oper => o.after.all fun e : Edge => decide (e.on < i)).getD true) = true)
    (Inv : Act → (Nat → Bool) → Act → World → Prop) (h0 : Inv a (fun _ => false) a w.drew)
    (hstep : ∀ (f : Nat → Bool) a1 w1, Inv a f a1 w1 → ∀ (i : Nat) (o : Oper), ops[i]? = some o → f i = false → (∀ e ∈ o.after, Region.binds .any e = true → f e.on = true) → wpOp P ops Q i (fun a' w' => Inv a (fun j => j == i || f j) a' w') a1 w1)
    (hend : ∀ (f : Nat → Bool) a1 w1, (∀ i, i < ops.size → f i = true) → Inv a f a1 w1 → Q .normal a1 w1) : (Code.region id ops true).wp P Q a w := by
  refine wp_region_any hm (wpAny_inv hback0 Inv hstep hend ops.size (Array.replicate ops.size false) (fun _ => false) a _ (by simp) (fun j hj => by simp [hj]) ?_ h0)
  exact Nat.le_trans List.countP_le_length (by simp)
end Go.Proofs.YtfackmiojbdjhaaDoor
