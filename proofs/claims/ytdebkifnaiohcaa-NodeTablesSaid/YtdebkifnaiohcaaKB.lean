import Derived.Test.YtdebkifnaiohcaaKA
import Derived.RegionTactic
import Derived.Orders
import Derived.Deep.Quiet
import Derived.Maps.OwnSet
import Derived.Maps.OwnOps
import Derived.DeepKeys4
import Derived.Deep.QuietTactic
import Derived.BigQuiet
import Derived.Lib.QuietBelow
/- A region that draws its order, walked by an invariant over what has come up so far: one step for each operation, whatever the order. -/
/- A region that draws its order, whose first n operations only read (their callees may lay blocks) and whose others wait for all of these: the first are walked once, in the text's order; the others by an invariant. -/
/- The state of a configuration while its labels are registered; register. -/
/- A region that draws its order: all but the last operation only read, and the last waits for all. -/

namespace Go.Proofs.Ytdebkifnaiohcaa.Cf
set_option linter.unusedSimpArgs false
set_option linter.unusedVariables false
open Go.RowKit

theorem countP_lt {α : Type} (p q : α → Bool) (l : List α) (h : ∀ x ∈ l, q x = true → p x = true) {i : α} (hi : i ∈ l) (hp : p i = true) (hq : q i = false) : l.countP q < l.countP p := by
  induction l with
  | nil => cases hi
  | cons x r ih =>
    have hmono : r.countP q ≤ r.countP p := List.countP_mono_left (fun y hy => h y (List.mem_cons_of_mem _ hy))
    rw [List.countP_cons, List.countP_cons]
    rcases List.mem_cons.1 hi with rfl | hi'
    · simp [hp, hq]; omega
    · have h1 := ih (fun y hy => h y (List.mem_cons_of_mem _ hy)) hi'
      have h2 := h x (List.mem_cons_self ..)
      cases hqx : q x
      · cases p x <;> simp <;> omega
      · rw [h2 hqx]; simp; omega

theorem wpAny_inv {P : Program} {ops : Array Oper} {Q : Exit → Act → World → Prop} {a : Act}
    (hback0 : ((List.range ops.size).all fun i => ((ops[i]?).map fun o : Oper => o.after.all fun e : Edge => decide (e.on < i)).getD true) = true)
    (Inv : Act → (Nat → Bool) → Act → World → Prop)
    (hstep : ∀ (f : Nat → Bool) a1 w1, Inv a f a1 w1 → ∀ (i : Nat) (o : Oper), ops[i]? = some o → f i = false → (∀ e ∈ o.after, Region.binds .any e = true → f e.on = true) → wpOp P ops Q i (fun a' w' => Inv a (fun j => j == i || f j) a' w') a1 w1)
    (hend : ∀ (f : Nat → Bool) a1 w1, (∀ i, i < ops.size → f i = true) → Inv a f a1 w1 → Q .normal a1 w1) :
    ∀ (fuel : Nat) (L : Array Bool) (f : Nat → Bool) (a1 : Act) (w1 : World), L.size = ops.size → (∀ j, j < ops.size → f j = L.getD j false) → (List.range ops.size).countP (fun j => !L.getD j false) ≤ fuel → Inv a f a1 w1 → wpAny P .any ops Q fuel L a1 w1 := by
  have hback : ∀ (i : Nat) (o : Oper), ops[i]? = some o → ∀ e ∈ o.after, e.on < i := by
    intro i o ho e he
    have h1 := List.all_eq_true.1 hback0 i (List.mem_range.2 (Array.getElem?_eq_some_iff.1 ho).1)
    rw [ho] at h1
    simp only [Option.map_some, Option.getD_some] at h1
    have h2 := Array.all_eq_true'.1 h1 e he
    simpa using h2
  have hall : ∀ L : Array Bool, L.size = ops.size → Region.ready .any ops L = [] → ∀ i, i < ops.size → L.getD i false = true := by
    intro L hL hr i
    induction i using Nat.strongRecOn with
    | ind i ih =>
      intro hi
      cases hv : L.getD i false with
      | true => rfl
      | false =>
        exfalso
        have hmem : i ∈ Region.ready .any ops L := by
          refine mem_ready.2 ⟨?_, ops[i], Array.getElem?_eq_getElem hi, fun e he _ => ih e.on (hback i _ (Array.getElem?_eq_getElem hi) e he) (Nat.lt_trans (hback i _ (Array.getElem?_eq_getElem hi) e he) hi)⟩
          simp only [Array.getD_eq_getD_getElem?, Array.getElem?_eq_getElem (show i < L.size by omega), Option.getD_some] at hv ⊢
          exact hv
        rw [hr] at hmem
        cases hmem
  have key : ∀ (fuel : Nat) (L : Array Bool) (f : Nat → Bool) (a1 : Act) (w1 : World), L.size = ops.size → (∀ j, j < ops.size → f j = L.getD j false) → (List.range ops.size).countP (fun j => !L.getD j false) ≤ fuel → Inv a f a1 w1 → wpAny P .any ops Q fuel L a1 w1 := by
    intro fuel
    induction fuel with
    | zero =>
      intro L f a1 w1 hL hf hc hI
      have hz : ∀ i, i < ops.size → L.getD i false = true := by
        intro i hi
        cases hv : L.getD i false with
        | true => rfl
        | false =>
          exfalso
          have : 0 < (List.range ops.size).countP (fun j => !L.getD j false) := List.countP_pos_iff.2 ⟨i, List.mem_range.2 hi, by simp only [hv]; rfl⟩
          omega
      refine ⟨?_, hend f a1 w1 (fun i hi => by rw [hf i hi]; exact hz i hi) hI⟩
      rw [List.eq_nil_iff_forall_not_mem]
      intro j hj
      obtain ⟨h1, o, ho, _⟩ := mem_ready.1 hj
      have hjl : j < ops.size := (Array.getElem?_eq_some_iff.1 ho).1
      have h2 := hz j hjl
      simp only [Array.getD_eq_getD_getElem?, Array.getElem?_eq_getElem (show j < L.size by omega), Option.getD_some] at h1 h2
      rw [h1] at h2
      cases h2
    | succ fuel ih =>
      intro L f a1 w1 hL hf hc hI
      refine ⟨fun hr => hend f a1 w1 (fun i hi => by rw [hf i hi]; exact hall L hL hr i hi) hI, fun i hi => ?_⟩
      obtain ⟨h1, o, ho, hafter⟩ := mem_ready.1 hi
      have hil : i < ops.size := (Array.getElem?_eq_some_iff.1 ho).1
      have h1' : L.getD i false = false := by
        simp only [Array.getD_eq_getD_getElem?, Array.getElem?_eq_getElem (show i < L.size by omega), Option.getD_some] at h1 ⊢
        exact h1
      have hs := hstep f a1 w1 hI i o ho (by rw [hf i hil]; exact h1') (fun e he hb => by rw [hf e.on (Nat.lt_trans (hback i o ho e he) hil)]; exact hafter e he hb)
      have hget : ∀ j, j < ops.size → (L.setIfInBounds i true).getD j false = (j == i || L.getD j false) := by
        intro j hj
        simp only [Array.getD_eq_getD_getElem?, Array.getElem?_setIfInBounds]
        by_cases e : i = j
        · subst e; simp [show i < L.size by omega]
        · have e2 : (j == i) = false := by simp; omega
          simp [e, e2]
      refine wpOp_mono (fun a' w' h' => ih _ _ a' w' (by simpa using hL) ?_ ?_ h') hs
      · intro j hj
        rw [hget j hj, hf j hj]
      · have hlt := countP_lt (fun j => !L.getD j false) (fun j => !(L.setIfInBounds i true).getD j false) (List.range ops.size) (fun x hx hq => by
          have hxl := List.mem_range.1 hx
          rw [hget x hxl] at hq
          simp only [Bool.not_or, Bool.and_eq_true, Bool.not_eq_true'] at hq ⊢
          exact hq.2) (List.mem_range.2 hil) (by simp only [h1']; rfl) (by rw [hget i hil]; simp)
        omega
  exact key

theorem wp_region_inv {P : Program} {ops : Array Oper} {Q : Exit → Act → World → Prop} {id : Nat} {a : Act} {w : World} (hm : P.follows .mixedOrders = true)
    (hback0 : ((List.range ops.size).all fun i => ((ops[i]?).map fun o : Oper => o.after.all fun e : Edge => decide (e.on < i)).getD true) = true)
    (Inv : Act → (Nat → Bool) → Act → World → Prop) (h0 : Inv a (fun _ => false) a w.drew)
    (hstep : ∀ (f : Nat → Bool) a1 w1, Inv a f a1 w1 → ∀ (i : Nat) (o : Oper), ops[i]? = some o → f i = false → (∀ e ∈ o.after, Region.binds .any e = true → f e.on = true) → wpOp P ops Q i (fun a' w' => Inv a (fun j => j == i || f j) a' w') a1 w1)
    (hend : ∀ (f : Nat → Bool) a1 w1, (∀ i, i < ops.size → f i = true) → Inv a f a1 w1 → Q .normal a1 w1) : (Code.region id ops true).wp P Q a w := by
  refine wp_region_any hm (wpAny_inv hback0 Inv hstep hend ops.size (Array.replicate ops.size false) (fun _ => false) a _ (by simp) (fun j hj => by simp [hj]) ?_ h0)
  exact Nat.le_trans List.countP_le_length (by simp)
end Go.Proofs.Ytdebkifnaiohcaa.Cf

namespace Go.Proofs.Ytdebkifnaiohcaa.Cf
set_option linter.unusedSimpArgs false
set_option linter.unusedVariables false
open Go.RowKit

def markAll (l : List Edge) (m : Array Bool) : Array Bool := l.foldl (fun m e => if Region.binds .any e then m.setIfInBounds e.on true else m) m
def pull (ops : Array Oper) : Nat → Array Bool → Array Bool
  | 0, m => m
  | i + 1, m => pull ops i (if m.getD i false then (match ops[i]? with | some o => markAll o.after.toList m | none => m) else m)
/-- each operation from n on waits for another such one, or for all below n -/
def covers (ops : Array Oper) (n : Nat) : Bool :=
  (List.range ops.size).all fun j => decide (j < n) || match ops[j]? with
    | some o => (o.after.toList.any fun e => Region.binds .any e && decide (n ≤ e.on)) || ((List.range n).all fun i => (pull ops n (markAll o.after.toList (Array.replicate n false))).getD i false)
    | none => true
def backs (ops : Array Oper) : Bool := (List.range ops.size).all fun i => ((ops[i]?).map fun o : Oper => (o.after.all fun e : Edge => decide (e.on < i)) && (match o.guard with | some (g, _) => decide (g < i) | none => true)).getD true

theorem markAll_sound (g : Nat → Bool) : ∀ (l : List Edge) (m : Array Bool), (∀ e ∈ l, Region.binds .any e = true → g e.on = true) → (∀ i, m.getD i false = true → g i = true) → ∀ i, (markAll l m).getD i false = true → g i = true
  | [], _, _, h => h
  | e :: r, m, hl, h => by
    unfold markAll
    rw [List.foldl_cons]
    refine markAll_sound g r _ (fun x hx => hl x (List.mem_cons_of_mem _ hx)) (fun i hi => ?_)
    split at hi
    · rename_i hb
      simp only [Array.getD_eq_getD_getElem?, Array.getElem?_setIfInBounds] at hi
      by_cases he : e.on = i
      · rw [← he]; exact hl e (List.mem_cons_self ..) hb
      · rw [if_neg he] at hi
        exact h i (by simpa only [Array.getD_eq_getD_getElem?] using hi)
    · exact h i hi
theorem pull_sound {ops : Array Oper} (g : Nat → Bool) (n : Nat) (hg : ∀ (i : Nat) (o : Oper), i < n → ops[i]? = some o → g i = true → ∀ e ∈ o.after, Region.binds .any e = true → g e.on = true) :
    ∀ (k : Nat) (m : Array Bool), k ≤ n → (∀ i, m.getD i false = true → g i = true) → ∀ i, (pull ops k m).getD i false = true → g i = true
  | 0, _, _, h => h
  | k + 1, m, hk, h => by
    refine pull_sound g n hg k _ (by omega) (fun i hi => ?_)
    split at hi
    · rename_i hm
      split at hi
      · rename_i o ho
        exact markAll_sound g _ m (fun e he hb => hg k o (by omega) ho (h k hm) e (by simpa using he) hb) h i hi
      · exact h i hi
    · exact h i hi

def listedTo (n m : Nat) : Array Bool := (List.replicate n true ++ List.replicate m false).toArray
theorem listedTo_getD (n m j : Nat) (d : Bool) : (listedTo n m).getD j d = if j < n then true else if j < n + m then false else d := by
  unfold listedTo
  simp only [Array.getD_eq_getD_getElem?, List.getElem?_toArray]
  rw [List.getElem?_append]
  by_cases h : j < n
  · simp [h]
  · by_cases h2 : j < n + m
    · simp [h, h2, show j - n < m by omega]
    · simp [h, h2, show ¬ j - n < m by omega]

section
variable {P : Program} {ops : Array Oper} {Q : Exit → Act → World → Prop} {C : World → Prop}

theorem yielded_take (n : Nat) (tmps : Array Value) (j : Nat) (hj : j < n) : yielded (ops.toList.take n).toArray tmps j = yielded ops tmps j := by
  unfold yielded
  rw [List.getElem?_toArray, List.getElem?_take_of_lt hj, Array.getElem?_toList]
theorem wpOp_of_take {n i : Nat} {a : Act} {K : Act → Prop} {K' : Act → World → Prop} {w : World} (hi : i < n) (hgd : ∀ o, ops[i]? = some o → ∀ g b, o.guard = some (g, b) → g < n)
    (hC : C w) (h : ∀ a w', C w' → K a → K' a w') (hh : qOp P (ops.toList.take n).toArray C i K a) : wpOp P ops Q i K' a w := by
  unfold qOp at hh
  unfold wpOp
  rw [List.getElem?_toArray, List.getElem?_take_of_lt hi, Array.getElem?_toList] at hh
  cases ho : ops[i]? with
  | none => rw [ho] at hh; exact h _ _ hC hh
  | some o =>
    rw [ho] at hh
    simp only at hh ⊢
    have hw : Region.wanted o (yielded (ops.toList.take n).toArray a.tmps) = Region.wanted o (yielded ops a.tmps) := by
      unfold Region.wanted
      cases hgu : o.guard with
      | none => rfl
      | some gb =>
        obtain ⟨g, b⟩ := gb
        simp only
        rw [yielded_take n a.tmps g (hgd o ho g b hgu)]
    rw [hw] at hh
    split
    · rename_i hw2; simp only [hw2, if_true] at hh; exact .inl (Oper.wp_of_quiet hC h hh)
    · rename_i hw2; simp only [hw2] at hh; exact h _ _ hC hh

theorem wp_region_split {id : Nat} {a : Act} {w : World} (n : Nat) (hm : P.follows .mixedOrders = true) (hn : n ≤ ops.size) (hback0 : backs ops = true) (hcov : covers ops n = true)
    (hlex : Region.lexB .any (ops.toList.take n).toArray = true) (hC : C w.drew)
    (h : wpQuiet P (ops.toList.take n).toArray C (fun a' => ∀ w', C w' → wpAny P .any ops Q (ops.size - n) (listedTo n (ops.size - n)) a' w') (ops.toList.take n) a) : (Code.region id ops true).wp P Q a w := by
  have hbk : ∀ (i : Nat) (o : Oper), ops[i]? = some o → (∀ e ∈ o.after, e.on < i) ∧ ∀ g b, o.guard = some (g, b) → g < i := by
    intro i o ho
    have h1 := List.all_eq_true.1 hback0 i (List.mem_range.2 (Array.getElem?_eq_some_iff.1 ho).1)
    rw [ho] at h1
    simp only [Option.map_some, Option.getD_some, Bool.and_eq_true] at h1
    obtain ⟨h1, h3⟩ := h1
    refine ⟨fun e he => ?_, fun g b hg => ?_⟩
    · have h2 := Array.all_eq_true'.1 h1 e he
      simpa using h2
    · rw [hg] at h3; simpa using h3
  have hlen : (ops.toList.take n).length = n := by rw [List.length_take, Array.length_toList]; omega
  simp only [Region.lexB, Bool.and_eq_true] at hlex
  have hq := wpAnyQ_lex (P := P) (C := C) (md := .any) hlex.1 (ops.toList.take n) 0 (Array.replicate (ops.toList.take n).toArray.size false) a (by simp) (by simpa using hlex.2) h
  rw [hlen] at hq
  have ext : ∀ (fuel : Nat) (LA : Array Bool) (a : Act) (w : World), LA.size = n → (List.range n).countP (fun j => !LA.getD j false) = fuel →
      (∀ (i : Nat) (o : Oper), i < n → ops[i]? = some o → LA.getD i false = true → ∀ e ∈ o.after, Region.binds .any e = true → LA.getD e.on false = true) → C w →
      wpAnyQ P .any (ops.toList.take n).toArray C (fun a' => ∀ w', C w' → wpAny P .any ops Q (ops.size - n) (listedTo n (ops.size - n)) a' w') fuel LA a →
      wpAny P .any ops Q (fuel + (ops.size - n)) (LA ++ Array.replicate (ops.size - n) false) a w := by
    intro fuel
    induction fuel with
    | zero =>
      intro LA a w hL hc _ hw hQ
      have hz : ∀ i, i < n → LA.getD i false = true := by
        intro i hi
        cases hv : LA.getD i false with
        | true => rfl
        | false =>
          exfalso
          have : 0 < (List.range n).countP (fun j => !LA.getD j false) := List.countP_pos_iff.2 ⟨i, List.mem_range.2 hi, by simp only [hv]; rfl⟩
          omega
      have e : LA ++ Array.replicate (ops.size - n) false = listedTo n (ops.size - n) := by
        apply Array.ext_getElem?
        intro j
        have h1 : ∀ d, (LA ++ Array.replicate (ops.size - n) false).getD j d = (listedTo n (ops.size - n)).getD j d := by
          intro d
          rw [listedTo_getD]
          simp only [Array.getD_eq_getD_getElem?, Array.getElem?_append, hL]
          by_cases hj : j < n
          · have := hz j hj
            simp only [Array.getD_eq_getD_getElem?, Array.getElem?_eq_getElem (show j < LA.size by omega), Option.getD_some] at this
            simp [hj, Array.getElem?_eq_getElem (show j < LA.size by omega), this]
          · by_cases hj2 : j < n + (ops.size - n)
            · simp [hj, hj2, show j - n < ops.size - n by omega]
            · simp [hj, hj2, show ¬ j - n < ops.size - n by omega]
        have h2 := h1 true
        have h3 := h1 false
        simp only [Array.getD_eq_getD_getElem?] at h2 h3
        cases x : (LA ++ Array.replicate (ops.size - n) false)[j]? <;> cases y : (listedTo n (ops.size - n))[j]? <;> rw [x, y] at h2 h3 <;> simp at h2 h3 ⊢ <;> simp_all
      rw [e, Nat.zero_add]
      exact hQ.2 w hw
    | succ fuel ih =>
      intro LA a w hL hc hcl hw hQ
      rw [Nat.add_right_comm]
      have hnz : ∃ i, i < n ∧ LA.getD i false = false := by
        have : 0 < (List.range n).countP (fun j => !LA.getD j false) := by omega
        obtain ⟨i, hi, hv⟩ := List.countP_pos_iff.1 this
        exact ⟨i, List.mem_range.1 hi, by simpa using hv⟩
      have hget : ∀ j d, j < n → (LA ++ Array.replicate (ops.size - n) false).getD j d = LA.getD j false := by
        intro j d hj
        simp only [Array.getD_eq_getD_getElem?, Array.getElem?_append, hL, if_pos hj, Array.getElem?_eq_getElem (show j < LA.size by omega), Option.getD_some]
      have hget2 : ∀ j d, n ≤ j → j < ops.size → (LA ++ Array.replicate (ops.size - n) false).getD j d = false := by
        intro j d hj hj2
        simp only [Array.getD_eq_getD_getElem?, Array.getElem?_append, hL, if_neg (show ¬ j < n by omega)]
        rw [Array.getElem?_replicate, if_pos (by omega)]; rfl
      have hready : ∀ i ∈ Region.ready .any ops (LA ++ Array.replicate (ops.size - n) false), i < n ∧ i ∈ Region.ready .any (ops.toList.take n).toArray LA := by
        intro i hi
        obtain ⟨h1, o, ho, hafter⟩ := mem_ready.1 hi
        have hil : i < ops.size := (Array.getElem?_eq_some_iff.1 ho).1
        have hin : i < n := by
          rcases Nat.lt_or_ge i n with h' | h'
          · exact h'
          · exfalso
            have hcv := List.all_eq_true.1 hcov i (List.mem_range.2 hil)
            rw [ho] at hcv
            simp only [Bool.or_eq_true, decide_eq_true_eq] at hcv
            rcases hcv with hcv | hcv | hcv
            · omega
            · obtain ⟨e, he, hb⟩ := List.any_eq_true.1 hcv
              simp only [Bool.and_eq_true, decide_eq_true_eq] at hb
              have h2 := hafter e (by simpa using he) hb.1
              rw [hget2 e.on false hb.2 (Nat.lt_trans ((hbk i o ho).1 e (by simpa using he)) hil)] at h2
              cases h2
            · obtain ⟨k, hk, hkf⟩ := hnz
              have h3 := List.all_eq_true.1 hcv k (List.mem_range.2 hk)
              have hB : ∀ e ∈ o.after, Region.binds .any e = true → (fun j => decide (n ≤ j) || LA.getD j false) e.on = true := by
                intro e he hb
                have h4 := hafter e he hb
                rcases Nat.lt_or_ge e.on n with h5 | h5
                · rw [hget e.on false h5] at h4; simp [h4]
                · simp [h5]
              have h6 := pull_sound (ops := ops) (fun j => decide (n ≤ j) || LA.getD j false) n (by
                  intro i' o' h5 ho' hgi e he hb
                  simp only [Bool.or_eq_true, decide_eq_true_eq] at hgi ⊢
                  rcases hgi with hgi | hgi
                  · omega
                  · exact .inr (hcl i' o' h5 ho' hgi e he hb)) n _ (Nat.le_refl n) (markAll_sound _ o.after.toList _ (fun e he hb => hB e (by simpa using he) hb) (by
                  intro i' hi'
                  simp only [Array.getD_eq_getD_getElem?, Array.getElem?_replicate] at hi'
                  split at hi' <;> cases hi')) k h3
              simp only [Bool.or_eq_true, decide_eq_true_eq] at h6
              rcases h6 with h6 | h6
              · omega
              · rw [hkf] at h6; cases h6
        refine ⟨hin, mem_ready.2 ⟨?_, o, ?_, fun e he hb => ?_⟩⟩
        · rw [hget i true hin] at h1
          simp only [Array.getD_eq_getD_getElem?, Array.getElem?_eq_getElem (show i < LA.size by omega), Option.getD_some] at h1 ⊢
          exact h1
        · rw [List.getElem?_toArray, List.getElem?_take_of_lt hin, Array.getElem?_toList]; exact ho
        · have h2 := hafter e he hb
          rwa [hget e.on false (Nat.lt_trans ((hbk i o ho).1 e he) hin)] at h2
      refine ⟨fun hr => ?_, fun i hi => ?_⟩
      · -- something is ready
        exfalso
        obtain ⟨k, hk, hkf⟩ := hnz
        have : ∀ k, k < n → LA.getD k false = true := by
          intro k
          induction k using Nat.strongRecOn with
          | ind k ihk =>
            intro hk
            cases hv : LA.getD k false with
            | true => rfl
            | false =>
              exfalso
              have hko : k < ops.size := by omega
              have hmem : k ∈ Region.ready .any ops (LA ++ Array.replicate (ops.size - n) false) := by
                refine mem_ready.2 ⟨by rw [hget k true hk]; exact hv, ops[k], Array.getElem?_eq_getElem hko, fun e he _ => ?_⟩
                have hlt := (hbk k _ (Array.getElem?_eq_getElem hko)).1 e he
                rw [hget e.on false (by omega)]
                exact ihk e.on hlt (by omega)
              rw [hr] at hmem
              cases hmem
        rw [this k hk] at hkf
        cases hkf
      · obtain ⟨hin, hiA⟩ := hready i hi
        obtain ⟨h1, o, ho, hafter⟩ := mem_ready.1 hi
        have hstep := hQ.2 i hiA
        have hLi : LA.getD i false = false := by rw [hget i true hin] at h1; exact h1
        refine wpOp_of_take (C := C) hin (fun o' ho' g b hg => Nat.lt_trans ((hbk i o' ho').2 g b hg) hin) hw (fun a' w' hw' hK => ?_) hstep
        have hset : (LA ++ Array.replicate (ops.size - n) false).setIfInBounds i true = LA.setIfInBounds i true ++ Array.replicate (ops.size - n) false := by
          rw [Array.setIfInBounds_append_left (by omega)]
        rw [hset]
        have hgs : ∀ j, j < n → (LA.setIfInBounds i true).getD j false = (j == i || LA.getD j false) := by
          intro j hj
          simp only [Array.getD_eq_getD_getElem?, Array.getElem?_setIfInBounds]
          by_cases e : i = j
          · subst e; simp [show i < LA.size by omega]
          · have e2 : (j == i) = false := by simp; omega
            simp [e, e2]
        refine ih _ a' w' (by simpa using hL) ?_ ?_ hw' hK
        · have key : ∀ (l : List Nat), l.Nodup → i ∈ l → (∀ j ∈ l, j < n) → l.countP (fun j => !(LA.setIfInBounds i true).getD j false) + 1 = l.countP (fun j => !LA.getD j false) := by
            intro l
            induction l with
            | nil => intro _ h; cases h
            | cons x r ihl =>
              intro hnd hmem hlt
              rw [List.countP_cons, List.countP_cons, hgs x (hlt x (List.mem_cons_self ..))]
              rw [List.nodup_cons] at hnd
              rcases List.mem_cons.1 hmem with rfl | hmem'
              · have hsame : r.countP (fun j => !(LA.setIfInBounds i true).getD j false) = r.countP (fun j => !LA.getD j false) := by
                  apply List.countP_congr
                  intro y hy
                  rw [hgs y (hlt y (List.mem_cons_of_mem _ hy))]
                  have : (y == i) = false := by
                    simp only [beq_eq_false_iff_ne, ne_eq]
                    rintro rfl
                    exact hnd.1 hy
                  simp [this]
                rw [hsame, hLi]; simp
              · have hxi : (x == i) = false := by
                  simp only [beq_eq_false_iff_ne, ne_eq]
                  rintro rfl
                  exact hnd.1 hmem'
                have := ihl hnd.2 hmem' (fun j hj => hlt j (List.mem_cons_of_mem _ hj))
                rw [hxi, Bool.false_or]
                omega
          have := key (List.range n) List.nodup_range (List.mem_range.2 hin) (fun j hj => List.mem_range.1 hj)
          omega
        · intro i' o' hi' ho' hl e he hb
          have hlt := (hbk i' o' ho').1 e he
          rw [hgs i' hi'] at hl
          rw [hgs e.on (by omega)]
          simp only [Bool.or_eq_true, beq_iff_eq] at hl ⊢
          rcases hl with rfl | hl
          · have hoo : o' = o := Option.some.inj (ho'.symm.trans ho)
            subst hoo
            have h2 := hafter e he hb
            rw [hget e.on false (by omega)] at h2
            exact .inr h2
          · exact .inr (hcl i' o' hi' ho' hl e he hb)
  refine wp_region_any hm ?_
  have hfin := ext n (Array.replicate n false) a w.drew (by simp) (by
      rw [List.countP_eq_length.2]
      · simp
      · intro j hj; simp [List.mem_range.1 hj]) (by
      intro i o hi _ hl
      simp [hi] at hl) hC (by simpa [hlen] using hq)
  rw [show n + (ops.size - n) = ops.size by omega, Array.replicate_append_replicate, show n + (ops.size - n) = ops.size by omega] at hfin
  exact hfin

/-- The second part by an invariant: how many operations are left, and where it begins. -/
theorem wpAny_rest {a : Act} {w : World} (n : Nat) (hn : n ≤ ops.size) (hback0 : ((List.range ops.size).all fun i => ((ops[i]?).map fun o : Oper => o.after.all fun e : Edge => decide (e.on < i)).getD true) = true)
    (Inv : Act → (Nat → Bool) → Act → World → Prop) (h0 : Inv a (fun j => decide (j < n)) a w)
    (hstep : ∀ (f : Nat → Bool) a1 w1, Inv a f a1 w1 → ∀ (i : Nat) (o : Oper), ops[i]? = some o → f i = false → (∀ e ∈ o.after, Region.binds .any e = true → f e.on = true) → wpOp P ops Q i (fun a' w' => Inv a (fun j => j == i || f j) a' w') a1 w1)
    (hend : ∀ (f : Nat → Bool) a1 w1, (∀ i, i < ops.size → f i = true) → Inv a f a1 w1 → Q .normal a1 w1) : wpAny P .any ops Q (ops.size - n) (listedTo n (ops.size - n)) a w := by
  have hg : ∀ j, j < ops.size → decide (j < n) = (listedTo n (ops.size - n)).getD j false := by
    intro j hj
    rw [listedTo_getD]
    by_cases h : j < n
    · simp [h]
    · simp [h]
  refine wpAny_inv hback0 Inv hstep hend _ _ _ a w (by simp [listedTo]; omega) hg ?_ h0
  have h1 : (List.range ops.size).countP (fun j => !(listedTo n (ops.size - n)).getD j false) = (List.range ops.size).countP (fun j => !decide (j < n)) := by
    apply List.countP_congr
    intro y hy
    rw [← hg y (List.mem_range.1 hy)]
  rw [h1]
  have h2 : ∀ m, (List.range m).countP (fun j => !decide (j < n)) = m - n := by
    intro m
    induction m with
    | zero => simp
    | succ m ih =>
      rw [List.range_succ, List.countP_append, ih]
      by_cases hmn : m < n
      · simp [hmn]; omega
      · simp [hmn]; omega
  rw [h2]
  exact Nat.le_refl _
end
end Go.Proofs.Ytdebkifnaiohcaa.Cf

namespace Go.Proofs.Ytdebkifnaiohcaa.Cf
set_option linter.unusedSimpArgs false
set_option linter.unusedVariables false
open Go.RowKit Go.Maps

theorem Try.laidOut : laidOutB Try.prog = true := by kernel_rfl
theorem Try.lawStr : Keyed Try.prog 9 := string_keyed Try.underlying9
theorem Try.lawLab : Keyed Try.prog 103 := Keyed.of_law (deep_law_laid Try.laidOut (m := 2) (by omega) (of_decide_eq_true (by kernel_rfl)) (by kernel_rfl) (by kernel_rfl))
theorem Try.lawMark : Keyed Try.prog 109 := Keyed.of_law (deep_law_laid Try.laidOut (m := 2) (by omega) (of_decide_eq_true (by kernel_rfl)) (by kernel_rfl) (by kernel_rfl))
theorem Try.zero3 (w : World) : (zeroValue 3).run Try.prog w = .ok (.int .i64 0) w := by kernel_rfl
theorem Try.zero129 (w : World) : (zeroValue 133).run Try.prog w = .ok (.agg #[]) w := by kernel_rfl

theorem Try.info39 : (Try.prog.info? 105).map (fun i => (i.zero, i.size, i.bytes)) = some (some (.agg #[.string ByteArray.empty, .int .u8 0, .int .u16 0, .int .i64 0, .int .i64 0, .int .i64 0, .int .i64 0, .int .i64 0, .int .i64 0]), 9, 72) := by kernel_rfl
theorem Try.info34 : (Try.prog.info? 109).map (fun i => (i.zero, i.size, i.bytes)) = some (some (.agg #[.int .u8 0, .int .u16 0]), 2, 4) := by kernel_rfl
theorem Try.info69 : (Try.prog.info? 53).map (fun i => (i.zero, i.size, i.bytes)) = some (some (.agg #[.int .i64 0, .int .i64 0, .int .i64 0, .int .i64 0, .int .i64 0, .int .i64 0]), 6, 48) := by kernel_rfl
/-- what a label, a mark, read as, as a map's key -/
def labKey (lv cs : Int) : Lit := .string (keyBytes [.int .u8 lv, .int .u16 cs])
theorem Try.keyType37 : Try.prog.keyType 103 = true := by kernel_rfl
theorem Try.keyType34 : Try.prog.keyType 109 = true := by kernel_rfl
theorem Try.cellsOf37 : Try.prog.cellsOf 103 = 2 := by kernel_rfl
theorem Try.cellsOf34 : Try.prog.cellsOf 109 = 2 := by kernel_rfl
theorem Try.cellsOf5 : Try.prog.cellsOf 5 = 1 := by kernel_rfl
theorem Try.cellsOf32 : Try.prog.cellsOf 23 = 1 := by kernel_rfl
theorem Try.typesSize : Try.prog.types.size = 155 := by kernel_rfl
theorem labKey_is (lv cs : Int) (h0 : 0 ≤ lv) (h1 : lv < 256) (h2 : 0 ≤ cs) (h3 : cs < 65536) : keyOf Try.prog 103 (.agg #[.int .u8 lv, .int .u16 cs]) = some (labKey lv cs) := by
  have hf : (Value.agg #[.int .u8 lv, .int .u16 cs]).formed Try.prog 103 = true := by simp [Value.formed, Try.underlying103, Try.cellsOf37]
  have w1 : (Lit.int .u8 lv).wf = true := by simp [Lit.wf, IntKind.min, IntKind.max, IntKind.bits, IntKind.signed]; omega
  have w2 : (Lit.int .u16 cs).wf = true := by simp [Lit.wf, IntKind.min, IntKind.max, IntKind.bits, IntKind.signed]; omega
  have hk : ∀ d, Try.prog.keyLits (d + 2) 103 [.int .u8 lv, .int .u16 cs] = some [.int .u8 lv, .int .u16 cs] := by
    intro d
    simp [Program.keyLits, Try.underlying103, Try.cellsOf37, Try.underlying5, Try.underlying23, Try.cellsOf5, Try.cellsOf32, w1, w2]
  unfold keyOf
  rw [Try.underlying103]
  simp only [Try.keyType37, hf, Bool.and_self, if_true, Try.typesSize]
  show Option.map _ (Try.prog.keyLits (154 + 2) 103 [.int .u8 lv, .int .u16 cs]) = _
  rw [hk 154]
  rfl
theorem markKey_is (lv cs : Int) (h0 : 0 ≤ lv) (h1 : lv < 256) (h2 : 0 ≤ cs) (h3 : cs < 65536) : keyOf Try.prog 109 (.agg #[.int .u8 lv, .int .u16 cs]) = some (labKey lv cs) := by
  have hf : (Value.agg #[.int .u8 lv, .int .u16 cs]).formed Try.prog 109 = true := by simp [Value.formed, Try.underlying109, Try.cellsOf34]
  have w1 : (Lit.int .u8 lv).wf = true := by simp [Lit.wf, IntKind.min, IntKind.max, IntKind.bits, IntKind.signed]; omega
  have w2 : (Lit.int .u16 cs).wf = true := by simp [Lit.wf, IntKind.min, IntKind.max, IntKind.bits, IntKind.signed]; omega
  have hk : ∀ d, Try.prog.keyLits (d + 2) 109 [.int .u8 lv, .int .u16 cs] = some [.int .u8 lv, .int .u16 cs] := by
    intro d
    simp [Program.keyLits, Try.underlying109, Try.cellsOf34, Try.underlying5, Try.underlying23, Try.cellsOf5, Try.cellsOf32, w1, w2]
  unfold keyOf
  rw [Try.underlying109]
  simp only [Try.keyType34, hf, Bool.and_self, if_true, Try.typesSize]
  show Option.map _ (Try.prog.keyLits (154 + 2) 109 [.int .u8 lv, .int .u16 cs]) = _
  rw [hk 154]
  rfl
theorem labKey_inj {a b c d : Int} (ha : 0 ≤ a ∧ a < 256) (hb : 0 ≤ b ∧ b < 65536) (hc : 0 ≤ c ∧ c < 256) (hd : 0 ≤ d ∧ d < 65536) (h : labKey a b = labKey c d) : a = c ∧ b = d := by
  have := Try.lawLab.inj (labKey_is a b ha.1 ha.2 hb.1 hb.2) (by rw [h]; exact labKey_is c d hc.1 hc.2 hd.1 hd.2)
  simpa using this
theorem labKey_key (a b : Int) : WideAt.IsKeyLit (labKey a b) := by unfold labKey; trivial
def strKey (s : ByteArray) : Lit := .string s.data.toList
theorem strKey_is (s : ByteArray) (h : s.size ≤ maxLen) : keyOf Try.prog 9 (.string s) = some (strKey s) := WideMaps.keyOf_string_mk Try.underlying9 h
theorem strKey_key (s : ByteArray) : WideAt.IsKeyLit (strKey s) := by unfold strKey; trivial
theorem strKey_inj {s t : ByteArray} (h : strKey s = strKey t) : s = t := by
  unfold strKey at h
  simp only [Lit.string.injEq] at h
  obtain ⟨⟨a⟩⟩ := s
  obtain ⟨⟨b⟩⟩ := t
  simpa using h
end Go.Proofs.Ytdebkifnaiohcaa.Cf

namespace Go.Proofs.Ytdebkifnaiohcaa.Cf
set_option linter.unusedSimpArgs false
set_option linter.unusedVariables false
open Go.RowKit

theorem wpAny_last {P : Program} {ops : Array Oper} {Q : Exit → Act → World → Prop} {a : Act} {w : World} (n : Nat) (hn : ops.size = n + 1)
    (hback0 : ((List.range ops.size).all fun i => ((ops[i]?).map fun o : Oper => o.after.all fun e : Edge => decide (e.on < i)).getD true) = true)
    (h : wpOp P ops Q n (fun a' w' => Q .normal a' w') a w) : wpAny P .any ops Q (ops.size - n) (listedTo n (ops.size - n)) a w := by
  refine wpAny_rest n (by omega) hback0 (fun _ f a1 w1 => (∀ j, j < n → f j = true) ∧ ((f n = false ∧ a1 = a ∧ w1 = w) ∨ (f n = true ∧ Q .normal a1 w1))) ?_ ?_ ?_
  · exact ⟨fun j hj => by simpa using hj, .inl ⟨by simp, rfl, rfl⟩⟩
  · rintro f a1 w1 ⟨hlo, h1⟩ i o ho hfi _
    have hi : i < n + 1 := by rw [← hn]; exact (Array.getElem?_eq_some_iff.1 ho).1
    have hin : i = n := by
      rcases Nat.lt_or_ge i n with h' | h'
      · rw [hlo i h'] at hfi; cases hfi
      · omega
    subst hin
    rcases h1 with ⟨-, rfl, rfl⟩ | ⟨h2, -⟩
    · exact wpOp_mono (fun a' w' h' => ⟨fun j hj => by simp [hlo j hj], .inr ⟨by simp, h'⟩⟩) h
    · rw [h2] at hfi; cases hfi
  · rintro f a1 w1 hall ⟨-, h1⟩
    rcases h1 with ⟨h2, -⟩ | ⟨-, h2⟩
    · rw [hall n (by omega)] at h2; cases h2
    · exact h2
theorem wpOp_step0 {P : Program} {ops : Array Oper} {Q : Exit → Act → World → Prop} {i : Nat} {o : Oper} {K : Act → World → Prop} {a : Act} {w : World} (ho : ops[i]? = some o) (hg : o.guard = none)
    (h : ∀ K' : Act → World → Prop, (∀ a w, K a w → K' a w) → Oper.wp P o a w K' Q) : wpOp P ops Q i K a w :=
  wpOp_step ho fun K' hK' => by simp only [Region.wanted, hg, if_true]; exact h K' hK'
end Go.Proofs.Ytdebkifnaiohcaa.Cf
