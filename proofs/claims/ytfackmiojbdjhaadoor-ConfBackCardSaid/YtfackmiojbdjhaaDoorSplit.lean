import Derived.Test.YtfackmiojbdjhaaDoorInv
import Derived.Deep.Quiet
/- A region that draws its order, whose first n operations only read (their callees may lay blocks) and whose others wait for all of these: the first are walked once, in the text's order; the others by an invariant. -/
namespace Go.Proofs.YtfackmiojbdjhaaDoor
set_option linter.unusedSimpArgs false
set_option linter.unusedVariables false
open Go.RowKit

def markAll (l : List Edge) (m : Array Bool) : Array Bool := l.foldl (fun m e => if Region.binds .any e then m.setIfInBounds e.on true else m) m
def pull (ops : Array Oper) : Nat → Array Bool → Array Bool
  | 0, m => m
  | i + 1, m => pull ops i (if m.getD i false then (match ops[i]? with | some o => markAll o.after.toList m | none => m) else m)
/-- each operation from n on waits for another such one, or for all below n -/
def covers (ops : Array Oper) (n : Nat) : Bool :=
  (List.range ops.size).all fun j => decide (j < n) || match ops[j]? with
    | some o => (o.after.toList.any fun e => Region.binds .any e && decide (n ≤ e.on)) || ((List.range n).all fun i => (pull ops n (markAll o.after.toList (Array.replicate n false))).getD i false)
    | none => true
def backs (ops : Array Oper) : Bool := (List.range ops.size).all fun i => ((ops[i]?).map fun o : Oper => (o.after.all fun e : Edge => decide (e.on < i)) && (match o.guard with | some (g, _) => decide (g < i) | none => true)).getD true

theorem markAll_sound (g : Nat → Bool) : ∀ (l : List Edge) (m : Array Bool), (∀ e ∈ l, Region.binds .any e = true → g e.on = true) → (∀ i, m.getD i false = true → g i = true) → ∀ i, (markAll l m).getD i false = true → g i = true
  | [], _, _, h => h
  | e :: r, m, hl, h => by
    unfold markAll
    rw [List.foldl_cons]
    refine markAll_sound g r _ (fun x hx => hl x (List.mem_cons_of_mem _ hx)) (fun i hi => ?_)
    split at hi
    · rename_i hb
      simp only [Array.getD_eq_getD_getElem?, Array.getElem?_setIfInBounds] at hi
      by_cases he : e.on = i
      · rw [← he]; exact hl e (List.mem_cons_self ..) hb
      · rw [if_neg he] at hi
        exact h i (by simpa only [Array.getD_eq_getD_getElem?] using hi)
    · exact h i hi
theorem pull_sound {ops : Array Oper} (g : Nat → Bool) (n : Nat) (hg : ∀ (i : Nat) (o : Oper), i < n → ops[i]? = some o → g i = true → ∀ e ∈ o.after, Region.binds .any e = true → g e.on = true) :
    ∀ (k : Nat) (m : Array Bool), k ≤ n → (∀ i, m.getD i false = true → g i = true) → ∀ i, (pull ops k m).getD i false = true → g i = true
  | 0, _, _, h => h
  | k + 1, m, hk, h => by
    refine pull_sound g n hg k _ (by omega) (fun i hi => ?_)
    split at hi
    · rename_i hm
      split at hi
      · rename_i o ho
        exact markAll_sound g _ m (fun e he hb => hg k o (by omega) ho (h k hm) e (by simpa using he) hb) h i hi
      · exact h i hi
    · exact h i hi

def listedTo (n m : Nat) : Array Bool := (List.replicate n true ++ List.replicate m false).toArray
theorem listedTo_getD (n m j : Nat) (d : Bool) : (listedTo n m).getD j d = if j < n then true else if j < n + m then false else d := by
  unfold listedTo
  simp only [Array.getD_eq_getD_getElem?, List.getElem?_toArray]
  rw [List.getElem?_append]
  by_cases h : j < n
  · simp [h]
  · by_cases h2 : j < n + m
    · simp [h, h2, show j - n < m by omega]
    · simp [h, h2, show ¬ j - n < m by omega]

section
variable {P : Program} {ops : Array Oper} {Q : Exit → Act → World → Prop} {C : World → Prop}

theorem yielded_take (n : Nat) (tmps : Array Value) (j : Nat) (hj : j < n) : yielded (ops.toList.take n).toArray tmps j = yielded ops tmps j := by
  unfold yielded
  rw [List.getElem?_toArray, List.getElem?_take_of_lt hj, Array.getElem?_toList]
theorem wpOp_of_take {n i : Nat} {a : Act} {K : Act → Prop} {K' : Act → World → Prop} {w : World} (hi : i < n) (hgd : ∀ o, ops[i]? = some o → ∀ g b, o.guard = some (g, b) → g < n)
    (hC : C w) (h : ∀ a w', C w' → K a → K' a w') (hh : qOp P (ops.toList.take n).toArray C i K a) : wpOp P ops Q i K' a w := by
  unfold qOp at hh
  unfold wpOp
  rw [List.getElem?_toArray, List.getElem?_take_of_lt hi, Array.getElem?_toList] at hh
  cases ho : ops[i]? with
  | none => rw [ho] at hh; exact h _ _ hC hh
  | some o =>
    rw [ho] at hh
    simp only at hh ⊢
    have hw : Region.wanted o (yielded (ops.toList.take n).toArray a.tmps) = Region.wanted o (yielded ops a.tmps) := by
      unfold Region.wanted
      cases hgu : o.guard with
      | none => rfl
      | some gb =>
        obtain ⟨g, b⟩ := gb
        simp only
        rw [yielded_take n a.tmps g (hgd o ho g b hgu)]
    rw [hw] at hh
    split
    · rename_i hw2; simp only [hw2, if_true] at hh; exact .inl (Oper.wp_of_quiet hC h hh)
    · rename_i hw2; simp only [hw2] at hh; exact h _ _ hC hh

theorem wp_region_split {id : Nat} {a : Act} {w : World} (n : Nat) (hm : P.follows .mixedOrders = true) (hn : n ≤ ops.size) (hback0 : backs ops = true) (hcov : covers ops n = true)
    (hlex : Region.lexB .any (ops.toList.take n).toArray = true) (hC : C w.drew)
    (h : wpQuiet P (ops.toList.take n).toArray C (fun a' => ∀ w', C w' → wpAny P .any ops Q (ops.size - n) (listedTo n (ops.size - n)) a' w') (ops.toList.take n) a) : (Code.region id ops true).wp P Q a w := by
  have hbk : ∀ (i : Nat) (o : Oper), ops[i]? = some o → (∀ e ∈ o.after, e.on < i) ∧ ∀ g b, o.guard = some (g, b) → g < i := by
    intro i o ho
    have h1 := List.all_eq_true.1 hback0 i (List.mem_range.2 (Array.getElem?_eq_some_iff.1 ho).1)
    rw [ho] at h1
    simp only [Option.map_some, Option.getD_some, Bool.and_eq_true] at h1
    obtain ⟨h1, h3⟩ := h1
    refine ⟨fun e he => ?_, fun g b hg => ?_⟩
    · have h2 := Array.all_eq_true'.1 h1 e he
      simpa using h2
    · rw [hg] at h3; simpa using h3
  have hlen : (ops.toList.take n).length = n := by rw [List.length_take, Array.length_toList]; omega
  simp only [Region.lexB, Bool.and_eq_true] at hlex
  have hq := wpAnyQ_lex (P := P) (C := C) (md := .any) hlex.1 (ops.toList.take n) 0 (Array.replicate (ops.toList.take n).toArray.size false) a (by simp) (by simpa using hlex.2) h
  rw [hlen] at hq
  have ext : ∀ (fuel : Nat) (LA : Array Bool) (a : Act) (w : World), LA.size = n → (List.range n).countP (fun j => !LA.getD j false) = fuel →
      (∀ (i : Nat) (o : Oper), i < n → ops[i]? = some o → LA.getD i false = true → ∀ e ∈ o.after, Region.binds .any e = true → LA.getD e.on false = true) → C w →
      wpAnyQ P .any (ops.toList.take n).toArray C (fun a' => ∀ w', C w' → wpAny P .any ops Q (ops.size - n) (listedTo n (ops.size - n)) a' w') fuel LA a →
      wpAny P .any ops Q (fuel + (ops.size - n)) (LA ++ Array.replicate (ops.size - n) false) a w := by
    intro fuel
    induction fuel with
    | zero =>
      intro LA a w hL hc _ hw hQ
      have hz : ∀ i, i < n → LA.getD i false = true := by
        intro i hi
        cases hv : LA.getD i false with
        | true => rfl
        | false =>
          exfalso
          have : 0 < (List.range n).countP (fun j => !LA.getD j false) := List.countP_pos_iff.2 ⟨i, List.mem_range.2 hi, by simp only [hv]; rfl⟩
          omega
      have e : LA ++ Array.replicate (ops.size - n) false = listedTo n (ops.size - n) := by
        apply Array.ext_getElem?
        intro j
        have h1 : ∀ d, (LA ++ Array.replicate (ops.size - n) false).getD j d = (listedTo n (ops.size - n)).getD j d := by
          intro d
          rw [listedTo_getD]
          simp only [Array.getD_eq_getD_getElem?, Array.getElem?_append, hL]
          by_cases hj : j < n
          · have := hz j hj
            simp only [Array.getD_eq_getD_getElem?, Array.getElem?_eq_getElem (show j < LA.size by omega), Option.getD_some] at this
            simp [hj, Array.getElem?_eq_getElem (show j < LA.size by omega), this]
          · by_cases hj2 : j < n + (ops.size - n)
            · simp [hj, hj2, show j - n < ops.size - n by omega]
            · simp [hj, hj2, show ¬ j - n < ops.size - n by omega]
        have h2 := h1 true
        have h3 := h1 false
        simp only [Array.getD_eq_getD_getElem?] at h2 h3
        cases x : (LA ++ Array.replicate (ops.size - n) false)[j]? <;> cases y : (listedTo n (ops.size - n))[j]? <;> rw [x, y] at h2 h3 <;> simp at h2 h3 ⊢ <;> simp_all
      rw [e, Nat.zero_add]
      exact hQ.2 w hw
    | succ fuel ih =>
      intro LA a w hL hc hcl hw hQ
      rw [Nat.add_right_comm]
      have hnz : ∃ i, i < n ∧ LA.getD i false = false := by
        have : 0 < (List.range n).countP (fun j => !LA.getD j false) := by omega
        obtain ⟨i, hi, hv⟩ := List.countP_pos_iff.1 this
        exact ⟨i, List.mem_range.1 hi, by simpa using hv⟩
      have hget : ∀ j d, j < n → (LA ++ Array.replicate (ops.size - n) false).getD j d = LA.getD j false := by
        intro j d hj
        simp only [Array.getD_eq_getD_getElem?, Array.getElem?_append, hL, if_pos hj, Array.getElem?_eq_getElem (show j < LA.size by omega), Option.getD_some]
      have hget2 : ∀ j d, n ≤ j → j < ops.size → (LA ++ Array.replicate (ops.size - n) false).getD j d = false := by
        intro j d hj hj2
        simp only [Array.getD_eq_getD_getElem?, Array.getElem?_append, hL, if_neg (show ¬ j < n by omega)]
        rw [Array.getElem?_replicate, if_pos (by omega)]; rfl
      have hready : ∀ i ∈ Region.ready .any ops (LA ++ Array.replicate (ops.size - n) false), i < n ∧ i ∈ Region.ready .any (ops.toList.take n).toArray LA := by
        intro i hi
        obtain ⟨h1, o, ho, hafter⟩ := mem_ready.1 hi
        have hil : i < ops.size := (Array.getElem?_eq_some_iff.1 ho).1
        have hin : i < n := by
          rcases Nat.lt_or_ge i n with h' | h'
          · exact h'
          · exfalso
            have hcv := List.all_eq_true.1 hcov i (List.mem_range.2 hil)
            rw [ho] at hcv
            simp only [Bool.or_eq_true, decide_eq_true_eq] at hcv
            rcases hcv with hcv | hcv | hcv
            · omega
            · obtain ⟨e, he, hb⟩ := List.any_eq_true.1 hcv
              simp only [Bool.and_eq_true, decide_eq_true_eq] at hb
              have h2 := hafter e (by simpa using he) hb.1
              rw [hget2 e.on false hb.2 (Nat.lt_trans ((hbk i o ho).1 e (by simpa using he)) hil)] at h2
              cases h2
            · obtain ⟨k, hk, hkf⟩ := hnz
              have h3 := List.all_eq_true.1 hcv k (List.mem_range.2 hk)
              have hB : ∀ e ∈ o.after, Region.binds .any e = true → (fun j => decide (n ≤ j) || LA.getD j false) e.on = true := by
                intro e he hb
                have h4 := hafter e he hb
                rcases Nat.lt_or_ge e.on n with h5 | h5
                · rw [hget e.on false h5] at h4; simp [h4]
                · simp [h5]
              have h6 := pull_sound (ops := ops) (fun j => decide (n ≤ j) || LA.getD j false) n (by
                  intro i' o' h5 ho' hgi e he hb
                  simp only [Bool.or_eq_true, decide_eq_true_eq] at hgi ⊢
                  rcases hgi with hgi | hgi
                  · omega
                  · exact .inr (hcl i' o' h5 ho' hgi e he hb)) n _ (Nat.le_refl n) (markAll_sound _ o.after.toList _ (fun e he hb => hB e (by simpa using he) hb) (by
                  intro i' hi'
                  simp only [Array.getD_eq_getD_getElem?, Array.getElem?_replicate] at hi'
                  split at hi' <;> cases hi')) k h3
              simp only [Bool.or_eq_true, decide_eq_true_eq] at h6
              rcases h6 with h6 | h6
              · omega
              · rw [hkf] at h6; cases h6
        refine ⟨hin, mem_ready.2 ⟨?_, o, ?_, fun e he hb => ?_⟩⟩
        · rw [hget i true hin] at h1
          simp only [Array.getD_eq_getD_getElem?, Array.getElem?_eq_getElem (show i < LA.size by omega), Option.getD_some] at h1 ⊢
          exact h1
        · rw [List.getElem?_toArray, List.getElem?_take_of_lt hin, Array.getElem?_toList]; exact ho
        · have h2 := hafter e he hb
          rwa [hget e.on false (Nat.lt_trans ((hbk i o ho).1 e he) hin)] at h2
      refine ⟨fun hr => ?_, fun i hi => ?_⟩
      · -- something is ready
        exfalso
        obtain ⟨k, hk, hkf⟩ := hnz
        have : ∀ k, k < n → LA.getD k false = true := by
          intro k
          induction k using Nat.strongRecOn with
          | ind k ihk =>
            intro hk
            cases hv : LA.getD k false with
            | true => rfl
            | false =>
              exfalso
              have hko : k < ops.size := by omega
              have hmem : k ∈ Region.ready .any ops (LA ++ Array.replicate (ops.size - n) false) := by
                refine mem_ready.2 ⟨by rw [hget k true hk]; exact hv, ops[k], Array.getElem?_eq_getElem hko, fun e he _ => ?_⟩
                have hlt := (hbk k _ (Array.getElem?_eq_getElem hko)).1 e he
                rw [hget e.on false (by omega)]
                exact ihk e.on hlt (by omega)
              rw [hr] at hmem
              cases hmem
        rw [this k hk] at hkf
        cases hkf
      · obtain ⟨hin, hiA⟩ := hready i hi
        obtain ⟨h1, o, ho, hafter⟩ := mem_ready.1 hi
        have hstep := hQ.2 i hiA
        have hLi : LA.getD i false = false := by rw [hget i true hin] at h1; exact h1
        refine wpOp_of_take (C := C) hin (fun o' ho' g b hg => Nat.lt_trans ((hbk i o' ho').2 g b hg) hin) hw (fun a' w' hw' hK => ?_) hstep
        have hset : (LA ++ Array.replicate (ops.size - n) false).setIfInBounds i true = LA.setIfInBounds i true ++ Array.replicate (ops.size - n) false := by
          rw [Array.setIfInBounds_append_left (by omega)]
        rw [hset]
        have hgs : ∀ j, j < n → (LA.setIfInBounds i true).getD j false = (j == i || LA.getD j false) := by
          intro j hj
          simp only [Array.getD_eq_getD_getElem?, Array.getElem?_setIfInBounds]
          by_cases e : i = j
          · subst e; simp [show i < LA.size by omega]
          · have e2 : (j == i) = false := by simp; omega
            simp [e, e2]
        refine ih _ a' w' (by simpa using hL) ?_ ?_ hw' hK
        · have key : ∀ (l : List Nat), l.Nodup → i ∈ l → (∀ j ∈ l, j < n) → l.countP (fun j => !(LA.setIfInBounds i true).getD j false) + 1 = l.countP (fun j => !LA.getD j false) := by
            intro l
            induction l with
            | nil => intro _ h; cases h
            | cons x r ihl =>
              intro hnd hmem hlt
              rw [List.countP_cons, List.countP_cons, hgs x (hlt x (List.mem_cons_self ..))]
              rw [List.nodup_cons] at hnd
              rcases List.mem_cons.1 hmem with rfl | hmem'
              · have hsame : r.countP (fun j => !(LA.setIfInBounds i true).getD j false) = r.countP (fun j => !LA.getD j false) := by
                  apply List.countP_congr
                  intro y hy
                  rw [hgs y (hlt y (List.mem_cons_of_mem _ hy))]
                  have : (y == i) = false := by
                    simp only [beq_eq_false_iff_ne, ne_eq]
                    rintro rfl
                    exact hnd.1 hy
                  simp [this]
                rw [hsame, hLi]; simp
              · have hxi : (x == i) = false := by
                  simp only [beq_eq_false_iff_ne, ne_eq]
                  rintro rfl
                  exact hnd.1 hmem'
                have := ihl hnd.2 hmem' (fun j hj => hlt j (List.mem_cons_of_mem _ hj))
                rw [hxi, Bool.false_or]
                omega
          have := key (List.range n) List.nodup_range (List.mem_range.2 hin) (fun j hj => List.mem_range.1 hj)
          omega
        · intro i' o' hi' ho' hl e he hb
          have hlt := (hbk i' o' ho').1 e he
          rw [hgs i' hi'] at hl
          rw [hgs e.on (by omega)]
          simp only [Bool.or_eq_true, beq_iff_eq] at hl ⊢
          rcases hl with rfl | hl
          · have hoo : o' = o := Option.some.inj (ho'.symm.trans ho)
            subst hoo
            have h2 := hafter e he hb
            rw [hget e.on false (by omega)] at h2
            exact .inr h2
          · exact .inr (hcl i' o' hi' ho' hl e he hb)
  refine wp_region_any hm ?_
  have hfin := ext n (Array.replicate n false) a w.drew (by simp) (by
      rw [List.countP_eq_length.2]
      · simp
      · intro j hj; simp [List.mem_range.1 hj]) (by
      intro i o hi _ hl
      simp [hi] at hl) hC (by simpa [hlen] using hq)
  rw [show n + (ops.size - n) = ops.size by omega, Array.replicate_append_replicate, show n + (ops.size - n) = ops.size by omega] at hfin
  exact hfin

/-- The second part by an invariant: how many operations are left, and where it begins. -/
theorem wpAny_rest {a : Act} {w : World} (n : Nat) (hn : n ≤ ops.size) (hback0 : ((List.range ops.size).all fun i => ((ops[i]?).map fun o : Oper => o.after.all fun e : Edge => decide (e.on < i)).getD true) = true)
    (Inv : Act → (Nat → Bool) → Act → World → Prop) (h0 : Inv a (fun j => decide (j < n)) a w)
    (hstep : ∀ (f : Nat → Bool) a1 w1, Inv a f a1 w1 → ∀ (i : Nat) (o : Oper), ops[i]? = some o → f i = false → (∀ e ∈ o.after, Region.binds .any e = true → f e.on = true) → wpOp P ops Q i (fun a' w' => Inv a (fun j => j == i || f j) a' w') a1 w1)
    (hend : ∀ (f : Nat → Bool) a1 w1, (∀ i, i < ops.size → f i = true) → Inv a f a1 w1 → Q .normal a1 w1) : wpAny P .any ops Q (ops.size - n) (listedTo n (ops.size - n)) a w := by
  have hg : ∀ j, j < ops.size → decide (j < n) = (listedTo n (ops.size - n)).getD j false := by
    intro j hj
    rw [listedTo_getD]
    by_cases h : j < n
    · simp [h]
    · simp [h]
  refine wpAny_inv hback0 Inv hstep hend _ _ _ a w (by simp [listedTo]; omega) hg ?_ h0
  have h1 : (List.range ops.size).countP (fun j => !(listedTo n (ops.size - n)).getD j false) = (List.range ops.size).countP (fun j => !decide (j < n)) := by
    apply List.countP_congr
    intro y hy
    rw [← hg y (List.mem_range.1 hy)]
  rw [h1]
  have h2 : ∀ m, (List.range m).countP (fun j => !decide (j < n)) = m - n := by
    intro m
    induction m with
    | zero => simp
    | succ m ih =>
      rw [List.range_succ, List.countP_append, ih]
      by_cases hmn : m < n
      · simp [hmn]; omega
      · simp [hmn]; omega
  rw [h2]
  exact Nat.le_refl _
end
end Go.Proofs.YtfackmiojbdjhaaDoor
