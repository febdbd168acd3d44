import Derived.Test.YtfkiinbmbbhbkaaDoorSplit
/- A region that draws its order: a first operation that may come at any time, then operations that only read, then others that wait for all of these but the first. -/
namespace Go.Proofs.YtfkiinbmbbhbkaaDoor
set_option linter.unusedSimpArgs false
set_option linter.unusedVariables false
open Go.RowKit

def covers1 (ops : Array Oper) (n : Nat) : Bool :=
  (List.range ops.size).all fun j => decide (j < n) || match ops[j]? with
    | some o => (o.after.toList.any fun e => Region.binds .any e && decide (n ≤ e.on)) || ((List.range n).all fun i => decide (i = 0) || (pull ops n (markAll o.after.toList (Array.replicate n false))).getD i false)
    | none => true

section
variable {P : Program} {ops : Array Oper} {Q : Exit → Act → World → Prop} {C : World → Prop}

theorem wp_region_split1 {id : Nat} {a : Act} {w : World} {o0 : Oper} {v0 : Value} (n : Nat) (hm : P.follows .mixedOrders = true) (hn : n ≤ ops.size) (h1n : 1 ≤ n) (hback0 : backs ops = true) (hcov : covers1 ops n = true)
    (hlex : (Region.noSelect (ops.toList.take n).toArray && Region.lexFrom .any (ops.toList.take n).toArray (n - 1) 1 ((Array.replicate n false).setIfInBounds 0 true)) = true)
    (hi0 : ops[0]? = some o0) (hs0 : Region.noSelect ops = true) (hf0 : Region.free .any ops (Array.replicate ops.size false) 0 = true) (hr0 : (Region.ready .any ops (Array.replicate ops.size false)).contains 0 = true)
    (hQ0 : ∀ c a w, Q (.panic c) (a.put o0.dst v0) w → Q (.panic c) a w) (hy0 : Yields P ops o0 v0 a) (hC : C w.drew)
    (h : wpQuiet P (ops.toList.take n).toArray C (fun a' => ∀ w', C w' → wpAny P .any ops Q (ops.size - n) (listedTo n (ops.size - n)) a' w') ((ops.toList.take n).drop 1) (a.put o0.dst v0)) : (Code.region id ops true).wp P Q a w := by
  have hbk : ∀ (i : Nat) (o : Oper), ops[i]? = some o → (∀ e ∈ o.after, e.on < i) ∧ ∀ g b, o.guard = some (g, b) → g < i := by
    intro i o ho
    have h1 := List.all_eq_true.1 hback0 i (List.mem_range.2 (Array.getElem?_eq_some_iff.1 ho).1)
    rw [ho] at h1
    simp only [Option.map_some, Option.getD_some, Bool.and_eq_true] at h1
    obtain ⟨h1, h3⟩ := h1
    refine ⟨fun e he => ?_, fun g b hg => ?_⟩
    · have h2 := Array.all_eq_true'.1 h1 e he
      simpa using h2
    · rw [hg] at h3; simpa using h3
  have hlen : (ops.toList.take n).length = n := by rw [List.length_take, Array.length_toList]; omega
  simp only [Bool.and_eq_true] at hlex
  have hlen1 : ((ops.toList.take n).drop 1).length = n - 1 := by rw [List.length_drop, hlen]
  have hq := wpAnyQ_lex (P := P) (C := C) (md := .any) hlex.1 ((ops.toList.take n).drop 1) 1 ((Array.replicate n false).setIfInBounds 0 true) (a.put o0.dst v0) (fun j => by rw [List.getElem?_drop, List.getElem?_toArray]) (by rw [hlen1]; exact hlex.2) h
  rw [hlen1] at hq
  have ext : ∀ (fuel : Nat) (LA : Array Bool) (a : Act) (w : World), LA.size = n → (List.range n).countP (fun j => !LA.getD j false) = fuel →
      (∀ (i : Nat) (o : Oper), i < n → ops[i]? = some o → LA.getD i false = true → ∀ e ∈ o.after, Region.binds .any e = true → LA.getD e.on false = true) → C w → LA.getD 0 false = true →
      wpAnyQ P .any (ops.toList.take n).toArray C (fun a' => ∀ w', C w' → wpAny P .any ops Q (ops.size - n) (listedTo n (ops.size - n)) a' w') fuel LA a →
      wpAny P .any ops Q (fuel + (ops.size - n)) (LA ++ Array.replicate (ops.size - n) false) a w := by
    intro fuel
    induction fuel with
    | zero =>
      intro LA a w hL hc _ hw h00 hQ
      have hz : ∀ i, i < n → LA.getD i false = true := by
        intro i hi
        cases hv : LA.getD i false with
        | true => rfl
        | false =>
          exfalso
          have : 0 < (List.range n).countP (fun j => !LA.getD j false) := List.countP_pos_iff.2 ⟨i, List.mem_range.2 hi, by simp only [hv]; rfl⟩
          omega
      have e : LA ++ Array.replicate (ops.size - n) false = listedTo n (ops.size - n) := by
        apply Array.ext_getElem?
        intro j
        have h1 : ∀ d, (LA ++ Array.replicate (ops.size - n) false).getD j d = (listedTo n (ops.size - n)).getD j d := by
          intro d
          rw [listedTo_getD]
          simp only [Array.getD_eq_getD_getElem?, Array.getElem?_append, hL]
          by_cases hj : j < n
          · have := hz j hj
            simp only [Array.getD_eq_getD_getElem?, Array.getElem?_eq_getElem (show j < LA.size by omega), Option.getD_some] at this
            simp [hj, Array.getElem?_eq_getElem (show j < LA.size by omega), this]
          · by_cases hj2 : j < n + (ops.size - n)
            · simp [hj, hj2, show j - n < ops.size - n by omega]
            · simp [hj, hj2, show ¬ j - n < ops.size - n by omega]
        have h2 := h1 true
        have h3 := h1 false
        simp only [Array.getD_eq_getD_getElem?] at h2 h3
        cases x : (LA ++ Array.replicate (ops.size - n) false)[j]? <;> cases y : (listedTo n (ops.size - n))[j]? <;> rw [x, y] at h2 h3 <;> simp at h2 h3 ⊢ <;> simp_all
      rw [e, Nat.zero_add]
      exact hQ.2 w hw
    | succ fuel ih =>
      intro LA a w hL hc hcl hw h00 hQ
      rw [Nat.add_right_comm]
      have hnz : ∃ i, i < n ∧ LA.getD i false = false := by
        have : 0 < (List.range n).countP (fun j => !LA.getD j false) := by omega
        obtain ⟨i, hi, hv⟩ := List.countP_pos_iff.1 this
        exact ⟨i, List.mem_range.1 hi, by simpa using hv⟩
      have hget : ∀ j d, j < n → (LA ++ Array.replicate (ops.size - n) false).getD j d = LA.getD j false := by
        intro j d hj
        simp only [Array.getD_eq_getD_getElem?, Array.getElem?_append, hL, if_pos hj, Array.getElem?_eq_getElem (show j < LA.size by omega), Option.getD_some]
      have hget2 : ∀ j d, n ≤ j → j < ops.size → (LA ++ Array.replicate (ops.size - n) false).getD j d = false := by
        intro j d hj hj2
        simp only [Array.getD_eq_getD_getElem?, Array.getElem?_append, hL, if_neg (show ¬ j < n by omega)]
        rw [Array.getElem?_replicate, if_pos (by omega)]; rfl
      have hready : ∀ i ∈ Region.ready .any ops (LA ++ Array.replicate (ops.size - n) false), i < n ∧ i ∈ Region.ready .any (ops.toList.take n).toArray LA := by
        intro i hi
        obtain ⟨h1, o, ho, hafter⟩ := mem_ready.1 hi
        have hil : i < ops.size := (Array.getElem?_eq_some_iff.1 ho).1
        have hin : i < n := by
          rcases Nat.lt_or_ge i n with h' | h'
          · exact h'
          · exfalso
            have hcv := List.all_eq_true.1 hcov i (List.mem_range.2 hil)
            rw [ho] at hcv
            simp only [Bool.or_eq_true, decide_eq_true_eq] at hcv
            rcases hcv with hcv | hcv | hcv
            · omega
            · obtain ⟨e, he, hb⟩ := List.any_eq_true.1 hcv
              simp only [Bool.and_eq_true, decide_eq_true_eq] at hb
              have h2 := hafter e (by simpa using he) hb.1
              rw [hget2 e.on false hb.2 (Nat.lt_trans ((hbk i o ho).1 e (by simpa using he)) hil)] at h2
              cases h2
            · obtain ⟨k, hk, hkf⟩ := hnz
              have h3 := List.all_eq_true.1 hcv k (List.mem_range.2 hk)
              have hk0 : k ≠ 0 := by rintro rfl; rw [h00] at hkf; cases hkf
              simp only [Bool.or_eq_true, decide_eq_true_eq, hk0, false_or] at h3
              have hB : ∀ e ∈ o.after, Region.binds .any e = true → (fun j => decide (n ≤ j) || LA.getD j false) e.on = true := by
                intro e he hb
                have h4 := hafter e he hb
                rcases Nat.lt_or_ge e.on n with h5 | h5
                · rw [hget e.on false h5] at h4; simp [h4]
                · simp [h5]
              have h6 := pull_sound (ops := ops) (fun j => decide (n ≤ j) || LA.getD j false) n (by
                  intro i' o' h5 ho' hgi e he hb
                  simp only [Bool.or_eq_true, decide_eq_true_eq] at hgi ⊢
                  rcases hgi with hgi | hgi
                  · omega
                  · exact .inr (hcl i' o' h5 ho' hgi e he hb)) n _ (Nat.le_refl n) (markAll_sound _ o.after.toList _ (fun e he hb => hB e (by simpa using he) hb) (by
                  intro i' hi'
                  simp only [Array.getD_eq_getD_getElem?, Array.getElem?_replicate] at hi'
                  split at hi' <;> cases hi')) k h3
              simp only [Bool.or_eq_true, decide_eq_true_eq] at h6
              rcases h6 with h6 | h6
              · omega
              · rw [hkf] at h6; cases h6
        refine ⟨hin, mem_ready.2 ⟨?_, o, ?_, fun e he hb => ?_⟩⟩
        · rw [hget i true hin] at h1
          simp only [Array.getD_eq_getD_getElem?, Array.getElem?_eq_getElem (show i < LA.size by omega), Option.getD_some] at h1 ⊢
          exact h1
        · rw [List.getElem?_toArray, List.getElem?_take_of_lt hin, Array.getElem?_toList]; exact ho
        · have h2 := hafter e he hb
          rwa [hget e.on false (Nat.lt_trans ((hbk i o ho).1 e he) hin)] at h2
      refine ⟨fun hr => ?_, fun i hi => ?_⟩
      · -- something is ready
        exfalso
        obtain ⟨k, hk, hkf⟩ := hnz
        have : ∀ k, k < n → LA.getD k false = true := by
          intro k
          induction k using Nat.strongRecOn with
          | ind k ihk =>
            intro hk
            cases hv : LA.getD k false with
            | true => rfl
            | false =>
              exfalso
              have hko : k < ops.size := by omega
              have hmem : k ∈ Region.ready .any ops (LA ++ Array.replicate (ops.size - n) false) := by
                refine mem_ready.2 ⟨by rw [hget k true hk]; exact hv, ops[k], Array.getElem?_eq_getElem hko, fun e he _ => ?_⟩
                have hlt := (hbk k _ (Array.getElem?_eq_getElem hko)).1 e he
                rw [hget e.on false (by omega)]
                exact ihk e.on hlt (by omega)
              rw [hr] at hmem
              cases hmem
        rw [this k hk] at hkf
        cases hkf
      · obtain ⟨hin, hiA⟩ := hready i hi
        obtain ⟨h1, o, ho, hafter⟩ := mem_ready.1 hi
        have hstep := hQ.2 i hiA
        have hLi : LA.getD i false = false := by rw [hget i true hin] at h1; exact h1
        refine wpOp_of_take (C := C) hin (fun o' ho' g b hg => Nat.lt_trans ((hbk i o' ho').2 g b hg) hin) hw (fun a' w' hw' hK => ?_) hstep
        have hset : (LA ++ Array.replicate (ops.size - n) false).setIfInBounds i true = LA.setIfInBounds i true ++ Array.replicate (ops.size - n) false := by
          rw [Array.setIfInBounds_append_left (by omega)]
        rw [hset]
        have hgs : ∀ j, j < n → (LA.setIfInBounds i true).getD j false = (j == i || LA.getD j false) := by
          intro j hj
          simp only [Array.getD_eq_getD_getElem?, Array.getElem?_setIfInBounds]
          by_cases e : i = j
          · subst e; simp [show i < LA.size by omega]
          · have e2 : (j == i) = false := by simp; omega
            simp [e, e2]
        refine ih _ a' w' (by simpa using hL) ?_ ?_ hw' (by rw [hgs 0 (by omega), h00, Bool.or_true]) hK
        · have key : ∀ (l : List Nat), l.Nodup → i ∈ l → (∀ j ∈ l, j < n) → l.countP (fun j => !(LA.setIfInBounds i true).getD j false) + 1 = l.countP (fun j => !LA.getD j false) := by
            intro l
            induction l with
            | nil => intro _ h; cases h
            | cons x r ihl =>
              intro hnd hmem hlt
              rw [List.countP_cons, List.countP_cons, hgs x (hlt x (List.mem_cons_self ..))]
              rw [List.nodup_cons] at hnd
              rcases List.mem_cons.1 hmem with rfl | hmem'
              · have hsame : r.countP (fun j => !(LA.setIfInBounds i true).getD j false) = r.countP (fun j => !LA.getD j false) := by
                  apply List.countP_congr
                  intro y hy
                  rw [hgs y (hlt y (List.mem_cons_of_mem _ hy))]
                  have : (y == i) = false := by
                    simp only [beq_eq_false_iff_ne, ne_eq]
                    rintro rfl
                    exact hnd.1 hy
                  simp [this]
                rw [hsame, hLi]; simp
              · have hxi : (x == i) = false := by
                  simp only [beq_eq_false_iff_ne, ne_eq]
                  rintro rfl
                  exact hnd.1 hmem'
                have := ihl hnd.2 hmem' (fun j hj => hlt j (List.mem_cons_of_mem _ hj))
                rw [hxi, Bool.false_or]
                omega
          have := key (List.range n) List.nodup_range (List.mem_range.2 hin) (fun j hj => List.mem_range.1 hj)
          omega
        · intro i' o' hi' ho' hl e he hb
          have hlt := (hbk i' o' ho').1 e he
          rw [hgs i' hi'] at hl
          rw [hgs e.on (by omega)]
          simp only [Bool.or_eq_true, beq_iff_eq] at hl ⊢
          rcases hl with rfl | hl
          · have hoo : o' = o := Option.some.inj (ho'.symm.trans ho)
            subst hoo
            have h2 := hafter e he hb
            rw [hget e.on false (by omega)] at h2
            exact .inr h2
          · exact .inr (hcl i' o' hi' ho' hl e he hb)
  refine wp_region_any hm ?_
  have hLA : ((Array.replicate n false).setIfInBounds 0 true).size = n := by simp
  have hg0 : ∀ j, j < n → ((Array.replicate n false).setIfInBounds 0 true).getD j false = (j == 0) := by
    intro j hj
    simp only [Array.getD_eq_getD_getElem?, Array.getElem?_setIfInBounds, Array.size_replicate, Array.getElem?_replicate]
    by_cases e : j = 0
    · subst e; simp [show 0 < n by omega]
    · have e2 : (j == 0) = false := by simp; omega
      simp [show ¬ (0 = j) by omega, hj, e2]
  have hfin := ext (n - 1) ((Array.replicate n false).setIfInBounds 0 true) (a.put o0.dst v0) w.drew hLA (by
      have hc : (List.range n).countP (fun j => !((Array.replicate n false).setIfInBounds 0 true).getD j false) = (List.range n).countP (fun j => !(j == 0)) := by
        apply List.countP_congr
        intro y hy
        rw [hg0 y (List.mem_range.1 hy)]
      rw [hc]
      obtain ⟨m, rfl⟩ : ∃ m, n = m + 1 := ⟨n - 1, by omega⟩
      rw [List.range_succ_eq_map, List.countP_cons]
      simp only [beq_self_eq_true, Bool.not_true, Bool.false_eq_true, if_false, Nat.add_zero, List.countP_map, Nat.add_sub_cancel]
      rw [List.countP_eq_length.2]
      · simp
      · intro y _; simp) (by
      intro i o hi ho hl e he hb
      rw [hg0 i hi] at hl
      have hi0' : i = 0 := by simpa using hl
      subst hi0'
      exact absurd ((hbk 0 o ho).1 e he) (Nat.not_lt_zero _)) hC (by rw [hg0 0 (by omega)]; rfl) hq
  have hset : (Array.replicate n false).setIfInBounds 0 true ++ Array.replicate (ops.size - n) false = (Array.replicate ops.size false).setIfInBounds 0 true := by
    rw [← Array.setIfInBounds_append_left (by simp; omega), Array.replicate_append_replicate, show n + (ops.size - n) = ops.size by omega]
  rw [hset, show n - 1 + (ops.size - n) = ops.size - 1 by omega] at hfin
  have ht := wpAny_take (P := P) (Q := Q) (md := .any) (fuel := ops.size - 1) (w := w.drew) hi0 hs0 hf0 hr0 hQ0 hy0 hfin
  rw [show ops.size - 1 + 1 = ops.size by omega] at ht
  exact ht
theorem wp_region_split1m {id : Nat} {a : Act} {w : World} {o0 : Oper} {v0 : Value} (n m : Nat) (hsz : ops.size = n + m) (hm : P.follows .mixedOrders = true) (h1n : 1 ≤ n) (hback0 : backs ops = true) (hcov : covers1 ops n = true)
    (hlex : (Region.noSelect (ops.toList.take n).toArray && Region.lexFrom .any (ops.toList.take n).toArray (n - 1) 1 ((Array.replicate n false).setIfInBounds 0 true)) = true)
    (hi0 : ops[0]? = some o0) (hs0 : Region.noSelect ops = true) (hf0 : Region.free .any ops (Array.replicate ops.size false) 0 = true) (hr0 : (Region.ready .any ops (Array.replicate ops.size false)).contains 0 = true)
    (hQ0 : ∀ c a w, Q (.panic c) (a.put o0.dst v0) w → Q (.panic c) a w) (hy0 : Yields P ops o0 v0 a) (hC : C w.drew)
    (h : wpQuiet P (ops.toList.take n).toArray C (fun a' => ∀ w', C w' → wpAny P .any ops Q m (listedTo n m) a' w') ((ops.toList.take n).drop 1) (a.put o0.dst v0)) : (Code.region id ops true).wp P Q a w := by
  have e : ops.size - n = m := by omega
  refine wp_region_split1 n hm (by omega) h1n hback0 hcov hlex hi0 hs0 hf0 hr0 hQ0 hy0 hC ?_
  rw [e]
  exact h
end
end Go.Proofs.YtfkiinbmbbhbkaaDoor
