import Derived.Test.YtlpbhijfdeceoaaB6
import Derived.Test.YtlpbhijfdeceoaaE10
import Derived.Laws.AppendOwn
import Derived.Laws.OwnMore
import Derived.Sort.OwnSorted
/- The map of bits: Free, List, Count. -/
namespace Go.Proofs.Ytlpbhijfdeceoaa
set_option linter.unusedSimpArgs false
set_option linter.unusedVariables false
open Go.RowKit Go.Maps


theorem ownsRow_keep {w w' : World} {base : Nat} {e : TypeId} {size n : Nat} {v : Value} {xs : List Value} (h : w.ownsRow base e size v n xs) (hk : ∀ k, v.ownBlock = some k → w'.heap[k]? = w.heap[k]?) : w'.ownsRow base e size v n xs := by
  obtain ⟨hl, ⟨hv, hn⟩ | ⟨g, cap, cur, hv, hg, hh, r⟩⟩ := h
  · exact ⟨hl, .inl ⟨hv, hn⟩⟩
  · refine ⟨hl, .inr ⟨g, cap, cur, hv, hg, ?_, r⟩⟩
    rw [hk g (by rw [hv]; simp [Value.ownBlock])]
    exact hh
theorem ownsRow_slice {w : World} {base : Nat} {e : TypeId} {size n : Nat} {v : Value} {xs : List Value} (h : w.ownsRow base e size v n xs) : ∃ a c, v = .slice a n c := by
  obtain ⟨hl, ⟨hv, hn⟩ | ⟨g, cap, cur, hv, r⟩⟩ := h
  · exact ⟨_, _, by rw [hv, hn]⟩
  · exact ⟨_, _, hv⟩
/-- bit i of a map from block fi on -/
def bt (T : TS) (fi i : Nat) : Bool := bitOf (vw T (fi + i / 512)) i
/-- v is the first of n that isn't set, or -1 -/
def Fr (b : Nat → Bool) (n : Nat) (v : Int) : Prop := (v = -1 ∧ ∀ j, j < n → b j = true) ∨ ∃ i : Nat, i < n ∧ v = i ∧ b i = false ∧ ∀ j, j < i → b j = true
def setL (b : Nat → Bool) (n : Nat) : List Nat := (List.range n).filter b
theorem setL_succ (b : Nat → Bool) (n : Nat) : setL b (n + 1) = if b n = true then setL b n ++ [n] else setL b n := by
  unfold setL
  rw [List.range_succ, List.filter_append]
  cases h : b n <;> simp [h]
theorem setL_len (b : Nat → Bool) (n : Nat) : (setL b n).length ≤ n := by
  have := List.length_filter_le b (List.range n)
  rwa [List.length_range] at this

theorem each_nil (f : Value) (w : World) : Calls Try.prog 29 #[.pointer none, f] w fun e w' => e = .returned (.int .i64 1) ∧ w' = w := by
  go_enter Try.func29, Try.ntmps29
  go_wp2
  go_ret
  exact ⟨rfl, rfl⟩
set_option maxHeartbeats 2000000 in
theorem free1_any (q i : Nat) (on : Bool) (v : Value) (w : World) (hc : w.cell? ⟨q, 0, none⟩ = some v) (hz : w.frozen? ⟨q, 0, none⟩ = false) :
    Calls Try.prog 31 #[.int .i64 i, .bool on, .pointer (some ⟨q, 0, none⟩)] w fun e w' => e = .returned (.bool on) ∧ w' = if on = true then w else w.setCell ⟨q, 0, none⟩ (.int .i64 i) := by
  cases on
  · go_enter Try.func31, Try.ntmps31
    go_wp2
    go_ret
    exact ⟨rfl, rfl⟩
  · clear hc hz
    go_enter Try.func31, Try.ntmps31
    go_wp2
    go_ret
    exact ⟨rfl, rfl⟩
set_option maxHeartbeats 4000000 in
set_option maxRecDepth 100000 in
theorem free_any (p t m d g fi n K : Nat) (T : TS) (hf : fi ≤ 65536) (hn : n ≤ 65536) (hx : ∀ i, i < n → fi + i / 512 < 40) (hK : K < 600000) (w : World) (hm : Mb w p t fi n) (hr : Rd w t m d g T K) (hp : p ∉ [t, m, d, g]) :
    Calls Try.prog 14 #[.pointer (some ⟨p, 0, none⟩)] w fun e w' => ∃ v, e = .returned (.tuple #[.int .i64 v, .int .i64 0]) ∧ Fr (bt T fi) n v ∧ Rd w' t m d g T (K + 200) ∧ Kf w w' [t, m, d, g] := by
  have hmf : ∀ (fn : Fn) (first cap : Array Value) (w : World), (Instr.makeFunc fn first cap).run Try.prog w = .ok (.func fn first cap) w := fun _ _ _ _ => rfl
  have HM := Lib.hid hm
  have HR := Lib.hid hr
  clear hm hr
  go_enter Try.func14, Try.ntmps14
  go_wp2_with fail
  obtain ⟨w1, hw1⟩ : ∃ x, w.alloc (Obj.cells #[Value.int IntKind.i64 (-1)] 3) = x := ⟨_, rfl⟩
  have hb1 : Below w.heap.size w w1 := by rw [← hw1]; exact (Below.refl _ _).alloc (Nat.le_refl _) _
  have hc1 : w1.cell? ⟨w.heap.size, 0, none⟩ = some (.int .i64 (-1)) := by rw [← hw1, World.cell?_alloc_at _ _ _ _ rfl]; rfl
  have hz1 : w1.frozen? ⟨w.heap.size, 0, none⟩ = false := by rw [← hw1]; simp
  have hs1 : w.heap.size < w1.heap.size := by rw [← hw1]; simp
  have hlts := HR.out.lts
  have hpl := HM.out.lt
  have HB1 := Lib.hid hb1
  rw [hw1]
  clear hw1
  obtain ⟨q, hq⟩ : ∃ q, w.heap.size = q := ⟨_, rfl⟩
  have HB0 := hb1
  rw [hq] at hc1 hz1 hs1 hlts hpl ⊢
  have hE := each_any p t m d g fi n K 31 q T
    (fun i W => W.cell? ⟨q, 0, none⟩ = some (.int .i64 (-1)) ∧ W.frozen? ⟨q, 0, none⟩ = false ∧ q < W.heap.size ∧ ∀ j, j < i → bt T fi j = true)
    (fun W => ∃ i : Nat, i < n ∧ W.cell? ⟨q, 0, none⟩ = some (.int .i64 i) ∧ bt T fi i = false ∧ ∀ j, j < i → bt T fi j = true)
    hf hn hx hK w1 (HM.out.keep hb1) (HR.out.keep hb1) hp (by simp; omega) hs1 (fun args W => by rfl)
    (fun W hb => ⟨(hb.cell (p := ⟨q, 0, none⟩) hs1).trans hc1, (hb.frozen (p := ⟨q, 0, none⟩) hs1).trans hz1, Nat.lt_of_lt_of_le hs1 hb.size, fun j hj => absurd hj (by omega)⟩)
    (fun i W W' h hk => ⟨(hk.cell (p := ⟨q, 0, none⟩) h.2.2.1 (by simp; omega)).trans h.1, (hk.frozen (p := ⟨q, 0, none⟩) h.2.2.1 (by simp; omega)).trans h.2.1, Nat.lt_of_lt_of_le h.2.2.1 hk.size, h.2.2.2⟩)
    (fun i W hi h hz => by
      refine (free1_any q i _ _ W h.1 h.2.1).mono ?_
      rintro e w' ⟨he, hw'⟩
      refine ⟨_, he, ?_⟩
      have hbt : bitOf (vw T (fi + i / 512)) i = bt T fi i := rfl
      rw [hbt] at hw' ⊢
      cases hb : bt T fi i
      · rw [hb] at hw'
        simp only [Bool.false_eq_true, if_false] at hw' ⊢
        subst hw'
        refine ⟨⟨rfl, rfl, rfl, by simp [World.setCell], fun k _ hk => Below.heap_setCell _ _ _ _ hk⟩, i, hi, World.cell?_setCell_same _ _ _ h.1, hb, h.2.2.2⟩
      · rw [hb] at hw'
        simp only [if_true] at hw' ⊢
        subst hw'
        refine ⟨⟨rfl, rfl, rfl, Nat.le_refl _, fun _ _ _ => rfl⟩, h.1, h.2.1, h.2.2.1, fun j hj => ?_⟩
        by_cases e : j = i
        · subst e; exact hb
        · exact h.2.2.2 j (by omega))
  refine hE.mono ?_
  rintro e w2 ⟨rfl, hR2, hK2, hI⟩
  have HR2 := Lib.hid hR2
  have HK2 : Hid (Kf w w2 [t, m, d, g]) := by
    refine ⟨hK2.os.trans HB1.out.os, hK2.tape.trans HB1.out.tape, hK2.output.trans HB1.out.output, Nat.le_trans HB1.out.size hK2.size, fun k hk hn => ?_⟩
    refine (hK2.block k (Nat.lt_of_lt_of_le hk HB1.out.size) (fun hm => hn ?_)).trans (HB1.out.block k hk)
    simp at hm ⊢
    omega
  obtain ⟨v, hv, hF⟩ : ∃ v, w2.cell? ⟨q, 0, none⟩ = some (.int .i64 v) ∧ Fr (bt T fi) n v := by
    rcases hI with h | ⟨i, hi, h1, h2, h3⟩
    · exact ⟨-1, h.1, .inl ⟨rfl, h.2.2.2⟩⟩
    · exact ⟨i, h1, .inr ⟨i, hi, rfl, h2, h3⟩⟩
  have HF := Lib.hid hF
  clear hI hE hR2 hK2 hF HB1 HB0 hb1 hc1 hz1 HM HR hx
  go_wp2_with fail
  refine bodyPost_ret (v := .tuple #[.int .i64 v, .int .i64 0]) (by simp [results, Try.results14, go_sem]) rfl ⟨v, rfl, HF.out, HR2.out, HK2.out⟩
theorem free_nil (w : World) : Calls Try.prog 14 #[.pointer none] w fun e w' => e = .returned (.tuple #[.int .i64 (-1), .int .i64 1]) ∧ Below w.heap.size w w' := by
  have hmf : ∀ (fn : Fn) (first cap : Array Value) (w : World), (Instr.makeFunc fn first cap).run Try.prog w = .ok (.func fn first cap) w := fun _ _ _ _ => rfl
  go_enter Try.func14, Try.ntmps14
  go_wp2_with fail
  refine (each_nil _ _).mono ?_
  rintro e w1 ⟨rfl, hw⟩
  rw [hw]
  clear hw
  have hc : (w.alloc (Obj.cells #[Value.int IntKind.i64 (-1)] 3)).cell? ⟨w.heap.size, 0, none⟩ = some (.int .i64 (-1)) := by rw [World.cell?_alloc_at _ _ _ _ rfl]; rfl
  go_wp2_with fail
  refine bodyPost_ret (v := .tuple #[.int .i64 (-1), .int .i64 1]) (by simp [results, Try.results14, go_sem]) rfl ⟨rfl, (Below.refl _ _).alloc (Nat.le_refl _) _⟩
set_option maxHeartbeats 4000000 in
set_option maxRecDepth 100000 in
theorem list1_any (q i B : Nat) (on : Bool) (v : Value) (L : List Nat) (w : World) (hc : w.cell? ⟨q, 0, none⟩ = some v) (hz : w.frozen? ⟨q, 0, none⟩ = false) (ho : w.ownsRow B 3 1 v L.length (L.map fun (k : Nat) => Value.int .i64 (k : Int))) (hB : B ≤ w.heap.size) (hL : L.length ≤ 65536) (hq : q < B) :
    Calls Try.prog 30 #[.int .i64 i, .bool on, .pointer (some ⟨q, 0, none⟩)] w fun e w' => e = .returned (.bool true) ∧ Kb B w w' q ∧ ∃ v', w'.cell? ⟨q, 0, none⟩ = some v' ∧ w'.frozen? ⟨q, 0, none⟩ = false ∧ w'.ownsRow B 3 1 v' (if on = true then L ++ [i] else L).length ((if on = true then L ++ [i] else L).map fun (k : Nat) => Value.int .i64 (k : Int)) := by
  obtain ⟨i0, hi, hz0, hz1, hz2⟩ := Try.info3i
  have HI := Lib.hid hi
  have HZ0 := Lib.hid hz0
  have HZ1 := Lib.hid hz1
  have HZ2 := Lib.hid hz2
  have HU : Hid (Try.prog.underlying 38 = some (.slice 3)) := by show _ = _; kernel_rfl
  have HO := Lib.hid ho
  clear hi hz0 hz1 hz2 ho
  cases on
  · have HC := Lib.hid hc
    have HZ := Lib.hid hz
    clear hc hz
    go_enter Try.func30, Try.ntmps30
    go_wp2
    go_ret
    exact ⟨rfl, ⟨rfl, rfl, rfl, Nat.le_refl _, fun _ _ _ => rfl⟩, v, HC.out, HZ.out, by simpa using HO.out⟩
  · have HC := Lib.hid hc
    have HZ := Lib.hid hz
    clear hz
    go_enter Try.func30, Try.ntmps30
    go_wp2_with (at_builtin; refine wpList_append_own _ rfl _ _ 38 rfl B 3 i0 (.int .i64 0) 1 8 HU.out HI.out HZ0.out HZ1.out HZ2.out rfl (by decide) _ _ _ rfl (HO.out.alloc _) ⟨w.heap.size, 0, none⟩ 1 1 [.int .i64 i] rfl rfl (cell_one_new _ _ _) (by simp [Value.oneCell']) (by unfold maxLen; omega) (by omega) (by simp; omega) ?_; intro v' w3 hown' hg3 hnil3; obtain ⟨av, cv, hvv⟩ := ownsRow_slice hown'; subst hvv; have HOW3 := Lib.hid hown'; have HB3 := Lib.hid (((Below.refl B w).alloc hB _).grown hg3 (by simp; omega) (fun k hk => ownsRow_block HO.out k hk)); have c3 : w3.cell? ⟨q, 0, none⟩ = some v := ((HB3.out.cell (p := ⟨q, 0, none⟩) hq).trans HC.out); have z3 : w3.frozen? ⟨q, 0, none⟩ = false := ((HB3.out.frozen (p := ⟨q, 0, none⟩) hq).trans HZ.out); clear hown' hg3 hnil3)
    go_ret
    have h1 : (w3.setCell ⟨q, 0, none⟩ (.slice av (L.length + 1) cv)).ownsRow B 3 1 (.slice av (L.length + 1) cv) (L ++ [i]).length ((L ++ [i]).map fun (k : Nat) => Value.int .i64 (k : Int)) := by
      refine ownsRow_keep (by simpa using HOW3.out) (fun k hk => Below.heap_setCell _ _ _ _ ?_)
      have := ownsRow_block HOW3.out k hk
      show k ≠ q
      omega
    refine ⟨rfl, ⟨HB3.out.os, HB3.out.tape, HB3.out.output, by simpa [World.setCell] using HB3.out.size, fun k hk hne => (Below.heap_setCell _ _ _ _ hne).trans (HB3.out.block k hk)⟩, _, World.cell?_setCell_same _ _ _ c3, by rw [World.frozen?_setCell]; exact z3, by simpa using h1⟩
end Go.Proofs.Ytlpbhijfdeceoaa
