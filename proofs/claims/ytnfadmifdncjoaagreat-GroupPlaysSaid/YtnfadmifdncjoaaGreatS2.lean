import Derived.Test.YtnfadmifdncjoaaGreatS1
import Derived.OwnWalk
/- The law's model: Booleans, blocks, nodes in slices that are made; the first that is free. -/
namespace Go.Proofs.YtnfadmifdncjoaaGreat
set_option linter.unusedSimpArgs false
set_option linter.unusedVariables false
open Go.RowKit Go.Maps

/-- block g has N Booleans, which may be written -/
structure Bl (w : World) (g N : Nat) (f : Nat → Bool) : Prop where
  lt : g < w.heap.size
  c : ∀ j, j < N → w.cell? ⟨g, j, none⟩ = some (.bool (f j))
  z : ∀ j, j < N → w.frozen? ⟨g, j, none⟩ = false
theorem Bl.below {w w' : World} {B g N : Nat} {f : Nat → Bool} (h : Bl w g N f) (hb : Below B w w') (hg : g < B) : Bl w' g N f :=
  ⟨Nat.lt_of_lt_of_le h.lt hb.size, fun j hj => (hb.cell (p := ⟨g, j, none⟩) hg).trans (h.c j hj), fun j hj => (hb.frozen (p := ⟨g, j, none⟩) hg).trans (h.z j hj)⟩
theorem Bl.keep {w w' : World} {g N : Nat} {f : Nat → Bool} (h : Bl w g N f) (hb : Below w.heap.size w w') : Bl w' g N f := h.below hb h.lt
theorem Bl.set {w : World} {g N : Nat} {f : Nat → Bool} (h : Bl w g N f) (i : Nat) (hi : i < N) (x : Bool) : Bl (w.setCell ⟨g, i, none⟩ (.bool x)) g N (fun j => if j = i then x else f j) := by
  refine ⟨lt_set h.lt _ _, fun j hj => ?_, fun j hj => by rw [World.frozen?_setCell]; exact h.z j hj⟩
  by_cases e : j = i
  · subst e
    rw [if_pos rfl]
    exact World.cell?_setCell_same _ _ _ (h.c j hj)
  · rw [if_neg e, World.cell?_setCell_other _ _ _ _ (by simp [Ne.symm e])]
    exact h.c j hj
theorem Bl.congr {w : World} {g N : Nat} {f f' : Nat → Bool} (h : Bl w g N f) (he : ∀ j, j < N → f j = f' j) : Bl w g N f' := ⟨h.lt, fun j hj => by rw [← he j hj]; exact h.c j hj, h.z⟩
theorem Bl.made (w : World) (c : Nat) (t : TypeId) : Bl (w.alloc (.cells (madeCells #[.bool false] c) t)) w.heap.size c (fun _ => false) := by
  refine ⟨by simp, fun j hj => ?_, fun j _ => by simp⟩
  rw [World.cell?_alloc_at _ _ _ _ rfl]
  simp [madeCells, hj, Nat.mod_one]
theorem Tryz.info4i : ∃ i, Tryz.prog.info? 4 = some i ∧ i.zero = some (.bool false) ∧ i.size = 1 ∧ i.bytes = 1 := by
  have h : (Tryz.prog.info? 4).map (fun i => (i.zero, i.size, i.bytes)) = some (some (.bool false), 1, 1) := by kernel_rfl
  cases hq : Tryz.prog.info? 4 with
  | none => simp [hq] at h
  | some i =>
    simp [hq] at h
    exact ⟨i, rfl, h.1, h.2.1, h.2.2⟩
theorem run_make4 (w : World) (c : Nat) (hc : c ≤ 65536) : (Instr.makeSlice 45 (.int .i64 (c : Int)) (.int .i64 (c : Int))).run Tryz.prog w = .ok (.slice (some ⟨w.heap.size, 0, none⟩) c c) (w.alloc (.cells (madeCells #[.bool false] c) 4)) := by
  obtain ⟨i, hi, hz, hs, hb⟩ := Tryz.info4i
  have := run_make (P := Tryz.prog) w 45 4 i _ (by kernel_rfl) hi hz .i64 .i64 c c (by omega) (by omega) (by rw [hb]; omega) (by omega)
  rw [this, hs, Int.toNat_natCast, Nat.mul_one]
  rfl
theorem Bl.kf {w w' : World} {L : List Nat} {g N : Nat} {f : Nat → Bool} (h : Bl w g N f) (hb : Kf w w' L) (h1 : g ∉ L) : Bl w' g N f :=
  ⟨Nat.lt_of_lt_of_le h.lt hb.size, fun j hj => (hb.cell (p := ⟨g, j, none⟩) h.lt h1).trans (h.c j hj), fun j hj => (hb.frozen (p := ⟨g, j, none⟩) h.lt h1).trans (h.z j hj)⟩
theorem Fr.congr {b b' : Nat → Bool} {n : Nat} {v : Int} (h : Fr b n v) (hb : ∀ i, i < n → b i = b' i) : Fr b' n v := by
  rcases h with ⟨rfl, h⟩ | ⟨i, hi, rfl, h1, h2⟩
  · exact .inl ⟨rfl, fun j hj => by rw [← hb j hj]; exact h j hj⟩
  · exact .inr ⟨i, hi, rfl, by rw [← hb i hi]; exact h1, fun j hj => by rw [← hb j (by omega)]; exact h2 j hj⟩

/-- block g has N nodes -/
structure Nn (w : World) (g N : Nat) (V : Nat → Nat → Int) : Prop where
  lt : g < w.heap.size
  c : ∀ n, n < N → ∀ i v, (ndc (V n))[i]? = some v → w.cell? ⟨g, n * 12 + i, none⟩ = some v
  z : ∀ j, j < N * 12 → w.frozen? ⟨g, j, none⟩ = false
theorem Nn.below {w w' : World} {B g N : Nat} {V : Nat → Nat → Int} (h : Nn w g N V) (hb : Below B w w') (hg : g < B) : Nn w' g N V :=
  ⟨Nat.lt_of_lt_of_le h.lt hb.size, fun n hn i v hi => (hb.cell (p := ⟨g, n * 12 + i, none⟩) hg).trans (h.c n hn i v hi), fun j hj => (hb.frozen (p := ⟨g, j, none⟩) hg).trans (h.z j hj)⟩
theorem Nn.keep {w w' : World} {g N : Nat} {V : Nat → Nat → Int} (h : Nn w g N V) (hb : Below w.heap.size w w') : Nn w' g N V := h.below hb h.lt
theorem Nn.kf {w w' : World} {L : List Nat} {g N : Nat} {V : Nat → Nat → Int} (h : Nn w g N V) (hb : Kf w w' L) (h1 : g ∉ L) : Nn w' g N V :=
  ⟨Nat.lt_of_lt_of_le h.lt hb.size, fun n hn i v hi => (hb.cell (p := ⟨g, n * 12 + i, none⟩) h.lt h1).trans (h.c n hn i v hi), fun j hj => (hb.frozen (p := ⟨g, j, none⟩) h.lt h1).trans (h.z j hj)⟩
theorem Nn.range {w : World} {g N : Nat} {V : Nat → Nat → Int} (h : Nn w g N V) (n : Nat) (hn : n < N) : w.rangeAt g (n * 12) (ndc (V n)) := fun j v hj => h.c n hn j v hj
theorem Nn.there {w : World} {g N : Nat} {V : Nat → Nat → Int} (h : Nn w g N V) (n : Nat) (hn : n < N) : w.there g (n * 12) 12 := fun j hj => by
  have hl : j < (ndc (V n)).length := hj
  exact ⟨by rw [h.c n hn j _ (List.getElem?_eq_getElem hl)]; rfl, h.z _ (by omega)⟩
theorem Nn.put {w : World} {g N : Nat} {V : Nat → Nat → Int} (h : Nn w g N V) (n : Nat) (hn : n < N) (f : Nat → Int) : Nn (w.setCells g (n * 12) (ndc f)) g N (vput n f V) := by
  refine ⟨by rw [size_setCells]; exact h.lt, fun m hm i v hi => ?_, fun j hj => by rw [World.frozen?_setCells]; exact h.z j hj⟩
  have hi12 : i < 12 := (List.getElem?_eq_some_iff.1 hi).1
  unfold vput at hi
  by_cases e : n = m
  · subst e
    rw [if_pos rfl] at hi
    exact World.rangeAt_setCells_same w g (n * 12) (ndc f) (h.there n hn) i v hi
  · rw [if_neg e] at hi
    rw [World.cell?_setCells_out g (ndc f) (n * 12) w _ (fun _ _ => by show m * 12 + i < n * 12 ∨ n * 12 + 12 ≤ m * 12 + i; omega)]
    exact h.c m hm i v hi
theorem ndc_zero (i : Nat) (hi : i < 12) (w0 : Value) (h : (ndc zpt)[i]? = some w0) : (ndc zpt).toArray[i]? = some w0 := by
  simpa using h
theorem Nn.made (w : World) (c : Nat) (t : TypeId) : Nn (w.alloc (.cells (madeCells (ndc zpt).toArray (c * 12)) t)) w.heap.size c (fun _ => zpt) := by
  refine ⟨by simp, fun n hn i v hi => ?_, fun j _ => by simp⟩
  have hi12 : i < 12 := (List.getElem?_eq_some_iff.1 hi).1
  rw [World.cell?_alloc_at _ _ _ _ rfl]
  have h1 : (n * 12 + i) % 12 = i := by omega
  have h2 : n * 12 + i < c * 12 := by omega
  simp [madeCells, ndc_len, h1, h2]
  rw [hi]
  rfl
theorem Tryz.info27i : ∃ i, Tryz.prog.info? 68 = some i ∧ i.zero = some (.agg (ndc zpt).toArray) ∧ i.size = 12 ∧ i.bytes = 24 := by
  have h : (Tryz.prog.info? 68).map (fun i => (i.zero, i.size, i.bytes)) = some (some (.agg (ndc zpt).toArray), 12, 24) := by kernel_rfl
  cases hq : Tryz.prog.info? 68 with
  | none => simp [hq] at h
  | some i =>
    simp [hq] at h
    exact ⟨i, rfl, h.1, h.2.1, h.2.2⟩
theorem run_make27 (w : World) (c : Nat) (hc : c ≤ 65536) : (Instr.makeSlice 47 (.int .i64 (c : Int)) (.int .i64 (c : Int))).run Tryz.prog w = .ok (.slice (some ⟨w.heap.size, 0, none⟩) c c) (w.alloc (.cells (madeCells (ndc zpt).toArray (c * 12)) 68)) := by
  obtain ⟨i, hi, hz, hs, hb⟩ := Tryz.info27i
  have := run_make (P := Tryz.prog) w 47 68 i _ (by kernel_rfl) hi hz .i64 .i64 c c (by omega) (by omega) (by rw [hb]; omega) (by omega)
  rw [this, hs, Int.toNat_natCast]
  rfl
theorem step_make {P : Program} {ops : Array Oper} {o : Oper} {a : Act} {w : World} {K : Act → World → Prop} {Q : Exit → Act → World → Prop} {E : Prop} (hgd : o.guard = none) (ty : TypeId) (x : Operand) (ho : o.op = .makeSlice ty x x) (c : Nat) (hx : a.eval x = .int .i64 (c : Int)) (r : Value) (w' : World)
    (hr : (Instr.makeSlice ty (.int .i64 (c : Int)) (.int .i64 (c : Int))).run P w = .ok r w') (h : K (a.put o.dst r) w') : if Region.wanted o (yielded ops a.tmps) = true then Oper.wp P o a w K Q else E := by
  have hw : Region.wanted o (yielded ops a.tmps) = true := by simp [Region.wanted, hgd]
  rw [if_pos hw]
  unfold Oper.wp
  simp [execOp, ho, hx, hr, Result.andThen]
  exact h
/-- the law's model: L - 1 blocks, taken or not, their bytes; LM - 1 nodes -/
structure Mo (w : World) (mm tk yb nd L LM : Nat) (T : Nat → Bool) (X V : Nat → Nat → Int) : Prop where
  m : Vl w mm [.slice (some ⟨tk, 0, none⟩) L L, .slice (some ⟨yb, 0, none⟩) L L, .slice (some ⟨nd, 0, none⟩) LM LM]
  t : Bl w tk L T
  b : ∃ F, Fl w yb (L * 64) F ∧ ∀ n, n < L → ∀ j, j < 64 → F (n * 64 + j) = X n j
  n : Nn w nd LM V
theorem Mo.below {w w' : World} {B mm tk yb nd L LM : Nat} {T : Nat → Bool} {X V : Nat → Nat → Int} (h : Mo w mm tk yb nd L LM T X V) (hb : Below B w w') (h1 : mm < B) (h2 : tk < B) (h3 : yb < B) (h4 : nd < B) : Mo w' mm tk yb nd L LM T X V := by
  obtain ⟨F, f1, f2⟩ := h.b
  exact ⟨h.m.below hb h1, h.t.below hb h2, ⟨F, f1.below hb h3, f2⟩, h.n.below hb h4⟩
theorem Mo.lts {w : World} {mm tk yb nd L LM : Nat} {T : Nat → Bool} {X V : Nat → Nat → Int} (h : Mo w mm tk yb nd L LM T X V) : mm < w.heap.size ∧ tk < w.heap.size ∧ yb < w.heap.size ∧ nd < w.heap.size := by
  obtain ⟨F, f1, f2⟩ := h.b
  exact ⟨h.m.lt, h.t.lt, f1.lt, h.n.lt⟩
theorem Mo.keep {w w' : World} {mm tk yb nd L LM : Nat} {T : Nat → Bool} {X V : Nat → Nat → Int} (h : Mo w mm tk yb nd L LM T X V) (hb : Below w.heap.size w w') : Mo w' mm tk yb nd L LM T X V := h.below hb h.lts.1 h.lts.2.1 h.lts.2.2.1 h.lts.2.2.2
theorem Mo.kf {w w' : World} {S : List Nat} {mm tk yb nd L LM : Nat} {T : Nat → Bool} {X V : Nat → Nat → Int} (h : Mo w mm tk yb nd L LM T X V) (hb : Kf w w' S) (hn : ∀ a ∈ S, a ≠ mm ∧ a ≠ tk ∧ a ≠ yb ∧ a ≠ nd) : Mo w' mm tk yb nd L LM T X V := by
  obtain ⟨F, f1, f2⟩ := h.b
  exact ⟨h.m.kf hb (fun a => (hn _ a).1 rfl), h.t.kf hb (fun a => (hn _ a).2.1 rfl), ⟨F, f1.kf hb (fun a => (hn _ a).2.2.1 rfl), f2⟩, h.n.kf hb (fun a => (hn _ a).2.2.2 rfl)⟩
set_option maxHeartbeats 20000000 in
set_option maxRecDepth 100000 in
theorem mfree_any (mm tk yb nd L LM : Nat) (hL : L ≤ 65536) (T : Nat → Bool) (X V : Nat → Nat → Int) (w : World) (h : Mo w mm tk yb nd L LM T X V) : Calls Tryz.prog 21 #[.pointer (some ⟨mm, 0, none⟩)] w fun e w' => ∃ v, e = .returned (.int .i64 v) ∧ Fr T L v ∧ w' = w := by
  have c0 := h.m.c 0 _ rfl
  have HT := Lib.hid h.t
  clear h
  go_enter Tryz.func21, Tryz.ntmps21
  go_wp2_with fail
  go_loopw [10] (fun y wr => ∃ k : Nat, k ≤ L ∧ y = .int .i64 k ∧ Hid (∀ j, j < k → T j = true) ∧ wr = w) (fun y _ => L - (Go.RowKit.intOf y).toNat)
  case atStart => exact ⟨0, Nat.zero_le _, rfl, Lib.hid (fun j hj => absurd hj (Nat.not_lt_zero j)), rfl⟩
  case round =>
    obtain ⟨k, hk, rfl, HK, rfl⟩ := hrel
    by_cases hlt : k < L
    · have hlti : (k : Int) < L := by omega
      have hk0 : (0 : Int) ≤ k := by omega
      have hc := HT.out.c k hlt
      cases hT : T k
      · rw [hT] at hc
        have hT' := Lib.hid hT
        clear hT
        go_wp2_with fail
        go_ret
        exact ⟨_, rfl, .inr ⟨k, hlt, rfl, hT'.out, HK.out⟩, rfl⟩
      · rw [hT] at hc
        have hT' := Lib.hid hT
        clear hT
        go_wp2_with fail
        go_roundw
        case rel => exact ⟨k + 1, by omega, by go_num, Lib.hid (fun j hj => by
          rcases Nat.lt_succ_iff_lt_or_eq.1 hj with h | rfl
          · exact HK.out j h
          · exact hT'.out), by first | trivial | rfl⟩
        case measure => simp [Go.RowKit.intOf]; omega
    · have hlti : ¬ ((k : Int) < L) := by omega
      obtain rfl : k = L := by omega
      have HK' := HK
      go_wp2_with fail
      go_ret
      exact ⟨_, rfl, .inl ⟨rfl, HK'.out⟩, rfl⟩
end Go.Proofs.YtnfadmifdncjoaaGreat
