import Derived.Test.YtbjniddikgcaeaaDoorG1
import Derived.Test.YtbjniddikgcaeaaDoorC10
import Derived.Deep.SlicePairs
/- Lists of labels and of marks, as handed in. -/
namespace Go.Proofs.YtbjniddikgcaeaaDoor
set_option linter.unusedSimpArgs false
set_option linter.unusedVariables false
open Go.ChangeShapes Go.WideShapes Go.ChangeAt Go.RowKit Go.Deep

theorem Tryd.oc39 : Tryd.prog.cellsOf 39 = 9 := by kernel_rfl
theorem Tryd.oc37 : Tryd.prog.cellsOf 37 = 2 := by kernel_rfl
theorem Tryd.oc34 : Tryd.prog.cellsOf 34 = 2 := by kernel_rfl
theorem Tryd.oc32 : Tryd.prog.cellsOf 32 = 1 := by kernel_rfl
theorem Tryd.oc9 : Tryd.prog.cellsOf 9 = 1 := by kernel_rfl
theorem Tryd.oc3 : Tryd.prog.cellsOf 3 = 1 := by kernel_rfl
theorem add_plain9 (b o k : Nat) : (⟨b, o, none⟩ : Addr).add k = ⟨b, o + k, none⟩ := by simp [Addr.add]
set_option maxRecDepth 100000 in
theorem reg_cells {H : Type} {enc : TypeId × Value → H} {W : World} {n : Nat} {L : List Value} {x : DataW H × List MemPlace} (hl : L.length = 9) (h : DataW.trod enc Tryd.prog W 0 (fun _ => true) true n 39 L = some x) : ∃ r : Rg, r.ok ∧ L = r.cells := by
  obtain ⟨xs, k, hk, hxy, hll, hxl, hg⟩ := DataW.trod_struct Tryd.underlying39 h
  have hsz : xs.length = 8 := hxl
  have e0 := hg 0 _ rfl
  obtain ⟨y0, hy0⟩ : ∃ y, xs[0]? = some y := ⟨xs[0], List.getElem?_eq_getElem (by omega)⟩
  rw [hy0] at e0
  change DataW.trod enc Tryd.prog W 0 (fun _ => true) true k 9 ((L.drop 0).take (Tryd.prog.cellsOf 9)) = _ at e0
  rw [Tryd.oc9] at e0
  obtain ⟨nm, hnm, -, hns⟩ := DataW.trod_string Tryd.underlying9 e0
  have l0 := take_one hnm
  have e1 := hg 1 _ rfl
  obtain ⟨y1, hy1⟩ : ∃ y, xs[1]? = some y := ⟨xs[1], List.getElem?_eq_getElem (by omega)⟩
  rw [hy1] at e1
  change DataW.trod enc Tryd.prog W 0 (fun _ => true) true k 37 ((L.drop 1).take (Tryd.prog.cellsOf 37)) = _ at e1
  rw [Tryd.oc37] at e1
  obtain ⟨xs', k', -, -, -, hxl', hg'⟩ := DataW.trod_struct Tryd.underlying37 e1
  have hsz' : xs'.length = 2 := hxl'
  have f0 := hg' 0 _ rfl
  obtain ⟨z0, hz0⟩ : ∃ y, xs'[0]? = some y := ⟨xs'[0], List.getElem?_eq_getElem (by omega)⟩
  rw [hz0] at f0
  change DataW.trod enc Tryd.prog W 0 (fun _ => true) true k' 5 ((((L.drop 1).take 2).drop 0).take (Tryd.prog.cellsOf 5)) = _ at f0
  rw [Tryd.cells5] at f0
  obtain ⟨lv, hlv, -, wlv⟩ := DataW.trod_int Tryd.underlying5 f0
  have f1 := hg' 1 _ rfl
  obtain ⟨z1, hz1⟩ : ∃ y, xs'[1]? = some y := ⟨xs'[1], List.getElem?_eq_getElem (by omega)⟩
  rw [hz1] at f1
  change DataW.trod enc Tryd.prog W 0 (fun _ => true) true k' 32 ((((L.drop 1).take 2).drop 1).take (Tryd.prog.cellsOf 32)) = _ at f1
  rw [Tryd.oc32] at f1
  obtain ⟨cs, hcs, -, wcs⟩ := DataW.trod_int Tryd.underlying32 f1
  have l1 := take_one hlv
  have l2 := take_one hcs
  have b1 := bounds_u8 wlv
  have b2 := bounds_u16 wcs
  rw [List.getElem?_take_of_lt (by omega), List.getElem?_drop] at l1 l2
  have e2 := hg 2 _ rfl
  obtain ⟨y2, hy2⟩ : ∃ y, xs[2]? = some y := ⟨xs[2], List.getElem?_eq_getElem (by omega)⟩
  rw [hy2] at e2
  change DataW.trod enc Tryd.prog W 0 (fun _ => true) true k 3 ((L.drop 3).take (Tryd.prog.cellsOf 3)) = _ at e2
  rw [Tryd.oc3] at e2
  obtain ⟨n2, hn2, -, w2⟩ := DataW.trod_int Tryd.underlying3 e2
  have l3 := take_one hn2
  have e3 := hg 3 _ rfl
  obtain ⟨y3, hy3⟩ : ∃ y, xs[3]? = some y := ⟨xs[3], List.getElem?_eq_getElem (by omega)⟩
  rw [hy3] at e3
  change DataW.trod enc Tryd.prog W 0 (fun _ => true) true k 3 ((L.drop 4).take (Tryd.prog.cellsOf 3)) = _ at e3
  rw [Tryd.oc3] at e3
  obtain ⟨n3, hn3, -, w3⟩ := DataW.trod_int Tryd.underlying3 e3
  have l4 := take_one hn3
  have e4 := hg 4 _ rfl
  obtain ⟨y4, hy4⟩ : ∃ y, xs[4]? = some y := ⟨xs[4], List.getElem?_eq_getElem (by omega)⟩
  rw [hy4] at e4
  change DataW.trod enc Tryd.prog W 0 (fun _ => true) true k 3 ((L.drop 5).take (Tryd.prog.cellsOf 3)) = _ at e4
  rw [Tryd.oc3] at e4
  obtain ⟨n4, hn4, -, w4⟩ := DataW.trod_int Tryd.underlying3 e4
  have l5 := take_one hn4
  have e5 := hg 5 _ rfl
  obtain ⟨y5, hy5⟩ : ∃ y, xs[5]? = some y := ⟨xs[5], List.getElem?_eq_getElem (by omega)⟩
  rw [hy5] at e5
  change DataW.trod enc Tryd.prog W 0 (fun _ => true) true k 3 ((L.drop 6).take (Tryd.prog.cellsOf 3)) = _ at e5
  rw [Tryd.oc3] at e5
  obtain ⟨n5, hn5, -, w5⟩ := DataW.trod_int Tryd.underlying3 e5
  have l6 := take_one hn5
  have e6 := hg 6 _ rfl
  obtain ⟨y6, hy6⟩ : ∃ y, xs[6]? = some y := ⟨xs[6], List.getElem?_eq_getElem (by omega)⟩
  rw [hy6] at e6
  change DataW.trod enc Tryd.prog W 0 (fun _ => true) true k 3 ((L.drop 7).take (Tryd.prog.cellsOf 3)) = _ at e6
  rw [Tryd.oc3] at e6
  obtain ⟨n6, hn6, -, w6⟩ := DataW.trod_int Tryd.underlying3 e6
  have l7 := take_one hn6
  have e7 := hg 7 _ rfl
  obtain ⟨y7, hy7⟩ : ∃ y, xs[7]? = some y := ⟨xs[7], List.getElem?_eq_getElem (by omega)⟩
  rw [hy7] at e7
  change DataW.trod enc Tryd.prog W 0 (fun _ => true) true k 3 ((L.drop 8).take (Tryd.prog.cellsOf 3)) = _ at e7
  rw [Tryd.oc3] at e7
  obtain ⟨n7, hn7, -, w7⟩ := DataW.trod_int Tryd.underlying3 e7
  have l8 := take_one hn7
  refine ⟨⟨nm, lv, cs, n2, n3, n4, n5, n6, n7⟩, ⟨hns, b1.1, by have := b1.2; show lv < 256; omega, b2.1, by have := b2.2; show cs < 65536; omega⟩, ?_⟩
  clear hg hg'
  match L, hl with
  | [a0, a1, a2, a3, a4, a5, a6, a7, a8], _ =>
    simp only [Nat.reduceAdd, List.getElem?_cons_succ, List.getElem?_cons_zero, Option.some.injEq] at l0 l1 l2 l3 l4 l5 l6 l7 l8
    subst l0 l1 l2 l3 l4 l5 l6 l7 l8
    rfl
set_option maxRecDepth 100000 in
theorem open_regs {H : Type} {enc : TypeId × Value → H} {W : World} {b0 : Nat} {v : Value} {d : DataW H} {p : List MemPlace} (hv : Value.okWide Tryd.prog W .any b0 22 v)
    (h : DataW.Trod enc Tryd.prog W 0 (fun _ => true) true 22 v d p) : ∃ rs, Regs W v rs ∧ ∀ r ∈ rs, r.ok := by
  obtain ⟨a0, len, cap, rfl⟩ := okWide_slice Tryd.underlying22 hv
  obtain ⟨fuel, hf⟩ := h
  rcases open_slice Tryd.underlying22 hf with ⟨hcs, _⟩ | ⟨a, len', cap', m, n, D, Pl, hcs, _, hl, hm, hmm, _, hi⟩
  · simp only [Value.cells, List.cons.injEq, and_true] at hcs
    injection hcs with h1 h2 h3
    subst h1 h2 h3
    exact ⟨[], .inl ⟨none, 0, rfl, rfl⟩, (by intro x hx; cases hx)⟩
  · simp only [Value.cells, List.cons.injEq, and_true] at hcs
    injection hcs with h1 h2 h3
    subst h1 h2 h3
    simp only [if_true] at hmm
    subst hmm
    have key : ∀ i, i < len → ∃ r : Rg, r.ok ∧ ∀ j, j < 9 → W.cell? ((a.add (i * 9)).add j) = r.cells[j]? := by
      intro i hil
      obtain ⟨cs', h1, h2⟩ := hi i (by omega)
      rw [Tryd.oc39] at h1
      obtain ⟨_, hlen, hcell⟩ := World.cells?_some h1
      obtain ⟨r, hok, rfl⟩ := reg_cells hlen h2
      exact ⟨r, hok, fun j hj => by have := hcell j (by omega); rw [this]⟩
    let lf : Nat → Rg := fun i => if h : i < len then Classical.choose (key i h) else zeroRg
    have hlf : ∀ i, i < len → (lf i).ok ∧ ∀ j, j < 9 → W.cell? ((a.add (i * 9)).add j) = (lf i).cells[j]? := by
      intro i hil
      simp only [lf, dif_pos hil]
      exact Classical.choose_spec (key i hil)
    have hln : ((List.range len).map lf).length = len := by simp
    refine ⟨(List.range len).map lf, ?_, fun r hr => ?_⟩
    · rcases Nat.eq_zero_or_pos len with h0 | h0
      · subst h0
        exact .inl ⟨some a, _, rfl, rfl⟩
      · have e0 := (hlf 0 h0).2 0 (by decide)
        have e0' : W.cell? ((a.add (0 * 9)).add 0) = some (.string (lf 0).nm) := e0
        have hsp := World.cell?_spot e0'
        have hbl := World.block_lt_of_cell? W _ e0'
        obtain ⟨ab, ao, asp⟩ := a
        simp only [Addr.add] at hsp hbl
        subst hsp
        have hc : ∀ i, i < len → ∀ j, j < 9 → W.cell? ⟨ab, ao + i * 9 + j, none⟩ = (lf i).cells[j]? := fun i hil j hj => by
          have := (hlf i hil).2 j hj
          rw [add_plain9, add_plain9] at this
          exact this
        have hg : ∀ i (hi : i < ((List.range len).map lf).length), ((List.range len).map lf)[i] = lf i := fun i hi => by simp
        refine .inr ⟨ab, ao, _, by rw [hln], hbl, by rw [hln]; omega, ?_⟩
        exact ⟨fun i hil => by rw [hg]; exact hc i (by omega) 0 (by decide), fun i hil => by rw [hg]; exact hc i (by omega) 1 (by decide), fun i hil => by rw [hg]; exact hc i (by omega) 2 (by decide), fun i hil => by rw [hg]; exact hc i (by omega) 3 (by decide), fun i hil => by rw [hg]; exact hc i (by omega) 4 (by decide), fun i hil => by rw [hg]; exact hc i (by omega) 5 (by decide), fun i hil => by rw [hg]; exact hc i (by omega) 6 (by decide), fun i hil => by rw [hg]; exact hc i (by omega) 7 (by decide), fun i hil => by rw [hg]; exact hc i (by omega) 8 (by decide)⟩
    · obtain ⟨i, hir, rfl⟩ := List.mem_map.1 hr
      exact (hlf i (List.mem_range.1 hir)).1
set_option maxRecDepth 100000 in
theorem open_marks {H : Type} {enc : TypeId × Value → H} {W : World} {b0 : Nat} {v : Value} {d : DataW H} {p : List MemPlace} (hv : Value.okWide Tryd.prog W .any b0 23 v)
    (h : DataW.Trod enc Tryd.prog W 0 (fun _ => true) true 23 v d p) : ∃ ms, Mks W v ms ∧ (∀ x ∈ ms, markOk x) ∧ ∀ a l c, v = .slice a l c → l ≤ c := by
  obtain ⟨a0, len, cap, rfl⟩ := okWide_slice Tryd.underlying23 hv
  obtain ⟨fuel, hf⟩ := h
  rcases open_slice_pairs Tryd.underlying23 Tryd.underlying34 Tryd.oc34 rfl rfl Tryd.cells5 Tryd.oc32 hf with ⟨hcs, _⟩ | ⟨a, len', cap', m, n, V0, V1, D0, D1, P0, P1, hcs, _, hl, hm, hmm, _, hi⟩
  · simp only [Value.cells, List.cons.injEq, and_true] at hcs
    injection hcs with h1 h2 h3
    subst h1 h2 h3
    exact ⟨[], .inl ⟨none, 0, rfl, rfl⟩, (by intro x hx; cases hx), fun a l c e => by injection e with e1 e2 e3; omega⟩
  · simp only [Value.cells, List.cons.injEq, and_true] at hcs
    injection hcs with h1 h2 h3
    subst h1 h2 h3
    simp only [if_true] at hmm
    subst hmm
    have key : ∀ i, i < len → ∃ x : Int × Int, W.cell? (a.add (i * 2)) = some (.int .u8 x.1) ∧ W.cell? (a.add (i * 2 + 1)) = some (.int .u16 x.2) ∧ markOk x := by
      intro i hil
      obtain ⟨e0, e1, t0, t1⟩ := hi i (by omega)
      obtain ⟨l, hl1, _, wl⟩ := DataW.trod_int Tryd.underlying5 t0
      obtain ⟨c, hc1, _, wc⟩ := DataW.trod_int Tryd.underlying32 t1
      simp at hl1 hc1
      have b1 := bounds_u8 wl
      have b2 := bounds_u16 wc
      exact ⟨(l, c), by rw [e0, hl1], by rw [e1, hc1], b1.1, by have := b1.2; show l < 256; omega, b2.1, by have := b2.2; show c < 65536; omega⟩
    let lf : Nat → Int × Int := fun i => if h : i < len then Classical.choose (key i h) else (0, 0)
    have hlf : ∀ i, i < len → W.cell? (a.add (i * 2)) = some (.int .u8 (lf i).1) ∧ W.cell? (a.add (i * 2 + 1)) = some (.int .u16 (lf i).2) ∧ markOk (lf i) := by
      intro i hil
      simp only [lf, dif_pos hil]
      exact Classical.choose_spec (key i hil)
    have hln : ((List.range len).map lf).length = len := by simp
    refine ⟨(List.range len).map lf, ?_, fun x hx => ?_, fun a l c e => by injection e with e1 e2 e3; omega⟩
    · rcases Nat.eq_zero_or_pos len with h0 | h0
      · subst h0
        exact .inl ⟨some a, _, rfl, rfl⟩
      · have e0 := (hlf 0 h0).1
        have hsp := World.cell?_spot e0
        have hbl := World.block_lt_of_cell? W _ e0
        obtain ⟨ab, ao, asp⟩ := a
        simp only [Addr.add] at hsp hbl
        subst hsp
        have hg : ∀ i (hi : i < ((List.range len).map lf).length), ((List.range len).map lf)[i] = lf i := fun i hi => by simp
        refine .inr ⟨ab, ao, _, by rw [hln], hbl, by rw [hln]; omega, ⟨fun i hil => ?_, fun i hil => ?_⟩⟩
        · rw [hg]
          have := (hlf i (by omega)).1
          rw [add_plain9] at this; exact this
        · rw [hg]
          have := (hlf i (by omega)).2.1
          rw [add_plain9] at this; simpa [Nat.add_assoc] using this
    · obtain ⟨i, hir, rfl⟩ := List.mem_map.1 hx
      exact (hlf i (List.mem_range.1 hir)).2.2
end Go.Proofs.YtbjniddikgcaeaaDoor
