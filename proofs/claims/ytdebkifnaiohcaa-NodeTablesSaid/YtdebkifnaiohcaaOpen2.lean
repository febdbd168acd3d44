import Derived.Test.YtdebkifnaiohcaaOpen
import Derived.Test.YtdebkifnaiohcaaG15
/- A node, and a block's bytes, as handed in. -/
namespace Go.Proofs.Ytdebkifnaiohcaa
set_option linter.unusedSimpArgs false
set_option linter.unusedVariables false
open Go.ChangeShapes Go.WideShapes Go.ChangeAt Go.RowKit Go.Deep

theorem trod_arrN {H : Type} {enc : TypeId × Value → H} {P : Program} {w : World} {base : Nat} {sp : Nat → Bool} {held : Bool} {fuel : Nat} {t e : TypeId} {n : Nat} {cs : List Value} {x : DataW H × List MemPlace}
    (ht : P.underlying t = some (.array n e)) (h : DataW.trod enc P w base sp held fuel t cs = some x) :
    cs.length = P.cellsOf t ∧ ∃ (f : Nat) (xs : List (DataW H × List MemPlace)), x = (.agg (xs.map (·.1)), xs.flatMap (·.2)) ∧ xs.length = n ∧ ∀ i, i < n → ∃ y, xs[i]? = some y ∧ DataW.trod enc P w base sp held f e ((cs.drop (i * P.cellsOf e)).take (P.cellsOf e)) = some y := by
  cases fuel with
  | zero => simp [DataW.trod] at h
  | succ fuel =>
    simp only [DataW.trod, ht] at h
    split at h
    · rename_i hl
      obtain ⟨xs, hm, hx⟩ := Option.map_eq_some_iff.1 h
      refine ⟨hl, fuel, xs, hx.symm, by simpa using Lib.mapM_length hm, fun i hi => ?_⟩
      exact Lib.mapM_at hm i i (by simp [hi])
    · cases h

theorem take_oneN {L : List Value} {i : Nat} {v : Value} (h : (L.drop i).take 1 = [v]) : L[i]? = some v := by
  have := congrArg (·[0]?) h
  simpa [List.getElem?_take, List.getElem?_drop] using this

set_option maxRecDepth 100000 in
theorem okWide_agg27 {W : World} {b0 : Nat} {v : Value} (hv : Value.okWide Try.prog W .any b0 27 v) : ∃ L : List Value, v = .agg L.toArray := by
  obtain ⟨cs, rfl, -⟩ := okWide_struct Try.underlying27 hv
  exact ⟨cs.toList, by simp⟩

set_option maxRecDepth 100000 in
theorem open_nd {H : Type} {enc : TypeId × Value → H} {W : World} {b0 : Nat} {v : Value} {d : DataW H} {p : List MemPlace} (hv : Value.okWide Try.prog W .any b0 27 v)
    (h : DataW.Trod enc Try.prog W 0 (fun _ => true) true 27 v d p) : ∃ f, v = .agg (ndc f).toArray ∧ NdOk f := by
  obtain ⟨L, rfl⟩ := okWide_agg27 hv
  obtain ⟨fuel, hf⟩ := h
  have hc : (Value.agg L.toArray).cells.toList = L := rfl
  rw [hc] at hf
  obtain ⟨xs, n, hn', hx, hlL, hlen, hg⟩ := DataW.trod_struct Try.underlying27 hf
  have hl : L.length = 12 := by rw [hlL, Try.cl27]
  clear hlL hf hn' hx
  have hsz : xs.length = 7 := hlen
  have e0 := hg 0 _ rfl
  obtain ⟨y0, hy0⟩ : ∃ y, xs[0]? = some y := ⟨xs[0], List.getElem?_eq_getElem (by omega)⟩
  rw [hy0] at e0
  change DataW.trod enc Try.prog W 0 (fun _ => true) true n 22 ((L.drop 0).take (Try.prog.cellsOf 22)) = _ at e0
  rw [Try.cl22] at e0
  obtain ⟨z0, hz0, -, wz0⟩ := DataW.trod_int Try.underlying22 e0
  have l0 := take_oneN hz0
  have q0 := bounds_u8 wz0
  have e1 := hg 1 _ rfl
  obtain ⟨y1, hy1⟩ : ∃ y, xs[1]? = some y := ⟨xs[1], List.getElem?_eq_getElem (by omega)⟩
  rw [hy1] at e1
  change DataW.trod enc Try.prog W 0 (fun _ => true) true n 5 ((L.drop 1).take (Try.prog.cellsOf 5)) = _ at e1
  rw [Try.cl5] at e1
  obtain ⟨z1, hz1, -, wz1⟩ := DataW.trod_int Try.underlying5 e1
  have l1 := take_oneN hz1
  have q1 := bounds_u8 wz1
  have e2 := hg 2 _ rfl
  obtain ⟨y2, hy2⟩ : ∃ y, xs[2]? = some y := ⟨xs[2], List.getElem?_eq_getElem (by omega)⟩
  rw [hy2] at e2
  change DataW.trod enc Try.prog W 0 (fun _ => true) true n 23 ((L.drop 2).take (Try.prog.cellsOf 23)) = _ at e2
  rw [Try.cl23] at e2
  obtain ⟨z2, hz2, -, wz2⟩ := DataW.trod_int Try.underlying23 e2
  have l2 := take_oneN hz2
  have q2 := bounds_u16 wz2
  have e3 := hg 3 _ rfl
  obtain ⟨y3, hy3⟩ : ∃ y, xs[3]? = some y := ⟨xs[3], List.getElem?_eq_getElem (by omega)⟩
  rw [hy3] at e3
  change DataW.trod enc Try.prog W 0 (fun _ => true) true n 24 ((L.drop 3).take (Try.prog.cellsOf 24)) = _ at e3
  rw [Try.cl24] at e3
  obtain ⟨z3, hz3, -, wz3⟩ := DataW.trod_int Try.underlying24 e3
  have l3 := take_oneN hz3
  have q3 := bounds_u32 wz3
  have e4 := hg 4 _ rfl
  obtain ⟨y4, hy4⟩ : ∃ y, xs[4]? = some y := ⟨xs[4], List.getElem?_eq_getElem (by omega)⟩
  rw [hy4] at e4
  change DataW.trod enc Try.prog W 0 (fun _ => true) true n 25 ((L.drop 4).take (Try.prog.cellsOf 25)) = _ at e4
  rw [Try.cl25] at e4
  obtain ⟨-, fu, ys, -, -, ha⟩ := trod_arrN Try.underlying25 e4
  have key : ∀ j, j < 6 → ∃ z, L[4 + j]? = some (.int .u16 z) ∧ 0 ≤ z ∧ z < 65536 := by
    intro j hj
    obtain ⟨y', -, hy'⟩ := ha j hj
    rw [Try.cl23] at hy'
    obtain ⟨z, hz, -, wz⟩ := DataW.trod_int Try.underlying23 hy'
    have ez := take_oneN hz
    have bz := bounds_u16 wz
    refine ⟨z, ?_, by omega, by omega⟩
    rw [List.getElem?_take_of_lt (by omega), List.getElem?_drop] at ez
    rw [← ez]
    congr 1
    omega
  have e5 := hg 5 _ rfl
  obtain ⟨y5, hy5⟩ : ∃ y, xs[5]? = some y := ⟨xs[5], List.getElem?_eq_getElem (by omega)⟩
  rw [hy5] at e5
  change DataW.trod enc Try.prog W 0 (fun _ => true) true n 23 ((L.drop 10).take (Try.prog.cellsOf 23)) = _ at e5
  rw [Try.cl23] at e5
  obtain ⟨z5, hz5, -, wz5⟩ := DataW.trod_int Try.underlying23 e5
  have l5 := take_oneN hz5
  have q5 := bounds_u16 wz5
  have e6 := hg 6 _ rfl
  obtain ⟨y6, hy6⟩ : ∃ y, xs[6]? = some y := ⟨xs[6], List.getElem?_eq_getElem (by omega)⟩
  rw [hy6] at e6
  change DataW.trod enc Try.prog W 0 (fun _ => true) true n 23 ((L.drop 11).take (Try.prog.cellsOf 23)) = _ at e6
  rw [Try.cl23] at e6
  obtain ⟨z6, hz6, -, wz6⟩ := DataW.trod_int Try.underlying23 e6
  have l6 := take_oneN hz6
  have q6 := bounds_u16 wz6
  obtain ⟨d0, m0, b0⟩ := key 0 (by decide)
  obtain ⟨d1, m1, b1⟩ := key 1 (by decide)
  obtain ⟨d2, m2, b2⟩ := key 2 (by decide)
  obtain ⟨d3, m3, b3⟩ := key 3 (by decide)
  obtain ⟨d4, m4, b4⟩ := key 4 (by decide)
  obtain ⟨d5, m5, b5⟩ := key 5 (by decide)
  refine ⟨fun i => if i = 0 then z0 else if i = 1 then z1 else if i = 2 then z2 else if i = 3 then z3 else if i = 4 then d0 else if i = 5 then d1 else if i = 6 then d2 else if i = 7 then d3 else if i = 8 then d4 else if i = 9 then d5 else if i = 10 then z5 else z6, ?_, ⟨by simp only [ite_true]; omega, by simp; omega, by simp; omega, by simp; omega, ?_⟩⟩
  · clear hg
    simp only [Nat.reduceAdd] at m0 m1 m2 m3 m4 m5
    have hL : ∃ a0 a1 a2 a3 a4 a5 a6 a7 a8 a9 a10 a11, L = [a0, a1, a2, a3, a4, a5, a6, a7, a8, a9, a10, a11] := by
      match L, hl with
      | [a0, a1, a2, a3, a4, a5, a6, a7, a8, a9, a10, a11], _ => exact ⟨_, _, _, _, _, _, _, _, _, _, _, _, rfl⟩
    obtain ⟨a0, a1, a2, a3, a4, a5, a6, a7, a8, a9, a10, a11, rfl⟩ := hL
    simp only [List.getElem?_cons_succ, List.getElem?_cons_zero, Option.some.injEq] at l0 l1 l2 l3 l5 l6 m0 m1 m2 m3 m4 m5
    subst l0 l1 l2 l3 l5 l6 m0 m1 m2 m3 m4 m5
    rfl
  · intro i h1 h2
    have hi : i = 4 ∨ i = 5 ∨ i = 6 ∨ i = 7 ∨ i = 8 ∨ i = 9 ∨ i = 10 ∨ i = 11 := by omega
    rcases hi with rfl | rfl | rfl | rfl | rfl | rfl | rfl | rfl <;> simp <;> omega

theorem Try.cl28 : Try.prog.cellsOf 28 = 32 := by kernel_rfl
set_option maxRecDepth 100000 in
theorem open_b32 {H : Type} {enc : TypeId × Value → H} {W : World} {b0 : Nat} {v : Value} {d : DataW H} {p : List MemPlace} (hv : Value.okWide Try.prog W .any b0 28 v)
    (h : DataW.Trod enc Try.prog W 0 (fun _ => true) true 28 v d p) : ∃ f, v = .agg (byts 32 f).toArray ∧ Byt32 f := by
  simp only [Value.okWide, Try.underlying28] at hv
  obtain ⟨cs, rfl, -⟩ := hv
  obtain ⟨L, rfl⟩ : ∃ L : List Value, cs = L.toArray := ⟨cs.toList, by simp⟩
  obtain ⟨fuel, hf⟩ := h
  have hc : (Value.agg L.toArray).cells.toList = L := rfl
  rw [hc] at hf
  obtain ⟨hl, fu, ys, -, -, ha⟩ := trod_arrN Try.underlying28 hf
  rw [Try.cl28] at hl
  have key : ∀ j, j < 32 → ∃ z, L[j]? = some (.int .u8 z) ∧ 0 ≤ z ∧ z < 256 := by
    intro j hj
    obtain ⟨y', -, hy'⟩ := ha j hj
    rw [Try.cl5, Nat.mul_one] at hy'
    obtain ⟨z, hz, -, wz⟩ := DataW.trod_int Try.underlying5 hy'
    have bz := bounds_u8 wz
    exact ⟨z, take_oneN hz, by omega, by omega⟩
  refine ⟨fun i => Go.RowKit.intOf ((L[i]?).getD undef), ?_, fun i hi => ?_⟩
  · congr 2
    apply List.ext_getElem?
    intro i
    by_cases hi : i < 32
    · obtain ⟨z, hz, -⟩ := key i hi
      rw [byts_get _ hi, hz]
      rfl
    · rw [List.getElem?_eq_none (by omega), List.getElem?_eq_none (by rw [byts_len]; omega)]
  · obtain ⟨z, hz, hb⟩ := key i hi
    simp only [hz]
    exact hb
end Go.Proofs.Ytdebkifnaiohcaa
