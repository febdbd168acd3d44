import Derived.Test.YtlbfdmiihnlljaaX9
import Derived.Test.YtlbfdmiihnlljaaE14
/- Slices of a transaction's lists; its blocks as cells; the answer's transaction half way through a Put. -/
namespace Go.Proofs.Ytlbfdmiihnlljaa
set_option linter.unusedSimpArgs false
set_option linter.unusedVariables false
open Go.RowKit Go.Maps

theorem sl_lo {P : Program} (ty e : TypeId) (i : TypeInfo) (b n cap k : Nat) (hu : P.underlying ty = some (.slice e)) (hi : P.info? e = some i) (hk : k ≤ cap) (w : World) :
    (Instr.slice ty (.slice (some ⟨b, 0, none⟩) n cap) none (some (.int .i64 (k : Int))) none).run P w = .ok (.slice (some ⟨b, 0, none⟩) k cap) w := by
  have h1 : ((k : Int) ≤ (cap : Int)) := by omega
  simp [Instr.slice, Instr.sliceBounds, Instr.sliceBound, run_underlying hu, asIntOf, h1, sizeOf, typeInfo, hi, Addr.add]
  intro hh
  omega
/-- where what is behind k begins -/
def hiOff (cap k size : Nat) : Nat := if cap = k then 0 else k * size
theorem sl_hi {P : Program} (ty e : TypeId) (i : TypeInfo) (b n cap k : Nat) (hu : P.underlying ty = some (.slice e)) (hi : P.info? e = some i) (hk : k ≤ n) (w : World) :
    (Instr.slice ty (.slice (some ⟨b, 0, none⟩) n cap) (some (.int .i64 (k : Int))) none none).run P w = .ok (.slice (some ⟨b, hiOff cap k i.size, none⟩) (n - k) (cap - k)) w := by
  have h1 : ((k : Int) ≤ (n : Int)) := by omega
  unfold hiOff
  by_cases h : cap = k
  · simp [Instr.slice, Instr.sliceBounds, Instr.sliceBound, run_underlying hu, asIntOf, h1, sizeOf, typeInfo, hi, h]
    intro hh
    omega
  · simp [Instr.slice, Instr.sliceBounds, Instr.sliceBound, run_underlying hu, asIntOf, h1, sizeOf, typeInfo, hi, h, Addr.add]
    rw [if_pos hk]
    by_cases h0 : k * i.size = 0
    · rw [if_pos h0, h0]
    · rw [if_neg h0]
theorem sl_lo0 {P : Program} (ty e : TypeId) (i : TypeInfo) (hu : P.underlying ty = some (.slice e)) (hi : P.info? e = some i) (w : World) :
    (Instr.slice ty (.slice none 0 0) none (some (.int .i64 0)) none).run P w = .ok (.slice none 0 0) w := by
  simp [Instr.slice, Instr.sliceBounds, Instr.sliceBound, run_underlying hu, asIntOf, sizeOf, typeInfo, hi]
theorem sl_hi0 {P : Program} (ty e : TypeId) (i : TypeInfo) (hu : P.underlying ty = some (.slice e)) (hi : P.info? e = some i) (w : World) :
    (Instr.slice ty (.slice none 0 0) (some (.int .i64 0)) none none).run P w = .ok (.slice none 0 0) w := by
  simp [Instr.slice, Instr.sliceBounds, Instr.sliceBound, run_underlying hu, asIntOf, sizeOf, typeInfo, hi]
theorem yields_lo {P : Program} {ops : Array Oper} {o : Oper} {a : Act} {S : World → Prop} (hw : Region.wanted o (yielded ops a.tmps) = true) (ty e : TypeId) (hu : P.underlying ty = some (.slice e)) (x y : Operand) (ho : o.op = .slice ty x none (some y) none) (vx vy v : Value) (hx : a.eval x = vx) (hy : a.eval y = vy)
    (hr : ∀ w, (Instr.slice ty vx none (some vy) none).run P w = .ok v w) : YieldsIf P ops S o v a :=
  .inl ⟨hw, fun w _ => by
    have hrun := hr w
    unfold execOp
    simp [ho, hx, hy, Instr.sliceAt, run_underlying hu, hrun, Result.andThen]⟩
theorem yields_hi {P : Program} {ops : Array Oper} {o : Oper} {a : Act} {S : World → Prop} (hw : Region.wanted o (yielded ops a.tmps) = true) (ty e : TypeId) (hu : P.underlying ty = some (.slice e)) (x y : Operand) (ho : o.op = .slice ty x (some y) none none) (vx vy v : Value) (hx : a.eval x = vx) (hy : a.eval y = vy)
    (hr : ∀ w, (Instr.slice ty vx (some vy) none none).run P w = .ok v w) : YieldsIf P ops S o v a :=
  .inl ⟨hw, fun w _ => by
    have hrun := hr w
    unfold execOp
    simp [ho, hx, hy, Instr.sliceAt, run_underlying hu, hrun, Result.andThen]⟩

/-- a transaction's blocks as cells -/
def flatB (T : TS) : List Value := T.flatMap fun p => byts 64 p.2
theorem flatB_cons (p : Nat × (Nat → Int)) (r : TS) : flatB (p :: r) = byts 64 p.2 ++ flatB r := rfl
theorem flatB_append (T U : TS) : flatB (T ++ U) = flatB T ++ flatB U := by simp [flatB]
theorem flatB_len : ∀ T : TS, (flatB T).length = T.length * 64
  | [] => rfl
  | p :: r => by rw [flatB_cons, List.length_append, byts_len, flatB_len r, List.length_cons]; omega
theorem flatB_at : ∀ (T : TS) (i : Nat) (h : i < T.length) (j : Nat), j < 64 → (flatB T)[i * 64 + j]? = some (.int .u8 (T[i].2 j))
  | p :: r, 0, h, j, hj => by
    rw [flatB_cons, List.getElem?_append_left (by rw [byts_len]; omega), Nat.zero_mul, Nat.zero_add, byts_get _ hj]
    rfl
  | p :: r, i + 1, h, j, hj => by
    have := flatB_at r i (by simpa using h) j hj
    rw [flatB_cons, List.getElem?_append_right (by rw [byts_len]; omega), byts_len, show (i + 1) * 64 + j - 64 = i * 64 + j by omega, this]
    rfl
theorem flatB_one (T : TS) : ∀ v ∈ flatB T, v.oneCell' = true := by
  intro v hv
  unfold flatB at hv
  obtain ⟨p, _, hp⟩ := List.mem_flatMap.1 hv
  exact byts_one _ _ v hp
theorem flatB_of {T : TS} {j : Nat} {v : Value} (h : (flatB T)[j]? = some v) : ∃ (i : Nat) (hi : i < T.length), j = i * 64 + j % 64 ∧ j % 64 < 64 ∧ v = .int .u8 (T[i].2 (j % 64)) := by
  have hl : j < (flatB T).length := (List.getElem?_eq_some_iff.1 h).1
  rw [flatB_len] at hl
  have hm : j % 64 < 64 := Nat.mod_lt _ (by decide)
  have hi : j / 64 < T.length := by omega
  have hj : j = j / 64 * 64 + j % 64 := by omega
  refine ⟨j / 64, hi, hj, hm, ?_⟩
  have := flatB_at T (j / 64) hi (j % 64) hm
  rw [← hj, h] at this
  exact Option.some.inj this
theorem ownsRow_bv {w : World} {base : Nat} {v : Value} {T : TS} (h : w.ownsRow base 50 64 v T.length (flatB T)) : Bv w v T ∧ ∀ k, v.ownBlock = some k → base ≤ k := by
  refine ⟨?_, ownsRow_block h⟩
  obtain ⟨hl, ⟨hv, hn⟩ | ⟨g, cap, cur, hv, hg, hh, hc, hm, hs, ht⟩⟩ := h
  · exact .inl ⟨none, 0, hv, List.eq_nil_of_length_eq_zero hn⟩
  · have hlt : g < w.heap.size := (Array.getElem?_eq_some_iff.1 hh).1
    refine .inr ⟨g, cap, hv, hlt, fun i hi j hj => ?_⟩
    have hx : (cur.toList.take (T.length * 64))[i * 64 + j]? = (flatB T)[i * 64 + j]? := by rw [ht]
    rw [List.getElem?_take_of_lt (by omega), flatB_at T i hi j hj] at hx
    refine ⟨?_, ?_⟩
    · simp only [World.cell?, hh]
      simpa using hx
    · simp only [World.frozen?, hh]
      simp
/-- nil, or a block of its own -/
def NF (v : Value) (n : Nat) : Prop := (v = .slice none 0 0 ∧ n = 0) ∨ (0 < n ∧ ∃ b cap, v = .slice (some ⟨b, 0, none⟩) n cap ∧ n ≤ cap)
theorem ownsRow_nf {w : World} {base : Nat} {e : TypeId} {size n : Nat} {v : Value} {xs : List Value} (h : w.ownsRow base e size v n xs) (h0 : 0 < n) : NF v n := by
  obtain ⟨hl, ⟨hv, hn⟩ | ⟨g, cap, cur, hv, hg, hh, hc, r⟩⟩ := h
  · omega
  · exact .inr ⟨h0, g, cap, hv, hc⟩
def keyV (T : TS) : List Value := (keys T).map fun (k : Nat) => Value.int .i64 (k : Int)
theorem keyV_len (T : TS) : (keyV T).length = T.length := by simp [keyV, keys]
theorem keyV_take (T : TS) (k : Nat) : keyV (T.take k) = (keyV T).take k := by simp [keyV, keys, List.map_take]
theorem keyV_drop (T : TS) (k : Nat) : keyV (T.drop k) = (keyV T).drop k := by simp [keyV, keys, List.map_drop]
theorem keyV_one (T : TS) : ∀ v ∈ keyV T, v.oneCell' = true := by
  intro v hv
  unfold keyV at hv
  obtain ⟨k, _, rfl⟩ := List.mem_map.1 hv
  rfl
theorem flatB_take (T : TS) (k : Nat) (hk : k ≤ T.length) (j : Nat) (v : Value) (h : (flatB (T.take k))[j]? = some v) : (flatB T)[j]? = some v := by
  have : flatB T = flatB (T.take k) ++ flatB (T.drop k) := by rw [← flatB_append, List.take_append_drop]
  rw [this, List.getElem?_append_left (List.getElem?_eq_some_iff.1 h).1]
  exact h
theorem flatB_drop (T : TS) (k : Nat) (hk : k ≤ T.length) (j : Nat) (v : Value) (h : (flatB (T.drop k))[j]? = some v) : (flatB T)[k * 64 + j]? = some v := by
  have : flatB T = flatB (T.take k) ++ flatB (T.drop k) := by rw [← flatB_append, List.take_append_drop]
  have hl : (flatB (T.take k)).length = k * 64 := by rw [flatB_len, List.length_take, Nat.min_eq_left hk]
  rw [this, List.getElem?_append_right (by omega), hl, show k * 64 + j - k * 64 = j by omega]
  exact h
theorem Bv.cells {w : World} {b cap : Nat} {T : TS} (h : Bv w (.slice (some ⟨b, 0, none⟩) T.length cap) T) (j : Nat) (v : Value) (hj : (flatB T)[j]? = some v) : w.cell? ⟨b, j, none⟩ = some v := by
  obtain ⟨i, hi, hj1, hj2, rfl⟩ := flatB_of hj
  rcases h with ⟨_, _, _, rfl⟩ | ⟨b', cap', hv, hlt, hc⟩
  · simp at hi
  · injection hv with e1 e2 e3
    injection e1 with e1
    injection e1 with e1
    subst e1
    rw [hj1]
    have e : (i * 64 + j % 64) % 64 = j % 64 := by omega
    rw [e]
    exact (hc i hi (j % 64) hj2).1
theorem Ns.cells {w : World} {b cap : Nat} {T : TS} (h : Ns w (.slice (some ⟨b, 0, none⟩) T.length cap) (keys T)) (j : Nat) (v : Value) (hj : (keyV T)[j]? = some v) : w.cell? ⟨b, j, none⟩ = some v := by
  have hl : j < (keyV T).length := (List.getElem?_eq_some_iff.1 hj).1
  rw [keyV_len] at hl
  have hkl : (keys T).length = T.length := by simp [keys]
  rcases h with ⟨_, _, _, h0⟩ | ⟨b', off, cap', hv, hlt, hm, hc⟩
  · rw [← hkl, h0] at hl; simp at hl
  · injection hv with e1 e2 e3
    injection e1 with e1
    injection e1 with e1 e4
    subst e1
    subst e4
    have := hc j (by omega)
    rw [Nat.zero_add] at this
    rw [this]
    have h2 : (keyV T)[j]? = some (.int .i64 ((keys T)[j]'(by omega) : Nat)) := by
      unfold keyV
      rw [List.getElem?_map, List.getElem?_eq_getElem (by omega)]
      rfl
    rw [h2] at hj
    exact hj
theorem keyV_put (T : TS) (n : Nat) (f : Nat → Int) (h : find T n = none) : keyV (put n f T) = (keyV (T.take (cnt n T)) ++ [Value.int .i64 (n : Int)]) ++ keyV (T.drop (cnt n T)) := by
  rw [put_none n f T h]
  simp [keyV, keys]
theorem flatB_put (T : TS) (n : Nat) (f : Nat → Int) (h : find T n = none) : flatB (put n f T) = (flatB (T.take (cnt n T)) ++ byts 64 f) ++ flatB (T.drop (cnt n T)) := by
  rw [put_none n f T h, flatB_append, flatB_cons, List.append_assoc]
theorem put_len_none (T : TS) (n : Nat) (f : Nat → Int) (h : find T n = none) : (put n f T).length = T.length + 1 := by
  have := cnt_le n T
  rw [put_none n f T h]
  simp
  omega
end Go.Proofs.Ytlbfdmiihnlljaa
