import Derived.Test.YtdebkifnaiohcaaE8
import Derived.Test.YtdebkifnaiohcaaG12
import Derived.Test.YtdebkifnaiohcaaH1
/- A map of nodes. -/
namespace Go.Proofs.Ytdebkifnaiohcaa
set_option linter.unusedSimpArgs false
set_option linter.unusedVariables false
open Go.RowKit Go.Maps

/-- a node as a value -/
def nv (f : Nat → Int) : Value := .agg (ndc f).toArray
def entn (p : Nat × (Nat → Int)) : Lit × DataW Value := (.int .i64 p.1, .held (nv p.2))
def datn (T : TS) : DataW Value := .map (T.map entn)
theorem has_datn (T : TS) (k : Int) : Maps.has (datn T) (.int .i64 k) = (find T k).isSome := by
  induction T with
  | nil => rfl
  | cons p r ih =>
    have ih' : (r.map entn).any (fun q => q.1.sameKey (.int .i64 k)) = (find r k).isSome := ih
    show (List.any (entn p :: r.map entn) fun q => q.1.sameKey (.int .i64 k)) = _
    rw [List.any_cons, ih']
    show ((Lit.int .i64 p.1).sameKey (.int .i64 k) || _) = _
    rw [sameKey_int]
    unfold find
    by_cases h : (p.1 : Int) = k <;> simp [List.find?_cons, h]
theorem atKey_datn (T : TS) (k : Int) (zd : DataW Value) : (datn T).atKey (.int .i64 k) zd = (find T k).elim zd fun f => .held (nv f) := by
  induction T with
  | nil => rfl
  | cons p r ih =>
    have e : (entn p).1.sameKey (.int .i64 k) = decide ((p.1 : Int) = k) := sameKey_int _ _
    simp only [datn, DataW.atKey, find, List.map_cons, List.find?_cons, e] at ih ⊢
    by_cases h : (p.1 : Int) = k
    · simp [h, entn]
    · simpa [h] using ih
theorem size_datn (T : TS) : Maps.size (datn T) = T.length := by simp [datn, Maps.size]
theorem filter_aboven (k : Nat) : ∀ r : TS, (∀ p ∈ r, k < p.1) → (r.map entn).filter (fun p => !p.1.sameKey (.int .i64 (k : Int))) = r.map entn := by
  intro r h
  rw [List.filter_eq_self]
  intro q hq
  obtain ⟨p, hp, rfl⟩ := List.mem_map.1 hq
  have := h p hp
  show (!(Lit.int .i64 (p.1 : Int)).sameKey _) = true
  rw [sameKey_int]
  simp
  omega
theorem insert_aboven (k : Nat) (f : Nat → Int) : ∀ r : TS, (∀ p ∈ r, k < p.1) → DataW.insert (entn (k, f)) (r.map entn) = entn (k, f) :: r.map entn
  | [], _ => rfl
  | p :: r, h => by
    rw [List.map_cons, DataW.insert]
    have : (entn (k, f)).1.before (entn p).1 = true := by
      show (Lit.int .i64 (k : Int)).before (.int .i64 (p.1 : Int)) = true
      rw [before_int]
      exact decide_eq_true (h p (by simp))
    rw [if_pos this]
theorem put_datn (T : TS) (h : Rise T) (k : Nat) (f : Nat → Int) : (datn T).put (.int .i64 (k : Int)) (.held (nv f)) = datn (put k f T) := by
  unfold datn DataW.put
  refine congrArg DataW.map ?_
  show DataW.insert (entn (k, f)) _ = _
  induction T with
  | nil => rfl
  | cons p r ih =>
    obtain ⟨h1, h2⟩ := List.pairwise_cons.1 h
    have e : (entn p).1.sameKey (.int .i64 (k : Int)) = decide ((p.1 : Int) = k) := sameKey_int _ _
    unfold put
    rw [List.map_cons, List.filter_cons, e]
    by_cases c1 : k < p.1
    · rw [if_pos c1, if_pos (by simp; omega), filter_aboven k r (fun q hq => by have := h1 q hq; omega)]
      exact insert_aboven k f (p :: r) (by intro q hq; rcases List.mem_cons.1 hq with rfl | hq; exact c1; have := h1 q hq; omega)
    · rw [if_neg c1]
      by_cases c2 : k = p.1
      · rw [if_pos c2, if_neg (by simp; omega), filter_aboven k r (fun q hq => by have := h1 q hq; omega)]
        exact insert_aboven k f r (fun q hq => by have := h1 q hq; omega)
      · rw [if_neg c2, if_pos (by simp; omega), DataW.insert]
        have : (entn (k, f)).1.before (entn p).1 = false := by
          show (Lit.int .i64 (k : Int)).before (.int .i64 (p.1 : Int)) = false
          rw [before_int]
          exact decide_eq_false c1
        rw [if_neg (by rw [this]; decide), ih h2]
        rfl
def Mn (w : World) (m : Nat) (T : TS) : Prop := w.ownsMap Try.prog 3 RV m T.length (datn T) ∧ Rise T
theorem ownsMap_tightn {w : World} {b n : Nat} {T : TS} (h : w.ownsMap Try.prog 3 RV b n (datn T)) : w.ownsMap Try.prog 3 RV b T.length (datn T) := by
  obtain ⟨es, clock, hb, F, _, hD⟩ := h
  refine ⟨es, clock, hb, F, ?_, hD⟩
  have := congrArg Maps.size hD
  rw [size_datn] at this
  rw [this]
  simp [Maps.size, length_sorted]
theorem Mn.lt {w : World} {m : Nat} {T : TS} (h : Mn w m T) : m < w.heap.size := h.1.lt
theorem Mn.block {w w' : World} {m : Nat} {T : TS} (h : Mn w m T) (hb : w'.heap[m]? = w.heap[m]?) : Mn w' m T := by
  obtain ⟨⟨es, clock, hb', r⟩, hr⟩ := h
  exact ⟨⟨es, clock, hb.trans hb', r⟩, hr⟩
theorem Mn.below {w w' : World} {B m : Nat} {T : TS} (h : Mn w m T) (hb : Below B w w') (hm : m < B) : Mn w' m T := h.block (hb.block m hm)
theorem Mn.keep {w w' : World} {m : Nat} {T : TS} (h : Mn w m T) (hb : Below w.heap.size w w') : Mn w' m T := h.below hb h.lt
theorem Mn.kp {w w' : World} {a b m : Nat} {T : TS} (h : Mn w m T) (hb : Kp w w' a b) (h1 : m ≠ a) (h2 : m ≠ b) : Mn w' m T := h.block (hb.block m h.lt h1 h2)
theorem Mn.new (w : World) : Mn (w.alloc (.map #[] 0)) w.heap.size [] := ⟨World.ownsMap_made w Try.prog 3 RV, List.Pairwise.nil⟩
theorem Mn.kf {w w' : World} {m : Nat} {T : TS} {L : List Nat} (h : Mn w m T) (hb : Kf w w' L) (h1 : m ∉ L) : Mn w' m T := h.block (hb.block m h.lt h1)
theorem Try.zeroNode (w : World) : (zeroValue 27).run Try.prog w = .ok (nv zpt) w := by kernel_rfl
theorem Mn.look1 {w : World} {m : Nat} {T : TS} (h : Mn w m T) (k : Int) (h0 : -9223372036854775808 ≤ k) (h1 : k < 9223372036854775808) :
    (Instr.lookup 57 (.map (some m)) (.int .i64 k) false).run Try.prog w = .ok (nv ((find T k).getD zpt)) w := by
  obtain ⟨v, ps, hrun, hv⟩ := h.1.lookup Try.lawInt Try.underlying57 (Try.zeroNode w) (zd := .held (nv zpt)) (zp := []) rfl (key_is k h0 h1)
  rw [atKey_datn] at hv
  rw [hrun]
  have : v = nv ((find T k).getD zpt) := by
    unfold RV at hv
    cases hf : find T k with
    | none => rw [hf] at hv; simpa using (show v = _ ∧ ps = [] by simpa using hv).1
    | some f => rw [hf] at hv; simpa using (show v = _ ∧ ps = [] by simpa using hv).1
  rw [this]
theorem Mn.put {w : World} {m : Nat} {T : TS} (h : Mn w m T) (k : Nat) (f : Nat → Int) (hk : k ≤ 65536) (hn : T.length < 5000) :
    ∃ w', (Instr.mapUpdate 57 (.map (some m)) (.int .i64 k) (nv f)).run Try.prog w = .ok () w' ∧ Mn w' m (put k f T) ∧ Kp w w' m m := by
  obtain ⟨w', hrun, h1, h2⟩ := h.1.store Try.lawInt Try.underlying57 (by unfold maxLen; omega) (key_is k (by omega) (by omega)) (val := nv f) (d := .held (nv f)) (ps := []) rfl
  rw [put_datn T h.2 k f] at h1
  have hg := h2.grown
  exact ⟨w', hrun, ⟨ownsMap_tightn h1, put_rise k f T h.2⟩, ⟨hg.os, hg.tape, hg.output, hg.size, fun i hi h3 _ => hg.block i hi (by simpa using h3)⟩⟩
section
variable {ops : Array Oper} {rest : List Oper} {o : Oper} {a : Act} {w : World} {Q : Exit → Act → World → Prop}
theorem wpList_put_mn (hg : o.guard = none) (x y z : Operand) (ho : o.op = .mapUpdate 57 x y z) (m : Nat) (T : TS) (h : Mn w m T) (hx : a.eval x = .map (some m)) (k : Nat) (hy : a.eval y = .int .i64 k) (f : Nat → Int) (hz : a.eval z = .agg (ndc f).toArray) (hk : k ≤ 65536) (hn : T.length < 5000)
    (hK : ∀ w', Hid (Mn w' m (put k f T)) → Hid (Kp w w' m m) → wpList Try.prog ops Q rest (a.put o.dst undef) w') : wpList Try.prog ops Q (o :: rest) a w := by
  refine wpList_plain hg fun K' hK' => ?_
  obtain ⟨w', hrun, h1, h2⟩ := h.put k f hk hn
  unfold Oper.wp
  have hz' : a.eval z = nv f := hz
  simp [execOp, ho, hx, hy, hz', hrun, Result.andThen]
  exact hK' _ _ (hK w' h1 h2)
theorem yields_look_mn {S : World → Prop} (hw : Region.wanted o (yielded ops a.tmps) = true) (x y : Operand) (ho : o.op = .lookup 57 x y false) (m : Nat) (T : TS) (hS : ∀ W, S W → Mn W m T) (hx : a.eval x = .map (some m)) (k : Int) (hy : a.eval y = .int .i64 k) (h0 : -9223372036854775808 ≤ k) (h1 : k < 9223372036854775808) : YieldsIf Try.prog ops S o (nv ((find T k).getD zpt)) a :=
  .inl ⟨hw, fun w h => by
    have hrun := (hS w h).look1 k h0 h1
    unfold execOp
    simp [ho, hx, hy, hrun, Result.andThen]⟩
end
end Go.Proofs.Ytdebkifnaiohcaa
