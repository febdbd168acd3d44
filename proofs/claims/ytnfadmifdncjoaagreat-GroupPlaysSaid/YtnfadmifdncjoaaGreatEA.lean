import Derived.Test.YtnfadmifdncjoaaGreatDA
import Derived.Lib.SlKeysI
import Derived.Maps.RangeWalk
import Derived.Maps.OwnSet
import Derived.Deep.QuietTactic
import Derived.IntWalk
import Derived.Lib.EndianBits
import Derived.OwnWalk
import Derived.Deep.CutBlock
import Derived.Deep.DeepCutAuto
/- The log: Open, Format, Begin; heads; install. -/
namespace Go.Proofs.YtnfadmifdncjoaaGreat
set_option linter.unusedSimpArgs false
set_option linter.unusedVariables false
open Go.RowKit Go.Maps
/-- how a block in a map reads: as itself -/
def RV (v : Value) : Option (DataW Value × List MemPlace) := some (.held v, [])
/-- a block as a value -/
def bv (f : Nat → Int) : Value := .agg (byts 64 f).toArray
abbrev TS := List (Nat × (Nat → Int))
def ent (p : Nat × (Nat → Int)) : Lit × DataW Value := (.int .i64 p.1, .held (bv p.2))
/-- what the map reads as -/
def dat (T : TS) : DataW Value := .map (T.map ent)
def Rise (T : TS) : Prop := T.Pairwise fun p q => p.1 < q.1
def find (T : TS) (k : Int) : Option (Nat → Int) := (T.find? fun p => decide ((p.1 : Int) = k)).map (·.2)
def put (k : Nat) (f : Nat → Int) : TS → TS
  | [] => [(k, f)]
  | p :: r => if k < p.1 then (k, f) :: p :: r else if k = p.1 then (k, f) :: r else p :: put k f r
def keys (T : TS) : List Nat := T.map (·.1)
theorem sameKey_int (a b : Int) : (Lit.int .i64 a).sameKey (.int .i64 b) = decide (a = b) := by simp [Lit.sameKey]
theorem has_dat (T : TS) (k : Int) : Maps.has (dat T) (.int .i64 k) = (find T k).isSome := by
  induction T with
  | nil => rfl
  | cons p r ih =>
    have ih' : (r.map ent).any (fun q => q.1.sameKey (.int .i64 k)) = (find r k).isSome := ih
    show (List.any (ent p :: r.map ent) fun q => q.1.sameKey (.int .i64 k)) = _
    rw [List.any_cons, ih']
    show ((Lit.int .i64 p.1).sameKey (.int .i64 k) || _) = _
    rw [sameKey_int]
    unfold find
    by_cases h : (p.1 : Int) = k <;> simp [List.find?_cons, h]
theorem atKey_dat (T : TS) (k : Int) (zd : DataW Value) : (dat T).atKey (.int .i64 k) zd = (find T k).elim zd fun f => .held (bv f) := by
  induction T with
  | nil => rfl
  | cons p r ih =>
    have e : (ent p).1.sameKey (.int .i64 k) = decide ((p.1 : Int) = k) := sameKey_int _ _
    simp only [dat, DataW.atKey, find, List.map_cons, List.find?_cons, e] at ih ⊢
    by_cases h : (p.1 : Int) = k
    · simp [h, ent]
    · simpa [h] using ih
theorem size_dat (T : TS) : Maps.size (dat T) = T.length := by simp [dat, Maps.size]
theorem keys_dat (T : TS) : intKeys (dat T) = (keys T).map fun (k : Nat) => (k : Int) := by
  simp [dat, intKeys, keys, ent, Function.comp_def, Go.intOf]
theorem before_int (a b : Nat) : (Lit.int .i64 (a : Int)).before (.int .i64 (b : Int)) = decide (a < b) := by
  unfold Lit.before
  simp
theorem filter_above (k : Nat) : ∀ r : TS, (∀ p ∈ r, k < p.1) → (r.map ent).filter (fun p => !p.1.sameKey (.int .i64 (k : Int))) = r.map ent := by
  intro r h
  rw [List.filter_eq_self]
  intro q hq
  obtain ⟨p, hp, rfl⟩ := List.mem_map.1 hq
  have := h p hp
  show (!(Lit.int .i64 (p.1 : Int)).sameKey _) = true
  rw [sameKey_int]
  simp
  omega
theorem insert_above (k : Nat) (f : Nat → Int) : ∀ r : TS, (∀ p ∈ r, k < p.1) → DataW.insert (ent (k, f)) (r.map ent) = ent (k, f) :: r.map ent
  | [], _ => rfl
  | p :: r, h => by
    rw [List.map_cons, DataW.insert]
    have : (ent (k, f)).1.before (ent p).1 = true := by
      show (Lit.int .i64 (k : Int)).before (.int .i64 (p.1 : Int)) = true
      rw [before_int]
      exact decide_eq_true (h p (by simp))
    rw [if_pos this]
theorem put_dat (T : TS) (h : Rise T) (k : Nat) (f : Nat → Int) : (dat T).put (.int .i64 (k : Int)) (.held (bv f)) = dat (put k f T) := by
  unfold dat DataW.put
  refine congrArg DataW.map ?_
  show DataW.insert (ent (k, f)) _ = _
  induction T with
  | nil => rfl
  | cons p r ih =>
    obtain ⟨h1, h2⟩ := List.pairwise_cons.1 h
    have e : (ent p).1.sameKey (.int .i64 (k : Int)) = decide ((p.1 : Int) = k) := sameKey_int _ _
    unfold put
    rw [List.map_cons, List.filter_cons, e]
    by_cases c1 : k < p.1
    · rw [if_pos c1, if_pos (by simp; omega), filter_above k r (fun q hq => by have := h1 q hq; omega)]
      exact insert_above k f (p :: r) (by intro q hq; rcases List.mem_cons.1 hq with rfl | hq; exact c1; have := h1 q hq; omega)
    · rw [if_neg c1]
      by_cases c2 : k = p.1
      · rw [if_pos c2, if_neg (by simp; omega), filter_above k r (fun q hq => by have := h1 q hq; omega)]
        exact insert_above k f r (fun q hq => by have := h1 q hq; omega)
      · rw [if_neg c2, if_pos (by simp; omega), DataW.insert]
        have : (ent (k, f)).1.before (ent p).1 = false := by
          show (Lit.int .i64 (k : Int)).before (.int .i64 (p.1 : Int)) = false
          rw [before_int]
          exact decide_eq_false c1
        rw [if_neg (by rw [this]; decide), ih h2]
        rfl
theorem mem_put (k : Nat) (f : Nat → Int) : ∀ (T : TS) (q : Nat × (Nat → Int)), q ∈ put k f T → q = (k, f) ∨ q ∈ T
  | [], q, h => by simpa [put] using h
  | p :: r, q, h => by
    unfold put at h
    by_cases c1 : k < p.1
    · rw [if_pos c1] at h
      simpa using h
    · rw [if_neg c1] at h
      by_cases c2 : k = p.1
      · rw [if_pos c2] at h
        rcases List.mem_cons.1 h with h | h
        · exact .inl h
        · exact .inr (by simp [h])
      · rw [if_neg c2] at h
        rcases List.mem_cons.1 h with h | h
        · exact .inr (by simp [h])
        · rcases mem_put k f r q h with h | h
          · exact .inl h
          · exact .inr (by simp [h])
theorem put_rise (k : Nat) (f : Nat → Int) : ∀ T : TS, Rise T → Rise (put k f T)
  | [], _ => by simp [put, Rise]
  | p :: r, h => by
    obtain ⟨h1, h2⟩ := List.pairwise_cons.1 h
    unfold put
    by_cases c1 : k < p.1
    · rw [if_pos c1]
      refine List.pairwise_cons.2 ⟨fun q hq => ?_, h⟩
      rcases List.mem_cons.1 hq with rfl | hq
      · exact c1
      · have := h1 q hq
        show k < q.1
        omega
    · rw [if_neg c1]
      by_cases c2 : k = p.1
      · rw [if_pos c2]
        exact List.pairwise_cons.2 ⟨fun q hq => by have := h1 q hq; show k < q.1; omega, h2⟩
      · rw [if_neg c2]
        refine List.pairwise_cons.2 ⟨fun q hq => ?_, put_rise k f r h2⟩
        rcases mem_put k f r q hq with rfl | hq
        · show p.1 < k
          omega
        · exact h1 q hq
theorem put_len (k : Nat) (f : Nat → Int) : ∀ T : TS, Rise T → (put k f T).length = if (find T k).isSome then T.length else T.length + 1
  | [], _ => rfl
  | p :: r, h => by
    obtain ⟨h1, h2⟩ := List.pairwise_cons.1 h
    have hno : k < p.1 → (find r k).isSome = false := by
      intro c1
      unfold find
      simp only [Option.isSome_map, List.find?_isSome, Bool.eq_false_iff, ne_eq, List.find?_isSome]
      rintro ⟨q, hq, he⟩
      have := h1 q hq
      simp at he
      omega
    have e : find (p :: r) k = if (p.1 : Int) = k then some p.2 else find r k := by
      unfold find
      rw [List.find?_cons]
      by_cases c : (p.1 : Int) = k <;> simp [c]
    rw [e]
    unfold put
    by_cases c1 : k < p.1
    · rw [if_pos c1, if_neg (show ¬ (p.1 : Int) = k by omega), hno c1]
      simp
    · rw [if_neg c1]
      by_cases c2 : k = p.1
      · rw [if_pos c2, if_pos (show (p.1 : Int) = k by omega)]
        simp
      · rw [if_neg c2, if_neg (show ¬ (p.1 : Int) = k by omega), List.length_cons, put_len k f r h2]
        cases (find r k).isSome <;> simp
theorem find_mem {T : TS} {k : Int} {f : Nat → Int} (h : find T k = some f) : ∃ p ∈ T, (p.1 : Int) = k ∧ p.2 = f := by
  unfold find at h
  obtain ⟨p, hp, hf⟩ := Option.map_eq_some_iff.1 h
  exact ⟨p, List.mem_of_find?_eq_some hp, by simpa using List.find?_some hp, hf⟩
theorem find_at {T : TS} (h : Rise T) {i : Nat} (hi : i < T.length) : find T T[i].1 = some T[i].2 := by
  unfold find
  induction T generalizing i with
  | nil => simp at hi
  | cons p r ih =>
    obtain ⟨h1, h2⟩ := List.pairwise_cons.1 h
    cases i with
    | zero => simp
    | succ j =>
      have hj : j < r.length := by simpa using hi
      rw [List.getElem_cons_succ, List.find?_cons]
      have := h1 r[j] (List.getElem_mem hj)
      have e : decide ((p.1 : Int) = (r[j].1 : Int)) = false := by simp; omega
      rw [e]
      exact ih h2 hj

theorem Tryz.lawInt : Keyed Tryz.prog 3 := int_keyed Tryz.underlying3
theorem key_is (k : Int) (h0 : -9223372036854775808 ≤ k) (h1 : k < 9223372036854775808) : keyOf Tryz.prog 3 (.int .i64 k) = some (.int .i64 k) := by
  have : (Lit.int .i64 k).wf = true := by simp [Lit.wf, IntKind.min, IntKind.max, IntKind.bits, IntKind.signed]; omega
  exact Go.Maps.keyOf_int_mk Tryz.underlying3 this
/-- the map of a transaction -/
def Mp (w : World) (m : Nat) (T : TS) : Prop := w.ownsMap Tryz.prog 3 RV m T.length (dat T) ∧ Rise T
theorem ownsMap_tight {w : World} {b n : Nat} {T : TS} (h : w.ownsMap Tryz.prog 3 RV b n (dat T)) : w.ownsMap Tryz.prog 3 RV b T.length (dat T) := by
  obtain ⟨es, clock, hb, F, _, hD⟩ := h
  refine ⟨es, clock, hb, F, ?_, hD⟩
  have := congrArg Maps.size hD
  rw [size_dat] at this
  rw [this]
  simp [Maps.size, length_sorted]
theorem Mp.lt {w : World} {m : Nat} {T : TS} (h : Mp w m T) : m < w.heap.size := h.1.lt
theorem Mp.block {w w' : World} {m : Nat} {T : TS} (h : Mp w m T) (hb : w'.heap[m]? = w.heap[m]?) : Mp w' m T := by
  obtain ⟨⟨es, clock, hb', r⟩, hr⟩ := h
  exact ⟨⟨es, clock, hb.trans hb', r⟩, hr⟩
theorem Mp.below {w w' : World} {B m : Nat} {T : TS} (h : Mp w m T) (hb : Below B w w') (hm : m < B) : Mp w' m T := h.block (hb.block m hm)
theorem Mp.keep {w w' : World} {m : Nat} {T : TS} (h : Mp w m T) (hb : Below w.heap.size w w') : Mp w' m T := h.below hb h.lt
theorem Mp.kp {w w' : World} {a b m : Nat} {T : TS} (h : Mp w m T) (hb : Kp w w' a b) (h1 : m ≠ a) (h2 : m ≠ b) : Mp w' m T := h.block (hb.block m h.lt h1 h2)
theorem Mp.new (w : World) : Mp (w.alloc (.map #[] 0)) w.heap.size [] := ⟨World.ownsMap_made w Tryz.prog 3 RV, List.Pairwise.nil⟩
theorem wpList_store_blk {ops : Array Oper} {rest : List Oper} {op : Oper} {a : Act} {w : World} {Q : Exit → Act → World → Prop} (hgd : op.guard = none) (x y : Operand) (ho : op.op = .store 59 x y) (g off N : Nat) (f b : Nat → Int) (hF : Fl w g N f) (hn : off + 64 ≤ N)
    (hx : a.eval x = .pointer (some ⟨g, off, none⟩)) (hy : a.eval y = .agg (byts 64 b).toArray) (h : ∀ w', Hid (Fl w' g N (upd f off 64 b)) → Hid (Kp w w' g g) → wpList Tryz.prog ops Q rest (a.put op.dst undef) w') : wpList Tryz.prog ops Q (op :: rest) a w := by
  refine wpList_store_mid hgd 59 x y ho g off _ hx hy (by rw [byts_size]; exact hF.there off 64 hn) (size36' _) (byts_all _ _) ?_
  rw [List.toList_toArray]
  exact h _ (hF.store off 64 hn b) ((Kp.refl w g g).setCells g off (.inl rfl) _)
/-- block l begins with a log: its disk, its head's place -/
structure Lg (w : World) (l d fi : Nat) : Prop where
  lt : l < w.heap.size
  c0 : w.cell? ⟨l, 0, none⟩ = some (.pointer (some ⟨d, 0, none⟩))
  c1 : w.cell? ⟨l, 1, none⟩ = some (.int .i64 fi)
theorem Lg.below {w w' : World} {B l d fi : Nat} (h : Lg w l d fi) (hb : Below B w w') (hl : l < B) : Lg w' l d fi :=
  ⟨Nat.lt_of_lt_of_le h.lt hb.size, (hb.cell (p := ⟨l, 0, none⟩) hl).trans h.c0, (hb.cell (p := ⟨l, 1, none⟩) hl).trans h.c1⟩
theorem Lg.keep {w w' : World} {l d fi : Nat} (h : Lg w l d fi) (hb : Below w.heap.size w w') : Lg w' l d fi := h.below hb h.lt
theorem Lg.kp {w w' : World} {a b l d fi : Nat} (h : Lg w l d fi) (hb : Kp w w' a b) (h1 : l ≠ a) (h2 : l ≠ b) : Lg w' l d fi :=
  ⟨Nat.lt_of_lt_of_le h.lt hb.size, (hb.cell (p := ⟨l, 0, none⟩) h.lt h1 h2).trans h.c0, (hb.cell (p := ⟨l, 1, none⟩) h.lt h1 h2).trans h.c1⟩
theorem Kp.size_le {w w' : World} {a b : Nat} (h : Kp w w' a b) : w.heap.size ≤ w'.heap.size := h.size
theorem Kp.swap {w w' : World} {a b : Nat} (h : Kp w w' a b) : Kp w w' b a := ⟨h.os, h.tape, h.output, h.size, fun k hk h1 h2 => h.block k hk h2 h1⟩

/-- a slice of numbers that are no less than nought -/
def Ns (w : World) (v : Value) (ts : List Nat) : Prop :=
  (∃ a cap, v = .slice a 0 cap ∧ ts = []) ∨ ∃ b off cap, v = .slice (some ⟨b, off, none⟩) ts.length cap ∧ b < w.heap.size ∧ ts.length ≤ maxLen ∧ ∀ i (h : i < ts.length), w.cell? ⟨b, off + i, none⟩ = some (.int .i64 (ts[i] : Nat))
/-- it lies in none of blocks a, b -/
def Ns.off (v : Value) (a b : Nat) : Prop := ∀ k, v.ownBlock = some k → k ≠ a ∧ k ≠ b
theorem Ns.below {w w' : World} {v : Value} {ts : List Nat} (h : Ns w v ts) (hb : Below w.heap.size w w') : Ns w' v ts := by
  rcases h with h | ⟨b, off, cap, hv, hlt, hm, hc⟩
  · exact .inl h
  · exact .inr ⟨b, off, cap, hv, Nat.lt_of_lt_of_le hlt hb.size, hm, fun i hi => (hb.cell (p := ⟨b, off + i, none⟩) hlt).trans (hc i hi)⟩
theorem Ns.form {w : World} {v : Value} {ts : List Nat} (h : Ns w v ts) : ∃ a cap, v = .slice a ts.length cap ∧ ts.length ≤ maxLen := by
  rcases h with ⟨a, cap, rfl, rfl⟩ | ⟨b, off, cap, rfl, _, hm, _⟩
  · exact ⟨a, cap, rfl, by unfold maxLen; simp⟩
  · exact ⟨_, cap, rfl, hm⟩
theorem Ns.at {w : World} {a : Option Addr} {n cap : Nat} {ts : List Nat} (h : Ns w (.slice a n cap) ts) (i : Nat) (hi : i < ts.length) : ∃ b off, a = some ⟨b, off, none⟩ ∧ b < w.heap.size ∧ w.cell? ⟨b, off + i, none⟩ = some (.int .i64 (ts[i] : Nat)) := by
  rcases h with ⟨a', cap', _, rfl⟩ | ⟨b, off, cap', hv, hlt, _, hc⟩
  · simp at hi
  · have : a = some ⟨b, off, none⟩ := by injection hv
    exact ⟨b, off, this, hlt, hc i hi⟩
theorem Ns.kp {w w' : World} {v : Value} {ts : List Nat} {a b : Nat} (h : Ns w v ts) (hk : Kp w w' a b) (ho : Ns.off v a b) : Ns w' v ts := by
  rcases h with h | ⟨g, off, cap, rfl, hlt, hm, hc⟩
  · exact .inl h
  · obtain ⟨h1, h2⟩ := ho g rfl
    exact .inr ⟨g, off, cap, rfl, Nat.lt_of_lt_of_le hlt hk.size, hm, fun i hi => (hk.cell (p := ⟨g, off + i, none⟩) hlt h1 h2).trans (hc i hi)⟩
theorem Ns.nil (w : World) : Ns w (.slice none 0 0) [] := .inl ⟨_, _, rfl, rfl⟩
theorem Ns.off_nil (a b : Nat) : Ns.off (.slice none 0 0) a b := fun k h => by simp [Value.ownBlock] at h

/-- is place x one of a disk of n blocks, and none of the log's whose head is at fi? -/
def outB (n fi : Nat) (x : Int) : Bool := decide (0 ≤ x ∧ x < n) && !decide (fi ≤ x ∧ x ≤ fi + 30)
theorem outB_nat (n fi k : Nat) : outB n fi k = decide (k < n ∧ ¬ (fi ≤ k ∧ k ≤ fi + 30)) := by
  unfold outB
  rw [Bool.eq_iff_iff]
  simp
  omega
theorem ret_int {k : IntKind} {a b : Int} (h : a = b) : Ending.returned (.int k a) = .returned (.int k b) := by rw [h]

set_option maxHeartbeats 1000000 in
theorem slot_any (l d fi : Nat) (i : Nat) (hf : fi ≤ 65536) (hi : i ≤ 65536) (w : World) (h : Lg w l d fi) :
    Calls Tryz.prog 104 #[.pointer (some ⟨l, 0, none⟩), .int .i64 i] w fun e w' => e = .returned (.int .i64 ((fi + 1 + i : Nat) : Int)) ∧ w' = w := by
  have c1 := h.c1
  clear h
  have h0 : (0 : Int) ≤ fi := by omega
  have h1 : (0 : Int) ≤ i := by omega
  have h2 : (fi : Int) ≤ 65536 := by omega
  have h3 : (i : Int) ≤ 65536 := by omega
  go_enter Tryz.func104, Tryz.ntmps104
  go_wp2
  go_ret
  exact ⟨ret_int (by omega), rfl⟩

set_option maxHeartbeats 4000000 in
set_option maxRecDepth 100000 in
theorem outside_any (l d g fi : Nat) (s : DS) (x : Int) (hx0 : -9223372036854775808 ≤ x) (hx1 : x < 9223372036854775808) (hf : fi ≤ 65536) (hn : s.n ≤ 65536) (w : World) (h : Lg w l d fi) (hd : Dk w d g s) :
    Calls Tryz.prog 121 #[.pointer (some ⟨l, 0, none⟩), .int .i64 x] w fun e w' => e = .returned (.bool (outB s.n fi x)) ∧ w' = w := by
  have c0 := h.c0
  have c1 := h.c1
  clear h
  have HL := Lib.hid (len_any d g s hn w hd)
  have h0 : (0 : Int) ≤ fi := by omega
  have h2 : (fi : Int) ≤ 65536 := by omega
  clear hd
  have HX0 := Lib.hid hx0
  have HX1 := Lib.hid hx1
  clear hx0 hx1
  obtain ⟨q, hq⟩ : ∃ q, outB s.n fi x = q := ⟨_, rfl⟩
  rw [hq]
  have HQ := Lib.hid hq
  clear hq
  by_cases c1' : (0 : Int) ≤ x
  · by_cases c2 : x < s.n
    · have hx3 : x ≤ 65536 := by omega
      have HB := Lib.hid c2
      by_cases c3 : (fi : Int) ≤ x
      · by_cases c4 : x ≤ (fi : Int) + 30
        · go_enter Tryz.func121, Tryz.ntmps121
          go_wp2_with (go_at_call 88; refine HL.out.mono ?_; rintro e w' ⟨rfl, rfl⟩)
          go_ret
          exact ⟨ret_bool (by rw [← HQ.out]; unfold outB; simp; omega), rfl⟩
        · go_enter Tryz.func121, Tryz.ntmps121
          go_wp2_with (go_at_call 88; refine HL.out.mono ?_; rintro e w' ⟨rfl, rfl⟩)
          go_ret
          exact ⟨ret_bool (by rw [← HQ.out]; unfold outB; simp; omega), rfl⟩
      · go_enter Tryz.func121, Tryz.ntmps121
        go_wp2_with (go_at_call 88; refine HL.out.mono ?_; rintro e w' ⟨rfl, rfl⟩)
        go_ret
        exact ⟨ret_bool (by rw [← HQ.out]; unfold outB; simp; omega), rfl⟩
    · have e1 : q = false := by rw [← HQ.out]; unfold outB; simp; omega
      subst e1
      clear HQ
      have c2' : (s.n : Int) ≤ x := by omega
      by_cases c3 : (fi : Int) ≤ x
      · by_cases c4 : x ≤ (fi : Int) + 30
        · go_enter Tryz.func121, Tryz.ntmps121
          go_wp2_with (go_at_call 88; refine HL.out.mono ?_; rintro e w' ⟨rfl, rfl⟩)
          go_ret
          exact ⟨rfl, rfl⟩
        · go_enter Tryz.func121, Tryz.ntmps121
          go_wp2_with (go_at_call 88; refine HL.out.mono ?_; rintro e w' ⟨rfl, rfl⟩)
          go_ret
          exact ⟨rfl, rfl⟩
      · go_enter Tryz.func121, Tryz.ntmps121
        go_wp2_with (go_at_call 88; refine HL.out.mono ?_; rintro e w' ⟨rfl, rfl⟩)
        go_ret
        exact ⟨rfl, rfl⟩
  · have e1 : q = false := by rw [← HQ.out]; unfold outB; simp; omega
    subst e1
    clear HQ
    have c2 : x < 0 := by omega
    have c3 : ¬ ((fi : Int) ≤ x) := by omega
    go_enter Tryz.func121, Tryz.ntmps121
    go_wp2
    go_ret
    exact ⟨rfl, rfl⟩

set_option maxHeartbeats 2000000 in
set_option maxRecDepth 100000 in
theorem open_in (d g : Nat) (s : DS) (fi : Nat) (hf : fi + 31 ≤ s.n) (hn : s.n ≤ 65536) (w : World) (hd : Dk w d g s) :
    Calls Tryz.prog 45 #[.pointer (some ⟨d, 0, none⟩), .int .i64 fi] w fun e w' => ∃ l, e = .returned (.tuple #[.pointer (some ⟨l, 0, none⟩), .int .i64 0]) ∧ w.heap.size ≤ l ∧ Lg w' l d fi ∧ Below w.heap.size w w' := by
  have HL := Lib.hid (len_any d g s hn w hd)
  clear hd
  have h0 : (0 : Int) ≤ fi := by omega
  have h1 : (0 : Int) ≤ s.n := by omega
  have h2 : (s.n : Int) ≤ 65536 := by omega
  have h3 : (fi : Int) ≤ s.n - 1 - 30 := by omega
  go_enter Tryz.func45, Tryz.ntmps45
  go_wp2_with (go_at_call 88; refine HL.out.mono ?_; rintro e w' ⟨rfl, rfl⟩)
  refine bodyPost_ret (v := .tuple #[.pointer (some ⟨w'.heap.size, 0, none⟩), .int .i64 0]) (by simp [results, Tryz.results45, go_sem]) rfl ⟨w'.heap.size, rfl, Nat.le_refl _, ⟨by simp, ?_, ?_⟩, (Below.refl _ _).alloc (Nat.le_refl _) _⟩
  all_goals rw [World.cell?_alloc_at _ _ _ _ rfl]; rfl
set_option maxHeartbeats 2000000 in
set_option maxRecDepth 100000 in
theorem open_out (d g : Nat) (s : DS) (x : Int) (hx0 : -9223372036854775808 ≤ x) (hx1 : x < 9223372036854775808) (hx : x < 0 ∨ (s.n : Int) - 31 < x) (hn : s.n ≤ 65536) (w : World) (hd : Dk w d g s) :
    Calls Tryz.prog 45 #[.pointer (some ⟨d, 0, none⟩), .int .i64 x] w fun e w' => e = .returned (.tuple #[.pointer none, .int .i64 27]) ∧ Below w.heap.size w w' := by
  have HL := Lib.hid (len_any d g s hn w hd)
  clear hd
  have HX0 := Lib.hid hx0
  have HX1 := Lib.hid hx1
  clear hx0 hx1
  have h1 : (0 : Int) ≤ s.n := by omega
  have h2 : (s.n : Int) ≤ 65536 := by omega
  by_cases c : x < 0
  · go_enter Tryz.func45, Tryz.ntmps45
    go_wp2
    refine bodyPost_ret (v := .tuple #[.pointer none, .int .i64 27]) (by simp [results, Tryz.results45, go_sem]) rfl ⟨rfl, Below.refl _ _⟩
  · have h3 : (s.n : Int) - 1 - 30 < x := by omega
    go_enter Tryz.func45, Tryz.ntmps45
    go_wp2_with (go_at_call 88; refine HL.out.mono ?_; rintro e w' ⟨rfl, rfl⟩)
    refine bodyPost_ret (v := .tuple #[.pointer none, .int .i64 27]) (by simp [results, Tryz.results45, go_sem]) rfl ⟨rfl, Below.refl _ _⟩
theorem open_nil (x : Int) (w : World) : Calls Tryz.prog 45 #[.pointer none, .int .i64 x] w fun e w' => e = .returned (.tuple #[.pointer none, .int .i64 1]) ∧ Below w.heap.size w w' := by
  go_enter Tryz.func45, Tryz.ntmps45
  go_wp2
  refine bodyPost_ret (v := .tuple #[.pointer none, .int .i64 1]) (by simp [results, Tryz.results45, go_sem]) rfl ⟨rfl, Below.refl _ _⟩

/-- two bytes, the lowest first -/
def num (f : Nat → Int) (i : Nat) : Int := f i + 256 * f (i + 1)
def putN (f : Nat → Int) (i n : Nat) : Nat → Int := fun j => if j = i + 1 then (n : Int) / 256 % 256 else if j = i then (n : Int) % 256 else f j
def Byt (f : Nat → Int) : Prop := ∀ j, j < 64 → 0 ≤ f j ∧ f j < 256

theorem num_or (a b : Int) (ha : 0 ≤ a ∧ a < 256) (hb : 0 ≤ b ∧ b < 256) : bits BinOp.or .i64 (IntKind.i64.wrap a) (IntKind.i64.wrap (IntKind.i64.wrap b * 256)) = a + 256 * b := by
  rw [IntWalk.i64_in a (by omega), IntWalk.i64_in b (by omega), IntWalk.i64_in (b * 256) (by omega)]
  rw [bits_join_low .i64 63 (by decide) (fun n h0 h1 => IntWalk.i64_in n (by omega)) 8 a (b * 256) ha.1 (by omega) (by omega) (by omega) (by omega) (by omega)]
  omega

set_option maxHeartbeats 2000000 in
set_option maxRecDepth 100000 in
theorem putnumber_any (g i n : Nat) (f : Nat → Int) (hi : i + 1 < 64) (hn : n ≤ 65536) (w : World) (F : Fl w g 64 f) :
    Calls Tryz.prog 134 #[.pointer (some ⟨g, 0, none⟩), .int .i64 i, .int .i64 n] w fun e w' => e = .returned (.tuple #[]) ∧ Fl w' g 64 (putN f i n) ∧ Kp w w' g g := by
  have HF := Lib.hid F
  have c0 := F.c i (by omega)
  have z0 := F.z i (by omega)
  have c1 := F.c (i + 1) (by omega)
  have z1 := F.z (i + 1) (by omega)
  clear F
  have h0 : (0 : Int) ≤ i := by omega
  have h1 : (i : Int) < 63 := by omega
  have h2 : (0 : Int) ≤ n := by omega
  have h3 : (n : Int) ≤ 65536 := by omega
  have HT : Hid (((i : Int) + 1).toNat = i + 1) := by show _ = _; omega
  have ht := HT.out
  go_enter Tryz.func134, Tryz.ntmps134
  go_wp2
  go_end0
  exact ⟨rfl, (HF.out.set i (by omega) _).set (i + 1) hi _, ((Kp.refl _ _ _).setA _ _).setA _ _⟩
/-- the bytes of a head that says where blocks belong -/
def headF (ts : List Nat) : Nat → Int := fun j =>
  if j = 0 then 161 else if j = 1 then 103 else if j = 2 then (ts.length : Int) % 256 else if j = 3 then (ts.length : Int) / 256 % 256
  else if j < 4 + 2 * ts.length then (if j % 2 = 0 then ((ts[(j - 4) / 2]?.getD 0 : Nat) : Int) % 256 else ((ts[(j - 4) / 2]?.getD 0 : Nat) : Int) / 256 % 256) else 0
theorem headF_first (ts : List Nat) (j : Nat) : putN (putN (fun _ => 0) 0 26529) 2 ts.length j = if j < 4 then headF ts j else 0 := by
  unfold putN headF
  by_cases h0 : j = 0
  · subst h0; rfl
  by_cases h1 : j = 1
  · subst h1; rfl
  by_cases h2 : j = 2
  · subst h2; rfl
  by_cases h3 : j = 3
  · subst h3; rfl
  simp only [h0, h1, h2, h3, if_false]
  rw [if_neg (by omega)]
theorem headF_step (ts : List Nat) (k : Nat) (hk : k < ts.length) (j : Nat) : putN (fun j => if j < 4 + 2 * k then headF ts j else 0) (4 + 2 * k) ts[k] j = if j < 4 + 2 * (k + 1) then headF ts j else 0 := by
  unfold putN
  by_cases h1 : j = 4 + 2 * k + 1
  · rw [if_pos h1, if_pos (by omega)]
    subst h1
    unfold headF
    rw [if_neg (by omega), if_neg (by omega), if_neg (by omega), if_neg (by omega), if_pos (by omega), if_neg (by omega), show (4 + 2 * k + 1 - 4) / 2 = k by omega, List.getElem?_eq_getElem hk]
    rfl
  · rw [if_neg h1]
    by_cases h2 : j = 4 + 2 * k
    · rw [if_pos h2, if_pos (by omega)]
      subst h2
      unfold headF
      rw [if_neg (by omega), if_neg (by omega), if_neg (by omega), if_neg (by omega), if_pos (by omega), if_pos (by omega), show (4 + 2 * k - 4) / 2 = k by omega, List.getElem?_eq_getElem hk]
      rfl
    · rw [if_neg h2]
      show (if j < 4 + 2 * k then headF ts j else 0) = _
      by_cases h3 : j < 4 + 2 * k
      · rw [if_pos h3, if_pos (by omega)]
      · rw [if_neg h3, if_neg (by omega)]
theorem headF_above (ts : List Nat) (j : Nat) : (if j < 4 + 2 * ts.length then headF ts j else 0) = headF ts j := by
  by_cases h : j < 4 + 2 * ts.length
  · rw [if_pos h]
  · rw [if_neg h]
    unfold headF
    rw [if_neg (by omega), if_neg (by omega), if_neg (by omega), if_neg (by omega), if_neg h]
theorem headF_byt (ts : List Nat) : Byt (headF ts) := by
  intro j _
  unfold headF
  repeat' split
  all_goals omega

set_option maxHeartbeats 4000000 in
set_option maxRecDepth 100000 in
theorem headof_any (v : Value) (ts : List Nat) (h30 : ts.length ≤ 30) (hts : ∀ t ∈ ts, t ≤ 65536) (w : World) (hv : Ns w v ts) :
    Calls Tryz.prog 120 #[v] w fun e w' => e = .returned (.agg (byts 64 (headF ts)).toArray) ∧ Below w.heap.size w w' := by
  obtain ⟨a, cap, rfl, hm⟩ := hv.form
  unfold maxLen at hm
  have HV := Lib.hid hv
  have HT := Lib.hid hts
  clear hv hts
  have HP0 : Hid (∀ g f W, Fl W g 64 f → Calls Tryz.prog 134 #[.pointer (some ⟨g, 0, none⟩), .int .i64 0, .int .i64 26529] W fun e w' => e = .returned (.tuple #[]) ∧ Fl w' g 64 (putN f 0 26529) ∧ Kp W w' g g) := fun g f W F => putnumber_any g 0 26529 f (by decide) (by decide) W F
  have HP2 : Hid (∀ g f W, Fl W g 64 f → Calls Tryz.prog 134 #[.pointer (some ⟨g, 0, none⟩), .int .i64 2, .int .i64 ts.length] W fun e w' => e = .returned (.tuple #[]) ∧ Fl w' g 64 (putN f 2 ts.length) ∧ Kp W w' g g) := fun g f W F => putnumber_any g 2 ts.length f (by decide) (by omega) W F
  go_enter Tryz.func120, Tryz.ntmps120
  go_wp2_with (first | (refine wpList_alloc_byts (w := w) rfl 59 64 rfl Tryz.zero36 ?_; intro w1 F1 hb1 hz1; have HB1 := Lib.hid hb1; clear hb1) | (refine wpList_alloc_byts (w := w1) rfl 59 64 rfl Tryz.zero36 ?_; intro w2 F2 hb2 hz2; have HB2 := Lib.hid hb2; clear hb2))
  rw [hz1] at F2
  have HBB := Lib.hid (HB1.out.trans (HB2.out.mono (by omega)))
  have F1' := Lib.hid (F1.out.below HB2.out (by omega))
  have hsz : w.heap.size + 1 < w2.heap.size := by omega
  clear F1 HB1 HB2 hz2
  try rw [hz1]
  go_wp2_with fail
  refine (HP0.out _ _ w2 F2.out).mono ?_
  rintro e w3 ⟨rfl, hF3, hk3⟩
  have HF3 := Lib.hid hF3
  have HA3 := Lib.hid (F1'.out.kp hk3 (by omega) (by omega))
  have HB3 := Lib.hid (HBB.out.trans (hk3.below (B := w.heap.size) (by omega) (by omega) HBB.out.size))
  have hsz3 := hk3.size
  clear hF3 hk3 F2 F1' HBB HP0
  go_wp2_with fail
  refine (HP2.out _ _ w3 HF3.out).mono ?_
  rintro e w4 ⟨rfl, hF4, hk4⟩
  have HF4 := Lib.hid (hF4.congr (fun j _ => headF_first ts j))
  have HA4 := Lib.hid (HA3.out.kp hk4 (by omega) (by omega))
  have HB4 := Lib.hid (HB3.out.trans (hk4.below (B := w.heap.size) (by omega) (by omega) HB3.out.size))
  have hsz4 := hk4.size
  clear hF4 hk4 HF3 HA3 HB3 HP2
  go_wp2_with fail
  go_loopw [4, 5, 12] (fun _ _ i wr => ∃ k : Nat, k ≤ ts.length ∧ i = .int .i64 k ∧ Fl wr (w.heap.size + 1) 64 (fun j => if j < 4 + 2 * k then headF ts j else 0) ∧ Fl wr w.heap.size 64 (fun _ => 0) ∧ Below w.heap.size w wr) (fun _ _ i _ => ts.length - (Go.RowKit.intOf i).toNat)
  case atStart => exact ⟨0, by omega, rfl, HF4.out, HA4.out, HB4.out⟩
  case round =>
    obtain ⟨k, hk, rfl, hF, hA, hbr⟩ := hrel
    have HF := Lib.hid hF
    have HA := Lib.hid hA
    have HB := Lib.hid hbr
    have hFl := hF.lt
    clear hF hA hbr HF4 HA4 HB4
    have hk0 : (0 : Int) ≤ k := by omega
    by_cases hlt : k < ts.length
    · have hkk : (k : Int) < ts.length := by omega
      have hk30 : (k : Int) ≤ 30 := by omega
      obtain ⟨b, off, rfl, hbl, hbc⟩ := HV.out.at k hlt
      have ec := (HB.out.cell (p := ⟨b, off + k, none⟩) hbl).trans hbc
      have HS := Lib.hid (headF_step ts k hlt)
      have HTk := Lib.hid (HT.out ts[k] (List.getElem_mem hlt))
      clear hbc
      generalize ts[k] = t at *
      have HP : Hid (∀ f W, Fl W (w.heap.size + 1) 64 f → Calls Tryz.prog 134 #[.pointer (some ⟨w.heap.size + 1, 0, none⟩), .int .i64 (4 + 2 * (k : Int)), .int .i64 t] W fun e w' => e = .returned (.tuple #[]) ∧ Fl w' (w.heap.size + 1) 64 (putN f (4 + 2 * k) t) ∧ Kp W w' (w.heap.size + 1) (w.heap.size + 1)) := fun f W F => by
        have h := putnumber_any (w.heap.size + 1) (4 + 2 * k) t f (by omega) HTk.out W F
        rwa [show ((4 + 2 * k : Nat) : Int) = 4 + 2 * (k : Int) by omega] at h
      go_wp2_with fail
      refine (HP.out _ wr HF.out).mono ?_
      rintro e w5 ⟨rfl, hF5, hk5⟩
      have HF5 := Lib.hid (hF5.congr (fun j _ => HS.out j))
      have HA5 := Lib.hid (HA.out.kp hk5 (by omega) (by omega))
      have HB5 := Lib.hid (HB.out.trans (hk5.below (B := w.heap.size) (by omega) (by omega) HB.out.size))
      clear hF5 hk5 HF HA HB HS HTk HP
      go_wp2
      go_roundw
      case rel => exact ⟨k + 1, by omega, by go_num, HF5.out, HA5.out, HB5.out⟩
      case measure => simp [Go.RowKit.intOf]; omega
    · obtain rfl : k = ts.length := by omega
      have HR : Hid (wr.rangeAt (w.heap.size + 1) 0 (byts 64 (headF ts))) := (HF.out.congr (fun j _ => headF_above ts j)).range0
      clear HF
      go_wp2_with (first | (refine wpList_load_mid rfl 59 _ rfl (w.heap.size + 1) 0 rfl _ (.array 64 5) HR.out Tryz.arr36 rfl (size36 _) ?_) | (refine wpList_store_mid rfl 59 _ _ rfl w.heap.size 0 (byts 64 (headF ts)).toArray rfl rfl (by rw [byts_size]; exact HA.out.there 0 64 (Nat.le_refl _)) (size36' _) (byts_all _ _) ?_))
      exact bodyPost_ret_by (results_mid rfl _ _ w.heap.size _ (.array 64 5) rfl (HA.out.stored (headF ts)).range0 Tryz.arr36 rfl (size36 _)) rfl ⟨rfl, below_setCells HB.out _ _ (Nat.le_refl _) _⟩
/-- block g has N numbers, which may be written -/
structure Il (w : World) (g N : Nat) (f : Nat → Int) : Prop where
  lt : g < w.heap.size
  c : ∀ j, j < N → w.cell? ⟨g, j, none⟩ = some (.int .i64 (f j))
  z : ∀ j, j < N → w.frozen? ⟨g, j, none⟩ = false
theorem Il.below {w w' : World} {B g N : Nat} {f : Nat → Int} (h : Il w g N f) (hb : Below B w w') (hg : g < B) : Il w' g N f :=
  ⟨Nat.lt_of_lt_of_le h.lt hb.size, fun j hj => (hb.cell (p := ⟨g, j, none⟩) hg).trans (h.c j hj), fun j hj => (hb.frozen (p := ⟨g, j, none⟩) hg).trans (h.z j hj)⟩
theorem Il.keep {w w' : World} {g N : Nat} {f : Nat → Int} (h : Il w g N f) (hb : Below w.heap.size w w') : Il w' g N f := h.below hb h.lt
theorem Il.set {w : World} {g N : Nat} {f : Nat → Int} (h : Il w g N f) (i : Nat) (hi : i < N) (x : Int) : Il (w.setCell ⟨g, i, none⟩ (.int .i64 x)) g N (fun j => if j = i then x else f j) := by
  refine ⟨lt_set h.lt _ _, fun j hj => ?_, fun j hj => by rw [World.frozen?_setCell]; exact h.z j hj⟩
  by_cases e : j = i
  · subst e
    rw [if_pos rfl]
    exact World.cell?_setCell_same _ _ _ (h.c j hj)
  · rw [if_neg e, World.cell?_setCell_other _ _ _ _ (by simp [Ne.symm e])]
    exact h.c j hj
theorem Il.congr {w : World} {g N : Nat} {f f' : Nat → Int} (h : Il w g N f) (he : ∀ j, j < N → f j = f' j) : Il w g N f' := ⟨h.lt, fun j hj => by rw [← he j hj]; exact h.c j hj, h.z⟩
theorem Il.made (w : World) (c : Nat) (t : TypeId) : Il (w.alloc (.cells (madeCells #[.int .i64 0] c) t)) w.heap.size c (fun _ => 0) := by
  refine ⟨by simp, fun j hj => ?_, fun j _ => by simp⟩
  rw [World.cell?_alloc_at _ _ _ _ rfl]
  simp [madeCells, hj, Nat.mod_one]
theorem Tryz.info3i : ∃ i, Tryz.prog.info? 3 = some i ∧ i.zero = some (.int .i64 0) ∧ i.size = 1 ∧ i.bytes = 8 := by
  have h : (Tryz.prog.info? 3).map (fun i => (i.zero, i.size, i.bytes)) = some (some (.int .i64 0), 1, 8) := by kernel_rfl
  cases hq : Tryz.prog.info? 3 with
  | none => simp [hq] at h
  | some i =>
    simp [hq] at h
    exact ⟨i, rfl, h.1, h.2.1, h.2.2⟩
theorem run_make3 (w : World) (c : Nat) (hc : c ≤ 65536) : (Instr.makeSlice 153 (.int .i64 (c : Int)) (.int .i64 (c : Int))).run Tryz.prog w = .ok (.slice (some ⟨w.heap.size, 0, none⟩) c c) (w.alloc (.cells (madeCells #[.int .i64 0] c) 3)) := by
  obtain ⟨i, hi, hz, hs, hb⟩ := Tryz.info3i
  have := run_make (P := Tryz.prog) w 153 3 i _ (by kernel_rfl) hi hz .i64 .i64 c c (by omega) (by omega) (by rw [hb]; omega) (by omega)
  rw [this, hs, Int.toNat_natCast, Nat.mul_one]
  rfl
theorem wpList_make3 {ops : Array Oper} {rest : List Oper} {o : Oper} {a : Act} {w : World} {Q : Exit → Act → World → Prop} (hgd : o.guard = none) (x : Operand) (ho : o.op = .makeSlice 153 x x) (c : Nat) (hx : a.eval x = .int .i64 (c : Int)) (hc : c ≤ 65536)
    (h : ∀ w', Hid (Il w' w.heap.size c fun _ => 0) → Below w.heap.size w w' → w'.heap.size = w.heap.size + 1 → wpList Tryz.prog ops Q rest (a.put o.dst (.slice (some ⟨w.heap.size, 0, none⟩) c c)) w') : wpList Tryz.prog ops Q (o :: rest) a w := by
  refine wpList_plain hgd fun K hK => ?_
  have hr := run_make3 w c hc
  unfold Oper.wp
  simp [execOp, ho, hx, hr, Result.andThen]
  exact hK _ _ (h _ (Il.made w c 3) ((Below.refl _ _).alloc (Nat.le_refl _) _) (by simp))

/-- where a head says that blocks belong -/
def placesF (f : Nat → Int) : Option (List Nat) :=
  if num f 0 = 26529 ∧ num f 2 ≤ 30 then some ((List.range (num f 2).toNat).map fun i => (num f (4 + 2 * i)).toNat) else none
theorem num_rng {f : Nat → Int} (hb : Byt f) (i : Nat) (hi : i + 1 < 64) : 0 ≤ num f i ∧ num f i < 65536 := by
  have h0 := hb i (by omega)
  have h1 := hb (i + 1) hi
  unfold num
  omega
theorem placesF_len {f : Nat → Int} {ts : List Nat} (h : placesF f = some ts) : ts.length ≤ 30 := by
  unfold placesF at h
  split at h
  · rename_i hc
    obtain rfl := Option.some.inj h
    simp
    omega
  · cases h
theorem placesF_le {f : Nat → Int} (hb : Byt f) {ts : List Nat} (h : placesF f = some ts) : ∀ t ∈ ts, t ≤ 65535 := by
  unfold placesF at h
  split at h
  · rename_i hc
    obtain rfl := Option.some.inj h
    intro t ht
    obtain ⟨i, hi, rfl⟩ := List.mem_map.1 ht
    have hi' := List.mem_range.1 hi
    have := num_rng hb (4 + 2 * i) (by omega)
    omega
  · cases h
theorem Il.ns {w : World} {g : Nat} {f : Nat → Int} (ts : List Nat) (c : Nat) (h : Il w g ts.length f) (hm : ts.length ≤ 65536) (he : ∀ i (hi : i < ts.length), f i = (ts[i] : Nat)) : Ns w (.slice (some ⟨g, 0, none⟩) ts.length c) ts :=
  .inr ⟨g, 0, c, rfl, h.lt, by unfold maxLen; omega, fun i hi => by rw [Nat.zero_add, h.c i hi, he i hi]⟩

/-- the answer of placesOf -/
def Places (o : Option (List Nat)) (w : World) (e : Ending) (w' : World) : Prop :=
  ∃ v, e = .returned (.tuple #[v, .bool o.isSome]) ∧ Ns w' v (o.getD []) ∧ (∀ k, v.ownBlock = some k → w.heap.size ≤ k) ∧ Below w.heap.size w w'

/-- a disk that calls in any order may have left: so many counts at most, so many blocks, bytes -/
structure Sane (s : DS) (N k : Nat) : Prop where
  n : s.n = N
  r0 : 0 ≤ s.rd
  r1 : s.rd ≤ k
  w0 : 0 ≤ s.wr
  w1 : s.wr ≤ k
  l0 : s.ar = true → 0 ≤ s.lf
  l1 : s.lf < 9223372036854775808
  byt : ∀ j, 0 ≤ s.f j ∧ s.f j < 256
theorem DS.write_n (s : DS) (x : Nat) (b : Nat → Int) : (s.write x b).2.n = s.n := by
  unfold DS.write
  split <;> rfl
theorem Sane.mono {s : DS} {N k k' : Nat} (h : Sane s N k) (hk : k ≤ k') : Sane s N k' :=
  ⟨h.n, h.r0, by have := h.r1; omega, h.w0, by have := h.w1; omega, h.l0, h.l1, h.byt⟩
theorem Sane.write {s : DS} {N k : Nat} (h : Sane s N k) (x : Nat) (b : Nat → Int) (hb : Byt b) : Sane (s.write x b).2 N (k + 1) := by
  obtain ⟨n, r0, r1, w0, w1, l0, l1, byt⟩ := h
  unfold DS.write
  by_cases hc : s.ar = true ∧ s.lf = 0 ∨ s.de = true
  · rw [if_pos hc]
    exact ⟨n, r0, by show s.rd ≤ ((k + 1 : Nat) : Int); omega, w0, by show s.wr ≤ ((k + 1 : Nat) : Int); omega, l0, l1, byt⟩
  · rw [if_neg hc]
    refine ⟨n, r0, by show s.rd ≤ ((k + 1 : Nat) : Int); omega, by show 0 ≤ s.wr + 1; omega, by show s.wr + 1 ≤ ((k + 1 : Nat) : Int); omega, fun ha => ?_, ?_, fun j => ?_⟩
    · have h1 : s.ar = true := ha
      have h2 := l0 h1
      have h3 : ¬ (s.lf = 0) := fun e => hc (.inl ⟨h1, e⟩)
      show 0 ≤ (if s.ar = true then s.lf - 1 else s.lf)
      rw [if_pos h1]
      omega
    · show (if s.ar = true then s.lf - 1 else s.lf) < _
      split <;> omega
    · show 0 ≤ upd s.f (x * 64) 64 b j ∧ upd s.f (x * 64) 64 b j < 256
      unfold upd
      split
      · exact hb _ (by omega)
      · exact byt j
def DS.rdd (s : DS) : DS := { s with rd := s.rd + 1 }
theorem Sane.rdd {s : DS} {N k : Nat} (h : Sane s N k) : Sane s.rdd N (k + 1) :=
  ⟨h.n, by have := h.r0; show 0 ≤ s.rd + 1; omega, by have := h.r1; show s.rd + 1 ≤ ((k + 1 : Nat) : Int); omega, h.w0, by have := h.w1; show s.wr ≤ ((k + 1 : Nat) : Int); omega, h.l0, h.l1, h.byt⟩
/-- block k of a disk -/
def DS.blk (s : DS) (k : Nat) : Nat → Int := fun i => s.f (k * 64 + i)
theorem Sane.blk {s : DS} {N k : Nat} (h : Sane s N k) (x : Nat) : Byt (s.blk x) := fun j _ => h.byt _
theorem DS.write_code (s : DS) (x : Nat) (b : Nat → Int) : (s.write x b).1 = 0 ∨ (s.write x b).1 = 24 := by
  unfold DS.write
  split
  · exact .inr rfl
  · exact .inl rfl
theorem byt_zero : Byt fun _ => 0 := fun _ _ => ⟨Int.le_refl _, show (0 : Int) < 256 by decide⟩
/-- Write, at a place that is there -/
theorem write_any (d g : Nat) (s : DS) (b : Nat → Int) (x N k : Nat) (hx : x < N) (hN : N ≤ 65536) (hk : k < 900000000) (hs : Sane s N k) (w : World) (h : Dk w d g s) :
    Calls Tryz.prog 103 #[.pointer (some ⟨d, 0, none⟩), .int .i64 x, .agg (byts 64 b).toArray] w fun e w' => e = .returned (.int .i64 (s.write x b).1) ∧ Dk w' d g (s.write x b).2 ∧ Kp w w' d g :=
  write_in d g s b x (by rw [hs.n]; exact hx) (by rw [hs.n]; exact hN) hs.w0 (by have := hs.w1; omega) hs.l0 hs.l1 w h
theorem read_any (d g : Nat) (s : DS) (x N k : Nat) (hx : x < N) (hN : N ≤ 65536) (hk : k < 900000000) (hs : Sane s N k) (w : World) (h : Dk w d g s) :
    Calls Tryz.prog 96 #[.pointer (some ⟨d, 0, none⟩), .int .i64 x] w fun e w' => e = .returned (.tuple #[.agg (byts 64 (s.blk x)).toArray, .int .i64 0]) ∧ Dk w' d g s.rdd ∧ Kp w w' d g :=
  read_in d g s x (by rw [hs.n]; exact hx) (by rw [hs.n]; exact hN) hs.r0 (by have := hs.r1; omega) w h

set_option maxHeartbeats 4000000 in
set_option maxRecDepth 100000 in
theorem point_any (l d g fi N k : Nat) (s : DS) (v : Value) (ts : List Nat) (h30 : ts.length ≤ 30) (hts : ∀ t ∈ ts, t ≤ 65536) (hf : fi + 31 ≤ N) (hN : N ≤ 65536) (hk : k < 900000000) (hs : Sane s N k) (w : World) (hl : Lg w l d fi) (hd : Dk w d g s) (hv : Ns w v ts) (hld : l ≠ d) (hlg : l ≠ g) :
    Calls Tryz.prog 89 #[.pointer (some ⟨l, 0, none⟩), v] w fun e w' => e = .returned (.int .i64 (s.write fi (headF ts)).1) ∧ Dk w' d g (s.write fi (headF ts)).2 ∧ Kp w w' d g := by
  have HL := Lib.hid hl
  have HD := Lib.hid hd
  have HV := Lib.hid hv
  have HS := Lib.hid hs
  have HT := Lib.hid hts
  obtain ⟨q, hq⟩ : ∃ q, (s.write fi (headF ts)).1 = q := ⟨_, rfl⟩
  obtain ⟨s2, hs2⟩ : ∃ s2, (s.write fi (headF ts)).2 = s2 := ⟨_, rfl⟩
  have HW : Hid (∀ W, Dk W d g s → Calls Tryz.prog 103 #[.pointer (some ⟨d, 0, none⟩), .int .i64 fi, .agg (byts 64 (headF ts)).toArray] W fun e w' => e = .returned (.int .i64 q) ∧ Dk w' d g s2 ∧ Kp W w' d g) := fun W h => by
    have := write_any d g s (headF ts) fi N k (by omega) hN hk hs W h
    rwa [hq, hs2] at this
  rw [hq, hs2]
  clear hl hd hv hs hts hq hs2
  go_enter Tryz.func89, Tryz.ntmps89
  go_wp2_with fail
  refine wp_region_held (S := fun W => Lg W l d fi) (by kernel_rfl) ?_
  change wpAnyH _ _ _ _ _ _ _ _ (World.drew _)
  have hS0 : Lg w.drew l d fi := HL.out.keep (Below.refl _ _).drew
  refine wpAnyH_take (i := 0) (v := ?_) rfl (by kernel_rfl) (by kernel_rfl) (by kernel_rfl) (fun _ _ _ h => h) (Or.inl ⟨by rfl, ?_⟩) hS0 ?_
  rotate_left 1
  · intro W hW
    go_simp
    try with_reducible rfl
  simp only [Act.put, List.getElem_toArray, List.getElem_cons_zero, List.getElem_cons_succ, List.setIfInBounds_toArray, List.set_cons_zero, List.set_cons_succ]
  refine wpAnyH_take (i := 1) (v := ?_) rfl (by kernel_rfl) (by kernel_rfl) (by kernel_rfl) (fun _ _ _ h => h) (Or.inl ⟨by rfl, ?_⟩) hS0 ?_
  rotate_left 1
  · intro W hW
    go_simp
    try with_reducible rfl
  simp only [Act.put, List.getElem_toArray, List.getElem_cons_zero, List.getElem_cons_succ, List.setIfInBounds_toArray, List.set_cons_zero, List.set_cons_succ]
  refine wpAnyH_take (i := 2) (v := ?_) rfl (by kernel_rfl) (by kernel_rfl) (by kernel_rfl) (fun _ _ _ h => h) (Or.inl ⟨by rfl, ?_⟩) hS0 ?_
  rotate_left 1
  · intro W hW
    go_simp
    try with_reducible rfl
  simp only [Act.put, List.getElem_toArray, List.getElem_cons_zero, List.getElem_cons_succ, List.setIfInBounds_toArray, List.set_cons_zero, List.set_cons_succ]
  refine wpAnyH_take (i := 3) (v := ?_) rfl (by kernel_rfl) (by kernel_rfl) (by kernel_rfl) (fun _ _ _ h => h) (Or.inl ⟨by rfl, ?_⟩) hS0 ?_
  rotate_left 1
  · intro W hW
    have c0 := hW.c0
    go_simp
    try with_reducible rfl
  simp only [Act.put, List.getElem_toArray, List.getElem_cons_zero, List.getElem_cons_succ, List.setIfInBounds_toArray, List.set_cons_zero, List.set_cons_succ]
  refine wpAnyH_take (i := 4) (v := ?_) rfl (by kernel_rfl) (by kernel_rfl) (by kernel_rfl) (fun _ _ _ h => h) (Or.inl ⟨by rfl, ?_⟩) hS0 ?_
  rotate_left 1
  · intro W hW
    go_simp
    try with_reducible rfl
  simp only [Act.put, List.getElem_toArray, List.getElem_cons_zero, List.getElem_cons_succ, List.setIfInBounds_toArray, List.set_cons_zero, List.set_cons_succ]
  refine wpAnyH_take (i := 5) (v := ?_) rfl (by kernel_rfl) (by kernel_rfl) (by kernel_rfl) (fun _ _ _ h => h) (Or.inl ⟨by rfl, ?_⟩) hS0 ?_
  rotate_left 1
  · intro W hW
    go_simp
    try with_reducible rfl
  simp only [Act.put, List.getElem_toArray, List.getElem_cons_zero, List.getElem_cons_succ, List.setIfInBounds_toArray, List.set_cons_zero, List.set_cons_succ]
  refine wpAnyH_take (i := 6) (v := ?_) rfl (by kernel_rfl) (by kernel_rfl) (by kernel_rfl) (fun _ _ _ h => h) (Or.inl ⟨by rfl, ?_⟩) hS0 ?_
  rotate_left 1
  · intro W hW
    go_simp
    try with_reducible rfl
  simp only [Act.put, List.getElem_toArray, List.getElem_cons_zero, List.getElem_cons_succ, List.setIfInBounds_toArray, List.set_cons_zero, List.set_cons_succ]
  refine wpAnyH_take (i := 7) (v := ?_) rfl (by kernel_rfl) (by kernel_rfl) (by kernel_rfl) (fun _ _ _ h => h) (Or.inl ⟨by rfl, ?_⟩) hS0 ?_
  rotate_left 1
  · intro W hW
    have c1 := hW.c1
    go_simp
    try with_reducible rfl
  simp only [Act.put, List.getElem_toArray, List.getElem_cons_zero, List.getElem_cons_succ, List.setIfInBounds_toArray, List.set_cons_zero, List.set_cons_succ]
  refine wpAnyH_take (i := 8) (v := ?_) rfl (by kernel_rfl) (by kernel_rfl) (by kernel_rfl) (fun _ _ _ h => h) (Or.inl ⟨by rfl, ?_⟩) hS0 ?_
  rotate_left 1
  · intro W hW
    go_simp
    try with_reducible rfl
  simp only [Act.put, List.getElem_toArray, List.getElem_cons_zero, List.getElem_cons_succ, List.setIfInBounds_toArray, List.set_cons_zero, List.set_cons_succ]
  refine wpAnyH_ready (rs := [9]) (by kernel_rfl) (by simp) (AllReadyH.cons rfl (fun KK hKK => ?_) AllReadyH.nil)
  go_simp
  refine (headof_any v ts h30 HT.out _ (HV.out.below (Below.refl _ _).drew)).mono ?_
  rintro e w1 ⟨rfl, hb1⟩
  have HB1 := Lib.hid ((Below.refl w.heap.size w).drew.trans hb1)
  clear hS0
  have hS0 : Lg w1 l d fi := HL.out.keep HB1.out
  refine hKK _ _ hS0 ?_
  intro _
  clear hKK KK hb1
  refine wpAnyH_ready (rs := [10]) (by kernel_rfl) (by simp) (AllReadyH.cons rfl (fun KK hKK => ?_) AllReadyH.nil)
  go_simp
  refine (HW.out w1 (HD.out.keep HB1.out)).mono ?_
  rintro e w2 ⟨rfl, hD2, hk2⟩
  have HD2 := Lib.hid hD2
  have HK2 := Lib.hid ((Kp.of_below HB1.out d g).trans hk2)
  clear hS0
  have hS0 : Lg w2 l d fi := (HL.out.keep HB1.out).kp hk2 hld hlg
  refine hKK _ _ hS0 ?_
  intro _
  clear hKK KK hD2 hk2
  refine wpAnyH_take (i := 11) (v := ?_) rfl (by kernel_rfl) (by kernel_rfl) (by kernel_rfl) (fun _ _ _ h => h) (Or.inl ⟨by rfl, ?_⟩) hS0 ?_
  rotate_left 1
  · intro W hW
    go_simp
    try with_reducible rfl
  simp only [Act.put, List.getElem_toArray, List.getElem_cons_zero, List.getElem_cons_succ, List.setIfInBounds_toArray, List.set_cons_zero, List.set_cons_succ]
  refine wpAnyH_done (by kernel_rfl) ?_ _
  clear hS0
  go_wp2
  go_ret
  exact ⟨rfl, HD2.out, HK2.out⟩

set_option maxHeartbeats 2000000 in
set_option maxRecDepth 100000 in
theorem format_any (l d g fi N k : Nat) (s : DS) (hf : fi + 31 ≤ N) (hN : N ≤ 65536) (hk : k < 900000000) (hs : Sane s N k) (w : World) (hl : Lg w l d fi) (hd : Dk w d g s) (hld : l ≠ d) (hlg : l ≠ g) :
    Calls Tryz.prog 46 #[.pointer (some ⟨l, 0, none⟩)] w fun e w' => e = .returned (.int .i64 (s.write fi (headF [])).1) ∧ Dk w' d g (s.write fi (headF [])).2 ∧ Kp w w' d g := by
  have HP := Lib.hid (point_any l d g fi N k s (.slice none 0 0) [] (by decide) (by simp) hf hN hk hs w hl hd (Ns.nil w) hld hlg)
  clear hl hd hs
  obtain ⟨q, hq⟩ : ∃ q, (s.write fi (headF [])).1 = q := ⟨_, rfl⟩
  obtain ⟨s2, hs2⟩ : ∃ s2, (s.write fi (headF [])).2 = s2 := ⟨_, rfl⟩
  rw [hq, hs2] at HP ⊢
  clear hq hs2
  go_enter Tryz.func46, Tryz.ntmps46
  go_wp2_with fail
  refine HP.out.mono ?_
  rintro e w1 ⟨rfl, hD1, hk1⟩
  have HD := Lib.hid hD1
  have HK := Lib.hid hk1
  clear hD1 hk1 HP
  go_wp2
  go_ret
  exact ⟨rfl, HD.out, HK.out⟩
theorem format_nil (w : World) : Calls Tryz.prog 46 #[.pointer none] w fun e w' => e = .returned (.int .i64 1) ∧ w' = w := by
  go_enter Tryz.func46, Tryz.ntmps46
  go_wp2
  go_ret
  exact ⟨rfl, rfl⟩
theorem step_alloc_byts {P : Program} {ops : Array Oper} {o : Oper} {a : Act} {w : World} {K : Act → World → Prop} {Q : Exit → Act → World → Prop} {E : Prop} (hgd : o.guard = none) (ty : TypeId) (n : Nat) (ho : o.op = .alloc ty)
    (hz : (P.info? ty).map (fun i => i.zero) = some (some (.agg (byts n fun _ => 0).toArray)))
    (h : ∀ w', Hid (Fl w' w.heap.size n fun _ => 0) → Below w.heap.size w w' → w'.heap.size = w.heap.size + 1 → K (a.put o.dst (.pointer (some ⟨w.heap.size, 0, none⟩))) w') : if Region.wanted o (yielded ops a.tmps) = true then Oper.wp P o a w K Q else E := by
  have hw : Region.wanted o (yielded ops a.tmps) = true := by simp [Region.wanted, hgd]
  rw [if_pos hw]
  have hr : (Instr.alloc ty true (.tuple #[])).run P w = .ok (.pointer (some ⟨w.heap.size, 0, none⟩)) (w.alloc (.cells (byts n fun _ => 0).toArray ty)) := by
    cases hq : P.info? ty with
    | none => simp [hq] at hz
    | some i =>
      simp [hq] at hz
      simp [Instr.alloc, zeroValue, typeInfo, hq, hz, newVar, newRow, Value.cells]
  unfold Oper.wp
  simp [execOp, ho, hr, Result.andThen]
  exact h _ (Fl.new w n _ ty) ((Below.refl _ _).alloc (Nat.le_refl _) _) (by simp)

/-- the blocks of a log, from its i-th on, to their places -/
def inst (fi : Nat) : Nat → List Nat → DS → Int × DS
  | _, [], s => (0, s)
  | i, p :: r, s => if (s.rdd.write p (s.blk (fi + 1 + i))).1 = 0 then inst fi (i + 1) r (s.rdd.write p (s.blk (fi + 1 + i))).2 else s.rdd.write p (s.blk (fi + 1 + i))
def install (fi : Nat) (ts : List Nat) (s : DS) : Int × DS :=
  if ts = [] then (0, s) else if (inst fi 0 ts s).1 = 0 then (inst fi 0 ts s).2.write fi (headF []) else inst fi 0 ts s
theorem Sane.inst {N fi : Nat} : ∀ (ts : List Nat) (i k : Nat) (s : DS), Sane s N k → Sane (inst fi i ts s).2 N (k + 2 * ts.length)
  | [], i, k, s, h => h
  | p :: r, i, k, s, h => by
    have h1 : Sane (s.rdd.write p (s.blk (fi + 1 + i))).2 N (k + 1 + 1) := h.rdd.write p _ (h.blk _)
    unfold YtnfadmifdncjoaaGreat.inst
    split
    · have := Sane.inst (fi := fi) r (i + 1) (k + 1 + 1) _ h1
      rw [List.length_cons, show k + 2 * (r.length + 1) = k + 1 + 1 + 2 * r.length by omega]
      exact this
    · exact h1.mono (by rw [List.length_cons]; omega)
theorem Sane.install {N fi : Nat} (ts : List Nat) (k : Nat) (s : DS) (h : Sane s N k) : Sane (install fi ts s).2 N (k + 2 * ts.length + 1) := by
  unfold YtnfadmifdncjoaaGreat.install
  split
  · exact h.mono (by omega)
  · split
    · exact (h.inst ts 0).write fi _ (headF_byt _)
    · exact (h.inst ts 0).mono (by omega)
theorem ne_nil_of_pos {α : Type} {l : List α} (h : 0 < l.length) : l ≠ [] := fun e => by rw [e] at h; cases h

set_option maxHeartbeats 40000000 in
set_option maxRecDepth 100000 in
theorem install_any (l d g fi N K : Nat) (s : DS) (v : Value) (ts : List Nat) (h30 : ts.length ≤ 30) (hts : ∀ t ∈ ts, t < N) (hf : fi + 31 ≤ N) (hN : N ≤ 65536) (hK : K < 800000000) (hs : Sane s N K) (w : World) (hl : Lg w l d fi) (hd : Dk w d g s) (hv : Ns w v ts) (hld : l ≠ d) (hlg : l ≠ g) (hvo : Ns.off v d g) :
    Calls Tryz.prog 63 #[.pointer (some ⟨l, 0, none⟩), v] w fun e w' => e = .returned (.int .i64 (install fi ts s).1) ∧ Dk w' d g (install fi ts s).2 ∧ Kp w w' d g := by
  obtain ⟨a, cap, rfl, hm⟩ := hv.form
  unfold maxLen at hm
  have HV := Lib.hid hv
  have HL := Lib.hid hl
  have HD := Lib.hid hd
  have HS := Lib.hid hs
  have HT := Lib.hid hts
  have hg0 := hd.fl.lt
  have hd0 := hd.lt
  have hl0 := hl.lt
  clear hv hl hd hs hts
  by_cases hz : ts.length = 0
  · obtain rfl := List.eq_nil_of_length_eq_zero hz
    go_enter Tryz.func63, Tryz.ntmps63
    go_wp2
    go_ret
    exact ⟨rfl, HD.out, Kp.refl _ _ _⟩
  · have hpos : 0 < ts.length := by omega
    have hpos' : ¬ ((ts.length : Int) = 0) := by omega
    have hpb : ((ts.length : Int) == 0) = false := by simpa using hpos'
    have HIN : Hid (install fi ts s = if (inst fi 0 ts s).1 = 0 then (inst fi 0 ts s).2.write fi (headF []) else inst fi 0 ts s) := by
      show install fi ts s = _
      unfold install
      rw [if_neg (ne_nil_of_pos hpos)]
    obtain ⟨R, hR⟩ : ∃ R, install fi ts s = R := ⟨_, rfl⟩
    rw [hR] at HIN ⊢
    obtain ⟨I, hI⟩ : ∃ I, inst fi 0 ts s = I := ⟨_, rfl⟩
    have HI := Lib.hid hI
    rw [hI] at HIN
    clear hR hI hz
    go_enter Tryz.func63, Tryz.ntmps63
    go_wp2
    go_loopw [5, 6, 7, 8, 9, 15] (fun _ _ _ _ _ i wr => ∃ (k : Nat) (s1 : DS), k ≤ ts.length ∧ i = .int .i64 k ∧ inst fi k (ts.drop k) s1 = I ∧ Sane s1 N (K + 2 * k) ∧ Dk wr d g s1 ∧ Kp w wr d g) (fun _ _ _ _ _ i _ => ts.length - (Go.RowKit.intOf i).toNat)
    case atStart => exact ⟨0, s, by omega, rfl, by rw [List.drop_zero]; exact HI.out, HS.out, HD.out, Kp.refl _ _ _⟩
    case round =>
      obtain ⟨k, s1, hk, rfl, hIk, hSk, hDk, hKk⟩ := hrel
      have HIk := Lib.hid hIk
      have HSk := Lib.hid hSk
      have HDk := Lib.hid hDk
      have HKk := Lib.hid hKk
      have hk0 : (0 : Int) ≤ k := by omega
      have hzr := hKk.size
      clear hIk hSk hDk hKk
      by_cases hlt : k < ts.length
      · have hkk : (k : Int) < ts.length := by omega
        have HSt : Hid (inst fi k (ts.drop k) s1 = if (s1.rdd.write ts[k] (s1.blk (fi + 1 + k))).1 = 0 then inst fi (k + 1) (ts.drop (k + 1)) (s1.rdd.write ts[k] (s1.blk (fi + 1 + k))).2 else s1.rdd.write ts[k] (s1.blk (fi + 1 + k))) := by
          show inst fi k (ts.drop k) s1 = _
          rw [List.drop_eq_getElem_cons hlt]
          rfl
        obtain ⟨b, off, rfl, hbl, hbc⟩ := HV.out.at k hlt
        obtain ⟨hob1, hob2⟩ := hvo b rfl
        have ec := (HKk.out.cell (p := ⟨b, off + k, none⟩) hbl hob1 hob2).trans hbc
        have HTk := Lib.hid (HT.out ts[k] (List.getElem_mem hlt))
        have HVl := Lib.hid hvo
        clear hbc hvo
        generalize ts[k] = t at *
        go_upto_region 6 with fail
        obtain ⟨wX, rfl⟩ : ∃ x, x = wr := ⟨wr, rfl⟩
        have hfk : fi + 1 + k < N := by omega
        have hKb : K + 2 * k < 900000000 := by omega
        have hdX := HDk.out.lt
        have hgX := HDk.out.fl.lt
        have hlX : l < wX.heap.size := by omega
        have HLX := Lib.hid (HL.out.kp HKk.out hld hlg)
        obtain ⟨V, hV⟩ : ∃ V, s1.blk (fi + 1 + k) = V := ⟨_, rfl⟩
        have HR : Hid (∀ W, Dk W d g s1 → Calls Tryz.prog 96 #[.pointer (some ⟨d, 0, none⟩), .int .i64 ((fi : Int) + 1 + (k : Int))] W fun e w' => e = .returned (.tuple #[.agg (byts 64 V).toArray, .int .i64 0]) ∧ Dk w' d g s1.rdd ∧ Kp W w' d g) := fun W h => by
          have := read_any d g s1 (fi + 1 + k) N (K + 2 * k) hfk hN hKb HSk.out W h
          rwa [hV, show ((fi + 1 + k : Nat) : Int) = (fi : Int) + 1 + (k : Int) by omega] at this
        have hVb : Byt V := by rw [← hV]; exact HSk.out.blk _
        have HVb := Lib.hid hVb
        rw [hV] at HSt
        clear hV hVb
        go_cut [7, 8] (fun x y wc => ∃ b, x = .pointer (some ⟨b, 0, none⟩) ∧ y = .int .i64 0 ∧ wX.heap.size ≤ b ∧ Fl wc b 64 V ∧ Dk wc d g s1.rdd ∧ Kp wX wc d g)
        case first =>
          refine wp_region_held (S := fun W => Lg W l d fi) (by kernel_rfl) ?_
          change wpAnyH _ _ _ _ _ _ _ _ (World.drew _)
          have hS0 : Lg wX.drew l d fi := HLX.out.keep (Below.refl _ _).drew
          have HL0 := Lib.hid hS0
          have HD0 := Lib.hid (HDk.out.keep (Below.refl _ _).drew)
          have HK0 := Lib.hid (Kp.refl wX d g).drew
          have hz0 : wX.heap.size ≤ wX.drew.heap.size := Nat.le_refl _
          obtain ⟨w0, hw0⟩ : ∃ x, World.drew wX = x := ⟨_, rfl⟩
          rw [hw0] at hS0 HL0 HD0 HK0 hz0 ⊢
          clear hw0
          refine wpAnyH_take (i := 0) (v := ?_) rfl (by kernel_rfl) (by kernel_rfl) (by kernel_rfl) (fun _ _ _ h => h) (Or.inl ⟨by rfl, ?_⟩) hS0 ?_
          rotate_left 1
          · intro W hW
            go_simp
            try with_reducible rfl
          simp only [Act.put, List.getElem_toArray, List.getElem_cons_zero, List.getElem_cons_succ, List.setIfInBounds_toArray, List.set_cons_zero, List.set_cons_succ]
          refine wpAnyH_take (i := 1) (v := ?_) rfl (by kernel_rfl) (by kernel_rfl) (by kernel_rfl) (fun _ _ _ h => h) (Or.inl ⟨by rfl, ?_⟩) hS0 ?_
          rotate_left 1
          · intro W hW
            go_simp
            try with_reducible rfl
          simp only [Act.put, List.getElem_toArray, List.getElem_cons_zero, List.getElem_cons_succ, List.setIfInBounds_toArray, List.set_cons_zero, List.set_cons_succ]
          refine wpAnyH_take (i := 2) (v := ?_) rfl (by kernel_rfl) (by kernel_rfl) (by kernel_rfl) (fun _ _ _ h => h) (Or.inl ⟨by rfl, ?_⟩) hS0 ?_
          rotate_left 1
          · intro W hW
            go_simp
            try with_reducible rfl
          simp only [Act.put, List.getElem_toArray, List.getElem_cons_zero, List.getElem_cons_succ, List.setIfInBounds_toArray, List.set_cons_zero, List.set_cons_succ]
          refine wpAnyH_take (i := 3) (v := ?_) rfl (by kernel_rfl) (by kernel_rfl) (by kernel_rfl) (fun _ _ _ h => h) (Or.inl ⟨by rfl, ?_⟩) hS0 ?_
          rotate_left 1
          · intro W hW
            have c0 := hW.c0
            go_simp
            try with_reducible rfl
          simp only [Act.put, List.getElem_toArray, List.getElem_cons_zero, List.getElem_cons_succ, List.setIfInBounds_toArray, List.set_cons_zero, List.set_cons_succ]
          refine wpAnyH_take (i := 4) (v := ?_) rfl (by kernel_rfl) (by kernel_rfl) (by kernel_rfl) (fun _ _ _ h => h) (Or.inl ⟨by rfl, ?_⟩) hS0 ?_
          rotate_left 1
          · intro W hW
            go_simp
            try with_reducible rfl
          simp only [Act.put, List.getElem_toArray, List.getElem_cons_zero, List.getElem_cons_succ, List.setIfInBounds_toArray, List.set_cons_zero, List.set_cons_succ]
          refine wpAnyH_take (i := 5) (v := ?_) rfl (by kernel_rfl) (by kernel_rfl) (by kernel_rfl) (fun _ _ _ h => h) (Or.inl ⟨by rfl, ?_⟩) hS0 ?_
          rotate_left 1
          · intro W hW
            go_simp
            try with_reducible rfl
          simp only [Act.put, List.getElem_toArray, List.getElem_cons_zero, List.getElem_cons_succ, List.setIfInBounds_toArray, List.set_cons_zero, List.set_cons_succ]
          refine wpAnyH_ready (rs := [6, 11]) (by kernel_rfl) (by simp) (AllReadyH.cons rfl (fun KK hKK => ?_) (AllReadyH.cons rfl (fun KK hKK => ?_) AllReadyH.nil))
          · skip
            go_simp
            refine (slot_any l d fi k (by omega) (by omega) w0 HL0.out).mono ?_
            rintro e wz ⟨rfl, hwz⟩
            rw [hwz]
            clear hwz
            refine hKK _ _ HL0.out ?_
            intro _
            clear hKK KK
            try simp only [Act.put, List.getElem_toArray, List.getElem_cons_zero, List.getElem_cons_succ, List.setIfInBounds_toArray, List.set_cons_zero, List.set_cons_succ]
            refine wpAnyH_ready (rs := [7, 11]) (by kernel_rfl) (by simp) (AllReadyH.cons rfl (fun KK hKK => ?_) (AllReadyH.cons rfl (fun KK hKK => ?_) AllReadyH.nil))
            · skip
              go_simp
              refine (HR.out w0 HD0.out).mono ?_
              rintro e w2 ⟨rfl, hD2, hk2⟩
              have HD2 := Lib.hid hD2
              have HL2 := Lib.hid (HL0.out.kp hk2 hld hlg)
              have HK2 := Lib.hid (HK0.out.trans hk2)
              have hz2 : wX.heap.size ≤ w2.heap.size := HK2.out.size
              clear hS0
              have hS0 : Lg w2 l d fi := HL2.out
              refine hKK _ _ hS0 ?_
              intro _
              clear hKK KK hD2 hk2
              try simp only [Act.put, List.getElem_toArray, List.getElem_cons_zero, List.getElem_cons_succ, List.setIfInBounds_toArray, List.set_cons_zero, List.set_cons_succ]
              refine wpAnyH_take (i := 8) (v := ?_) rfl (by kernel_rfl) (by kernel_rfl) (by kernel_rfl) (fun _ _ _ h => h) (Or.inl ⟨by rfl, ?_⟩) hS0 ?_
              rotate_left 1
              · intro W hW
                go_simp
                try with_reducible rfl
              simp only [Act.put, List.getElem_toArray, List.getElem_cons_zero, List.getElem_cons_succ, List.setIfInBounds_toArray, List.set_cons_zero, List.set_cons_succ]
              refine wpAnyH_take (i := 9) (v := ?_) rfl (by kernel_rfl) (by kernel_rfl) (by kernel_rfl) (fun _ _ _ h => h) (Or.inl ⟨by rfl, ?_⟩) hS0 ?_
              rotate_left 1
              · intro W hW
                go_simp
                try with_reducible rfl
              simp only [Act.put, List.getElem_toArray, List.getElem_cons_zero, List.getElem_cons_succ, List.setIfInBounds_toArray, List.set_cons_zero, List.set_cons_succ]
              refine wpAnyH_take (i := 10) (v := ?_) rfl (by kernel_rfl) (by kernel_rfl) (by kernel_rfl) (fun _ _ _ h => h) (Or.inl ⟨by rfl, ?_⟩) hS0 ?_
              rotate_left 1
              · intro W hW
                go_simp
                try with_reducible rfl
              simp only [Act.put, List.getElem_toArray, List.getElem_cons_zero, List.getElem_cons_succ, List.setIfInBounds_toArray, List.set_cons_zero, List.set_cons_succ]
              refine wpAnyH_ready (rs := [11]) (by kernel_rfl) (by simp) (AllReadyH.cons rfl (fun KK hKK => ?_) AllReadyH.nil)
              refine step_alloc_byts rfl 59 64 rfl Tryz.zero36 ?_
              intro w3 HF3 hb3 hq3
              obtain ⟨b9, hb9⟩ : ∃ b9, w2.heap.size = b9 := ⟨_, rfl⟩
              have HD3 := Lib.hid (HD2.out.keep hb3)
              have HL3 := Lib.hid (HL2.out.keep hb3)
              have HK3 := Lib.hid (HK2.out.trans (Kp.of_below hb3 d g))
              have hz3 : wX.heap.size ≤ w3.heap.size := HK3.out.size
              rw [hb9] at HF3 hq3 hz2 ⊢
              clear hS0
              have hS0 : Lg w3 l d fi := HL3.out
              refine hKK _ _ hS0 ?_
              intro _
              clear hKK KK hb3 hb9 hq3
              try simp only [Act.put, List.getElem_toArray, List.getElem_cons_zero, List.getElem_cons_succ, List.setIfInBounds_toArray, List.set_cons_zero, List.set_cons_succ]
              refine wpAnyH_ready (rs := [12]) (by kernel_rfl) (by simp) (AllReadyH.cons rfl (fun KK hKK => ?_) AllReadyH.nil)
              refine step_store_mid rfl 59 _ _ rfl b9 0 (byts 64 V).toArray rfl rfl (by rw [byts_size]; exact HF3.out.there 0 64 (Nat.le_refl _)) (size36' _) (byts_all _ _) ?_
              rw [List.toList_toArray]
              have HF4 := Lib.hid (HF3.out.stored V)
              have hk4 : Kp w3 (w3.setCells b9 0 (byts 64 V)) b9 b9 := (Kp.refl _ b9 b9).setCells b9 0 (.inl rfl) _
              have HD4 := Lib.hid (HD3.out.kp hk4 (by omega) (by omega) (by omega) (by omega))
              have HL4 := Lib.hid (HL3.out.kp hk4 (by omega) (by omega))
              have HK4 := Lib.hid (HK3.out.setCellsNew b9 0 (by omega) (byts 64 V))
              obtain ⟨w4, hw4⟩ : ∃ x, w3.setCells b9 0 (byts 64 V) = x := ⟨_, rfl⟩
              rw [hw4] at HF4 HD4 HL4 HK4 ⊢
              clear hS0 hk4 hw4
              have hS0 : Lg w4 l d fi := HL4.out
              refine hKK _ _ hS0 ?_
              intro _
              clear hKK KK
              try simp only [Act.put, List.getElem_toArray, List.getElem_cons_zero, List.getElem_cons_succ, List.setIfInBounds_toArray, List.set_cons_zero, List.set_cons_succ]
              refine wpAnyH_take (i := 13) (v := ?_) rfl (by kernel_rfl) (by kernel_rfl) (by kernel_rfl) (fun _ _ _ h => h) (Or.inl ⟨by rfl, ?_⟩) hS0 ?_
              rotate_left 1
              · intro W hW
                go_simp
                try with_reducible rfl
              simp only [Act.put, List.getElem_toArray, List.getElem_cons_zero, List.getElem_cons_succ, List.setIfInBounds_toArray, List.set_cons_zero, List.set_cons_succ]
              refine wpAnyH_done (by kernel_rfl) ?_ _
              clear hS0
              go_wp2_with fail
              go_meet
              case rel => exact ⟨b9, rfl, rfl, by omega, HF4.out, HD4.out, HK4.out⟩
            · skip
              refine step_alloc_byts rfl 59 64 rfl Tryz.zero36 ?_
              intro w2 HF2 hb2 hq2
              obtain ⟨b9, hb9⟩ : ∃ b9, w0.heap.size = b9 := ⟨_, rfl⟩
              have HD2 := Lib.hid (HD0.out.keep hb2)
              have HL2 := Lib.hid (HL0.out.keep hb2)
              have HK2 := Lib.hid (HK0.out.trans (Kp.of_below hb2 d g))
              have hz2 : wX.heap.size ≤ w2.heap.size := HK2.out.size
              rw [hb9] at HF2 hq2 hz0 ⊢
              clear hS0
              have hS0 : Lg w2 l d fi := HL2.out
              refine hKK _ _ hS0 ?_
              intro _
              clear hKK KK hb2 hb9 hq2
              try simp only [Act.put, List.getElem_toArray, List.getElem_cons_zero, List.getElem_cons_succ, List.setIfInBounds_toArray, List.set_cons_zero, List.set_cons_succ]
              refine wpAnyH_ready (rs := [7]) (by kernel_rfl) (by simp) (AllReadyH.cons rfl (fun KK hKK => ?_) AllReadyH.nil)
              go_simp
              refine (HR.out w2 HD2.out).mono ?_
              rintro e w3 ⟨rfl, hD3, hk3⟩
              have HD3 := Lib.hid hD3
              have HL3 := Lib.hid (HL2.out.kp hk3 hld hlg)
              have HK3 := Lib.hid (HK2.out.trans hk3)
              have HF3 := Lib.hid (HF2.out.kp hk3 (by omega) (by omega))
              have hz3 : wX.heap.size ≤ w3.heap.size := HK3.out.size
              clear hS0
              have hS0 : Lg w3 l d fi := HL3.out
              refine hKK _ _ hS0 ?_
              intro _
              clear hKK KK hD3 hk3
              try simp only [Act.put, List.getElem_toArray, List.getElem_cons_zero, List.getElem_cons_succ, List.setIfInBounds_toArray, List.set_cons_zero, List.set_cons_succ]
              refine wpAnyH_take (i := 8) (v := ?_) rfl (by kernel_rfl) (by kernel_rfl) (by kernel_rfl) (fun _ _ _ h => h) (Or.inl ⟨by rfl, ?_⟩) hS0 ?_
              rotate_left 1
              · intro W hW
                go_simp
                try with_reducible rfl
              simp only [Act.put, List.getElem_toArray, List.getElem_cons_zero, List.getElem_cons_succ, List.setIfInBounds_toArray, List.set_cons_zero, List.set_cons_succ]
              refine wpAnyH_take (i := 9) (v := ?_) rfl (by kernel_rfl) (by kernel_rfl) (by kernel_rfl) (fun _ _ _ h => h) (Or.inl ⟨by rfl, ?_⟩) hS0 ?_
              rotate_left 1
              · intro W hW
                go_simp
                try with_reducible rfl
              simp only [Act.put, List.getElem_toArray, List.getElem_cons_zero, List.getElem_cons_succ, List.setIfInBounds_toArray, List.set_cons_zero, List.set_cons_succ]
              refine wpAnyH_take (i := 10) (v := ?_) rfl (by kernel_rfl) (by kernel_rfl) (by kernel_rfl) (fun _ _ _ h => h) (Or.inl ⟨by rfl, ?_⟩) hS0 ?_
              rotate_left 1
              · intro W hW
                go_simp
                try with_reducible rfl
              simp only [Act.put, List.getElem_toArray, List.getElem_cons_zero, List.getElem_cons_succ, List.setIfInBounds_toArray, List.set_cons_zero, List.set_cons_succ]
              refine wpAnyH_ready (rs := [12]) (by kernel_rfl) (by simp) (AllReadyH.cons rfl (fun KK hKK => ?_) AllReadyH.nil)
              refine step_store_mid rfl 59 _ _ rfl b9 0 (byts 64 V).toArray rfl rfl (by rw [byts_size]; exact HF3.out.there 0 64 (Nat.le_refl _)) (size36' _) (byts_all _ _) ?_
              rw [List.toList_toArray]
              have HF4 := Lib.hid (HF3.out.stored V)
              have hk4 : Kp w3 (w3.setCells b9 0 (byts 64 V)) b9 b9 := (Kp.refl _ b9 b9).setCells b9 0 (.inl rfl) _
              have HD4 := Lib.hid (HD3.out.kp hk4 (by omega) (by omega) (by omega) (by omega))
              have HL4 := Lib.hid (HL3.out.kp hk4 (by omega) (by omega))
              have HK4 := Lib.hid (HK3.out.setCellsNew b9 0 (by omega) (byts 64 V))
              obtain ⟨w4, hw4⟩ : ∃ x, w3.setCells b9 0 (byts 64 V) = x := ⟨_, rfl⟩
              rw [hw4] at HF4 HD4 HL4 HK4 ⊢
              clear hS0 hk4 hw4
              have hS0 : Lg w4 l d fi := HL4.out
              refine hKK _ _ hS0 ?_
              intro _
              clear hKK KK
              try simp only [Act.put, List.getElem_toArray, List.getElem_cons_zero, List.getElem_cons_succ, List.setIfInBounds_toArray, List.set_cons_zero, List.set_cons_succ]
              refine wpAnyH_take (i := 13) (v := ?_) rfl (by kernel_rfl) (by kernel_rfl) (by kernel_rfl) (fun _ _ _ h => h) (Or.inl ⟨by rfl, ?_⟩) hS0 ?_
              rotate_left 1
              · intro W hW
                go_simp
                try with_reducible rfl
              simp only [Act.put, List.getElem_toArray, List.getElem_cons_zero, List.getElem_cons_succ, List.setIfInBounds_toArray, List.set_cons_zero, List.set_cons_succ]
              refine wpAnyH_done (by kernel_rfl) ?_ _
              clear hS0
              go_wp2_with fail
              go_meet
              case rel => exact ⟨b9, rfl, rfl, by omega, HF4.out, HD4.out, HK4.out⟩
          · skip
            refine step_alloc_byts rfl 59 64 rfl Tryz.zero36 ?_
            intro w1 HF1 hb1 hq1
            obtain ⟨b9, hb9⟩ : ∃ b9, w0.heap.size = b9 := ⟨_, rfl⟩
            have HD1 := Lib.hid (HD0.out.keep hb1)
            have HL1 := Lib.hid (HL0.out.keep hb1)
            have HK1 := Lib.hid (HK0.out.trans (Kp.of_below hb1 d g))
            have hz1 : wX.heap.size ≤ w1.heap.size := HK1.out.size
            rw [hb9] at HF1 hq1 hz0 ⊢
            clear hS0
            have hS0 : Lg w1 l d fi := HL1.out
            refine hKK _ _ hS0 ?_
            intro _
            clear hKK KK hb1 hb9 hq1
            try simp only [Act.put, List.getElem_toArray, List.getElem_cons_zero, List.getElem_cons_succ, List.setIfInBounds_toArray, List.set_cons_zero, List.set_cons_succ]
            refine wpAnyH_ready (rs := [6]) (by kernel_rfl) (by simp) (AllReadyH.cons rfl (fun KK hKK => ?_) AllReadyH.nil)
            go_simp
            refine (slot_any l d fi k (by omega) (by omega) w1 HL1.out).mono ?_
            rintro e wz ⟨rfl, hwz⟩
            rw [hwz]
            clear hwz
            refine hKK _ _ HL1.out ?_
            intro _
            clear hKK KK
            try simp only [Act.put, List.getElem_toArray, List.getElem_cons_zero, List.getElem_cons_succ, List.setIfInBounds_toArray, List.set_cons_zero, List.set_cons_succ]
            refine wpAnyH_ready (rs := [7]) (by kernel_rfl) (by simp) (AllReadyH.cons rfl (fun KK hKK => ?_) AllReadyH.nil)
            go_simp
            refine (HR.out w1 HD1.out).mono ?_
            rintro e w3 ⟨rfl, hD3, hk3⟩
            have HD3 := Lib.hid hD3
            have HL3 := Lib.hid (HL1.out.kp hk3 hld hlg)
            have HK3 := Lib.hid (HK1.out.trans hk3)
            have HF3 := Lib.hid (HF1.out.kp hk3 (by omega) (by omega))
            have hz3 : wX.heap.size ≤ w3.heap.size := HK3.out.size
            clear hS0
            have hS0 : Lg w3 l d fi := HL3.out
            refine hKK _ _ hS0 ?_
            intro _
            clear hKK KK hD3 hk3
            try simp only [Act.put, List.getElem_toArray, List.getElem_cons_zero, List.getElem_cons_succ, List.setIfInBounds_toArray, List.set_cons_zero, List.set_cons_succ]
            refine wpAnyH_take (i := 8) (v := ?_) rfl (by kernel_rfl) (by kernel_rfl) (by kernel_rfl) (fun _ _ _ h => h) (Or.inl ⟨by rfl, ?_⟩) hS0 ?_
            rotate_left 1
            · intro W hW
              go_simp
              try with_reducible rfl
            simp only [Act.put, List.getElem_toArray, List.getElem_cons_zero, List.getElem_cons_succ, List.setIfInBounds_toArray, List.set_cons_zero, List.set_cons_succ]
            refine wpAnyH_take (i := 9) (v := ?_) rfl (by kernel_rfl) (by kernel_rfl) (by kernel_rfl) (fun _ _ _ h => h) (Or.inl ⟨by rfl, ?_⟩) hS0 ?_
            rotate_left 1
            · intro W hW
              go_simp
              try with_reducible rfl
            simp only [Act.put, List.getElem_toArray, List.getElem_cons_zero, List.getElem_cons_succ, List.setIfInBounds_toArray, List.set_cons_zero, List.set_cons_succ]
            refine wpAnyH_take (i := 10) (v := ?_) rfl (by kernel_rfl) (by kernel_rfl) (by kernel_rfl) (fun _ _ _ h => h) (Or.inl ⟨by rfl, ?_⟩) hS0 ?_
            rotate_left 1
            · intro W hW
              go_simp
              try with_reducible rfl
            simp only [Act.put, List.getElem_toArray, List.getElem_cons_zero, List.getElem_cons_succ, List.setIfInBounds_toArray, List.set_cons_zero, List.set_cons_succ]
            refine wpAnyH_ready (rs := [12]) (by kernel_rfl) (by simp) (AllReadyH.cons rfl (fun KK hKK => ?_) AllReadyH.nil)
            refine step_store_mid rfl 59 _ _ rfl b9 0 (byts 64 V).toArray rfl rfl (by rw [byts_size]; exact HF3.out.there 0 64 (Nat.le_refl _)) (size36' _) (byts_all _ _) ?_
            rw [List.toList_toArray]
            have HF4 := Lib.hid (HF3.out.stored V)
            have hk4 : Kp w3 (w3.setCells b9 0 (byts 64 V)) b9 b9 := (Kp.refl _ b9 b9).setCells b9 0 (.inl rfl) _
            have HD4 := Lib.hid (HD3.out.kp hk4 (by omega) (by omega) (by omega) (by omega))
            have HL4 := Lib.hid (HL3.out.kp hk4 (by omega) (by omega))
            have HK4 := Lib.hid (HK3.out.setCellsNew b9 0 (by omega) (byts 64 V))
            obtain ⟨w4, hw4⟩ : ∃ x, w3.setCells b9 0 (byts 64 V) = x := ⟨_, rfl⟩
            rw [hw4] at HF4 HD4 HL4 HK4 ⊢
            clear hS0 hk4 hw4
            have hS0 : Lg w4 l d fi := HL4.out
            refine hKK _ _ hS0 ?_
            intro _
            clear hKK KK
            try simp only [Act.put, List.getElem_toArray, List.getElem_cons_zero, List.getElem_cons_succ, List.setIfInBounds_toArray, List.set_cons_zero, List.set_cons_succ]
            refine wpAnyH_take (i := 13) (v := ?_) rfl (by kernel_rfl) (by kernel_rfl) (by kernel_rfl) (fun _ _ _ h => h) (Or.inl ⟨by rfl, ?_⟩) hS0 ?_
            rotate_left 1
            · intro W hW
              go_simp
              try with_reducible rfl
            simp only [Act.put, List.getElem_toArray, List.getElem_cons_zero, List.getElem_cons_succ, List.setIfInBounds_toArray, List.set_cons_zero, List.set_cons_succ]
            refine wpAnyH_done (by kernel_rfl) ?_ _
            clear hS0
            go_wp2_with fail
            go_meet
            case rel => exact ⟨b9, rfl, rfl, by omega, HF4.out, HD4.out, HK4.out⟩
        case rest =>
          obtain ⟨b9, rfl, rfl, hb9, hF9, hD9, hK9⟩ := hcut
          obtain ⟨wY, rfl⟩ : ∃ x, x = wc := ⟨wc, rfl⟩
          have HF9 := Lib.hid hF9
          have HD9 := Lib.hid hD9
          have HK9 := Lib.hid hK9
          clear hF9 hD9 hK9 HR
          go_upto_region 9 with fail
          refine wp_region_held (S := fun W => Lg W l d fi ∧ Fl W b9 64 V) (by kernel_rfl) ?_
          change wpAnyH _ _ _ _ _ _ _ _ (World.drew _)
          have hS0 : Lg wY.drew l d fi ∧ Fl wY.drew b9 64 V := ⟨(HLX.out.kp HK9.out hld hlg).keep (Below.refl _ _).drew, HF9.out.below (Below.refl _ _).drew HF9.out.lt⟩
          have hWk : K + 2 * k + 1 < 900000000 := by omega
          refine wpAnyH_take (i := 0) (v := ?_) rfl (by kernel_rfl) (by kernel_rfl) (by kernel_rfl) (fun _ _ _ h => h) (Or.inl ⟨by rfl, ?_⟩) hS0 ?_
          rotate_left 1
          · intro W hW
            go_simp
            try with_reducible rfl
          simp only [Act.put, List.getElem_toArray, List.getElem_cons_zero, List.getElem_cons_succ, List.setIfInBounds_toArray, List.set_cons_zero, List.set_cons_succ]
          refine wpAnyH_take (i := 1) (v := ?_) rfl (by kernel_rfl) (by kernel_rfl) (by kernel_rfl) (fun _ _ _ h => h) (Or.inl ⟨by rfl, ?_⟩) hS0 ?_
          rotate_left 1
          · intro W hW
            go_simp
            try with_reducible rfl
          simp only [Act.put, List.getElem_toArray, List.getElem_cons_zero, List.getElem_cons_succ, List.setIfInBounds_toArray, List.set_cons_zero, List.set_cons_succ]
          refine wpAnyH_take (i := 2) (v := ?_) rfl (by kernel_rfl) (by kernel_rfl) (by kernel_rfl) (fun _ _ _ h => h) (Or.inl ⟨by rfl, ?_⟩) hS0 ?_
          rotate_left 1
          · intro W hW
            go_simp
            try with_reducible rfl
          simp only [Act.put, List.getElem_toArray, List.getElem_cons_zero, List.getElem_cons_succ, List.setIfInBounds_toArray, List.set_cons_zero, List.set_cons_succ]
          refine wpAnyH_take (i := 3) (v := ?_) rfl (by kernel_rfl) (by kernel_rfl) (by kernel_rfl) (fun _ _ _ h => h) (Or.inl ⟨by rfl, ?_⟩) hS0 ?_
          rotate_left 1
          · intro W hW
            have c0 := hW.1.c0
            go_simp
            try with_reducible rfl
          simp only [Act.put, List.getElem_toArray, List.getElem_cons_zero, List.getElem_cons_succ, List.setIfInBounds_toArray, List.set_cons_zero, List.set_cons_succ]
          refine wpAnyH_take (i := 4) (v := ?_) rfl (by kernel_rfl) (by kernel_rfl) (by kernel_rfl) (fun _ _ _ h => h) (Or.inl ⟨by rfl, ?_⟩) hS0 ?_
          rotate_left 1
          · intro W hW
            go_simp
            try with_reducible rfl
          simp only [Act.put, List.getElem_toArray, List.getElem_cons_zero, List.getElem_cons_succ, List.setIfInBounds_toArray, List.set_cons_zero, List.set_cons_succ]
          refine wpAnyH_take (i := 5) (v := .agg (byts 64 V).toArray) rfl (by kernel_rfl) (by kernel_rfl) (by kernel_rfl) (fun _ _ _ h => h) ?_ hS0 ?_
          · exact yieldsIf_load_mid (by rfl) 59 _ rfl b9 0 rfl (byts 64 V) (.array 64 5) (fun _ h => h.2.range0) Tryz.arr36 rfl (size36 _)
          simp only [Act.put, List.getElem_toArray, List.getElem_cons_zero, List.getElem_cons_succ, List.setIfInBounds_toArray, List.set_cons_zero, List.set_cons_succ]
          refine wpAnyH_ready (rs := [6]) (by kernel_rfl) (by simp) (AllReadyH.cons rfl (fun KK hKK => ?_) AllReadyH.nil)
          go_simp
          refine (write_any d g s1.rdd V t N (K + 2 * k + 1) HTk.out hN hWk HSk.out.rdd _ (HD9.out.keep (Below.refl _ _).drew)).mono ?_
          obtain ⟨q, hq⟩ : ∃ q, s1.rdd.write t V = q := ⟨_, rfl⟩
          have HQ := Lib.hid hq
          have HSq := Lib.hid (HSk.out.rdd.write t V HVb.out)
          rw [hq] at HSq HSt ⊢
          clear hq
          have hS1 := hS0
          clear hS0
          rintro e wZ ⟨rfl, hDZ, hkZ⟩
          have HDZ := Lib.hid hDZ
          have HKZ := Lib.hid ((HK9.out.drew).trans hkZ)
          have hS0 : Lg wZ l d fi ∧ Fl wZ b9 64 V := ⟨hS1.1.kp hkZ hld hlg, hS1.2.kp hkZ (by omega) (by omega)⟩
          refine hKK _ _ hS0 ?_
          intro _
          clear hKK KK hDZ hkZ hS1
          have hqc : q.1 = 0 ∨ q.1 = 24 := by rw [← HQ.out]; exact DS.write_code _ _ _
          obtain ⟨q1, q2⟩ := q
          simp only at hqc
          refine wpAnyH_take (i := 7) (v := ?_) rfl (by kernel_rfl) (by kernel_rfl) (by kernel_rfl) (fun _ _ _ h => h) (Or.inl ⟨by rfl, ?_⟩) hS0 ?_
          rotate_left 1
          · intro W hW
            go_simp
            try with_reducible rfl
          simp only [Act.put, List.getElem_toArray, List.getElem_cons_zero, List.getElem_cons_succ, List.setIfInBounds_toArray, List.set_cons_zero, List.set_cons_succ]
          refine wpAnyH_done (by kernel_rfl) ?_ _
          clear hS0
          rcases hqc with rfl | rfl
          · go_wp2_with fail
            go_roundw
            case rel =>
              exact ⟨k + 1, q2, by omega, by go_num, by rw [← HIk.out, HSt.out, if_pos rfl], (by rw [show K + 2 * (k + 1) = K + 2 * k + 1 + 1 by omega]; exact HSq.out), HDZ.out, HKk.out.trans HKZ.out⟩
            case measure => simp [Go.RowKit.intOf]; omega
          · go_wp2_with fail
            go_ret
            have hI : I = (24, q2) := by rw [← HIk.out, HSt.out, if_neg (by decide)]
            have hR : R = (24, q2) := by rw [HIN.out, hI]; rfl
            rw [hR]
            exact ⟨rfl, HDZ.out, HKk.out.trans HKZ.out⟩
      · obtain rfl : k = ts.length := by omega
        have hI : I = (0, s1) := by rw [← HIk.out, List.drop_length]; rfl
        have hR : Hid (R = s1.write fi (headF [])) := by show R = _; rw [HIN.out, hI]; rfl
        have hKb : K + 2 * ts.length < 900000000 := by omega
        have HP := Lib.hid (point_any l d g fi N (K + 2 * ts.length) s1 (.slice none 0 0) [] (by decide) (by simp) hf hN hKb HSk.out wr (HL.out.kp HKk.out hld hlg) HDk.out (Ns.nil wr) hld hlg)
        rw [← hR.out] at HP
        clear HIk HSk HDk HIN HI hR hI HV hvo
        go_wp2_with fail
        refine HP.out.mono ?_
        rintro e wz ⟨rfl, hDz, hkz⟩
        have HDz := Lib.hid hDz
        have HKz := Lib.hid (HKk.out.trans hkz)
        clear hDz hkz HP
        go_wp2
        go_ret
        exact ⟨rfl, HDz.out, HKz.out⟩
end Go.Proofs.YtnfadmifdncjoaaGreat
