import Derived.Test.YtnfadmifdncjoaaGreatEA
import Derived.Test.YtnfadmifdncjoaaGreatShelf
import Derived.Sort.KeysCollected
import Derived.Sort.OwnSorted
/- Transactions: Put, Get, Blocks, Commit. -/
namespace Go.Proofs.YtnfadmifdncjoaaGreat
set_option linter.unusedSimpArgs false
set_option linter.unusedVariables false
open Go.RowKit Go.Maps Go.Sort
/-- block t holds a transaction: its log, its blocks in map m, the first error -/
structure Tx (w : World) (t m d fi : Nat) (T : TS) (fa : Int) : Prop where
  lg : Lg w t d fi
  c2 : w.cell? ⟨t, 2, none⟩ = some (.map (some m))
  c3 : w.cell? ⟨t, 3, none⟩ = some (.int .i64 fa)
  z3 : w.frozen? ⟨t, 3, none⟩ = false
  mp : Mp w m T
  ne : m ≠ t
theorem Tx.below {w w' : World} {B t m d fi : Nat} {T : TS} {fa : Int} (h : Tx w t m d fi T fa) (hb : Below B w w') (ht : t < B) (hm : m < B) : Tx w' t m d fi T fa :=
  ⟨h.lg.below hb ht, (hb.cell (p := ⟨t, 2, none⟩) ht).trans h.c2, (hb.cell (p := ⟨t, 3, none⟩) ht).trans h.c3, (hb.frozen (p := ⟨t, 3, none⟩) ht).trans h.z3, h.mp.below hb hm, h.ne⟩
theorem Tx.keep {w w' : World} {t m d fi : Nat} {T : TS} {fa : Int} (h : Tx w t m d fi T fa) (hb : Below w.heap.size w w') : Tx w' t m d fi T fa := h.below hb h.lg.lt h.mp.lt
theorem Tx.kp {w w' : World} {a b t m d fi : Nat} {T : TS} {fa : Int} (h : Tx w t m d fi T fa) (hb : Kp w w' a b) (h1 : t ≠ a) (h2 : t ≠ b) (h3 : m ≠ a) (h4 : m ≠ b) : Tx w' t m d fi T fa :=
  ⟨h.lg.kp hb h1 h2, (hb.cell (p := ⟨t, 2, none⟩) h.lg.lt h1 h2).trans h.c2, (hb.cell (p := ⟨t, 3, none⟩) h.lg.lt h1 h2).trans h.c3, (hb.frozen (p := ⟨t, 3, none⟩) h.lg.lt h1 h2).trans h.z3, h.mp.kp hb h3 h4, h.ne⟩
theorem Tx.fail {w : World} {t m d fi : Nat} {T : TS} {fa : Int} (h : Tx w t m d fi T fa) (x : Int) : Tx (w.setCell ⟨t, 3, none⟩ (.int .i64 x)) t m d fi T x :=
  ⟨⟨lt_set h.lg.lt _ _, cell_set_other h.lg.c0 _ (by decide), cell_set_other h.lg.c1 _ (by decide)⟩, cell_set_other h.c2 _ (by decide), cell_set_same h.c3 _, frozen_set h.z3 _, h.mp.block (Below.heap_setCell _ _ _ _ h.ne), h.ne⟩
/-- another map in the map's place -/
theorem Tx.remap {w w' : World} {t m d fi : Nat} {T T' : TS} {fa : Int} (h : Tx w t m d fi T fa) (hk : Kp w w' m m) (hm : Mp w' m T') : Tx w' t m d fi T' fa := by
  have hne : t ≠ m := fun e => h.ne e.symm
  exact ⟨h.lg.kp hk hne hne, (hk.cell (p := ⟨t, 2, none⟩) h.lg.lt hne hne).trans h.c2, (hk.cell (p := ⟨t, 3, none⟩) h.lg.lt hne hne).trans h.c3, (hk.frozen (p := ⟨t, 3, none⟩) h.lg.lt hne hne).trans h.z3, hm, h.ne⟩

theorem Tryz.zeroBlk (w : World) : (zeroValue 59).run Tryz.prog w = .ok (bv fun _ => 0) w := by
  obtain ⟨i, hi, hz, hs, hb⟩ := Tryz.info36i
  simp [zeroValue, typeInfo, hi, hz, bv]
theorem Mp.look {w : World} {m : Nat} {T : TS} (h : Mp w m T) (k : Int) (h0 : -9223372036854775808 ≤ k) (h1 : k < 9223372036854775808) :
    (Instr.lookup 129 (.map (some m)) (.int .i64 k) true).run Tryz.prog w = .ok (.tuple #[bv ((find T k).getD fun _ => 0), .bool (find T k).isSome]) w := by
  obtain ⟨v, ps, hrun, hv⟩ := h.1.look_ok Tryz.lawInt Tryz.underlying129 (Tryz.zeroBlk w) (zd := .held (bv fun _ => 0)) (zp := []) rfl (key_is k h0 h1)
  rw [has_dat] at hrun
  rw [atKey_dat] at hv
  rw [hrun]
  have : v = bv ((find T k).getD fun _ => 0) := by
    unfold RV at hv
    cases hf : find T k with
    | none => rw [hf] at hv; simpa using (show v = _ ∧ ps = [] by simpa using hv).1
    | some f => rw [hf] at hv; simpa using (show v = _ ∧ ps = [] by simpa using hv).1
  rw [this]
theorem Mp.look1 {w : World} {m : Nat} {T : TS} (h : Mp w m T) (k : Int) (h0 : -9223372036854775808 ≤ k) (h1 : k < 9223372036854775808) :
    (Instr.lookup 129 (.map (some m)) (.int .i64 k) false).run Tryz.prog w = .ok (bv ((find T k).getD fun _ => 0)) w := by
  obtain ⟨v, ps, hrun, hv⟩ := h.1.lookup Tryz.lawInt Tryz.underlying129 (Tryz.zeroBlk w) (zd := .held (bv fun _ => 0)) (zp := []) rfl (key_is k h0 h1)
  rw [atKey_dat] at hv
  rw [hrun]
  have : v = bv ((find T k).getD fun _ => 0) := by
    unfold RV at hv
    cases hf : find T k with
    | none => rw [hf] at hv; simpa using (show v = _ ∧ ps = [] by simpa using hv).1
    | some f => rw [hf] at hv; simpa using (show v = _ ∧ ps = [] by simpa using hv).1
  rw [this]
theorem Mp.len {w : World} {m : Nat} {T : TS} (h : Mp w m T) (ty : TypeId) : (Builtin.len_ #[129] ty #[.map (some m)]).run Tryz.prog w = .ok (.int .i64 T.length) w := by
  rw [h.1.len Tryz.underlying129 ty, size_dat]
theorem Mp.put {w : World} {m : Nat} {T : TS} (h : Mp w m T) (k : Nat) (f : Nat → Int) (hk : k ≤ 65536) (hn : T.length < 5000) :
    ∃ w', (Instr.mapUpdate 129 (.map (some m)) (.int .i64 k) (bv f)).run Tryz.prog w = .ok () w' ∧ Mp w' m (put k f T) ∧ Kp w w' m m := by
  obtain ⟨w', hrun, h1, h2⟩ := h.1.store Tryz.lawInt Tryz.underlying129 (by unfold maxLen; omega) (key_is k (by omega) (by omega)) (val := bv f) (d := .held (bv f)) (ps := []) rfl
  rw [put_dat T h.2 k f] at h1
  have hg := h2.grown
  exact ⟨w', hrun, ⟨ownsMap_tight h1, put_rise k f T h.2⟩, ⟨hg.os, hg.tape, hg.output, hg.size, fun i hi h3 _ => hg.block i hi (by simpa using h3)⟩⟩
theorem Mp.clear {w : World} {m : Nat} {T : TS} (h : Mp w m T) (ty : TypeId) : ∃ w', (Builtin.clear_ #[129] ty #[.map (some m)]).run Tryz.prog w = .ok (.tuple #[]) w' ∧ Mp w' m [] ∧ Kp w w' m m := by
  obtain ⟨⟨es, clock, hb, F, hs, hD⟩, hr⟩ := h
  refine ⟨ChangeMaps.setBlock w m (.map #[] clock), ?_, ⟨⟨#[], clock, ChangeMaps.heap_setBlock_same hb _, ⟨by simp, MapKept.stamped_empty clock, by simp⟩, Nat.le_refl _, rfl⟩, List.Pairwise.nil⟩, ⟨rfl, rfl, rfl, by simp [ChangeMaps.setBlock], fun i _ hi _ => ChangeMaps.heap_setBlock_other hb _ hi⟩⟩
  simp [Builtin.clear_, run_underlying Tryz.underlying129, MapKept.run_getObj_map hb, MapKept.run_setObj_map _ hb, Result.andThen, ChangeMaps.setBlock]

section
variable {ops : Array Oper} {rest : List Oper} {o : Oper} {a : Act} {w : World} {Q : Exit → Act → World → Prop}
theorem wpList_look_mp (hg : o.guard = none) (x y : Operand) (ho : o.op = .lookup 129 x y true) (m : Nat) (T : TS) (h : Mp w m T) (hx : a.eval x = .map (some m)) (k : Int) (hy : a.eval y = .int .i64 k) (h0 : -9223372036854775808 ≤ k) (h1 : k < 9223372036854775808)
    (hK : wpList Tryz.prog ops Q rest (a.put o.dst (.tuple #[bv ((find T k).getD fun _ => 0), .bool (find T k).isSome])) w) : wpList Tryz.prog ops Q (o :: rest) a w := by
  refine wpList_plain hg fun K' hK' => ?_
  have hrun := h.look k h0 h1
  unfold Oper.wp
  simp [execOp, ho, hx, hy, hrun, Result.andThen]
  exact hK' _ _ hK
theorem wpList_len_mp (hg : o.guard = none) (x : Operand) (ho : o.op = .call { callee := .builtin .len, args := #[x], argTypes := #[129] }) (m : Nat) (T : TS) (h : Mp w m T) (hx : a.eval x = .map (some m))
    (hK : wpList Tryz.prog ops Q rest (a.put o.dst (.int .i64 T.length)) w) : wpList Tryz.prog ops Q (o :: rest) a w := by
  refine wpList_plain hg fun K' hK' => ?_
  have hrun := h.len o.type
  unfold Oper.wp
  simp [execOp, ho, resolve, invoke, builtin, hx, hrun, Result.andThen]
  exact hK' _ _ hK
theorem wpList_clear_mp (hg : o.guard = none) (x : Operand) (ho : o.op = .call { callee := .builtin .clear, args := #[x], argTypes := #[129] }) (m : Nat) (T : TS) (h : Mp w m T) (hx : a.eval x = .map (some m))
    (hK : ∀ w', Hid (Mp w' m []) → Hid (Kp w w' m m) → wpList Tryz.prog ops Q rest (a.put o.dst (.tuple #[])) w') : wpList Tryz.prog ops Q (o :: rest) a w := by
  refine wpList_plain hg fun K' hK' => ?_
  obtain ⟨w', hrun, h1, h2⟩ := h.clear o.type
  unfold Oper.wp
  simp [execOp, ho, resolve, invoke, builtin, hx, hrun, Result.andThen]
  exact hK' _ _ (hK w' h1 h2)
theorem step_put_mp {K : Act → World → Prop} {E : Prop} (hgd : o.guard = none) (x y z : Operand) (ho : o.op = .mapUpdate 129 x y z) (m : Nat) (T : TS) (h : Mp w m T) (hx : a.eval x = .map (some m)) (k : Nat) (hy : a.eval y = .int .i64 k) (f : Nat → Int) (hz : a.eval z = .agg (byts 64 f).toArray) (hk : k ≤ 65536) (hn : T.length < 5000)
    (hK : ∀ w', Mp w' m (put k f T) → Kp w w' m m → K (a.put o.dst undef) w') : if Region.wanted o (yielded ops a.tmps) = true then Oper.wp Tryz.prog o a w K Q else E := by
  have hw : Region.wanted o (yielded ops a.tmps) = true := by simp [Region.wanted, hgd]
  rw [if_pos hw]
  obtain ⟨w', hrun, h1, h2⟩ := h.put k f hk hn
  unfold Oper.wp
  have hz' : a.eval z = bv f := hz
  simp [execOp, ho, hx, hy, hz', hrun, Result.andThen]
  exact hK w' h1 h2
theorem yields_len_mp {S : World → Prop} (hw : Region.wanted o (yielded ops a.tmps) = true) (x : Operand) (ho : o.op = .call { callee := .builtin .len, args := #[x], argTypes := #[129] }) (m : Nat) (T : TS) (hS : ∀ W, S W → Mp W m T) (hx : a.eval x = .map (some m)) : YieldsIf Tryz.prog ops S o (.int .i64 T.length) a :=
  .inl ⟨hw, fun w h => by
    have hrun := (hS w h).len o.type
    unfold execOp
    simp [ho, resolve, invoke, builtin, hx, hrun, Result.andThen]⟩
theorem yields_look_mp {S : World → Prop} (hw : Region.wanted o (yielded ops a.tmps) = true) (x y : Operand) (ho : o.op = .lookup 129 x y false) (m : Nat) (T : TS) (hS : ∀ W, S W → Mp W m T) (hx : a.eval x = .map (some m)) (k : Int) (hy : a.eval y = .int .i64 k) (h0 : -9223372036854775808 ≤ k) (h1 : k < 9223372036854775808) : YieldsIf Tryz.prog ops S o (bv ((find T k).getD fun _ => 0)) a :=
  .inl ⟨hw, fun w h => by
    have hrun := (hS w h).look1 k h0 h1
    unfold execOp
    simp [ho, hx, hy, hrun, Result.andThen]⟩
end

set_option maxHeartbeats 2000000 in
set_option maxRecDepth 100000 in
theorem begin_any (l d fi : Nat) (hf : fi ≤ 65536) (w : World) (hl : Lg w l d fi) :
    Calls Tryz.prog 12 #[.pointer (some ⟨l, 0, none⟩)] w fun e w' => ∃ t m, e = .returned (.pointer (some ⟨t, 0, none⟩)) ∧ w.heap.size ≤ t ∧ w.heap.size ≤ m ∧ Tx w' t m d fi [] 0 ∧ Below w.heap.size w w' := by
  have c0 := hl.c0
  have c1 := hl.c1
  clear hl
  have hmk := @run_makeMap Tryz.prog
  go_enter Tryz.func12, Tryz.ntmps12
  go_wp2
  go_ret
  refine ⟨w.heap.size + 1, w.heap.size, by simp, by omega, Nat.le_refl _, ⟨⟨by simp, ?_, ?_⟩, ?_, ?_, by simp, (Mp.new w).keep ((Below.refl _ _).alloc (Nat.le_refl _) _), by omega⟩, ((Below.refl _ _).alloc (Nat.le_refl _) _).alloc (by simp) _⟩
  all_goals
    rw [World.cell?_alloc_at _ _ _ _ (by simp)]
    rfl
theorem begin_nil (w : World) : Calls Tryz.prog 12 #[.pointer none] w fun e w' => e = .returned (.pointer none) ∧ w' = w := by
  go_enter Tryz.func12, Tryz.ntmps12
  go_wp2
  go_ret
  exact ⟨rfl, rfl⟩
/-- what mayPut answers -/
def mayB (N fi : Nat) (T : TS) (x : Int) : Int := if outB N fi x = false then 27 else if (find T x).isSome = false ∧ 30 ≤ T.length then 23 else 0
set_option maxHeartbeats 4000000 in
set_option maxRecDepth 100000 in
theorem mayput_any (t m d g fi N K : Nat) (T : TS) (fa : Int) (s : DS) (x : Int) (hx0 : -9223372036854775808 ≤ x) (hx1 : x < 9223372036854775808) (hT : T.length ≤ 5000) (hf : fi ≤ 65536) (hN : N ≤ 65536) (hs : Sane s N K) (w : World) (h : Tx w t m d fi T fa) (hd : Dk w d g s) :
    Calls Tryz.prog 94 #[.pointer (some ⟨t, 0, none⟩), .int .i64 x] w fun e w' => e = .returned (.int .i64 (mayB N fi T x)) ∧ Below w.heap.size w w' := by
  have HO : Hid (Calls Tryz.prog 121 #[.pointer (some ⟨t, 0, none⟩), .int .i64 x] w fun e w' => e = .returned (.bool (outB N fi x)) ∧ w' = w) := by
    have := outside_any t d g fi s x hx0 hx1 hf (by rw [hs.n]; exact hN) w h.lg hd
    rwa [hs.n] at this
  have HT := Lib.hid h
  have c2 := h.c2
  clear hs hd h
  have HX0 := Lib.hid hx0
  have HX1 := Lib.hid hx1
  clear hx0 hx1
  obtain ⟨q, hq⟩ : ∃ q, outB N fi x = q := ⟨_, rfl⟩
  have HQ := Lib.hid hq
  rw [hq] at HO
  have HM : Hid (mayB N fi T x = if q = false then 27 else if (find T x).isSome = false ∧ 30 ≤ T.length then 23 else 0) := by
    show mayB N fi T x = _
    unfold mayB
    rw [hq]
  clear hq
  cases q with
  | false =>
    have hm : mayB N fi T x = 27 := by rw [HM.out]; rfl
    rw [hm]
    clear hm HM
    go_enter Tryz.func94, Tryz.ntmps94
    go_wp2_with fail
    refine HO.out.mono ?_
    rintro e w1 ⟨rfl, rfl⟩
    go_wp2_with fail
    go_ret
    exact ⟨rfl, Below.refl _ _⟩
  | true =>
    obtain ⟨u, hu⟩ : ∃ u, (find T x).isSome = u := ⟨_, rfl⟩
    obtain ⟨f, hf⟩ : ∃ f, ((find T x).getD fun _ => 0) = f := ⟨_, rfl⟩
    have HU := Lib.hid hu
    have HF := Lib.hid hf
    rw [hu] at HM
    have HL : ∀ (ops : Array Oper) (rest : List Oper) (o : Oper) (a : Act) (W : World) (Q : Exit → Act → World → Prop), o.guard = none → o.op = .lookup 129 (.tmp 17) (.tmp 18) true → Tx W t m d fi T fa → a.eval (.tmp 17) = .map (some m) → a.eval (.tmp 18) = .int .i64 x →
        wpList Tryz.prog ops Q rest (a.put o.dst (.tuple #[.agg (byts 64 f).toArray, .bool u])) W → wpList Tryz.prog ops Q (o :: rest) a W := fun ops rest o a W Q h1 h2 h3 h4 h5 h6 => by
      refine wpList_look_mp h1 _ _ h2 m T h3.mp h4 x h5 HX0.out HX1.out ?_
      rw [hu, hf]
      exact h6
    have HLK := Lib.hid HL
    clear hu hf HL
    have h30 : (T.length : Int) ≤ 5000 := by omega
    cases u with
    | true =>
      have hm : mayB N fi T x = 0 := by rw [HM.out]; rfl
      rw [hm]
      clear hm HM
      go_enter Tryz.func94, Tryz.ntmps94
      go_wp2_with fail
      refine HO.out.mono ?_
      rintro e w1 ⟨rfl, rfl⟩
      go_wp2_with (first | (at_lookup; refine HLK.out _ _ _ _ _ _ rfl rfl HT.out rfl rfl ?_) | (refine wpList_alloc_byts rfl 59 64 rfl Tryz.zero36 ?_; intro w2 F2 hb2 hz2; have HB2 := Lib.hid hb2; clear hb2) | (refine wpList_store_blk rfl (.tmp 5) (.tmp 20) rfl w1.heap.size 0 64 (fun _ => 0) f F2.out (by omega) rfl rfl ?_; intro w3 F3 HK3; have HB3 := Lib.hid (HB2.out.trans (HK3.out.below (B := w1.heap.size) (by omega) (by omega) HB2.out.size))))
      go_ret
      exact ⟨rfl, HB3.out⟩
    | false =>
      by_cases hl : 30 ≤ T.length
      · have hl' : (30 : Int) ≤ T.length := by omega
        have hm : mayB N fi T x = 23 := by rw [HM.out, if_neg (by decide), if_pos ⟨rfl, hl⟩]
        rw [hm]
        clear hm HM
        go_enter Tryz.func94, Tryz.ntmps94
        go_wp2_with fail
        refine HO.out.mono ?_
        rintro e w1 ⟨rfl, rfl⟩
        go_wp2_with (first | (at_lookup; refine HLK.out _ _ _ _ _ _ rfl rfl HT.out rfl rfl ?_) | (refine wpList_alloc_byts rfl 59 64 rfl Tryz.zero36 ?_; intro w2 F2 hb2 hz2; have HB2 := Lib.hid hb2; have HT2 := Lib.hid (HT.out.keep hb2); clear hb2) | (refine wpList_store_blk rfl (.tmp 5) (.tmp 20) rfl w1.heap.size 0 64 (fun _ => 0) f F2.out (by omega) rfl rfl ?_; intro w3 F3 HK3; have HB3 := Lib.hid (HB2.out.trans (HK3.out.below (B := w1.heap.size) (by omega) (by omega) HB2.out.size)); have HT3 := Lib.hid (HT.out.keep HB3.out); have e2 := HT3.out.c2) | (refine wpList_yields _ (yields_len_mp rfl (.tmp 28) rfl m T (fun W hW => (by rw [hW]; exact HT3.out.mp)) rfl) ?_))
        go_ret
        exact ⟨rfl, HB3.out⟩
      · have hl' : ¬ ((30 : Int) ≤ T.length) := by omega
        have hm : mayB N fi T x = 0 := by rw [HM.out, if_neg (by decide), if_neg (fun h => hl h.2)]
        rw [hm]
        clear hm HM
        go_enter Tryz.func94, Tryz.ntmps94
        go_wp2_with fail
        refine HO.out.mono ?_
        rintro e w1 ⟨rfl, rfl⟩
        go_wp2_with (first | (at_lookup; refine HLK.out _ _ _ _ _ _ rfl rfl HT.out rfl rfl ?_) | (refine wpList_alloc_byts rfl 59 64 rfl Tryz.zero36 ?_; intro w2 F2 hb2 hz2; have HB2 := Lib.hid hb2; have HT2 := Lib.hid (HT.out.keep hb2); clear hb2) | (refine wpList_store_blk rfl (.tmp 5) (.tmp 20) rfl w1.heap.size 0 64 (fun _ => 0) f F2.out (by omega) rfl rfl ?_; intro w3 F3 HK3; have HB3 := Lib.hid (HB2.out.trans (HK3.out.below (B := w1.heap.size) (by omega) (by omega) HB2.out.size)); have HT3 := Lib.hid (HT.out.keep HB3.out); have e2 := HT3.out.c2) | (refine wpList_yields _ (yields_len_mp rfl (.tmp 28) rfl m T (fun W hW => (by rw [hW]; exact HT3.out.mp)) rfl) ?_))
        go_ret
        exact ⟨rfl, HB3.out⟩
theorem Kp.after {w w1 w2 : World} {a b c : Nat} (h : Kp w w1 a b) (k : Kp w1 w2 c c) (hc : w.heap.size ≤ c) : Kp w w2 a b :=
  ⟨k.os.trans h.os, k.tape.trans h.tape, k.output.trans h.output, Nat.le_trans h.size k.size, fun i hi h1 h2 => (k.block i (Nat.lt_of_lt_of_le hi h.size) (by omega) (by omega)).trans (h.block i hi h1 h2)⟩
theorem mayB_cases (N fi : Nat) (T : TS) (x : Int) : mayB N fi T x = 27 ∨ mayB N fi T x = 23 ∨ mayB N fi T x = 0 ∧ 0 ≤ x ∧ x < N := by
  unfold mayB
  split
  · exact .inl rfl
  · rename_i h
    split
    · exact .inr (.inl rfl)
    · refine .inr (.inr ⟨rfl, ?_⟩)
      unfold outB at h
      simp at h
      exact ⟨h.1, h.2.1⟩
/-- Put: what it answers, and how the transaction stands then -/
def putT (N fi : Nat) (x : Int) (f : Nat → Int) (T : TS) (fa : Int) : Int × TS × Int :=
  if mayB N fi T x = 0 then (0, put x.toNat f T, fa) else (mayB N fi T x, T, if fa = 0 then mayB N fi T x else fa)

set_option maxHeartbeats 8000000 in
set_option maxRecDepth 100000 in
theorem put_any (t m d g fi N K : Nat) (T : TS) (fa : Int) (s : DS) (x : Int) (f : Nat → Int) (hx0 : -9223372036854775808 ≤ x) (hx1 : x < 9223372036854775808) (hT : T.length < 5000) (hf : fi ≤ 65536) (hN : N ≤ 65536) (hs : Sane s N K) (w : World) (h : Tx w t m d fi T fa) (hd : Dk w d g s) (hfa : 0 ≤ fa ∧ fa < 100) :
    Calls Tryz.prog 53 #[.pointer (some ⟨t, 0, none⟩), .int .i64 x, .agg (byts 64 f).toArray] w fun e w' => e = .returned (.int .i64 (putT N fi x f T fa).1) ∧ Tx w' t m d fi (putT N fi x f T fa).2.1 (putT N fi x f T fa).2.2 ∧ Kp w w' t m := by
  have HT := Lib.hid h
  have HD := Lib.hid hd
  have hc := mayB_cases N fi T x
  have HM := Lib.hid (fun W (h : Tx W t m d fi T fa) (hd : Dk W d g s) => mayput_any t m d g fi N K T fa s x hx0 hx1 (by omega) hf hN hs W h hd)
  have htl := h.lg.lt
  have hml := h.mp.lt
  clear h hd hs
  obtain ⟨c, hcq⟩ : ∃ c, mayB N fi T x = c := ⟨_, rfl⟩
  have HP : Hid (putT N fi x f T fa = if c = 0 then (0, put x.toNat f T, fa) else (c, T, if fa = 0 then c else fa)) := by
    show putT N fi x f T fa = _
    unfold putT
    rw [hcq]
  rw [hcq] at hc HM
  clear hcq
  obtain ⟨R, hR⟩ : ∃ R, putT N fi x f T fa = R := ⟨_, rfl⟩
  rw [hR] at HP ⊢
  clear hR
  have HX0 := Lib.hid hx0
  have HX1 := Lib.hid hx1
  clear hx0 hx1
  by_cases hc0 : c = 0
  · have hxr : 0 ≤ x ∧ x < N := by omega
    obtain ⟨k, rfl⟩ := Int.eq_ofNat_of_zero_le hxr.1
    have hk : k < N := by omega
    subst hc0
    have hr : R = (0, put k f T, fa) := by rw [HP.out, if_pos rfl, Int.toNat_natCast]
    subst hr
    clear HP hc hxr HX0 HX1
    go_enter Tryz.func53, Tryz.ntmps53
    go_wp2_with (refine wpList_box_byts rfl 59 _ 64 rfl f rfl ?_; intro w1 F1 hb1 hz1; have HB1 := Lib.hid hb1; have HT1 := Lib.hid (HT.out.keep hb1); have HD1 := Lib.hid (HD.out.keep hb1); clear hb1)
    refine (HM.out w1 HT1.out HD1.out).mono ?_
    rintro e w2 ⟨rfl, hb2⟩
    have HB2 := Lib.hid (HB1.out.trans (hb2.mono HB1.out.size))
    have HT2 := Lib.hid (HT1.out.keep hb2)
    have F2 := Lib.hid (F1.out.below hb2 F1.out.lt)
    clear hb2 HM HT1 HD1 F1 HB1
    go_wp2_with fail
    obtain ⟨b5, hb5⟩ : ∃ b5, w.heap.size = b5 := ⟨_, rfl⟩
    rw [hb5] at F2 htl hml ⊢
    refine wp_region_held (S := fun W => W.cell? ⟨t, 2, none⟩ = some (.map (some m)) ∧ Fl W b5 64 f) (by kernel_rfl) ?_
    change wpAnyH _ _ _ _ _ _ _ _ (World.drew _)
    have hS0 : (World.drew w2).cell? ⟨t, 2, none⟩ = some (.map (some m)) ∧ Fl (World.drew w2) b5 64 f := ⟨HT2.out.c2, F2.out.below (Below.refl _ _).drew F2.out.lt⟩
    refine wpAnyH_take (i := 0) (v := ?_) rfl (by kernel_rfl) (by kernel_rfl) (by kernel_rfl) (fun _ _ _ h => h) (Or.inl ⟨by rfl, ?_⟩) hS0 ?_
    rotate_left 1
    · intro W hW
      go_simp
      try with_reducible rfl
    simp only [Act.put, List.getElem_toArray, List.getElem_cons_zero, List.getElem_cons_succ, List.setIfInBounds_toArray, List.set_cons_zero, List.set_cons_succ]
    refine wpAnyH_take (i := 1) (v := ?_) rfl (by kernel_rfl) (by kernel_rfl) (by kernel_rfl) (fun _ _ _ h => h) (Or.inl ⟨by rfl, ?_⟩) hS0 ?_
    rotate_left 1
    · intro W hW
      go_simp
      try with_reducible rfl
    simp only [Act.put, List.getElem_toArray, List.getElem_cons_zero, List.getElem_cons_succ, List.setIfInBounds_toArray, List.set_cons_zero, List.set_cons_succ]
    refine wpAnyH_take (i := 2) (v := ?_) rfl (by kernel_rfl) (by kernel_rfl) (by kernel_rfl) (fun _ _ _ h => h) (Or.inl ⟨by rfl, ?_⟩) hS0 ?_
    rotate_left 1
    · intro W hW
      go_simp
      try with_reducible rfl
    simp only [Act.put, List.getElem_toArray, List.getElem_cons_zero, List.getElem_cons_succ, List.setIfInBounds_toArray, List.set_cons_zero, List.set_cons_succ]
    refine wpAnyH_take (i := 3) (v := ?_) rfl (by kernel_rfl) (by kernel_rfl) (by kernel_rfl) (fun _ _ _ h => h) (Or.inl ⟨by rfl, ?_⟩) hS0 ?_
    rotate_left 1
    · intro W hW
      have c2 := hW.1
      go_simp
      try with_reducible rfl
    simp only [Act.put, List.getElem_toArray, List.getElem_cons_zero, List.getElem_cons_succ, List.setIfInBounds_toArray, List.set_cons_zero, List.set_cons_succ]
    refine wpAnyH_take (i := 4) (v := ?_) rfl (by kernel_rfl) (by kernel_rfl) (by kernel_rfl) (fun _ _ _ h => h) (Or.inl ⟨by rfl, ?_⟩) hS0 ?_
    rotate_left 1
    · intro W hW
      go_simp
      try with_reducible rfl
    simp only [Act.put, List.getElem_toArray, List.getElem_cons_zero, List.getElem_cons_succ, List.setIfInBounds_toArray, List.set_cons_zero, List.set_cons_succ]
    refine wpAnyH_take (i := 5) (v := .agg (byts 64 f).toArray) rfl (by kernel_rfl) (by kernel_rfl) (by kernel_rfl) (fun _ _ _ h => h) ?_ hS0 ?_
    · exact yieldsIf_load_mid (by rfl) 59 _ rfl b5 0 rfl (byts 64 f) (.array 64 5) (fun _ h => h.2.range0) Tryz.arr36 rfl (size36 _)
    simp only [Act.put, List.getElem_toArray, List.getElem_cons_zero, List.getElem_cons_succ, List.setIfInBounds_toArray, List.set_cons_zero, List.set_cons_succ]
    refine wpAnyH_ready (rs := [6]) (by kernel_rfl) (by simp) (AllReadyH.cons rfl (fun KK hKK => ?_) AllReadyH.nil)
    refine step_put_mp rfl (.tmp 28) (.tmp 29) (.tmp 30) rfl m T (HT2.out.keep (Below.refl _ _).drew).mp rfl k rfl f rfl (by omega) (by omega) ?_
    intro w3 hM3 hk3
    have HT3 := Lib.hid ((HT2.out.keep (Below.refl _ _).drew).remap hk3 hM3)
    have HK3 : Hid (Kp w w3 t m) := by
      have h1 := (Kp.of_below HB2.out t m).trans (Kp.refl w2 t m).drew
      exact h1.trans ⟨hk3.os, hk3.tape, hk3.output, hk3.size, fun i hi _ h2 => hk3.block i hi h2 h2⟩
    have hF3 := hS0.2.kp hk3 (by omega) (by omega)
    clear hS0
    have hS0 : w3.cell? ⟨t, 2, none⟩ = some (.map (some m)) ∧ Fl w3 b5 64 f := ⟨HT3.out.c2, hF3⟩
    refine hKK _ _ hS0 ?_
    intro _
    clear hKK KK hM3 hk3 hF3
    refine wpAnyH_done (by kernel_rfl) ?_ _
    clear hS0
    go_wp2_with fail
    go_ret
    exact ⟨rfl, HT3.out, HK3.out⟩
  · have hr : R = (c, T, if fa = 0 then c else fa) := by rw [HP.out, if_neg hc0]
    subst hr
    clear HP
    have hcr : 0 ≤ c ∧ c < 100 := by omega
    obtain ⟨hcr0, hcr1⟩ := hcr
    obtain ⟨hfa0, hfa1⟩ := hfa
    clear hc
    by_cases hf0 : fa = 0
    · subst hf0
      go_enter Tryz.func53, Tryz.ntmps53
      go_wp2_with (refine wpList_box_byts rfl 59 _ 64 rfl f rfl ?_; intro w1 F1 hb1 hz1; have HB1 := Lib.hid hb1; have HT1 := Lib.hid (HT.out.keep hb1); have HD1 := Lib.hid (HD.out.keep hb1); clear hb1)
      refine (HM.out w1 HT1.out HD1.out).mono ?_
      rintro e w2 ⟨rfl, hb2⟩
      have HB2 := Lib.hid (HB1.out.trans (hb2.mono HB1.out.size))
      have HT2 := Lib.hid (HT1.out.keep hb2)
      have c3 := HT2.out.c3
      have z3 := HT2.out.z3
      clear hb2 HM HT1 HD1 F1 HB1
      go_wp2_with fail
      go_ret
      exact ⟨rfl, HT2.out.fail c, (Kp.of_below HB2.out t m).setCell ⟨t, 3, none⟩ (.inl rfl) _⟩
    · go_enter Tryz.func53, Tryz.ntmps53
      go_wp2_with (refine wpList_box_byts rfl 59 _ 64 rfl f rfl ?_; intro w1 F1 hb1 hz1; have HB1 := Lib.hid hb1; have HT1 := Lib.hid (HT.out.keep hb1); have HD1 := Lib.hid (HD.out.keep hb1); clear hb1)
      refine (HM.out w1 HT1.out HD1.out).mono ?_
      rintro e w2 ⟨rfl, hb2⟩
      have HB2 := Lib.hid (HB1.out.trans (hb2.mono HB1.out.size))
      have HT2 := Lib.hid (HT1.out.keep hb2)
      have c3 := HT2.out.c3
      clear hb2 HM HT1 HD1 F1 HB1
      go_wp2_with fail
      go_ret
      exact ⟨rfl, HT2.out, Kp.of_below HB2.out t m⟩
set_option maxHeartbeats 2000000 in
set_option maxRecDepth 100000 in
theorem put_nil (x : Int) (f : Nat → Int) (w : World) : Calls Tryz.prog 53 #[.pointer none, .int .i64 x, .agg (byts 64 f).toArray] w fun e w' => e = .returned (.int .i64 1) ∧ Below w.heap.size w w' := by
  go_enter Tryz.func53, Tryz.ntmps53
  go_wp2_with (refine wpList_box_byts rfl 59 _ 64 rfl f rfl ?_; intro w1 F1 hb1 hz1; have HB1 := Lib.hid hb1; clear hb1)
  go_ret
  exact ⟨rfl, HB1.out⟩

/-- Get: the block, the error's number; the disk -/
def getT (s : DS) (T : TS) (x : Int) : ((Nat → Int) × Int) × DS :=
  (find T x).elim (if 0 ≤ x ∧ x < s.n then ((s.blk x.toNat, 0), s.rdd) else ((fun _ => 0, 27), s)) fun f => ((f, 0), s)
set_option maxHeartbeats 8000000 in
set_option maxRecDepth 100000 in
theorem get_any (t m d g fi N K : Nat) (T : TS) (fa : Int) (s : DS) (x : Int) (hx0 : -9223372036854775808 ≤ x) (hx1 : x < 9223372036854775808) (hN : N ≤ 65536) (hK : K < 800000000) (hs : Sane s N K) (w : World) (h : Tx w t m d fi T fa) (hd : Dk w d g s) (htd : t ≠ d) (htg : t ≠ g) :
    Calls Tryz.prog 58 #[.pointer (some ⟨t, 0, none⟩), .int .i64 x] w fun e w' => e = .returned (.tuple #[.agg (byts 64 (getT s T x).1.1).toArray, .int .i64 (getT s T x).1.2]) ∧ Dk w' d g (getT s T x).2 ∧ Kp w w' d g := by
  have HT := Lib.hid h
  have HD := Lib.hid hd
  have HS := Lib.hid hs
  have c2 := h.c2
  have htl := h.lg.lt
  have hdl := hd.lt
  have hgl := hd.fl.lt
  clear h hd hs
  have HX0 := Lib.hid hx0
  have HX1 := Lib.hid hx1
  clear hx0 hx1
  obtain ⟨R, hR⟩ : ∃ R, getT s T x = R := ⟨_, rfl⟩
  have HR := Lib.hid hR
  rw [hR]
  clear hR
  obtain ⟨u, hu⟩ : ∃ u, (find T x).isSome = u := ⟨_, rfl⟩
  obtain ⟨f, hf⟩ : ∃ f, ((find T x).getD fun _ => 0) = f := ⟨_, rfl⟩
  have HU := Lib.hid hu
  have HF := Lib.hid hf
  have HL : ∀ (ops : Array Oper) (rest : List Oper) (o : Oper) (a : Act) (W : World) (Q : Exit → Act → World → Prop), o.guard = none → o.op = .lookup 129 (.tmp 15) (.tmp 16) true → Tx W t m d fi T fa → a.eval (.tmp 15) = .map (some m) → a.eval (.tmp 16) = .int .i64 x →
      wpList Tryz.prog ops Q rest (a.put o.dst (.tuple #[.agg (byts 64 f).toArray, .bool u])) W → wpList Tryz.prog ops Q (o :: rest) a W := fun ops rest o a W Q h1 h2 h3 h4 h5 h6 => by
    refine wpList_look_mp h1 _ _ h2 m T h3.mp h4 x h5 HX0.out HX1.out ?_
    rw [hu, hf]
    exact h6
  have HLK := Lib.hid HL
  clear hu hf HL
  cases u with
  | true =>
    have hr : R = ((f, 0), s) := by
      rw [← HR.out]
      unfold getT
      have h1 := HU.out
      have h2 := HF.out
      cases hq : find T x with
      | none => rw [hq] at h1; cases h1
      | some f' =>
        rw [hq] at h2
        have : f' = f := by simpa using h2
        rw [this]
        rfl
    subst hr
    clear HR
    go_enter Tryz.func58, Tryz.ntmps58
    go_wp2_with (first | (at_lookup; refine HLK.out _ _ _ _ _ _ rfl rfl HT3.out rfl rfl ?_) | (refine wpList_alloc_byts (w := w) rfl 59 64 rfl Tryz.zero36 ?_; intro w3 F3 hb3 hz3; have HB3 := Lib.hid hb3; have HT3 := Lib.hid (HT.out.keep hb3); have HD3 := Lib.hid (HD.out.keep hb3); have hlt3 := F3.out.lt; replace c2 := HT3.out.c2; have hq3 : w.heap.size < w3.heap.size := (by omega); clear hb3 hz3) | (refine wpList_alloc_byts (w := w3) rfl 59 64 rfl Tryz.zero36 ?_; intro w4 F4 hb4 hz4; have HB4 := Lib.hid (HB3.out.trans (hb4.mono HB3.out.size)); have HT4 := Lib.hid (HT3.out.keep hb4); have HD4 := Lib.hid (HD3.out.keep hb4); have F34 := Lib.hid (F3.out.below hb4 hlt3); have hq4 : w3.heap.size < w4.heap.size := (by omega); clear hb4 hz4) | (refine wpList_store_blk rfl (.tmp 6) (.tmp 18) rfl w3.heap.size 0 64 (fun _ => 0) f F4.out (by omega) rfl rfl ?_; intro w5 F5 HK5; have hR5 := (F5.out.congr (f' := f) (fun j hj => by unfold upd; rw [if_pos (by omega), Nat.sub_zero])).range0; have HR5 := Lib.hid hR5; clear hR5) | (refine wpList_load_mid rfl 59 (.tmp 6) rfl w3.heap.size 0 rfl (byts 64 f) (.array 64 5) HR5.out Tryz.arr36 rfl (size36 _) ?_) | (refine wpList_store_blk rfl (.tmp 4) (.tmp 21) rfl w.heap.size 0 64 (fun _ => 0) f (F34.out.kp HK5.out (by omega) (by omega)) (by omega) rfl rfl ?_; intro w6 F6 HK6))
    have HR6 := Lib.hid (F6.out.congr (f' := f) (fun j hj => by unfold upd; rw [if_pos (by omega), Nat.sub_zero])).range0
    exact bodyPost_ret_by (results_mid_tmp rfl _ _ w.heap.size _ (.array 64 5) rfl HR6.out Tryz.arr36 rfl (size36 _)) rfl ⟨rfl, (HD4.out.kp HK5.out (by omega) (by omega) (by omega) (by omega)).kp HK6.out (by omega) (by omega) (by omega) (by omega), Kp.of_below ((HB4.out.trans (HK5.out.below (B := w.heap.size) (by omega) (by omega) HB4.out.size)).trans (HK6.out.below (B := w.heap.size) (by omega) (by omega) (HB4.out.trans (HK5.out.below (B := w.heap.size) (by omega) (by omega) HB4.out.size)).size)) _ _⟩
  | false =>
    have hfn : find T x = none := by
      have h1 := HU.out
      cases hq : find T x with
      | none => rfl
      | some f' => rw [hq] at h1; cases h1
    have HRr : Hid (R = if 0 ≤ x ∧ x < (N : Int) then ((s.blk x.toNat, 0), s.rdd) else ((fun _ => 0, 27), s)) := by
      show R = _
      rw [← HR.out]
      unfold getT
      rw [hfn, HS.out.n]
      rfl
    obtain ⟨V, c, s2, hV⟩ : ∃ V c s2, R = ((V, c), s2) := ⟨R.1.1, R.1.2, R.2, rfl⟩
    have HRd : Hid (∀ W, Dk W d g s → Calls Tryz.prog 96 #[.pointer (some ⟨d, 0, none⟩), .int .i64 x] W fun e w' => e = .returned (.tuple #[.agg (byts 64 V).toArray, .int .i64 c]) ∧ Dk w' d g s2 ∧ Kp W w' d g) := fun W hW => by
      have h1 := HRr.out
      rw [hV] at h1
      by_cases hin : 0 ≤ x ∧ x < (N : Int)
      · rw [if_pos hin] at h1
        obtain ⟨k, rfl⟩ := Int.eq_ofNat_of_zero_le hin.1
        rw [Int.toNat_natCast] at h1
        obtain ⟨⟨rfl, rfl⟩, rfl⟩ : (V = s.blk k ∧ c = 0) ∧ s2 = s.rdd := by simpa using h1
        exact read_any d g s k N K (by omega) hN (by omega) HS.out W hW
      · rw [if_neg hin] at h1
        obtain ⟨⟨rfl, rfl⟩, rfl⟩ : (V = (fun _ => 0) ∧ c = 27) ∧ s2 = s := by simpa using h1
        refine (read_out d g s2 x (by rw [HS.out.n]; omega) (by rw [HS.out.n]; exact hN) W hW).mono ?_
        rintro e w' ⟨he, hb⟩
        exact ⟨he, hW.keep hb, Kp.of_below hb _ _⟩
    subst hV
    clear HR HRr
    go_enter Tryz.func58, Tryz.ntmps58
    go_wp2_with (first | (at_lookup; refine HLK.out _ _ _ _ _ _ rfl rfl HT3.out rfl rfl ?_) | (refine wpList_alloc_byts (w := w) rfl 59 64 rfl Tryz.zero36 ?_; intro w3 F3 hb3 hz3; have HB3 := Lib.hid hb3; have HT3 := Lib.hid (HT.out.keep hb3); have HD3 := Lib.hid (HD.out.keep hb3); have hlt3 := F3.out.lt; replace c2 := HT3.out.c2; have hq3 : w.heap.size < w3.heap.size := (by omega); clear hb3 hz3) | (refine wpList_alloc_byts (w := w3) rfl 59 64 rfl Tryz.zero36 ?_; intro w4 F4 hb4 hz4; have HB4 := Lib.hid (HB3.out.trans (hb4.mono HB3.out.size)); have HT4 := Lib.hid (HT3.out.keep hb4); have HD4 := Lib.hid (HD3.out.keep hb4); have F34 := Lib.hid (F3.out.below hb4 hlt3); have hq4 : w3.heap.size < w4.heap.size := (by omega); clear hb4 hz4) | (refine wpList_store_blk rfl (.tmp 6) (.tmp 18) rfl w3.heap.size 0 64 (fun _ => 0) f F4.out (by omega) rfl rfl ?_; intro w5 F5 HK5; have HT5 := Lib.hid (HT4.out.kp HK5.out (by omega) (by omega) (by have := HT3.out.mp.lt; omega) (by have := HT3.out.mp.lt; omega)); have c0 := HT5.out.lg.c0))
    have HB5 := Lib.hid (HB4.out.trans (HK5.out.below (B := w.heap.size) (by omega) (by omega) HB4.out.size))
    refine (HRd.out w5 (HD4.out.kp HK5.out (by omega) (by omega) (by omega) (by omega))).mono ?_
    rintro e w6 ⟨rfl, hD6, hk6⟩
    have HD6 := Lib.hid hD6
    have HK6 := Lib.hid ((Kp.of_below HB5.out d g).trans hk6)
    have F6 := Lib.hid ((F34.out.kp HK5.out (by omega) (by omega)).kp hk6 (by omega) (by omega))
    clear hD6 hk6 HRd
    go_wp2_with (refine wpList_store_blk rfl (.tmp 4) (.tmp 29) rfl w.heap.size 0 64 (fun _ => 0) V F6.out (by omega) rfl rfl ?_; intro w7 F7 HK7)
    have HR7 := Lib.hid (F7.out.congr (f' := V) (fun j hj => by unfold upd; rw [if_pos (by omega), Nat.sub_zero])).range0
    exact bodyPost_ret_by (results_mid_tmp rfl _ _ w.heap.size _ (.array 64 5) rfl HR7.out Tryz.arr36 rfl (size36 _)) rfl ⟨rfl, HD6.out.kp HK7.out (by omega) (by omega) (by omega) (by omega), HK6.out.after HK7.out (Nat.le_refl _)⟩
theorem keys_sorted (T : TS) (h : Rise T) (ss : List Int) (hp : ss.Perm (intKeys (dat T))) : ss.mergeSort (fun x y => decide (x ≤ y)) = (keys T).map fun (k : Nat) => (k : Int) := by
  rw [keys_dat] at hp
  refine (mergeSort_of_perm_i hp).trans ?_
  refine List.mergeSort_of_pairwise ?_
  rw [List.pairwise_map]
  unfold keys
  rw [List.pairwise_map]
  exact h.imp fun {p q} hpq => by simp; omega
theorem ownsRow_ns {w : World} {base : Nat} {v : Value} {ts : List Nat} (h : w.ownsRow base 3 1 v ts.length (ts.map fun (k : Nat) => Value.int .i64 (k : Int))) : Ns w v ts ∧ ∀ k, v.ownBlock = some k → base ≤ k := by
  refine ⟨?_, ownsRow_block h⟩
  obtain ⟨hl, ⟨hv, hn⟩ | ⟨g, cap, cur, hv, hg, hh, hc, hm, hs, ht⟩⟩ := h
  · exact .inl ⟨none, 0, hv, List.eq_nil_of_length_eq_zero hn⟩
  · have hlt : g < w.heap.size := (Array.getElem?_eq_some_iff.1 hh).1
    refine .inr ⟨g, 0, cap, hv, hlt, Nat.le_trans hc hm, fun i hi => ?_⟩
    have hx : (cur.toList.take (ts.length * 1))[i]? = (ts.map fun (k : Nat) => Value.int .i64 (k : Int))[i]? := by rw [ht]
    rw [List.getElem?_take_of_lt (by omega)] at hx
    simp only [World.cell?, hh]
    simpa [hi] using hx
theorem row_ne_iter {w : World} {base : Nat} {e k : TypeId} {size b r n N cnt : Nat} {v : Value} {xs : List Value} {R : Value → Option (DataW Value × List MemPlace)} {D : DataW Value} {left : Lit → Bool} (h : w.ownsRow base e size v n xs) (hr : w.ranges Tryz.prog k R b r N D left cnt) : some r ≠ v.ownBlock := by
  intro he
  obtain ⟨hl, ⟨hv, hn⟩ | ⟨g, cap, cur, hv, hg, hh, r'⟩⟩ := h
  · rw [hv] at he; simp [Value.ownBlock] at he
  · rw [hv] at he
    simp [Value.ownBlock] at he
    obtain ⟨es, clock, since, seen, c0, _, _, _, _, hrr, _⟩ := hr
    rw [he, hh] at hrr
    cases hrr
set_option maxHeartbeats 8000000 in
set_option maxRecDepth 100000 in
theorem blocks_any (t m d fi : Nat) (T : TS) (fa : Int) (hT : T.length ≤ 5000) (w : World) (h : Tx w t m d fi T fa) :
    Calls Tryz.prog 61 #[.pointer (some ⟨t, 0, none⟩)] w fun e w' => ∃ v, e = .returned v ∧ Ns w' v (keys T) ∧ (∀ k, v.ownBlock = some k → w.heap.size ≤ k) ∧ Below w.heap.size w w' := by
  have HT := Lib.hid h
  have c2 := h.c2
  have htl := h.lg.lt
  have hml := h.mp.lt
  have hown := h.mp.1
  have HRi := Lib.hid h.mp.2
  clear h
  obtain ⟨i0, hi, hz0, hz1, hz2⟩ := Tryz.info3i
  have HI := Lib.hid hi
  have HZ0 := Lib.hid hz0
  have HZ1 := Lib.hid hz1
  have HZ2 := Lib.hid hz2
  have HU : Hid (Tryz.prog.underlying 153 = some (.slice 3)) := by show _ = _; kernel_rfl
  have HO := Lib.hid hown
  clear hi hz0 hz1 hz2 hown
  go_enter Tryz.func61, Tryz.ntmps61
  go_wp2_with (first
    | (at_len; refine wpList_len_mp rfl _ rfl m T HT.out.mp rfl ?_)
    | (at_make; refine wpList_make_own _ rfl _ _ 153 rfl w.heap.size 3 i0 (.int .i64 0) 1 HU.out HI.out HZ0.out HZ1.out _ _ _ T.length rfl rfl rfl (by rw [HZ2.out]; omega) (by unfold maxLen; omega) (Nat.le_refl _) ?_; intro w1 hrow1 hg1; have HROW1 := Lib.hid hrow1; have HG1 := Lib.hid hg1; have HB1 := Lib.hid ((Below.refl w.heap.size w).grown hg1 (Nat.le_refl _) (fun j hj => (by cases hj))); have c2b := (HB1.out.cell (p := ⟨t, 2, none⟩) htl).trans c2; clear hrow1 hg1)
    | (at_range; refine wpList_range_own _ rfl _ 129 rfl 3 59 Tryz.lawInt Tryz.underlying129 RV m T.length (dat T) rfl (HO.out.kept HG1.out (by simp)) ?_; intro w0 hrg0 hg0 hs0; have HRG0 := Lib.hid hrg0; have HG0 := Lib.hid hg0; clear hrg0 hg0 hs0))
  go_frame
  obtain ⟨r, hr⟩ : ∃ r, w1.heap.size = r := ⟨_, rfl⟩
  have hrw : w.heap.size ≤ r := by have := HB1.out.size; omega
  rw [hr] at HRG0 ⊢
  have HB0 : Hid (Below w.heap.size w w0) := HB1.out.grown HG0.out HB1.out.size (fun j hj => (by cases hj))
  have HROW0 := Lib.hid (HROW1.out.kept HG0.out (Or.inr (by simp [Value.ownBlock])))
  clear hr HROW1 HG1 HG0 HB1
  go_loopw [3, 4] (fun v _ wr => ∃ (left : Lit → Bool) (cnt : Nat) (ss : List Int), wr.ranges Tryz.prog 3 RV m r T.length (dat T) left cnt ∧ ss.length + cnt ≤ T.length ∧
      wr.ownsRow w.heap.size 3 1 v ss.length (ss.map encZ) ∧ v ≠ .slice none 0 0 ∧ CollectedI (dat T) left ss ∧ Below w.heap.size w wr)
    (fun _ _ wr => wr.rangeLeft m r)
  case atStart =>
    exact ⟨_, _, [], HRG0.out, by simp [size_dat], HROW0.out, by simp, CollectedI.start (dat T), HB0.out⟩
  case round =>
    obtain ⟨left, cnt, ss, hrg, hcs, hrow, hnn, hC, hnx⟩ := hrel
    have HRG := Lib.hid hrg
    have HROW := Lib.hid hrow
    have HNN := Lib.hid hnn
    have HC := Lib.hid hC
    have HNX := Lib.hid hnx
    have hsz := hnx.size
    clear hrg hrow hnn hC hnx HRG0 HROW0 HB0
    go_wp2_with (at_next; refine wpList_next_ranges _ rfl _ rfl 3 Tryz.lawInt RV encZ (fun v : Value => v) (fun key kl hk => by obtain ⟨x, hx, _⟩ := Maps.keyOf_int_inv Tryz.underlying3 hk; exact ⟨x, hx⟩) (fun v y _ => ⟨v, rfl⟩) m r T.length (dat T) left cnt rfl HRG.out ?_ ?_)
    · intro hc0 hl0
      have HL0 := Lib.hid hl0
      clear hl0
      rcases HROW.out.2 with ⟨hnil, _⟩ | ⟨g, cap, cur, rfl, hbase, hb, h1, h2, h3, h4⟩
      · exact absurd hnil HNN.out
      have hH : Holds encZ wr g 0 ss.toArray := holds_of_block_i hb (by simpa using h4)
      have hgl : g < wr.heap.size := (Array.getElem?_eq_some_iff.1 hb).1
      have HSo := Lib.hid (Tryz.slices_Sort_int g 0 cap ss wr hH hgl (by omega))
      have HKS : Hid (ss.mergeSort (fun x y => decide (x ≤ y)) = (keys T).map fun (k : Nat) => (k : Int)) := keys_sorted T HRi.out ss (HC.out.perm HO.out Tryz.lawInt Tryz.underlying3 HL0.out)
      have HLEN : Hid (ss.length = (keys T).length) := by
        show ss.length = _
        have h5 := (HC.out.perm HO.out Tryz.lawInt Tryz.underlying3 HL0.out).length_eq
        rw [keys_dat, List.length_map] at h5
        exact h5
      rw [HKS.out] at HSo
      have HH : Hid (wr.heap[g]? = some (.cells cur 3 (0, 0)) ∧ ss.length ≤ cap ∧ cap ≤ maxLen ∧ cur.size = cap * 1) := ⟨hb, h1, h2, h3⟩
      clear hb h1 h2 h3 h4 hH
      go_wp2_with (go_at_call 102; refine HSo.out.mono ?_; rintro e w' ⟨rfl, hw'⟩; have HW' := Lib.hid hw'; clear hw')
      have hlen := HLEN.out
      obtain ⟨nn, os, hw'⟩ := HW'.out
      obtain ⟨hb, h1, h2, h3⟩ := HH.out
      have hown' := ownsRow_sorted_i (n := nn) (os := os) (ts := (keys T).map fun (k : Nat) => (k : Int)) (by rw [List.length_map]; exact hlen.symm) hbase hb h1 h2 h3
      have hgr := grownBy_sorted_i (w := wr) (g := g) (n := nn) (os := os) ((keys T).map fun (k : Nat) => (k : Int)).toArray
      rw [hlen, List.map_map] at hown'
      rw [← hw'] at hown' hgr
      go_ret
      obtain ⟨hN, hO⟩ := ownsRow_ns hown'
      refine ⟨_, rfl, ?_, ?_, HNX.out.grown hgr HNX.out.size (fun j hj => by cases hj; exact hbase)⟩
      · rw [hlen]; exact hN
      · intro k hk
        simp [Value.ownBlock] at hk
        omega
    · intro x c kl yd yp w2 cnt2 hkey hlk hv hat hrg2 hlt hg2 hs2 hen
      obtain ⟨x', ex, rfl, _⟩ := Maps.keyOf_int_inv Tryz.underlying3 hkey
      obtain rfl : x = x' := encZ_inj ex
      have HROW2 := Lib.hid (HROW.out.kept hg2 (Or.inr (row_ne_iter HROW.out HRG.out).symm))
      have HB2 := Lib.hid (HNX.out.grown hg2 HNX.out.size (fun j hj => by cases hj; exact hrw))
      have HRG2 := Lib.hid hrg2
      have HC2 := Lib.hid (HC.out.step hlk hat)
      have hz2 : w.heap.size ≤ w2.heap.size := HB2.out.size
      clear hs2 hlk hv hat hrg2 hg2 hkey ex HROW HNX HC HNN
      go_wp2_with (at_builtin; refine wpList_append_own _ rfl _ _ 153 rfl w.heap.size 3 i0 (.int .i64 0) 1 8 HU.out HI.out HZ0.out HZ1.out HZ2.out rfl (by decide) _ _ _ rfl (HROW2.out.alloc _) ⟨w2.heap.size, 0, none⟩ 1 1 [encZ x] rfl rfl (cell_one_new _ _ _) (by simp [Value.oneCell', encZ]) (by unfold maxLen; omega) (by omega) (by simp; omega) ?_; intro v' w3 hown' hg3 hnil3; have HOW3 := Lib.hid hown'; have HG3 := Lib.hid hg3; have HN3 := Lib.hid hnil3; clear hown' hg3 hnil3)
      have hrg3 := (HRG2.out.alloc (.cells #[encZ x] 3)).kept HG3.out (fun he => absurd (ownsRow_block HROW2.out m he.symm) (by omega)) (row_ne_iter (HROW2.out.alloc (.cells #[encZ x] 3)) (HRG2.out.alloc (.cells #[encZ x] 3)))
      have HRG3 := Lib.hid hrg3
      clear hrg3
      go_roundw
      case rel =>
        refine ⟨_, cnt2, ss ++ [x], HRG3.out, by simp; omega, by simpa using HOW3.out, fun hv' => by have := (HN3.out.1 hv').2; omega, HC2.out, ?_⟩
        exact (HB2.out.alloc hz2 _).grown HG3.out (by simp; omega) (fun j hj => ownsRow_block HROW2.out j hj)
      case measure => rw [HRG3.out.left_eq, HRG.out.left_eq]; exact hlt
theorem yields_look_some {ops : Array Oper} {o : Oper} {a : Act} {S : World → Prop} (hw : Region.wanted o (yielded ops a.tmps) = true) (x y : Operand) (ho : o.op = .lookup 129 x y false) (m : Nat) (T : TS) (hS : ∀ W, S W → Mp W m T) (hx : a.eval x = .map (some m)) (k : Int) (hy : a.eval y = .int .i64 k) (h0 : -9223372036854775808 ≤ k) (h1 : k < 9223372036854775808)
    (V : Nat → Int) (hf : find T k = some V) : YieldsIf Tryz.prog ops S o (.agg (byts 64 V).toArray) a := by
  have h := yields_look_mp hw x y ho m T hS hx k hy h0 h1
  rw [hf] at h
  exact h
/-- blocks into the log, from its i-th place on -/
def wlog (fi : Nat) : Nat → List (Nat → Int) → DS → Int × DS
  | _, [], s => (0, s)
  | i, b :: r, s => if (s.write (fi + 1 + i) b).1 = 0 then wlog fi (i + 1) r (s.write (fi + 1 + i) b).2 else s.write (fi + 1 + i) b
def writeLog (fi : Nat) (T : TS) (s : DS) : Int × DS :=
  if (wlog fi 0 (T.map (·.2)) s).1 = 0 then (wlog fi 0 (T.map (·.2)) s).2.write fi (headF (keys T)) else wlog fi 0 (T.map (·.2)) s
theorem Sane.wlog {N fi : Nat} : ∀ (bs : List (Nat → Int)) (i k : Nat) (s : DS), (∀ b ∈ bs, Byt b) → Sane s N k → Sane (wlog fi i bs s).2 N (k + bs.length)
  | [], i, k, s, _, h => h
  | b :: r, i, k, s, hb, h => by
    have h1 : Sane (s.write (fi + 1 + i) b).2 N (k + 1) := h.write _ _ (hb b (by simp))
    unfold YtnfadmifdncjoaaGreat.wlog
    split
    · have := Sane.wlog (fi := fi) r (i + 1) (k + 1) _ (fun b' h' => hb b' (by simp [h'])) h1
      rw [List.length_cons, show k + (r.length + 1) = k + 1 + r.length by omega]
      exact this
    · exact h1.mono (by rw [List.length_cons]; omega)
theorem Sane.writeLog {N fi : Nat} (T : TS) (k : Nat) (s : DS) (hT : ∀ p ∈ T, Byt p.2) (h : Sane s N k) : Sane (writeLog fi T s).2 N (k + T.length + 1) := by
  have h1 := Sane.wlog (fi := fi) (T.map (·.2)) 0 k s (fun b hb => by obtain ⟨p, hp, rfl⟩ := List.mem_map.1 hb; exact hT p hp) h
  rw [List.length_map] at h1
  unfold YtnfadmifdncjoaaGreat.writeLog
  split
  · exact h1.write fi _ (headF_byt _)
  · exact h1.mono (by omega)
theorem keys_len (T : TS) : (keys T).length = T.length := by simp [keys]

set_option maxHeartbeats 40000000 in
set_option maxRecDepth 100000 in
theorem writelog_any (t m d g fi N K : Nat) (T : TS) (fa : Int) (s : DS) (v : Value) (h30 : T.length ≤ 30) (hts : ∀ p ∈ T, p.1 < N ∧ Byt p.2) (hf : fi + 31 ≤ N) (hN : N ≤ 65536) (hK : K < 800000000) (hs : Sane s N K) (w : World) (ht : Tx w t m d fi T fa) (hd : Dk w d g s) (hv : Ns w v (keys T)) (htd : t ≠ d) (htg : t ≠ g) (hmd : m ≠ d) (hmg : m ≠ g) (hvo : Ns.off v d g) :
    Calls Tryz.prog 62 #[.pointer (some ⟨t, 0, none⟩), v] w fun e w' => e = .returned (.int .i64 (writeLog fi T s).1) ∧ Dk w' d g (writeLog fi T s).2 ∧ Kp w w' d g := by
  obtain ⟨a, cap, rfl, hm⟩ := hv.form
  unfold maxLen at hm
  have HV := Lib.hid hv
  have HT := Lib.hid ht
  have HD := Lib.hid hd
  have HS := Lib.hid hs
  have HTS := Lib.hid hts
  have hg0 := hd.fl.lt
  have hd0 := hd.lt
  have ht0 := ht.lg.lt
  have HKL : Hid ((keys T).length = T.length) := keys_len T
  rw [HKL.out] at hm HV hvo ⊢
  clear hv ht hd hs hts
  have HIN : Hid (writeLog fi T s = if (wlog fi 0 (T.map (·.2)) s).1 = 0 then (wlog fi 0 (T.map (·.2)) s).2.write fi (headF (keys T)) else wlog fi 0 (T.map (·.2)) s) := rfl
  obtain ⟨R, hR⟩ : ∃ R, writeLog fi T s = R := ⟨_, rfl⟩
  rw [hR] at HIN ⊢
  obtain ⟨I, hI⟩ : ∃ I, wlog fi 0 (T.map (·.2)) s = I := ⟨_, rfl⟩
  have HI := Lib.hid hI
  rw [hI] at HIN
  clear hR hI
  go_enter Tryz.func62, Tryz.ntmps62
  go_wp2
  go_loopw [5, 6, 7, 10] (fun _ _ _ i wr => ∃ (k : Nat) (s1 : DS), k ≤ T.length ∧ i = .int .i64 k ∧ wlog fi k ((T.drop k).map (·.2)) s1 = I ∧ Sane s1 N (K + k) ∧ Dk wr d g s1 ∧ Kp w wr d g) (fun _ _ _ i _ => T.length - (Go.RowKit.intOf i).toNat)
  case atStart => exact ⟨0, s, by omega, rfl, by rw [List.drop_zero]; exact HI.out, HS.out, HD.out, Kp.refl _ _ _⟩
  case round =>
    obtain ⟨k, s1, hk, rfl, hIk, hSk, hDk, hKk⟩ := hrel
    have HIk := Lib.hid hIk
    have HSk := Lib.hid hSk
    have HDk := Lib.hid hDk
    have HKk := Lib.hid hKk
    have hk0 : (0 : Int) ≤ k := by omega
    have hzr := hKk.size
    clear hIk hSk hDk hKk
    obtain ⟨wX, rfl⟩ : ∃ x, x = wr := ⟨wr, rfl⟩
    have HTX := Lib.hid (HT.out.kp HKk.out htd htg hmd hmg)
    by_cases hlt : k < T.length
    · have hkk : (k : Int) < T.length := by omega
      have HSt : Hid (wlog fi k ((T.drop k).map (·.2)) s1 = if (s1.write (fi + 1 + k) T[k].2).1 = 0 then wlog fi (k + 1) ((T.drop (k + 1)).map (·.2)) (s1.write (fi + 1 + k) T[k].2).2 else s1.write (fi + 1 + k) T[k].2) := by
        show wlog fi k _ s1 = _
        rw [List.drop_eq_getElem_cons hlt]
        rfl
      obtain ⟨b, off, rfl, hbl, hbc⟩ := HV.out.at k (by rw [HKL.out]; exact hlt)
      obtain ⟨hob1, hob2⟩ := hvo b rfl
      have ec := (HKk.out.cell (p := ⟨b, off + k, none⟩) hbl hob1 hob2).trans hbc
      have hkey : (keys T)[k]'(by rw [HKL.out]; exact hlt) = T[k].1 := by simp [keys]
      rw [hkey] at ec
      have HTk := Lib.hid (HTS.out T[k] (List.getElem_mem hlt))
      have HFk := Lib.hid (find_at HT.out.mp.2 hlt)
      have HVl := Lib.hid hvo
      clear hbc hvo hkey
      obtain ⟨p, hp⟩ : ∃ p, T[k] = p := ⟨_, rfl⟩
      rw [hp] at HSt ec HTk HFk
      clear hp
      obtain ⟨x, V⟩ := p
      simp only at HSt ec HTk HFk
      have hx : x < N := HTk.out.1
      have hx0 : (0 : Int) ≤ x := by omega
      go_upto_region 4 with fail
      have hdX := HDk.out.lt
      have hgX := HDk.out.fl.lt
      have hKb : K + k < 900000000 := by omega
      have HW : Hid (∀ W, Dk W d g s1 → Calls Tryz.prog 103 #[.pointer (some ⟨d, 0, none⟩), .int .i64 ((fi : Int) + 1 + (k : Int)), .agg (byts 64 V).toArray] W fun e w' => e = .returned (.int .i64 (s1.write (fi + 1 + k) V).1) ∧ Dk w' d g (s1.write (fi + 1 + k) V).2 ∧ Kp W w' d g) := fun W h => by
        have := write_any d g s1 V (fi + 1 + k) N (K + k) (by omega) hN hKb HSk.out W h
        rwa [show ((fi + 1 + k : Nat) : Int) = (fi : Int) + 1 + (k : Int) by omega] at this
      have HSq := Lib.hid (HSk.out.write (fi + 1 + k) V HTk.out.2)
      have hqc := DS.write_code s1 (fi + 1 + k) V
      obtain ⟨q, hq⟩ : ∃ q, s1.write (fi + 1 + k) V = q := ⟨_, rfl⟩
      rw [hq] at HW HSq HSt hqc
      clear hq
      obtain ⟨q1, q2⟩ := q
      simp only at hqc HW HSq
      refine wp_region_held (S := fun W => Tx W t m d fi T fa) (by kernel_rfl) ?_
      change wpAnyH _ _ _ _ _ _ _ _ (World.drew _)
      have hS0 : Tx wX.drew t m d fi T fa := HTX.out.keep (Below.refl _ _).drew
      refine wpAnyH_take (i := 0) (v := ?_) rfl (by kernel_rfl) (by kernel_rfl) (by kernel_rfl) (fun _ _ _ h => h) (Or.inl ⟨by rfl, ?_⟩) hS0 ?_
      rotate_left 1
      · intro W hW
        go_simp
        try with_reducible rfl
      simp only [Act.put, List.getElem_toArray, List.getElem_cons_zero, List.getElem_cons_succ, List.setIfInBounds_toArray, List.set_cons_zero, List.set_cons_succ]
      refine wpAnyH_take (i := 1) (v := ?_) rfl (by kernel_rfl) (by kernel_rfl) (by kernel_rfl) (fun _ _ _ h => h) (Or.inl ⟨by rfl, ?_⟩) hS0 ?_
      rotate_left 1
      · intro W hW
        go_simp
        try with_reducible rfl
      simp only [Act.put, List.getElem_toArray, List.getElem_cons_zero, List.getElem_cons_succ, List.setIfInBounds_toArray, List.set_cons_zero, List.set_cons_succ]
      refine wpAnyH_take (i := 2) (v := ?_) rfl (by kernel_rfl) (by kernel_rfl) (by kernel_rfl) (fun _ _ _ h => h) (Or.inl ⟨by rfl, ?_⟩) hS0 ?_
      rotate_left 1
      · intro W hW
        go_simp
        try with_reducible rfl
      simp only [Act.put, List.getElem_toArray, List.getElem_cons_zero, List.getElem_cons_succ, List.setIfInBounds_toArray, List.set_cons_zero, List.set_cons_succ]
      refine wpAnyH_take (i := 3) (v := ?_) rfl (by kernel_rfl) (by kernel_rfl) (by kernel_rfl) (fun _ _ _ h => h) (Or.inl ⟨by rfl, ?_⟩) hS0 ?_
      rotate_left 1
      · intro W hW
        go_simp
        try with_reducible rfl
      simp only [Act.put, List.getElem_toArray, List.getElem_cons_zero, List.getElem_cons_succ, List.setIfInBounds_toArray, List.set_cons_zero, List.set_cons_succ]
      refine wpAnyH_take (i := 4) (v := ?_) rfl (by kernel_rfl) (by kernel_rfl) (by kernel_rfl) (fun _ _ _ h => h) (Or.inl ⟨by rfl, ?_⟩) hS0 ?_
      rotate_left 1
      · intro W hW
        have c0 := hW.lg.c0
        go_simp
        try with_reducible rfl
      simp only [Act.put, List.getElem_toArray, List.getElem_cons_zero, List.getElem_cons_succ, List.setIfInBounds_toArray, List.set_cons_zero, List.set_cons_succ]
      refine wpAnyH_take (i := 5) (v := ?_) rfl (by kernel_rfl) (by kernel_rfl) (by kernel_rfl) (fun _ _ _ h => h) (Or.inl ⟨by rfl, ?_⟩) hS0 ?_
      rotate_left 1
      · intro W hW
        go_simp
        try with_reducible rfl
      simp only [Act.put, List.getElem_toArray, List.getElem_cons_zero, List.getElem_cons_succ, List.setIfInBounds_toArray, List.set_cons_zero, List.set_cons_succ]
      refine wpAnyH_take (i := 6) (v := ?_) rfl (by kernel_rfl) (by kernel_rfl) (by kernel_rfl) (fun _ _ _ h => h) (Or.inl ⟨by rfl, ?_⟩) hS0 ?_
      rotate_left 1
      · intro W hW
        go_simp
        try with_reducible rfl
      simp only [Act.put, List.getElem_toArray, List.getElem_cons_zero, List.getElem_cons_succ, List.setIfInBounds_toArray, List.set_cons_zero, List.set_cons_succ]
      refine wpAnyH_take (i := 7) (v := ?_) rfl (by kernel_rfl) (by kernel_rfl) (by kernel_rfl) (fun _ _ _ h => h) (Or.inl ⟨by rfl, ?_⟩) hS0 ?_
      rotate_left 1
      · intro W hW
        go_simp
        try with_reducible rfl
      simp only [Act.put, List.getElem_toArray, List.getElem_cons_zero, List.getElem_cons_succ, List.setIfInBounds_toArray, List.set_cons_zero, List.set_cons_succ]
      refine wpAnyH_take (i := 8) (v := ?_) rfl (by kernel_rfl) (by kernel_rfl) (by kernel_rfl) (fun _ _ _ h => h) (Or.inl ⟨by rfl, ?_⟩) hS0 ?_
      rotate_left 1
      · intro W hW
        go_simp
        try with_reducible rfl
      simp only [Act.put, List.getElem_toArray, List.getElem_cons_zero, List.getElem_cons_succ, List.setIfInBounds_toArray, List.set_cons_zero, List.set_cons_succ]
      refine wpAnyH_take (i := 10) (v := ?_) rfl (by kernel_rfl) (by kernel_rfl) (by kernel_rfl) (fun _ _ _ h => h) (Or.inl ⟨by rfl, ?_⟩) hS0 ?_
      rotate_left 1
      · intro W hW
        go_simp
        try with_reducible rfl
      simp only [Act.put, List.getElem_toArray, List.getElem_cons_zero, List.getElem_cons_succ, List.setIfInBounds_toArray, List.set_cons_zero, List.set_cons_succ]
      refine wpAnyH_take (i := 11) (v := ?_) rfl (by kernel_rfl) (by kernel_rfl) (by kernel_rfl) (fun _ _ _ h => h) (Or.inl ⟨by rfl, ?_⟩) hS0 ?_
      rotate_left 1
      · intro W hW
        go_simp
        try with_reducible rfl
      simp only [Act.put, List.getElem_toArray, List.getElem_cons_zero, List.getElem_cons_succ, List.setIfInBounds_toArray, List.set_cons_zero, List.set_cons_succ]
      refine wpAnyH_take (i := 12) (v := ?_) rfl (by kernel_rfl) (by kernel_rfl) (by kernel_rfl) (fun _ _ _ h => h) (Or.inl ⟨by rfl, ?_⟩) hS0 ?_
      rotate_left 1
      · intro W hW
        go_simp
        try with_reducible rfl
      simp only [Act.put, List.getElem_toArray, List.getElem_cons_zero, List.getElem_cons_succ, List.setIfInBounds_toArray, List.set_cons_zero, List.set_cons_succ]
      refine wpAnyH_take (i := 13) (v := ?_) rfl (by kernel_rfl) (by kernel_rfl) (by kernel_rfl) (fun _ _ _ h => h) (Or.inl ⟨by rfl, ?_⟩) hS0 ?_
      rotate_left 1
      · intro W hW
        have c2 := hW.c2
        go_simp
        try with_reducible rfl
      simp only [Act.put, List.getElem_toArray, List.getElem_cons_zero, List.getElem_cons_succ, List.setIfInBounds_toArray, List.set_cons_zero, List.set_cons_succ]
      refine wpAnyH_take (i := 14) (v := ?_) rfl (by kernel_rfl) (by kernel_rfl) (by kernel_rfl) (fun _ _ _ h => h) (Or.inl ⟨by rfl, ?_⟩) hS0 ?_
      rotate_left 1
      · intro W hW
        go_simp
        try with_reducible rfl
      simp only [Act.put, List.getElem_toArray, List.getElem_cons_zero, List.getElem_cons_succ, List.setIfInBounds_toArray, List.set_cons_zero, List.set_cons_succ]
      refine wpAnyH_take (i := 15) (v := .agg (byts 64 V).toArray) rfl (by kernel_rfl) (by kernel_rfl) (by kernel_rfl) (fun _ _ _ h => h) ?_ hS0 ?_
      · exact yields_look_some (by rfl) (.tmp 28) (.tmp 29) rfl m T (fun W hW => hW.mp) rfl (x : Int) rfl (by omega) (by omega) V HFk.out
      simp only [Act.put, List.getElem_toArray, List.getElem_cons_zero, List.getElem_cons_succ, List.setIfInBounds_toArray, List.set_cons_zero, List.set_cons_succ]
      refine wpAnyH_ready (rs := [9]) (by kernel_rfl) (by simp) (AllReadyH.cons rfl (fun KK hKK => ?_) AllReadyH.nil)
      go_simp
      refine (slot_any t d fi k (by omega) (by omega) _ hS0.lg).mono ?_
      rintro e wz ⟨rfl, hwz⟩
      rw [hwz]
      clear hwz
      refine hKK _ _ hS0 ?_
      intro _
      clear hKK KK
      refine wpAnyH_ready (rs := [16]) (by kernel_rfl) (by simp) (AllReadyH.cons rfl (fun KK hKK => ?_) AllReadyH.nil)
      go_simp
      refine (HW.out _ (HDk.out.keep (Below.refl _ _).drew)).mono ?_
      rintro e wZ ⟨rfl, hDZ, hkZ⟩
      have HDZ := Lib.hid hDZ
      have HKZ := Lib.hid ((Kp.refl wX d g).drew.trans hkZ)
      have hS1 := hS0
      clear hS0
      have hS0 : Tx wZ t m d fi T fa := hS1.kp hkZ htd htg hmd hmg
      refine hKK _ _ hS0 ?_
      intro _
      clear hKK KK hDZ hkZ hS1
      refine wpAnyH_take (i := 17) (v := ?_) rfl (by kernel_rfl) (by kernel_rfl) (by kernel_rfl) (fun _ _ _ h => h) (Or.inl ⟨by rfl, ?_⟩) hS0 ?_
      rotate_left 1
      · intro W hW
        go_simp
        try with_reducible rfl
      simp only [Act.put, List.getElem_toArray, List.getElem_cons_zero, List.getElem_cons_succ, List.setIfInBounds_toArray, List.set_cons_zero, List.set_cons_succ]
      refine wpAnyH_done (by kernel_rfl) ?_ _
      clear hS0
      rcases hqc with rfl | rfl
      · go_wp2_with fail
        go_roundw
        case rel => exact ⟨k + 1, q2, by omega, by go_num, by rw [← HIk.out, HSt.out, if_pos rfl], HSq.out, HDZ.out, HKk.out.trans HKZ.out⟩
        case measure => simp [Go.RowKit.intOf]; omega
      · go_wp2_with fail
        go_ret
        have hI : I = (24, q2) := by rw [← HIk.out, HSt.out, if_neg (by decide)]
        have hR : R = (24, q2) := by rw [HIN.out, hI]; rfl
        rw [hR]
        exact ⟨rfl, HDZ.out, HKk.out.trans HKZ.out⟩
    · obtain rfl : k = T.length := by omega
      have hI : I = (0, s1) := by rw [← HIk.out, List.drop_length]; rfl
      have hR : Hid (R = s1.write fi (headF (keys T))) := by show R = _; rw [HIN.out, hI]; rfl
      have hKb : K + T.length < 900000000 := by omega
      have HP := Lib.hid (point_any t d g fi N (K + T.length) s1 (.slice a T.length cap) (keys T) (by rw [HKL.out]; exact h30) (fun y hy => by obtain ⟨p, hp, rfl⟩ := List.mem_map.1 hy; have := (HTS.out p hp).1; omega) hf hN hKb HSk.out wX HTX.out.lg HDk.out (HV.out.kp HKk.out hvo) htd htg)
      rw [← hR.out] at HP
      clear HIk HSk HDk HIN HI hR hI HV hvo
      go_wp2_with fail
      refine HP.out.mono ?_
      rintro e wz ⟨rfl, hDz, hkz⟩
      have HDz := Lib.hid hDz
      have HKz := Lib.hid (HKk.out.trans hkz)
      clear hDz hkz HP
      go_wp2
      go_ret
      exact ⟨rfl, HDz.out, HKz.out⟩

/-- Commit: the error's number; what is still to be written; the disk -/
def commit (fi : Nat) (T : TS) (fa : Int) (s : DS) : Int × TS × DS :=
  if fa ≠ 0 then (fa, T, s) else if T = [] then (0, T, s) else if (writeLog fi T s).1 = 0 then ((install fi (keys T) (writeLog fi T s).2).1, [], (install fi (keys T) (writeLog fi T s).2).2) else ((writeLog fi T s).1, T, (writeLog fi T s).2)
theorem Sane.commit {N fi : Nat} (T : TS) (fa : Int) (k : Nat) (s : DS) (h30 : T.length ≤ 30) (hT : ∀ p ∈ T, Byt p.2) (h : Sane s N k) : Sane (commit fi T fa s).2.2 N (k + 92) := by
  unfold YtnfadmifdncjoaaGreat.commit
  have h1 := Sane.writeLog (fi := fi) T k s hT h
  split
  · exact h.mono (by omega)
  · split
    · exact h.mono (by omega)
    · split
      · have h2 := h1.install (fi := fi) (keys T)
        rw [keys_len] at h2
        exact h2.mono (by omega)
      · exact h1.mono (by omega)
/-- the disk's blocks, then the map, then the disk's -/
def Kc (w w' : World) (d g m : Nat) : Prop := ∃ w1 w2, Kp w w1 d g ∧ Kp w1 w2 m m ∧ Kp w2 w' d g
theorem Kc.of_kp {w w' : World} {d g : Nat} (h : Kp w w' d g) (m : Nat) : Kc w w' d g m := ⟨w', w', h, Kp.refl _ _ _, Kp.refl _ _ _⟩
theorem Kc.below {w w' : World} {d g m B : Nat} (h : Kc w w' d g m) (h1 : B ≤ d) (h2 : B ≤ g) (h3 : B ≤ m) (hB : B ≤ w.heap.size) : Below B w w' := by
  obtain ⟨w1, w2, k1, k2, k3⟩ := h
  exact ((k1.below h1 h2 hB).trans (k2.below h3 h3 (Nat.le_trans hB k1.size))).trans (k3.below h1 h2 (Nat.le_trans hB (Nat.le_trans k1.size k2.size)))

set_option maxHeartbeats 40000000 in
set_option maxRecDepth 100000 in
theorem commit_any (t m d g fi N K : Nat) (T : TS) (fa : Int) (s : DS) (h30 : T.length ≤ 30) (hts : ∀ p ∈ T, p.1 < N ∧ Byt p.2) (hf : fi + 31 ≤ N) (hN : N ≤ 65536) (hK : K < 700000000) (hfa : 0 ≤ fa ∧ fa < 100) (hs : Sane s N K) (w : World) (ht : Tx w t m d fi T fa) (hd : Dk w d g s) (htd : t ≠ d) (htg : t ≠ g) (hmd : m ≠ d) (hmg : m ≠ g) :
    Calls Tryz.prog 22 #[.pointer (some ⟨t, 0, none⟩)] w fun e w' => e = .returned (.int .i64 (commit fi T fa s).1) ∧ Tx w' t m d fi (commit fi T fa s).2.1 fa ∧ Dk w' d g (commit fi T fa s).2.2 ∧ Kc w w' d g m := by
  have HT := Lib.hid ht
  have HD := Lib.hid hd
  have HS := Lib.hid hs
  have HTS := Lib.hid hts
  have c3 := ht.c3
  have hg0 := hd.fl.lt
  have hd0 := hd.lt
  have ht0 := ht.lg.lt
  clear ht hd hs hts
  obtain ⟨hfa0, hfa1⟩ := hfa
  by_cases hfz : fa = 0
  · subst hfz
    have HBl := Lib.hid (blocks_any t m d fi T 0 (by omega) w HT.out)
    by_cases hTz : T.length = 0
    · obtain rfl := List.eq_nil_of_length_eq_zero hTz
      have hr : commit fi [] 0 s = (0, [], s) := by unfold commit; rw [if_neg (by decide), if_pos rfl]
      rw [hr]
      go_enter Tryz.func22, Tryz.ntmps22
      go_wp2_with fail
      refine HBl.out.mono ?_
      rintro e w1 ⟨v1, rfl, hN1, ho1, hb1⟩
      have HB1 := Lib.hid hb1
      obtain ⟨a1, cp1, hv1, -⟩ := hN1.form
      subst hv1
      clear HBl hN1 ho1 hb1
      simp only [keys, List.map_nil, List.length_nil]
      go_wp2_with fail
      go_ret
      exact ⟨rfl, HT.out.keep HB1.out, HD.out.keep HB1.out, Kc.of_kp (Kp.of_below HB1.out _ _) _⟩
    · have hTz' : ¬ ((T.length : Int) = 0) := by omega
      have HIN : Hid (commit fi T 0 s = if (writeLog fi T s).1 = 0 then ((install fi (keys T) (writeLog fi T s).2).1, [], (install fi (keys T) (writeLog fi T s).2).2) else ((writeLog fi T s).1, T, (writeLog fi T s).2)) := by
        show commit fi T 0 s = _
        unfold commit
        rw [if_neg (by decide), if_neg (fun h => hTz (by rw [h]; rfl))]
      obtain ⟨R, hR⟩ : ∃ R, commit fi T 0 s = R := ⟨_, rfl⟩
      rw [hR] at HIN ⊢
      clear hR
      go_enter Tryz.func22, Tryz.ntmps22
      go_wp2_with fail
      refine HBl.out.mono ?_
      rintro e w1 ⟨v1, rfl, hN1, ho1, hb1⟩
      have HB1 := Lib.hid hb1
      have HO1 : Hid (Ns.off v1 d g) := fun k hk => by have := ho1 k hk; omega
      have HO1m : Hid (Ns.off v1 m m) := fun k hk => by have := ho1 k hk; have := HT.out.mp.lt; omega
      have HN1 := Lib.hid hN1
      have HT1 := Lib.hid (HT.out.keep hb1)
      have HD1 := Lib.hid (HD.out.keep hb1)
      have HWL := Lib.hid (writelog_any t m d g fi N K T 0 s v1 h30 HTS.out hf hN (by omega) HS.out w1 HT1.out HD1.out hN1 htd htg hmd hmg HO1.out)
      obtain ⟨a1, cp1, hv1, -⟩ := HN1.out.form
      rw [keys_len] at hv1
      subst hv1
      have HSw := Lib.hid (Sane.writeLog (fi := fi) T K s (fun p hp => (HTS.out p hp).2) HS.out)
      obtain ⟨q, hq⟩ : ∃ q, writeLog fi T s = q := ⟨_, rfl⟩
      rw [hq] at HIN HWL HSw
      clear HBl hN1 ho1 hb1 hq
      obtain ⟨q1, q2⟩ := q
      simp only at HIN HWL HSw
      go_wp2_with fail
      refine HWL.out.mono ?_
      rintro e w2 ⟨rfl, hD2, hk2⟩
      have HD2 := Lib.hid hD2
      have HK2 := Lib.hid ((Kp.of_below HB1.out d g).trans hk2)
      have HT2 := Lib.hid (HT1.out.kp hk2 htd htg hmd hmg)
      have HN2 := Lib.hid (HN1.out.kp hk2 HO1.out)
      have c2 := HT2.out.c2
      clear hD2 hk2 HWL HN1 HT1 HD1
      by_cases hq0 : q1 = 0
      · subst hq0
        have hR : R = ((install fi (keys T) q2).1, [], (install fi (keys T) q2).2) := by rw [HIN.out, if_pos rfl]
        subst hR
        go_wp2_with (refine wpList_clear_mp rfl (.tmp 30) rfl m T HT2.out.mp rfl ?_; intro w3 HM3 HK3; have HT3 := Lib.hid (HT2.out.remap HK3.out HM3.out); have HD3 := Lib.hid (HD2.out.kp HK3.out hmd.symm hmd.symm hmg.symm hmg.symm); have HN3 := Lib.hid (HN2.out.kp HK3.out HO1m.out))
        refine (install_any t d g fi N (K + T.length + 1) q2 (.slice a1 T.length cp1) (keys T) (by rw [keys_len]; exact h30) (fun y hy => by obtain ⟨p, hp, rfl⟩ := List.mem_map.1 hy; exact (HTS.out p hp).1) hf hN (by omega) HSw.out w3 HT3.out.lg HD3.out HN3.out htd htg HO1.out).mono ?_
        rintro e w4 ⟨rfl, hD4, hk4⟩
        have HD4 := Lib.hid hD4
        have HK4 := Lib.hid hk4
        clear hD4 hk4
        go_wp2_with fail
        go_ret
        exact ⟨rfl, HT3.out.kp HK4.out htd htg hmd hmg, HD4.out, w2, w3, HK2.out, HK3.out, HK4.out⟩
      · have hR : R = (q1, T, q2) := by rw [HIN.out, if_neg hq0]
        subst hR
        have hq0' : (q1 == 0) = false := by simpa using hq0
        go_wp2_with fail
        go_ret
        exact ⟨rfl, HT2.out, HD2.out, Kc.of_kp HK2.out _⟩
  · have hr : commit fi T fa s = (fa, T, s) := by unfold commit; rw [if_pos hfz]
    rw [hr]
    go_enter Tryz.func22, Tryz.ntmps22
    go_wp2_with fail
    go_ret
    exact ⟨rfl, HT.out, HD.out, Kc.of_kp (Kp.refl _ _ _) _⟩
theorem commit_nil (w : World) : Calls Tryz.prog 22 #[.pointer none] w fun e w' => e = .returned (.int .i64 1) ∧ w' = w := by
  go_enter Tryz.func22, Tryz.ntmps22
  go_wp2
  go_ret
  exact ⟨rfl, rfl⟩
end Go.Proofs.YtnfadmifdncjoaaGreat
