import Derived.Test.YtdebkifnaiohcaaE6
/- A transaction: its state, Begin, Len, Drop, mayPut, Put, Get. -/
namespace Go.Proofs.Ytdebkifnaiohcaa
set_option linter.unusedSimpArgs false
set_option linter.unusedVariables false
open Go.RowKit Go.Maps

/-- block t holds a transaction: its log, its blocks in map m, the first error -/
structure Tx (w : World) (t m d fi : Nat) (T : TS) (fa : Int) : Prop where
  lg : Lg w t d fi
  c2 : w.cell? ⟨t, 2, none⟩ = some (.map (some m))
  c3 : w.cell? ⟨t, 3, none⟩ = some (.int .i64 fa)
  z3 : w.frozen? ⟨t, 3, none⟩ = false
  mp : Mp w m T
  ne : m ≠ t
theorem Tx.below {w w' : World} {B t m d fi : Nat} {T : TS} {fa : Int} (h : Tx w t m d fi T fa) (hb : Below B w w') (ht : t < B) (hm : m < B) : Tx w' t m d fi T fa :=
  ⟨h.lg.below hb ht, (hb.cell (p := ⟨t, 2, none⟩) ht).trans h.c2, (hb.cell (p := ⟨t, 3, none⟩) ht).trans h.c3, (hb.frozen (p := ⟨t, 3, none⟩) ht).trans h.z3, h.mp.below hb hm, h.ne⟩
theorem Tx.keep {w w' : World} {t m d fi : Nat} {T : TS} {fa : Int} (h : Tx w t m d fi T fa) (hb : Below w.heap.size w w') : Tx w' t m d fi T fa := h.below hb h.lg.lt h.mp.lt
theorem Tx.kp {w w' : World} {a b t m d fi : Nat} {T : TS} {fa : Int} (h : Tx w t m d fi T fa) (hb : Kp w w' a b) (h1 : t ≠ a) (h2 : t ≠ b) (h3 : m ≠ a) (h4 : m ≠ b) : Tx w' t m d fi T fa :=
  ⟨h.lg.kp hb h1 h2, (hb.cell (p := ⟨t, 2, none⟩) h.lg.lt h1 h2).trans h.c2, (hb.cell (p := ⟨t, 3, none⟩) h.lg.lt h1 h2).trans h.c3, (hb.frozen (p := ⟨t, 3, none⟩) h.lg.lt h1 h2).trans h.z3, h.mp.kp hb h3 h4, h.ne⟩
theorem Tx.fail {w : World} {t m d fi : Nat} {T : TS} {fa : Int} (h : Tx w t m d fi T fa) (x : Int) : Tx (w.setCell ⟨t, 3, none⟩ (.int .i64 x)) t m d fi T x :=
  ⟨⟨lt_set h.lg.lt _ _, cell_set_other h.lg.c0 _ (by decide), cell_set_other h.lg.c1 _ (by decide)⟩, cell_set_other h.c2 _ (by decide), cell_set_same h.c3 _, frozen_set h.z3 _, h.mp.block (Below.heap_setCell _ _ _ _ h.ne), h.ne⟩
/-- another map in the map's place -/
theorem Tx.remap {w w' : World} {t m d fi : Nat} {T T' : TS} {fa : Int} (h : Tx w t m d fi T fa) (hk : Kp w w' m m) (hm : Mp w' m T') : Tx w' t m d fi T' fa := by
  have hne : t ≠ m := fun e => h.ne e.symm
  exact ⟨h.lg.kp hk hne hne, (hk.cell (p := ⟨t, 2, none⟩) h.lg.lt hne hne).trans h.c2, (hk.cell (p := ⟨t, 3, none⟩) h.lg.lt hne hne).trans h.c3, (hk.frozen (p := ⟨t, 3, none⟩) h.lg.lt hne hne).trans h.z3, hm, h.ne⟩

theorem Try.zeroBlk (w : World) : (zeroValue 96).run Try.prog w = .ok (bv fun _ => 0) w := by
  obtain ⟨i, hi, hz, hs, hb⟩ := Try.info36i
  simp [zeroValue, typeInfo, hi, hz, bv]
theorem Mp.look {w : World} {m : Nat} {T : TS} (h : Mp w m T) (k : Int) (h0 : -9223372036854775808 ≤ k) (h1 : k < 9223372036854775808) :
    (Instr.lookup 122 (.map (some m)) (.int .i64 k) true).run Try.prog w = .ok (.tuple #[bv ((find T k).getD fun _ => 0), .bool (find T k).isSome]) w := by
  obtain ⟨v, ps, hrun, hv⟩ := h.1.look_ok Try.lawInt Try.underlying122 (Try.zeroBlk w) (zd := .held (bv fun _ => 0)) (zp := []) rfl (key_is k h0 h1)
  rw [has_dat] at hrun
  rw [atKey_dat] at hv
  rw [hrun]
  have : v = bv ((find T k).getD fun _ => 0) := by
    unfold RV at hv
    cases hf : find T k with
    | none => rw [hf] at hv; simpa using (show v = _ ∧ ps = [] by simpa using hv).1
    | some f => rw [hf] at hv; simpa using (show v = _ ∧ ps = [] by simpa using hv).1
  rw [this]
theorem Mp.look1 {w : World} {m : Nat} {T : TS} (h : Mp w m T) (k : Int) (h0 : -9223372036854775808 ≤ k) (h1 : k < 9223372036854775808) :
    (Instr.lookup 122 (.map (some m)) (.int .i64 k) false).run Try.prog w = .ok (bv ((find T k).getD fun _ => 0)) w := by
  obtain ⟨v, ps, hrun, hv⟩ := h.1.lookup Try.lawInt Try.underlying122 (Try.zeroBlk w) (zd := .held (bv fun _ => 0)) (zp := []) rfl (key_is k h0 h1)
  rw [atKey_dat] at hv
  rw [hrun]
  have : v = bv ((find T k).getD fun _ => 0) := by
    unfold RV at hv
    cases hf : find T k with
    | none => rw [hf] at hv; simpa using (show v = _ ∧ ps = [] by simpa using hv).1
    | some f => rw [hf] at hv; simpa using (show v = _ ∧ ps = [] by simpa using hv).1
  rw [this]
theorem Mp.len {w : World} {m : Nat} {T : TS} (h : Mp w m T) (ty : TypeId) : (Builtin.len_ #[122] ty #[.map (some m)]).run Try.prog w = .ok (.int .i64 T.length) w := by
  rw [h.1.len Try.underlying122 ty, size_dat]
theorem Mp.put {w : World} {m : Nat} {T : TS} (h : Mp w m T) (k : Nat) (f : Nat → Int) (hk : k ≤ 65536) (hn : T.length < 5000) :
    ∃ w', (Instr.mapUpdate 122 (.map (some m)) (.int .i64 k) (bv f)).run Try.prog w = .ok () w' ∧ Mp w' m (put k f T) ∧ Kp w w' m m := by
  obtain ⟨w', hrun, h1, h2⟩ := h.1.store Try.lawInt Try.underlying122 (by unfold maxLen; omega) (key_is k (by omega) (by omega)) (val := bv f) (d := .held (bv f)) (ps := []) rfl
  rw [put_dat T h.2 k f] at h1
  have hg := h2.grown
  exact ⟨w', hrun, ⟨ownsMap_tight h1, put_rise k f T h.2⟩, ⟨hg.os, hg.tape, hg.output, hg.size, fun i hi h3 _ => hg.block i hi (by simpa using h3)⟩⟩
theorem Mp.clear {w : World} {m : Nat} {T : TS} (h : Mp w m T) (ty : TypeId) : ∃ w', (Builtin.clear_ #[122] ty #[.map (some m)]).run Try.prog w = .ok (.tuple #[]) w' ∧ Mp w' m [] ∧ Kp w w' m m := by
  obtain ⟨⟨es, clock, hb, F, hs, hD⟩, hr⟩ := h
  refine ⟨ChangeMaps.setBlock w m (.map #[] clock), ?_, ⟨⟨#[], clock, ChangeMaps.heap_setBlock_same hb _, ⟨by simp, MapKept.stamped_empty clock, by simp⟩, Nat.le_refl _, rfl⟩, List.Pairwise.nil⟩, ⟨rfl, rfl, rfl, by simp [ChangeMaps.setBlock], fun i _ hi _ => ChangeMaps.heap_setBlock_other hb _ hi⟩⟩
  simp [Builtin.clear_, run_underlying Try.underlying122, MapKept.run_getObj_map hb, MapKept.run_setObj_map _ hb, Result.andThen, ChangeMaps.setBlock]

section
variable {ops : Array Oper} {rest : List Oper} {o : Oper} {a : Act} {w : World} {Q : Exit → Act → World → Prop}
theorem wpList_look_mp (hg : o.guard = none) (x y : Operand) (ho : o.op = .lookup 122 x y true) (m : Nat) (T : TS) (h : Mp w m T) (hx : a.eval x = .map (some m)) (k : Int) (hy : a.eval y = .int .i64 k) (h0 : -9223372036854775808 ≤ k) (h1 : k < 9223372036854775808)
    (hK : wpList Try.prog ops Q rest (a.put o.dst (.tuple #[bv ((find T k).getD fun _ => 0), .bool (find T k).isSome])) w) : wpList Try.prog ops Q (o :: rest) a w := by
  refine wpList_plain hg fun K' hK' => ?_
  have hrun := h.look k h0 h1
  unfold Oper.wp
  simp [execOp, ho, hx, hy, hrun, Result.andThen]
  exact hK' _ _ hK
theorem wpList_len_mp (hg : o.guard = none) (x : Operand) (ho : o.op = .call { callee := .builtin .len, args := #[x], argTypes := #[122] }) (m : Nat) (T : TS) (h : Mp w m T) (hx : a.eval x = .map (some m))
    (hK : wpList Try.prog ops Q rest (a.put o.dst (.int .i64 T.length)) w) : wpList Try.prog ops Q (o :: rest) a w := by
  refine wpList_plain hg fun K' hK' => ?_
  have hrun := h.len o.type
  unfold Oper.wp
  simp [execOp, ho, resolve, invoke, builtin, hx, hrun, Result.andThen]
  exact hK' _ _ hK
theorem wpList_clear_mp (hg : o.guard = none) (x : Operand) (ho : o.op = .call { callee := .builtin .clear, args := #[x], argTypes := #[122] }) (m : Nat) (T : TS) (h : Mp w m T) (hx : a.eval x = .map (some m))
    (hK : ∀ w', Hid (Mp w' m []) → Hid (Kp w w' m m) → wpList Try.prog ops Q rest (a.put o.dst (.tuple #[])) w') : wpList Try.prog ops Q (o :: rest) a w := by
  refine wpList_plain hg fun K' hK' => ?_
  obtain ⟨w', hrun, h1, h2⟩ := h.clear o.type
  unfold Oper.wp
  simp [execOp, ho, resolve, invoke, builtin, hx, hrun, Result.andThen]
  exact hK' _ _ (hK w' h1 h2)
theorem step_put_mp {K : Act → World → Prop} {E : Prop} (hgd : o.guard = none) (x y z : Operand) (ho : o.op = .mapUpdate 122 x y z) (m : Nat) (T : TS) (h : Mp w m T) (hx : a.eval x = .map (some m)) (k : Nat) (hy : a.eval y = .int .i64 k) (f : Nat → Int) (hz : a.eval z = .agg (byts 64 f).toArray) (hk : k ≤ 65536) (hn : T.length < 5000)
    (hK : ∀ w', Mp w' m (put k f T) → Kp w w' m m → K (a.put o.dst undef) w') : if Region.wanted o (yielded ops a.tmps) = true then Oper.wp Try.prog o a w K Q else E := by
  have hw : Region.wanted o (yielded ops a.tmps) = true := by simp [Region.wanted, hgd]
  rw [if_pos hw]
  obtain ⟨w', hrun, h1, h2⟩ := h.put k f hk hn
  unfold Oper.wp
  have hz' : a.eval z = bv f := hz
  simp [execOp, ho, hx, hy, hz', hrun, Result.andThen]
  exact hK w' h1 h2
theorem yields_len_mp {S : World → Prop} (hw : Region.wanted o (yielded ops a.tmps) = true) (x : Operand) (ho : o.op = .call { callee := .builtin .len, args := #[x], argTypes := #[122] }) (m : Nat) (T : TS) (hS : ∀ W, S W → Mp W m T) (hx : a.eval x = .map (some m)) : YieldsIf Try.prog ops S o (.int .i64 T.length) a :=
  .inl ⟨hw, fun w h => by
    have hrun := (hS w h).len o.type
    unfold execOp
    simp [ho, resolve, invoke, builtin, hx, hrun, Result.andThen]⟩
theorem yields_look_mp {S : World → Prop} (hw : Region.wanted o (yielded ops a.tmps) = true) (x y : Operand) (ho : o.op = .lookup 122 x y false) (m : Nat) (T : TS) (hS : ∀ W, S W → Mp W m T) (hx : a.eval x = .map (some m)) (k : Int) (hy : a.eval y = .int .i64 k) (h0 : -9223372036854775808 ≤ k) (h1 : k < 9223372036854775808) : YieldsIf Try.prog ops S o (bv ((find T k).getD fun _ => 0)) a :=
  .inl ⟨hw, fun w h => by
    have hrun := (hS w h).look1 k h0 h1
    unfold execOp
    simp [ho, hx, hy, hrun, Result.andThen]⟩
end

set_option maxHeartbeats 2000000 in
set_option maxRecDepth 100000 in
theorem begin_any (l d fi : Nat) (hf : fi ≤ 65536) (w : World) (hl : Lg w l d fi) :
    Calls Try.prog 35 #[.pointer (some ⟨l, 0, none⟩)] w fun e w' => ∃ t m, e = .returned (.pointer (some ⟨t, 0, none⟩)) ∧ w.heap.size ≤ t ∧ w.heap.size ≤ m ∧ Tx w' t m d fi [] 0 ∧ Below w.heap.size w w' := by
  have c0 := hl.c0
  have c1 := hl.c1
  clear hl
  have hmk := @run_makeMap Try.prog
  go_enter Try.func35, Try.ntmps35
  go_wp2
  go_ret
  refine ⟨w.heap.size + 1, w.heap.size, by simp, by omega, Nat.le_refl _, ⟨⟨by simp, ?_, ?_⟩, ?_, ?_, by simp, (Mp.new w).keep ((Below.refl _ _).alloc (Nat.le_refl _) _), by omega⟩, ((Below.refl _ _).alloc (Nat.le_refl _) _).alloc (by simp) _⟩
  all_goals
    rw [World.cell?_alloc_at _ _ _ _ (by simp)]
    rfl
theorem begin_nil (w : World) : Calls Try.prog 35 #[.pointer none] w fun e w' => e = .returned (.pointer none) ∧ w' = w := by
  go_enter Try.func35, Try.ntmps35
  go_wp2
  go_ret
  exact ⟨rfl, rfl⟩
/-- what mayPut answers -/
def mayB (N fi : Nat) (T : TS) (x : Int) : Int := if outB N fi x = false then 27 else if (find T x).isSome = false ∧ 30 ≤ T.length then 23 else 0
set_option maxHeartbeats 4000000 in
set_option maxRecDepth 100000 in
theorem mayput_any (t m d g fi N K : Nat) (T : TS) (fa : Int) (s : DS) (x : Int) (hx0 : -9223372036854775808 ≤ x) (hx1 : x < 9223372036854775808) (hT : T.length ≤ 5000) (hf : fi ≤ 65536) (hN : N ≤ 65536) (hs : Sane s N K) (w : World) (h : Tx w t m d fi T fa) (hd : Dk w d g s) :
    Calls Try.prog 49 #[.pointer (some ⟨t, 0, none⟩), .int .i64 x] w fun e w' => e = .returned (.int .i64 (mayB N fi T x)) ∧ Below w.heap.size w w' := by
  have HO : Hid (Calls Try.prog 57 #[.pointer (some ⟨t, 0, none⟩), .int .i64 x] w fun e w' => e = .returned (.bool (outB N fi x)) ∧ w' = w) := by
    have := outside_any t d g fi s x hx0 hx1 hf (by rw [hs.n]; exact hN) w h.lg hd
    rwa [hs.n] at this
  have HT := Lib.hid h
  have c2 := h.c2
  clear hs hd h
  have HX0 := Lib.hid hx0
  have HX1 := Lib.hid hx1
  clear hx0 hx1
  obtain ⟨q, hq⟩ : ∃ q, outB N fi x = q := ⟨_, rfl⟩
  have HQ := Lib.hid hq
  rw [hq] at HO
  have HM : Hid (mayB N fi T x = if q = false then 27 else if (find T x).isSome = false ∧ 30 ≤ T.length then 23 else 0) := by
    show mayB N fi T x = _
    unfold mayB
    rw [hq]
  clear hq
  cases q with
  | false =>
    have hm : mayB N fi T x = 27 := by rw [HM.out]; rfl
    rw [hm]
    clear hm HM
    go_enter Try.func49, Try.ntmps49
    go_wp2_with fail
    refine HO.out.mono ?_
    rintro e w1 ⟨rfl, rfl⟩
    go_wp2_with fail
    go_ret
    exact ⟨rfl, Below.refl _ _⟩
  | true =>
    obtain ⟨u, hu⟩ : ∃ u, (find T x).isSome = u := ⟨_, rfl⟩
    obtain ⟨f, hf⟩ : ∃ f, ((find T x).getD fun _ => 0) = f := ⟨_, rfl⟩
    have HU := Lib.hid hu
    have HF := Lib.hid hf
    rw [hu] at HM
    have HL : ∀ (ops : Array Oper) (rest : List Oper) (o : Oper) (a : Act) (W : World) (Q : Exit → Act → World → Prop), o.guard = none → o.op = .lookup 122 (.tmp 17) (.tmp 18) true → Tx W t m d fi T fa → a.eval (.tmp 17) = .map (some m) → a.eval (.tmp 18) = .int .i64 x →
        wpList Try.prog ops Q rest (a.put o.dst (.tuple #[.agg (byts 64 f).toArray, .bool u])) W → wpList Try.prog ops Q (o :: rest) a W := fun ops rest o a W Q h1 h2 h3 h4 h5 h6 => by
      refine wpList_look_mp h1 _ _ h2 m T h3.mp h4 x h5 HX0.out HX1.out ?_
      rw [hu, hf]
      exact h6
    have HLK := Lib.hid HL
    clear hu hf HL
    have h30 : (T.length : Int) ≤ 5000 := by omega
    cases u with
    | true =>
      have hm : mayB N fi T x = 0 := by rw [HM.out]; rfl
      rw [hm]
      clear hm HM
      go_enter Try.func49, Try.ntmps49
      go_wp2_with fail
      refine HO.out.mono ?_
      rintro e w1 ⟨rfl, rfl⟩
      go_wp2_with (first | (at_lookup; refine HLK.out _ _ _ _ _ _ rfl rfl HT.out rfl rfl ?_) | (refine wpList_alloc_byts rfl 96 64 rfl Try.zero36 ?_; intro w2 F2 hb2 hz2; have HB2 := Lib.hid hb2; clear hb2) | (refine wpList_store_blk rfl (.tmp 5) (.tmp 20) rfl w1.heap.size 0 64 (fun _ => 0) f F2.out (by omega) rfl rfl ?_; intro w3 F3 HK3; have HB3 := Lib.hid (HB2.out.trans (HK3.out.below (B := w1.heap.size) (by omega) (by omega) HB2.out.size))))
      go_ret
      exact ⟨rfl, HB3.out⟩
    | false =>
      by_cases hl : 30 ≤ T.length
      · have hl' : (30 : Int) ≤ T.length := by omega
        have hm : mayB N fi T x = 23 := by rw [HM.out, if_neg (by decide), if_pos ⟨rfl, hl⟩]
        rw [hm]
        clear hm HM
        go_enter Try.func49, Try.ntmps49
        go_wp2_with fail
        refine HO.out.mono ?_
        rintro e w1 ⟨rfl, rfl⟩
        go_wp2_with (first | (at_lookup; refine HLK.out _ _ _ _ _ _ rfl rfl HT.out rfl rfl ?_) | (refine wpList_alloc_byts rfl 96 64 rfl Try.zero36 ?_; intro w2 F2 hb2 hz2; have HB2 := Lib.hid hb2; have HT2 := Lib.hid (HT.out.keep hb2); clear hb2) | (refine wpList_store_blk rfl (.tmp 5) (.tmp 20) rfl w1.heap.size 0 64 (fun _ => 0) f F2.out (by omega) rfl rfl ?_; intro w3 F3 HK3; have HB3 := Lib.hid (HB2.out.trans (HK3.out.below (B := w1.heap.size) (by omega) (by omega) HB2.out.size)); have HT3 := Lib.hid (HT.out.keep HB3.out); have e2 := HT3.out.c2) | (refine wpList_yields _ (yields_len_mp rfl (.tmp 28) rfl m T (fun W hW => (by rw [hW]; exact HT3.out.mp)) rfl) ?_))
        go_ret
        exact ⟨rfl, HB3.out⟩
      · have hl' : ¬ ((30 : Int) ≤ T.length) := by omega
        have hm : mayB N fi T x = 0 := by rw [HM.out, if_neg (by decide), if_neg (fun h => hl h.2)]
        rw [hm]
        clear hm HM
        go_enter Try.func49, Try.ntmps49
        go_wp2_with fail
        refine HO.out.mono ?_
        rintro e w1 ⟨rfl, rfl⟩
        go_wp2_with (first | (at_lookup; refine HLK.out _ _ _ _ _ _ rfl rfl HT.out rfl rfl ?_) | (refine wpList_alloc_byts rfl 96 64 rfl Try.zero36 ?_; intro w2 F2 hb2 hz2; have HB2 := Lib.hid hb2; have HT2 := Lib.hid (HT.out.keep hb2); clear hb2) | (refine wpList_store_blk rfl (.tmp 5) (.tmp 20) rfl w1.heap.size 0 64 (fun _ => 0) f F2.out (by omega) rfl rfl ?_; intro w3 F3 HK3; have HB3 := Lib.hid (HB2.out.trans (HK3.out.below (B := w1.heap.size) (by omega) (by omega) HB2.out.size)); have HT3 := Lib.hid (HT.out.keep HB3.out); have e2 := HT3.out.c2) | (refine wpList_yields _ (yields_len_mp rfl (.tmp 28) rfl m T (fun W hW => (by rw [hW]; exact HT3.out.mp)) rfl) ?_))
        go_ret
        exact ⟨rfl, HB3.out⟩
end Go.Proofs.Ytdebkifnaiohcaa
