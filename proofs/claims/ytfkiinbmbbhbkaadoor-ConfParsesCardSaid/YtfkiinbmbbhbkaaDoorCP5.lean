import Derived.Test.YtfkiinbmbbhbkaaDoorCPA
import Derived.Test.YtfkiinbmbbhbkaaDoorSP1
/- The answer's Read: the walk. -/
namespace Go.Proofs.YtfkiinbmbbhbkaaDoor
set_option linter.unusedSimpArgs false
set_option linter.unusedVariables false
open Go.RowKit Go.Maps

theorem Tryd.info51 : (Tryd.prog.info? 51).map (fun i => (i.zero, i.size, i.bytes)) = some (some (.slice none 0 0), 1, 24) := by kernel_rfl
theorem wp_slice1 {P : Program} {o : Oper} {a : Act} {w w' : World} {K : Act → World → Prop} {Q : Exit → Act → World → Prop} (ty : TypeId) (x : Operand) (ho : o.op = .buildSlice ty 1 #[(0, x)]) (u v : Value) (hx : a.eval x = u)
    (hr : (Instr.buildSlice ty 1 #[(0, u)]).run P w = .ok v w') (h : K (a.put o.dst v) w') : o.wp P a w K Q := by
  unfold Oper.wp
  simp [execOp, ho, hx, hr, Result.andThen]
  exact h
theorem wp_build7 {P : Program} {o : Oper} {a : Act} {w : World} {K : Act → World → Prop} {Q : Exit → Act → World → Prop} (ty : TypeId) (x0 x1 x2 x3 x4 x5 x6 : Operand) (ho : o.op = .build ty #[(0, x0), (1, x1), (2, x2), (3, x3), (4, x4), (5, x5), (6, x6)]) (v0 v1 v2 v3 v4 v5 v6 v : Value) (h0 : a.eval x0 = v0) (h1 : a.eval x1 = v1) (h2 : a.eval x2 = v2) (h3 : a.eval x3 = v3) (h4 : a.eval x4 = v4) (h5 : a.eval x5 = v5) (h6 : a.eval x6 = v6)
    (hr : (Instr.build ty #[(0, v0), (1, v1), (2, v2), (3, v3), (4, v4), (5, v5), (6, v6)]).run P w = .ok v w) (hK : K (a.put o.dst v) w) : o.wp P a w K Q := by
  unfold Oper.wp
  simp [execOp, ho, h0, h1, h2, h3, h4, h5, h6, hr, Result.andThen]
  exact hK
theorem Tryd.build39 (s : ByteArray) (lv cs n0 n1 n2 n3 n4 : Int) (w : World) : (Instr.build 39 #[(0, .string s), (1, .agg #[.int .u8 lv, .int .u16 cs]), (2, .int .i64 n0), (3, .int .i64 n1), (4, .int .i64 n2), (5, .int .i64 n3), (6, .int .i64 n4)]).run Tryd.prog w = .ok (.agg #[.string s, .int .u8 lv, .int .u16 cs, .int .i64 n0, .int .i64 n1, .int .i64 n2, .int .i64 n3, .int .i64 n4, .int .i64 0]) w := by kernel_rfl
theorem wp_assign1 {P : Program} {o : Oper} {a : Act} {w : World} {K : Act → World → Prop} {Q : Exit → Act → World → Prop} (x : Operand) (ho : o.op = .assign x) (u : Value) (hx : a.eval x = u) (h : K (a.put o.dst u) w) : o.wp P a w K Q := by
  unfold Oper.wp
  simp [execOp, ho, hx, Result.andThen]
  exact h
theorem Tryd.slice22 (s : ByteArray) (lv cs n0 n1 n2 n3 n4 : Int) (w : World) : (Instr.buildSlice 22 1 #[(0, .agg #[.string s, .int .u8 lv, .int .u16 cs, .int .i64 n0, .int .i64 n1, .int .i64 n2, .int .i64 n3, .int .i64 n4, .int .i64 0])]).run Tryd.prog w = .ok (.slice (some ⟨w.heap.size, 0, none⟩) 1 1) (w.alloc (.cells #[.string s, .int .u8 lv, .int .u16 cs, .int .i64 n0, .int .i64 n1, .int .i64 n2, .int .i64 n3, .int .i64 n4, .int .i64 0] 39)) := by kernel_rfl
/-- what Read leaves -/
def RdPost (s : ByteArray) (w : World) (e : Ending) (w' : World) : Prop :=
  Below w.heap.size w w' ∧ ∃ vr vm, e = .returned (.tuple #[vr, vm, .int .i64 (parseE s).2, .int .i64 (parseE s).1]) ∧ ((parseE s).2 = 0 → Regs w' vr (outRs s) ∧ Mks w' vm (outMs s))
theorem RdPost.bad {s : ByteArray} {w w' : World} {e : Ending} (L E : Int) (hE : parseE s = (L, E)) (h0 : E ≠ 0) (he : e = .returned (.tuple #[.slice none 0 0, .slice none 0 0, .int .i64 E, .int .i64 L])) (hb : Below w.heap.size w w') : RdPost s w e w' :=
  ⟨hb, _, _, by rw [hE]; exact he, fun h => absurd (by rw [hE] at h; exact h) h0⟩
theorem parse_line (s : ByteArray) (k : Nat) (hk : k ≤ (linesOf s).length) (h : (linesE (linesOf s) k).2 ≠ 0) : parseE s = linesE (linesOf s) k := by
  have e := linesE_bad _ k h _ hk
  unfold parseE
  simp only [e]
  rw [if_pos h]
theorem parse_rest (s : ByteArray) (h : (linesE (linesOf s) (linesOf s).length).2 = 0) : parseE s = if clB (stAt (linesOf s) (linesOf s).length).rs (stAt (linesOf s) (linesOf s).length).cls = false then (0, 3)
    else if (mksE (stAt (linesOf s) (linesOf s).length).rs (stAt (linesOf s) (linesOf s).length).trs (stAt (linesOf s) (linesOf s).length).trs.length).2 ≠ 0 then mksE (stAt (linesOf s) (linesOf s).length).rs (stAt (linesOf s) (linesOf s).length).trs (stAt (linesOf s) (linesOf s).length).trs.length
    else (0, newE (outRs s) (outMs s)) := by
  unfold parseE
  simp only
  rw [if_neg (by rw [h]; simp)]
theorem cnt_some (s : ByteArray) (h : (numC s).isSome = true) : cntO s = ((numC s).getD 0 : Nat) ∧ ¬ cntO s < 0 := by
  unfold cntO
  cases hn : numC s with
  | none => rw [hn] at h; cases h
  | some v => exact ⟨rfl, by simp only; omega⟩
theorem cnt_none (s : ByteArray) (h : (numC s).isSome = false) : cntO s = -1 := by
  unfold cntO
  cases hn : numC s with
  | none => rfl
  | some v => rw [hn] at h; cases h
theorem lineF_0 (st : TS) (L : Int) (ws : List ByteArray) (h : ws.length = 0) : lineF st L ws = st := by unfold lineF; rw [if_pos h]
theorem lineF_t (st : TS) (L : Int) (ws : List ByteArray) (h : ws.length ≠ 0) (h0 : wAt ws 0 = trustW) : lineF st L ws = ⟨st.rs, st.cls, st.trs ++ [(L, wAt ws 1, wAt ws 2)]⟩ := by
  unfold lineF; rw [if_neg h, if_neg (by rw [h0]; decide)]
theorem lineF_l (st : TS) (L : Int) (ws : List ByteArray) (h : ws.length ≠ 0) (h0 : wAt ws 0 = labelW) : lineF st L ws = ⟨st.rs ++ [labRg ws], st.cls ++ [wAt ws 14], st.trs⟩ := by
  unfold lineF; rw [if_neg h, if_pos h0]

set_option maxHeartbeats 80000000 in
set_option maxRecDepth 200000 in
theorem rread_any (hRt : ∀ (v vm : Value) (rs : List Rg) (ms : List (Int × Int)) (w : World), Regs w v rs → (∀ r ∈ rs, r.ok) → Mks w vm ms → (∀ m ∈ ms, markOk m) → ms.length ≤ 5000 → Calls Tryd.prog 10 #[v, vm] w fun e w' => e = .returned (.int .i64 (newE rs ms)) ∧ Below w.heap.size w w')
    (s : ByteArray) (w : World) (hs : s.size ≤ 4000) (ha : ascB s = true) : Calls Tryd.prog 14 #[.string s] w (RdPost s w) := by
  have HRT := Lib.hid hRt
  clear hRt
  obtain ⟨i39, hi39, hx39, hy39, hz39⟩ := info_parts Tryd.info39
  obtain ⟨i9, hi9, hx9, hy9, hz9⟩ := info_parts Tryd.info9
  obtain ⟨i3, hi3, hx3, hy3, hz3⟩ := info_parts Tryd.info3
  obtain ⟨i51, hi51, hx51, hy51, hz51⟩ := info_parts Tryd.info51
  obtain ⟨i34, hi34, hx34, hy34, hz34⟩ := info_parts Tryd.info34
  have hlb : ∀ x ∈ linesOf s, x.size ≤ 4000 := fun x hx => Nat.le_trans (lines_size s x hx) hs
  have HLB := Lib.hid hlb
  have HLA := Lib.hid (lines_asc s ha)
  have HST := Lib.hid (stAt_ok (linesOf s) hlb)
  have hll := lines_len s
  have hl1 : 1 ≤ (linesOf s).length := by omega
  have hl2 : (linesOf s).length ≤ 4001 := by have := cnt_le s; omega
  have HPL := Lib.hid (parse_line s)
  have HPR := Lib.hid (parse_rest s)
  have HOutR : Hid (outRs s = clF (stAt (linesOf s) (linesOf s).length).rs (stAt (linesOf s) (linesOf s).length).cls) := rfl
  have HOutM : Hid (outMs s = (stAt (linesOf s) (linesOf s).length).trs.map (mkOf (stAt (linesOf s) (linesOf s).length).rs)) := rfl
  have hlong : ¬ (65536 < (s.size : Int)) := by omega
  clear hlb hll ha
  go_enter Tryd.func14, Tryd.ntmps14
  go_wp2_with fail
  refine (rlines_any s _ hs).mono ?_
  rintro e w1 ⟨vl, rfl, hol, hb1⟩
  obtain ⟨AL, capL, rfl, -, hAL, hLc⟩ := own_strs hol (by omega)
  have HLc := Lib.hid hLc
  have HK : Hid (∀ q, q < 5 → w1.cell? ⟨w.heap.size, q, none⟩ = some (.string (kw q))) := by
    intro q hq
    refine (hb1.cell (p := ⟨w.heap.size, q, none⟩) (by simp)).trans ?_
    match q, hq with
    | 0, _ | 1, _ | 2, _ | 3, _ | 4, _ => simp [World.cell?_alloc_new, kw]
  have hbw : Below w.heap.size w w1 := ((Below.refl _ _).alloc (Nat.le_refl _) _).trans (hb1.mono (by simp))
  have HBW := Lib.hid hbw
  have hK0 : w.heap.size < w1.heap.size := by have := hb1.size; simp at this; omega
  have hww := hbw.size
  obtain ⟨KB, hKB⟩ : ∃ x, w.heap.size = x := ⟨_, rfl⟩
  rw [hKB] at HK hK0
  try rw [hKB]
  have HKB := Lib.hid hKB
  obtain ⟨ls, hls⟩ : ∃ x, linesOf s = x := ⟨_, rfl⟩
  rw [hls] at HLB HLA HST hl1 hl2 HPL HPR HOutR HOutM hLc HLc
  try rw [hls]
  obtain ⟨n, hn⟩ : ∃ x, ls.length = x := ⟨_, rfl⟩
  have HN := Lib.hid hn
  rw [hn] at hl1 hl2 HPL HPR HOutR HOutM
  try rw [hn]
  obtain ⟨B, hB⟩ : ∃ x, w1.heap.size = x := ⟨_, rfl⟩
  have HB0 := Lib.hid hB
  rw [hB] at hAL hK0 hww
  clear hol hb1 hLc hbw hls hn hB hKB hlong
  go_upto_block 0 with fail
  go_cut [7, 8, 9, 10] (fun vr vc vt va wc => ∃ F, (linesE ls n).2 = 0 ∧ RX wc B vr vc vt va (stAt ls n).rs (stAt ls n).cls ((stAt ls n).trs.map (fun x => x.2)) ((stAt ls n).trs.map (fun x => x.1)) F ∧ Below B w1 wc)
  case first =>
    as_aux_lemma =>
    go_wp2_with fail
    go_loopw [7, 8, 9, 10, 12] (fun vr vc vt va i wr => ∃ k : Nat, ∃ F : List (Nat × Nat), k ≤ n ∧ i = .int .i64 k ∧ (linesE ls k).2 = 0 ∧ RX wr B vr vc vt va (stAt ls k).rs (stAt ls k).cls ((stAt ls k).trs.map (fun x => x.2)) ((stAt ls k).trs.map (fun x => x.1)) F ∧ Below B w1 wr) (fun _ _ _ _ i _ => n - (intOf i).toNat)
    case atStart => exact ⟨0, [], by omega, rfl, rfl, RX.nil _ _, Below.refl _ _⟩
    case round =>
      obtain ⟨k, F, hk, rfl, hE, hX, hb⟩ := hrel
      have HE := Lib.hid hE
      have HX := Lib.hid hX
      have HB := Lib.hid hb
      have hBr : B ≤ wr.heap.size := by have := hb.size; rw [HB0.out] at this; exact this
      have hok := HST.out k
      have hm1 := hok.l1
      have hm2 := hok.l2
      have hm3 := hok.eq
      have hft := hX.ft
      rw [List.length_map] at hft
      obtain ⟨ra, rcap, rfl⟩ := ownsRow_form hX.rr
      obtain ⟨ca, ccap, hvc⟩ := ownsRow_form hX.rc
      obtain ⟨ta, tcap, hvt⟩ := ownsRow_form hX.rt
      obtain ⟨aa, acap, hva⟩ := ownsRow_form hX.ra
      rw [hm3] at hvc
      rw [hft] at hvt
      rw [List.length_map] at hva
      have hm4 : (stAt ls k).cls.length ≤ 4001 := by omega
      have hm5 : F.length ≤ 4001 := by omega
      subst hvc hvt hva
      clear hE hX hb hok hm3 hft
      by_cases hlt : k < n
      · have hltn : k < ls.length := by rw [HN.out]; exact hlt
        have e0 := (HB.out.cell (p := ⟨AL, k, none⟩) (show AL < B by omega)).trans (HLc.out k hltn)
        have hS : (wAt ls k).size ≤ 4000 := wAt_size _ 4000 k HLB.out
        have hSa : ascB (wAt ls k) = true := by rw [← wAt_is ls k hltn]; exact HLA.out _ (List.getElem_mem _)
        have HLE : Hid (linesE ls (k + 1) = if lineE (wordsOf (wAt ls k)) = 0 then (0, 0) else ((k : Int) + 1, lineE (wordsOf (wAt ls k)))) := by
          show linesE _ _ = _
          rw [linesE, if_pos HE.out]
        have HSt : Hid (stAt ls (k + 1) = lineF (stAt ls k) ((k : Int) + 1) (wordsOf (wAt ls k))) := rfl
        have hWz := words_size (wAt ls k)
        have hWl := words_len (wAt ls k)
        have hlti : (k : Int) < (n : Int) := by omega
        have hW := fun W => rwords_any (wAt ls k) W hS hSa
        obtain ⟨S, hSS⟩ : ∃ x, wAt ls k = x := ⟨_, rfl⟩
        rw [hSS] at e0 HLE HSt hW hWz hS hWl
        obtain ⟨ws, hws⟩ : ∃ x, wordsOf S = x := ⟨_, rfl⟩
        rw [hws] at HLE HSt hW hWz hWl
        have hwl : ws.length ≤ 4001 := by omega
        have HWz : Hid (∀ x ∈ ws, x.size ≤ 4000) := fun x hx => Nat.le_trans (hWz x hx) hS
        clear hSS hws hSa hWz hS hWl
        obtain ⟨st, hst⟩ : ∃ x, stAt ls k = x := ⟨_, rfl⟩
        rw [hst] at HX HSt hm1 hm2 hm4
        try rw [hst]
        clear hst
        have HBad : Hid (∀ E : Int, lineE ws = E → E ≠ 0 → parseE s = ((k : Int) + 1, E)) := by
          intro E h1 h2
          have h3 : linesE ls (k + 1) = ((k : Int) + 1, E) := by rw [HLE.out, h1, if_neg h2]
          rw [HPL.out (k + 1) (by omega) (by rw [h3]; exact h2), h3]
        have HGood : Hid (lineE ws = 0 → (linesE ls (k + 1)).2 = 0) := by
          intro h
          rw [HLE.out, if_pos h]
        obtain ⟨wX, rfl⟩ : ∃ x, x = wr := ⟨wr, rfl⟩
        go_wp2_with fail
        refine (hW wX).mono ?_
        rintro e w2 ⟨vw, rfl, how, hb2⟩
        have HX2 := Lib.hid (HX.out.below hb2)
        have HB2 := Lib.hid (HB.out.trans (hb2.mono hBr))
        have hB2 : B ≤ w2.heap.size := Nat.le_trans hBr hb2.size
        have hlow : ∀ v : Value, ∀ b e sz m xs, wX.ownsRow b e sz v m xs → ∀ g, wX.heap.size ≤ g → v.ownBlock ≠ some g := fun v b e sz m xs h g hg e' => by have := ownsRow_lt h g e'; omega
        have HOr : Hid (∀ g, wX.heap.size ≤ g → Value.ownBlock (.slice ra st.rs.length rcap) ≠ some g) := hlow _ _ _ _ _ _ HX.out.rr
        have HOc : Hid (∀ g, wX.heap.size ≤ g → Value.ownBlock (.slice ca st.rs.length ccap) ≠ some g) := hlow _ _ _ _ _ _ HX.out.rc
        have hwX2 : wX.heap.size ≤ w2.heap.size := hb2.size
        clear HX HB hb2 hW hlow e0
        by_cases hn0 : ws.length = 0
        · obtain ⟨wa, wcap, rfl⟩ := ownsRow_form how
          have HS0 : Hid (stAt ls (k + 1) = st) := by show stAt ls (k + 1) = st; rw [HSt.out, lineF_0 _ _ _ hn0]
          have HG0 : Hid ((linesE ls (k + 1)).2 = 0) := HGood.out (by unfold lineE; rw [if_pos hn0])
          rw [hn0]
          clear how hn0
          go_wp2_with fail
          go_roundw
          case rel => exact ⟨k + 1, F, by omega, by go_num, HG0.out, by rw [HS0.out]; simpa using HX2.out, HB2.out⟩
          case measure => simp [intOf]; omega
        · obtain ⟨A, wcap, rfl, hA, hA2, hWc⟩ := own_strs how (by omega)
          have HWc := Lib.hid hWc
          have hn1 : ¬ ((ws.length : Int) = 0) := by omega
          have q0 := hWc 0 (by omega)
          have HOA : Hid (Value.ownBlock (.slice ca st.rs.length ccap) ≠ some A) := HOc.out A hA
          have hst0 := str_is (wAt ws 0) [116, 114, 117, 115, 116]
          have hsl0 := str_is (wAt ws 0) [108, 97, 98, 101, 108]
          have HZ0 : Hid ((wAt ws 0).size ≤ 4000) := wAt_size _ 4000 0 HWz.out
          clear hWc
          by_cases htr : wAt ws 0 = trustW ∧ ws.length = 3
          · obtain ⟨ht0, ht3⟩ := htr
            have qt : ((wAt ws 0).toList == [116, 114, 117, 115, 116]) = true := by rw [hst0]; simpa [trustW] using ht0
            have HG0 : Hid ((linesE ls (k + 1)).2 = 0) := HGood.out (by unfold lineE; rw [if_neg hn0, if_neg (by rw [ht0]; decide), if_pos ⟨ht0, ht3⟩])
            have HS0 : Hid (stAt ls (k + 1) = ⟨st.rs, st.cls, st.trs ++ [((k : Int) + 1, wAt ws 1, wAt ws 2)]⟩) := by show stAt ls (k + 1) = _; rw [HSt.out, lineF_t _ _ _ hn0 ht0]
            have HW3 := Lib.hid (own_strs3 how ht3)
            have ht3i : (ws.length : Int) = 3 := by omega
            obtain ⟨S0, hS0⟩ : ∃ x, wAt ws 0 = x := ⟨_, rfl⟩
            rw [hS0] at qt q0 HW3
            clear how hst0 hsl0 ht0 hS0 hn0
            rw [ht3] at hn1 ht3i ⊢
            go_wp2_with (first | (at_builtin; refine wpList_append_at rfl _ _ 110 rfl B 51 i51 _ 1 24 Tryd.underlying110 hi51 hx51 hy51 hz51 rfl (by decide) _ _ _ rfl (HX2.out.rt.alloc _) ⟨w2.heap.size, 0, none⟩ 1 1 [wordV (A, wcap)] rfl rfl (cells_new w2 _ 51) (by simp [Value.oneCell', wordV]) (by unfold maxLen; omega) (by omega) (by simp; omega) ?_))
            intro vt' w3 hown hgrow hloc
            have HS3 := Lib.hid (((Sy.refl w2 (.slice ta st.trs.length tcap)).alloc (.cells #[wordV (A, wcap)] 51)).grown hgrow)
            have HX3 := Lib.hid (HX2.out.setT (v' := vt') (A, wcap) S0 (wAt ws 1) (wAt ws 2) HS3.out (by simpa using hown) HW3.out HOA.out)
            have HB3 := Lib.hid (HB2.out.trans (HS3.out.bel B hB2 (ownsRow_block HX2.out.rt)))
            have hB3 : B ≤ w3.heap.size := Nat.le_trans hB2 HS3.out.sz
            obtain ⟨ta', tcap', rfl⟩ := ownsRow_form hown
            clear hown hgrow hloc HX2 HB2 HS3
            go_wp2_with (first | (at_builtin; refine wpList_append_at rfl _ _ 111 rfl B 3 i3 _ 1 8 Tryd.underlying111 hi3 hx3 hy3 hz3 rfl (by decide) _ _ _ rfl (HX3.out.ra.alloc _) ⟨w3.heap.size, 0, none⟩ 1 1 [.int .i64 ((k : Int) + 1)] rfl rfl (cells_new w3 _ 3) (by simp [Value.oneCell']) (by simp; unfold maxLen; omega) (by simp; omega) (by simp; omega) ?_))
            intro va' w4 hown hgrow hloc
            have HS4 := Lib.hid (((Sy.refl w3 (.slice aa st.trs.length acap)).alloc (.cells #[.int .i64 ((k : Int) + 1)] 3)).grown hgrow)
            have HX4 := Lib.hid (HX3.out.setA (v' := va') (ats' := st.trs.map (fun x => x.1) ++ [(k : Int) + 1]) HS4.out (by simpa using hown))
            have HB4 := Lib.hid (HB3.out.trans (HS4.out.bel B hB3 (ownsRow_block HX3.out.ra)))
            clear hown hgrow hloc HX3 HB3 HS4
            go_wp2_with fail
            go_roundw
            case rel => exact ⟨k + 1, F ++ [(A, wcap)], by omega, by go_num, HG0.out, by rw [HS0.out]; simpa using HX4.out, HB4.out⟩
            case measure => simp [intOf]; omega
          · have HL0 : Hid (lineE ws = if wAt ws 0 = labelW then labE ws else 28) := by
              show lineE ws = _
              unfold lineE
              rw [if_neg hn0]
              by_cases hl : wAt ws 0 = labelW
              · rw [if_pos hl, if_pos hl]
              · rw [if_neg hl, if_neg hl, if_neg htr]
            have qtr : (((wAt ws 0).toList == [116, 114, 117, 115, 116]) = false) ∨ (((wAt ws 0).toList == [116, 114, 117, 115, 116]) = true ∧ ¬ ((ws.length : Int) = 3)) := by
              by_cases h : wAt ws 0 = trustW
              · refine .inr ⟨by rw [hst0]; simpa [trustW] using h, fun h3 => htr ⟨h, by omega⟩⟩
              · refine .inl (by rw [hst0]; simpa [trustW] using h)
            clear hst0
            by_cases hlab : wAt ws 0 = labelW
            · have ql : ((wAt ws 0).toList == [108, 97, 98, 101, 108]) = true := by rw [hsl0]; simpa [labelW] using hlab
              have qt : ((wAt ws 0).toList == [116, 114, 117, 115, 116]) = false := by rw [str_is, hlab]; decide
              have HL1 : Hid (lineE ws = labE ws) := by show lineE ws = labE ws; rw [HL0.out, if_pos hlab]
              have HS0 : Hid (stAt ls (k + 1) = ⟨st.rs ++ [labRg ws], st.cls ++ [wAt ws 14], st.trs⟩) := by show stAt ls (k + 1) = _; rw [HSt.out, lineF_l _ _ _ hn0 hlab]
              have HBB := Lib.hid (HBW.out.trans (HB2.out.mono hww))
              have hw2w : w.heap.size ≤ w2.heap.size := HBB.out.size
              obtain ⟨S0, hS0⟩ : ∃ x, wAt ws 0 = x := ⟨_, rfl⟩
              rw [hS0] at qt q0 ql
              clear how hsl0 hlab hS0 hn0 htr qtr HL0 HSt HLE
              by_cases h15 : ws.length = 15
              · have h15i : (ws.length : Int) = 15 := by omega
                have q13 := HWc.out 13 (by omega)
                have hcm := str_is (wAt ws 13) [99, 108, 101, 97, 114]
                by_cases h13 : wAt ws 13 = clearW
                · have qc : ((wAt ws 13).toList == [99, 108, 101, 97, 114]) = true := by rw [hcm]; simpa [clearW] using h13
                  have HLE2 : Hid (labE ws = if readEr (wAt ws 2).data.toList ≠ 0 then readEr (wAt ws 2).data.toList else if numsB ws 5 = false then 28 else 0) := by
                    show labE ws = _
                    unfold labE
                    rw [if_neg (fun h => by rcases h with h | h; exact h h15; exact h h13)]
                  have q2 := HWc.out 2 (by omega)
                  have hp := refparse_any (wAt ws 2).data.toList w2 (by
                    have h1 : (wAt ws 2).data.toList.length = (wAt ws 2).size := Array.length_toList
                    have h2 := wAt_size _ 4000 2 HWz.out
                    omega)
                  rw [Array.toArray_toList] at hp
                  change Calls _ _ #[.string (wAt ws 2)] _ _ at hp
                  obtain ⟨lv, hlv⟩ : ∃ x, readLv (wAt ws 2).data.toList = x := ⟨_, rfl⟩
                  obtain ⟨cs, hcs⟩ : ∃ x, readCs (wAt ws 2).data.toList = x := ⟨_, rfl⟩
                  obtain ⟨er, her⟩ : ∃ x, readEr (wAt ws 2).data.toList = x := ⟨_, rfl⟩
                  have HLR : Hid (labRg ws = ⟨wAt ws 1, lv, cs, labN ws 0, labN ws 1, labN ws 2, labN ws 3, labN ws 4, 0⟩) := by show labRg ws = _; unfold labRg; rw [hlv, hcs]
                  rw [hlv, hcs, her] at hp
                  rw [her] at HLE2
                  obtain ⟨S13, hS13⟩ : ∃ x, wAt ws 13 = x := ⟨_, rfl⟩
                  obtain ⟨S2, hS2⟩ : ∃ x, wAt ws 2 = x := ⟨_, rfl⟩
                  rw [hS13] at q13 qc
                  rw [hS2] at q2 hp
                  clear hcm h13 hlv hcs her hS13 hS2
                  go_wp2_with fail
                  refine hp.mono ?_
                  rintro e w3 ⟨rfl, hb3⟩
                  have HX3 := Lib.hid (HX2.out.below hb3)
                  have HB3 := Lib.hid (HB2.out.trans (hb3.mono hB2))
                  have HBB3 := Lib.hid (HBB.out.trans (hb3.mono hw2w))
                  have HWc3 : Hid (∀ i, i < ws.length → w3.cell? ⟨A, i, none⟩ = some (.string (wAt ws i))) := fun i hi => (hb3.cell (p := ⟨A, i, none⟩) hA2).trans (HWc.out i hi)
                  have hA3 : A < w3.heap.size := Nat.lt_of_lt_of_le hA2 hb3.size
                  have hwX3 : wX.heap.size ≤ w3.heap.size := Nat.le_trans hwX2 hb3.size
                  have hw3w : w.heap.size ≤ w3.heap.size := HBB3.out.size
                  have hB3 : B ≤ w3.heap.size := Nat.le_trans hB2 hb3.size
                  clear hp hb3 HX2 HB2 HBB HWc q0 q13 q2 qt ql qc hwX2 hw2w
                  by_cases he0 : er = 0
                  · have HLE3 : Hid (lineE ws = if numsB ws 5 = false then 28 else 0) := by show lineE ws = _; rw [HL1.out, HLE2.out, if_neg (by rw [he0]; simp)]
                    subst he0
                    clear HLE2
                    have hP0 := Pair.new w3 (.int .u8 lv) (.int .u16 cs) 37
                    go_upto_block 2 with fail
                    clear hP0
                    go_cut [] (fun wc => Below w3.heap.size w3 wc ∧ Pair wc w3.heap.size (.int .u8 lv) (.int .u16 cs) ∧ N5 wc (w3.heap.size + 1) ws 5 ∧ numsB ws 5 = true)
                    case first =>
                      go_wp2_with fail
                      go_loopw [17] (fun i wr => ∃ q : Nat, q ≤ 5 ∧ i = .int .i64 q ∧ Below w3.heap.size w3 wr ∧ Pair wr w3.heap.size (.int .u8 lv) (.int .u16 cs) ∧ N5 wr (w3.heap.size + 1) ws q ∧ numsB ws q = true) (fun i _ => 5 - (intOf i).toNat)
                      case atStart =>
                        refine ⟨0, by omega, rfl, ((Below.refl _ w3).alloc (Nat.le_refl _) _).alloc (by simp) _, (Pair.new w3 _ _ _).alloc _, ?_, rfl⟩
                        have := N5.new (w3.alloc (.cells #[.int .u8 lv, .int .u16 cs] 37)) ws 115
                        simpa using this
                      case round =>
                        obtain ⟨q, hq, rfl, hb, hp, hn5, hnb⟩ := hrel
                        have HNB := Lib.hid hnb
                        have HN5 := Lib.hid hn5
                        have HPr := Lib.hid hp
                        have HBi := Lib.hid hb
                        clear hnb hn5 hp hb
                        have hlw : w3.heap.size + 1 < wr.heap.size := HN5.out.lt
                        obtain ⟨wI, rfl⟩ : ∃ x, x = wr := ⟨wr, rfl⟩
                        by_cases hlt : q < 5
                        · have e4 : 4 + 2 * q = 3 + 2 * q + 1 := by omega
                          have en := (HBi.out.cell (p := ⟨A, 4 + 2 * q, none⟩) hA3).trans (HWc3.out (4 + 2 * q) (by omega))
                          have ek := (HBi.out.cell (p := ⟨A, 3 + 2 * q, none⟩) hA3).trans (HWc3.out (3 + 2 * q) (by omega))
                          have eg := (HBi.out.cell (p := ⟨KB, q, none⟩) (show KB < w3.heap.size by omega)).trans ((HB3.out.cell (p := ⟨KB, q, none⟩) hK0).trans (HK.out q hlt))
                          have ec := HN5.out.c q hlt
                          have ef := HN5.out.f q hlt
                          have hA5 : A < wI.heap.size := Nat.lt_of_lt_of_le hA3 HBi.out.size
                          rw [if_neg (Nat.lt_irrefl q)] at ec
                          have HNS := Lib.hid (numsB_step ws q HNB.out)
                          have HLN : Hid (labN ws q = ((numC (wAt ws (3 + 2 * q + 1))).getD 0 : Nat)) := rfl
                          have hcmp := str_is2 (wAt ws (3 + 2 * q)) (kw q)
                          rw [show wAt ws (4 + 2 * q) = wAt ws (3 + 2 * q + 1) by rw [e4]] at en
                          clear e4
                          generalize wAt ws (3 + 2 * q + 1) = SN at *
                          generalize wAt ws (3 + 2 * q) = SK at *
                          generalize kw q = K at *
                          have HBad5 : Hid (numsB ws (q + 1) = false → parseE s = ((k : Int) + 1, 28)) := by
                            intro h
                            refine HBad.out 28 ?_ (by decide)
                            rw [HLE3.out, if_pos (numsB_bad ws (q + 1) h 5 (by omega))]
                          have hlt5 : (q : Int) < 5 := by omega
                          go_wp2_with fail
                          refine (rcount_any SN _).mono ?_
                          rintro e wY ⟨rfl, hwY⟩
                          obtain rfl : wI = wY := hwY.symm
                          go_upto_region 27 with fail
                          obtain ⟨w5, hw5⟩ : ∃ x, wI.setCell ⟨w3.heap.size + 1, q, none⟩ (.int .i64 (cntO SN)) = x := ⟨_, rfl⟩
                          rw [hw5]
                          have ek5 : w5.cell? ⟨A, 3 + 2 * q, none⟩ = some (.string SK) := by rw [← hw5, World.cell?_setCell_other _ _ _ _ (by simp <;> omega)]; exact ek
                          have eg5 : w5.cell? ⟨KB, q, none⟩ = some (.string K) := by rw [← hw5, World.cell?_setCell_other _ _ _ _ (by simp <;> omega)]; exact eg
                          have ec5 : w5.cell? ⟨w3.heap.size + 1, q, none⟩ = some (.int .i64 (cntO SN)) := by rw [← hw5]; exact World.cell?_setCell_same _ _ _ ec
                          have HPr5 : Hid (Pair w5 w3.heap.size (.int .u8 lv) (.int .u16 cs)) := by show Pair w5 _ _ _; rw [← hw5]; exact HPr.out.set_far (by simp) _
                          have HBi5 : Hid (Below w3.heap.size w3 w5) := by show Below _ _ w5; rw [← hw5]; exact HBi.out.setCell (by simp) _
                          have HN55 : Hid ((numC SN).isSome = true → N5 w5 (w3.heap.size + 1) ws (q + 1)) := by
                            intro h
                            have h1 := HN5.out.set hlt
                            rw [HLN.out, ← (cnt_some SN h).1, hw5] at h1
                            exact h1
                          have hCS := cnt_some SN
                          have hCN := cnt_none SN
                          have HBB5 := Lib.hid (HBB3.out.trans (HBi5.out.mono hw3w))
                          clear en ek eg ec ef hw5 HN5 HPr HBi HLN
                          generalize cntO SN = V at *
                          by_cases hSK : SK = K
                          · have hc : (SK.toList == K.toList) = true := by rw [hcmp]; simpa using hSK
                            cases hok : (numC SN).isSome
                            · have HP : Hid (parseE s = ((k : Int) + 1, 28)) := HBad5.out (by rw [HNS.out, hok, Bool.and_false])
                              have hV : V = -1 := hCN hok
                              subst hV
                              clear hCS hCN hcmp hSK hok
                              go_quiet (fail)
                              go_wp2_with fail
                              refine bodyPost_ret (v := .tuple #[.slice none 0 0, .slice none 0 0, .int .i64 28, .int .i64 ((k : Int) + 1)]) (by simp [results, Tryd.results14, go_sem]) rfl (RdPost.bad _ 28 HP.out (by decide) rfl ?_)
                              exact below_drewN' HBB5.out _
                            · have HT1 : Hid (numsB ws (q + 1) = true) := by show numsB ws (q + 1) = true; rw [HNS.out, hok, Bool.and_true]; simpa using hSK
                              have hV := (hCS hok).2
                              have HN6 := Lib.hid (HN55.out hok)
                              clear hCS hCN hcmp hSK hok
                              go_quiet (fail)
                              go_wp2_with fail
                              go_roundw
                              case rel => exact ⟨q + 1, by omega, by go_num, below_drewN' HBi5.out _, HPr5.out.drewN _, N5.drewN HN6.out _, HT1.out⟩
                              case measure => simp [intOf]; omega
                          · have hc : (SK.toList == K.toList) = false := by rw [hcmp]; simpa using hSK
                            have HP : Hid (parseE s = ((k : Int) + 1, 28)) := HBad5.out (by rw [HNS.out]; simp [hSK])
                            clear hCS hCN hcmp hSK
                            go_quiet (fail)
                            go_wp2_with fail
                            refine bodyPost_ret (v := .tuple #[.slice none 0 0, .slice none 0 0, .int .i64 28, .int .i64 ((k : Int) + 1)]) (by simp [results, Tryd.results14, go_sem]) rfl (RdPost.bad _ 28 HP.out (by decide) rfl ?_)
                            exact below_drewN' HBB5.out _
                        · obtain rfl : q = 5 := by omega
                          go_wp2_with fail
                          go_meet
                          case rel => exact ⟨HBi.out, HPr.out, HN5.out, HNB.out⟩
                    case rest =>
                      obtain ⟨hb, hp, hn5, hnb⟩ := hcut
                      obtain ⟨w4, rfl⟩ : ∃ x, x = wc := ⟨wc, rfl⟩
                      have HX4 := Lib.hid (HX3.out.below hb)
                      have HB4 := Lib.hid (HB3.out.trans (hb.mono hB3))
                      have hB4 : B ≤ w4.heap.size := Nat.le_trans hB3 hb.size
                      have hA4 : A < w4.heap.size := Nat.lt_of_lt_of_le hA3 hb.size
                      have HG0 : Hid ((linesE ls (k + 1)).2 = 0) := HGood.out (by rw [HLE3.out, if_neg (by rw [hnb]; decide)])
                      have hg4 : w3.heap.size < w4.heap.size := hp.lt
                      have hg5 : w3.heap.size + 1 < w4.heap.size := hn5.lt
                      obtain ⟨-, p0, p1, -, -⟩ := hp
                      have n0 := hn5.c 0 (by omega)
                      have n1 := hn5.c 1 (by omega)
                      have n2 := hn5.c 2 (by omega)
                      have n3 := hn5.c 3 (by omega)
                      have n4 := hn5.c 4 (by omega)
                      simp only [Nat.reduceLT, if_true] at n0 n1 n2 n3 n4
                      have e1 := (hb.cell (p := ⟨A, 1, none⟩) hA3).trans (HWc3.out 1 (by omega))
                      have e14 := (hb.cell (p := ⟨A, 14, none⟩) hA3).trans (HWc3.out 14 (by omega))
                      clear hb hn5 hnb HX3 HB3 HBB3 HWc3
                      have HS1 : Hid (labRg ws = ⟨wAt ws 1, lv, cs, labN ws 0, labN ws 1, labN ws 2, labN ws 3, labN ws 4, 0⟩) := HLR.out
                      obtain ⟨S1, hS1⟩ : ∃ x, wAt ws 1 = x := ⟨_, rfl⟩
                      rw [hS1] at e1 HS1
                      generalize labN ws 0 = N0 at *
                      generalize labN ws 1 = N1 at *
                      generalize labN ws 2 = N2 at *
                      generalize labN ws 3 = N3 at *
                      generalize labN ws 4 = N4 at *
                      clear hS1 HLR
                      obtain ⟨Q, hQ⟩ : ∃ x, w3.heap.size + 1 = x := ⟨_, rfl⟩
                      obtain ⟨P, hP⟩ : ∃ x, w3.heap.size = x := ⟨_, rfl⟩
                      have HOA2 := Lib.hid (HOr.out A hA)
                      have HOP : Hid (Value.ownBlock (.slice ra st.rs.length rcap) ≠ some P) := by show _ ≠ _; rw [← hP]; exact HOr.out _ hwX3
                      have HOQ : Hid (Value.ownBlock (.slice ra st.rs.length rcap) ≠ some Q) := by show _ ≠ _; rw [← hQ]; exact HOr.out _ (by omega)
                      rw [hQ] at n0 n1 n2 n3 n4 hg5
                      rw [hP] at p0 p1 hg4
                      try rw [hQ]
                      try rw [hP]
                      have HA4 := Lib.hid hA4
                      have HG4 := Lib.hid hg4
                      have HG5 := Lib.hid hg5
                      have HE1 := Lib.hid e1
                      have HE14 := Lib.hid e14
                      have HP0 := Lib.hid p0
                      have HP1 := Lib.hid p1
                      have HN0 := Lib.hid n0
                      have HN1 := Lib.hid n1
                      have HN2 := Lib.hid n2
                      have HN3 := Lib.hid n3
                      have HN4 := Lib.hid n4
                      have HBB4 := Lib.hid hB4
                      have HRS : Hid (st.rs.length ≤ 4001) := by show _ ≤ _; omega
                      have HCS : Hid (st.cls.length ≤ 4001) := by show _ ≤ _; omega
                      have HLT := Lib.hid hlt
                      have HKI : Hid ((k : Int) < 4001) := by show _ < _; omega
                      clear e1 e14 p0 p1 n0 n1 n2 n3 n4 hA4 hg4 hg5 hB4
                      have HI9 := Lib.hid hi9
                      have HX9 := Lib.hid hx9
                      have HY9 := Lib.hid hy9
                      have HZ9 := Lib.hid hz9
                      clear hi9 hx9 hy9 hz9 hi3 hx3 hy3 hz3 hi51 hx51 hy51 hz51 hi34 hx34 hy34 hz34
                      try clear hlt
                      try clear hl1
                      try clear hl2
                      try clear hK0
                      try clear hww
                      try clear hAL
                      try clear hBr
                      try clear hltn
                      try clear hlti
                      try clear hm1
                      try clear hm2
                      try clear hm4
                      try clear hm5
                      try clear hk
                      try clear hwl
                      try clear hB2
                      try clear hA
                      try clear hA2
                      try clear hn1
                      try clear h15
                      try clear h15i
                      try clear hA3
                      try clear hwX3
                      try clear hw3w
                      try clear hB3
                      try clear hQ
                      try clear hP
                      try clear HOr
                      try clear HWz
                      try clear HBad
                      try clear HGood
                      go_upto_region 29 with fail
                      have e1 := HE1.out
                      have p0 := HP0.out
                      have p1 := HP1.out
                      have n0 := HN0.out
                      have n1 := HN1.out
                      have n2 := HN2.out
                      have n3 := HN3.out
                      have n4 := HN4.out
                      refine wp_region_split1m (C := fun w' => ∃ m, w' = w4.drewN m) (v0 := .slice ra st.rs.length rcap) 15 4 (by kernel_rfl) (by kernel_rfl) (by decide) (by kernel_rfl) (by kernel_rfl) (by kernel_rfl) rfl (by kernel_rfl) (by kernel_rfl) (by kernel_rfl) (fun _ _ _ h => h) (Or.inl ⟨by rfl, ?_⟩) ⟨1, rfl⟩ ?_
                      · intro w
                        go_simp
                        try with_reducible rfl
                      simp only [List.take_succ_cons, List.take_zero, List.drop_succ_cons, List.drop_zero]
                      try simp only [Act.put, List.setIfInBounds_toArray, List.set_cons_zero, List.set_cons_succ]
                      repeat (go_big_quiet_step (fail))
                      quiet_step (fail)
                      repeat (go_big_quiet_step (fail))
                      refine wpQuiet_nil ?_
                      intro wy hw'
                      obtain ⟨m, rfl⟩ := hw'
                      clear e1 p0 p1 n0 n1 n2 n3 n4
                      try simp only [Act.put, List.setIfInBounds_toArray, List.set_cons_zero, List.set_cons_succ]
                      refine wpAny_ready (rs := [15]) (by kernel_rfl) (by simp) (AllReady.cons rfl (fun K hK => ?_) AllReady.nil)
                      show (if true = true then _ else _)
                      rw [if_pos rfl]
                      refine wp_build7 39 _ _ _ _ _ _ _ rfl (.string S1) (.agg #[.int .u8 lv, .int .u16 cs]) (.int .i64 N0) (.int .i64 N1) (.int .i64 N2) (.int .i64 N3) (.int .i64 N4) (.agg #[.string S1, .int .u8 lv, .int .u16 cs, .int .i64 N0, .int .i64 N1, .int .i64 N2, .int .i64 N3, .int .i64 N4, .int .i64 0]) rfl rfl rfl rfl rfl rfl rfl (Tryd.build39 S1 lv cs N0 N1 N2 N3 N4 _) ?_
                      refine hK _ _ ?_
                      clear hK K
                      try simp only [Act.put, List.setIfInBounds_toArray, List.set_cons_zero, List.set_cons_succ]
                      refine wpAny_ready (rs := [16]) (by kernel_rfl) (by simp) (AllReady.cons rfl (fun K hK => ?_) AllReady.nil)
                      show (if true = true then _ else _)
                      rw [if_pos rfl]
                      refine wp_slice1 22 _ rfl (.agg #[.string S1, .int .u8 lv, .int .u16 cs, .int .i64 N0, .int .i64 N1, .int .i64 N2, .int .i64 N3, .int .i64 N4, .int .i64 0]) _ rfl (Tryd.slice22 S1 lv cs N0 N1 N2 N3 N4 _) ?_
                      refine hK _ _ ?_
                      clear hK K
                      try simp only [Act.put, List.setIfInBounds_toArray, List.set_cons_zero, List.set_cons_succ]
                      refine wpAny_ready (rs := [17]) (by kernel_rfl) (by simp) (AllReady.cons rfl (fun K hK => ?_) AllReady.nil)
                      show (if true = true then _ else _)
                      rw [if_pos rfl]
                      refine wp_append_at _ _ 22 rfl B 39 i39 _ 9 72 Tryd.underlying22 hi39 hx39 hy39 hz39 rfl (by decide) _ _ _ rfl ((HX4.out.below (below_drewN' (Below.refl _ _) m)).rr.alloc _) ⟨w4.heap.size, 0, none⟩ 1 1 [.string S1, .int .u8 lv, .int .u16 cs, .int .i64 N0, .int .i64 N1, .int .i64 N2, .int .i64 N3, .int .i64 N4, .int .i64 0] rfl rfl (cells_new (w4.drewN m) _ 39) (by simp [Value.oneCell']) (by have := HRS.out; unfold maxLen; omega) (by have := HRS.out; omega) (by have := HBB4.out; simp; omega) (fun v' w6 hown hg6 hloc => ?_)
                      have hS6 : Sy w4 (.slice ra st.rs.length rcap) w6 := ((Sy.below (below_drewN' (Below.refl _ _) m)).alloc _).grown hg6
                      refine hK _ _ ?_
                      clear hK K
                      have HX6 := Lib.hid (HX4.out.setR (v' := v') (rs' := st.rs ++ [labRg ws]) hS6 (by
                        rw [HS1.out, List.length_append, flatR, List.flatMap_append]
                        simpa [flatR, Rg.cells] using hown))
                      have HS6 := Lib.hid hS6
                      obtain ⟨ra', rcap', rfl⟩ := ownsRow_form hown
                      clear hown hg6 hloc hS6
                      try simp only [Act.put, List.setIfInBounds_toArray, List.set_cons_zero, List.set_cons_succ]
                      refine wpAny_ready (rs := [18]) (by kernel_rfl) (by simp) (AllReady.cons rfl (fun K hK => ?_) AllReady.nil)
                      show (if true = true then _ else _)
                      rw [if_pos rfl]
                      refine wp_assign1 _ rfl (.slice ra' (st.rs.length + 1) rcap') rfl ?_
                      refine hK _ _ ?_
                      clear hK K
                      refine wpAny_done (by kernel_rfl) ?_ _
                      try simp only [Act.put, List.setIfInBounds_toArray, List.set_cons_zero, List.set_cons_succ]
                      have e14' := (HS6.out.cell (b := A) (o := 14) HA4.out HOA2.out).trans HE14.out
                      have HB6 := Lib.hid (HB4.out.trans (HS6.out.bel B HBB4.out (ownsRow_block HX4.out.rr)))
                      have hB6 : B ≤ w6.heap.size := Nat.le_trans HBB4.out HS6.out.sz
                      have hcs := HCS.out
                      have hlt := HLT.out
                      have hki := HKI.out
                      obtain ⟨S14, hS14⟩ : ∃ x, wAt ws 14 = x := ⟨_, rfl⟩
                      rw [hS14] at e14' HS0
                      clear HE14 HE1 HP0 HP1 HN0 HN1 HN2 HN3 HN4 HS6 HB4 HX4 hS14 HS1
                      go_wp2_with (first | (at_builtin; refine wpList_append_at rfl _ _ 51 rfl B 9 i9 _ 1 16 Tryd.underlying51 HI9.out HX9.out HY9.out HZ9.out rfl (by decide) _ _ _ rfl (HX6.out.rc.alloc _) ⟨w6.heap.size, 0, none⟩ 1 1 [.string S14] rfl rfl (cells_new w6 _ 9) (by simp [Value.oneCell']) (by unfold maxLen; omega) (by omega) (by simp; omega) ?_))
                      intro vc' w7 hown hgrow hloc
                      have HS7 := Lib.hid (((Sy.refl w6 (.slice ca st.rs.length ccap)).alloc (.cells #[.string S14] 9)).grown hgrow)
                      have HX7 := Lib.hid (HX6.out.setC (v' := vc') (cls' := st.cls ++ [S14]) HS7.out (by simpa using hown) (by
                        rcases hloc with h | h
                        · exact .inl h
                        · exact .inr ⟨_, h, by simp⟩))
                      have HB7 := Lib.hid (HB6.out.trans (HS7.out.bel B hB6 (ownsRow_block HX6.out.rc)))
                      clear hown hgrow hloc HX6 HB6 HS7 e14'
                      go_wp2_with fail
                      go_roundw
                      case rel => exact ⟨k + 1, F, HLT.out, by go_num, HG0.out, by rw [HS0.out]; exact HX7.out, HB7.out⟩
                      case measure => have := HLT.out; simp [intOf]; omega
                  · have HP : Hid (parseE s = ((k : Int) + 1, er)) := HBad.out er (by rw [HL1.out, HLE2.out, if_pos he0]) he0
                    have HE0 := Lib.hid he0
                    have he1 : ¬ (er = 0) := he0
                    clear HLE2
                    go_wp2_with fail
                    refine bodyPost_ret (v := .tuple #[.slice none 0 0, .slice none 0 0, .int .i64 er, .int .i64 ((k : Int) + 1)]) (by simp [results, Tryd.results14, go_sem]) rfl (RdPost.bad _ er HP.out HE0.out rfl ?_)
                    exact HBB3.out.alloc hw3w _
                · have qc : ((wAt ws 13).toList == [99, 108, 101, 97, 114]) = false := by rw [hcm]; simpa [clearW] using h13
                  have HP : Hid (parseE s = ((k : Int) + 1, 28)) := HBad.out 28 (by rw [HL1.out]; unfold labE; rw [if_pos (Or.inr h13)]) (by decide)
                  obtain ⟨S13, hS13⟩ : ∃ x, wAt ws 13 = x := ⟨_, rfl⟩
                  rw [hS13] at q13 qc
                  clear hcm h13 hS13
                  go_wp2_with fail
                  refine bodyPost_ret (v := .tuple #[.slice none 0 0, .slice none 0 0, .int .i64 28, .int .i64 ((k : Int) + 1)]) (by simp [results, Tryd.results14, go_sem]) rfl (RdPost.bad _ 28 HP.out (by decide) rfl ?_)
                  exact HBB.out
              · have h15i : ¬ ((ws.length : Int) = 15) := by omega
                have HP : Hid (parseE s = ((k : Int) + 1, 28)) := HBad.out 28 (by rw [HL1.out]; unfold labE; rw [if_pos (Or.inl h15)]) (by decide)
                go_wp2_with fail
                refine bodyPost_ret (v := .tuple #[.slice none 0 0, .slice none 0 0, .int .i64 28, .int .i64 ((k : Int) + 1)]) (by simp [results, Tryd.results14, go_sem]) rfl (RdPost.bad _ 28 HP.out (by decide) rfl ?_)
                exact HBB.out
            · have ql : ((wAt ws 0).toList == [108, 97, 98, 101, 108]) = false := by rw [hsl0]; simpa [labelW] using hlab
              have HP : Hid (parseE s = ((k : Int) + 1, 28)) := HBad.out 28 (by rw [HL0.out, if_neg hlab]) (by decide)
              obtain ⟨S0, hS0⟩ : ∃ x, wAt ws 0 = x := ⟨_, rfl⟩
              rw [hS0] at qtr q0 ql
              have HBB := Lib.hid (HBW.out.trans (HB2.out.mono hww))
              clear how hsl0 hlab hS0 hn0 htr
              rcases qtr with qtr | ⟨qtr, qn⟩
              · go_wp2_with fail
                refine bodyPost_ret (v := .tuple #[.slice none 0 0, .slice none 0 0, .int .i64 28, .int .i64 ((k : Int) + 1)]) (by simp [results, Tryd.results14, go_sem]) rfl (RdPost.bad _ 28 HP.out (by decide) rfl ?_)
                exact HBB.out
              · go_wp2_with fail
                refine bodyPost_ret (v := .tuple #[.slice none 0 0, .slice none 0 0, .int .i64 28, .int .i64 ((k : Int) + 1)]) (by simp [results, Tryd.results14, go_sem]) rfl (RdPost.bad _ 28 HP.out (by decide) rfl ?_)
                exact HBB.out
      · obtain rfl : k = n := by omega
        have hlti : ¬ ((k : Int) < (k : Int)) := by omega
        go_wp2_with fail
        go_meet
        case rel => exact ⟨F, HE.out, HX.out, HB.out⟩
  case rest =>
    obtain ⟨F, hE, hX, hb⟩ := hcut
    obtain ⟨w2, rfl⟩ : ∃ x, x = wc := ⟨wc, rfl⟩
    have HR1 := Lib.hid (HPR.out hE)
    have hok := HST.out n
    have hm1 := hok.l1
    have hm2 := hok.l2
    have hm3 := hok.eq
    have HROK := Lib.hid hok.rs
    clear hok
    obtain ⟨st, hst⟩ : ∃ x, stAt ls n = x := ⟨_, rfl⟩
    rw [hst] at hX HR1 HOutR HOutM hm1 hm2 hm3 HROK
    clear hst HPL HPR HST HLB HLA HLc HK hE
    have hB2 : B ≤ w2.heap.size := by have := hb.size; rw [HB0.out] at this; exact this
    have HB2 := Lib.hid hb
    have hft := hX.ft
    rw [List.length_map] at hft
    obtain ⟨ra, rcap, rfl⟩ := ownsRow_form hX.rr
    obtain ⟨ca, ccap, hvc⟩ := ownsRow_form hX.rc
    obtain ⟨ta, tcap, hvt⟩ := ownsRow_form hX.rt
    obtain ⟨aa, acap, hva⟩ := ownsRow_form hX.ra
    rw [hm3] at hvc
    rw [hft] at hvt
    rw [List.length_map] at hva
    subst hvc hvt hva
    have HX2 := Lib.hid hX
    have HFT := Lib.hid hft
    have HM3 := Lib.hid hm3
    clear hX hb hft
    obtain ⟨rs, cls, trs⟩ := st
    simp only at HX2 HR1 HOutR HOutM hm1 hm2 hm3 HROK HFT HM3 ⊢
    obtain ⟨TW, hTW⟩ : ∃ x, trs.map (fun x => x.2) = x := ⟨_, rfl⟩
    obtain ⟨AT, hAT⟩ : ∃ x, trs.map (fun x => x.1) = x := ⟨_, rfl⟩
    have HTW := Lib.hid hTW
    have HAT := Lib.hid hAT
    rw [hTW, hAT] at HX2
    clear hTW hAT hm3
    go_upto_block 4 with fail
    go_cut [] (fun wc => clB rs cls = true ∧ RX wc B (.slice ra rs.length rcap) (.slice ca rs.length ccap) (.slice ta trs.length tcap) (.slice aa trs.length acap) (clF rs cls) cls TW AT F ∧ Below B w1 wc)
    case first =>
      as_aux_lemma =>
      go_wp2_with fail
      go_loopw [18] (fun i wr => ∃ q : Nat, q ≤ rs.length ∧ i = .int .i64 q ∧ RX wr B (.slice ra rs.length rcap) (.slice ca rs.length ccap) (.slice ta trs.length tcap) (.slice aa trs.length acap) (clT rs cls q) cls TW AT F ∧ Below B w1 wr ∧ ∀ j (hj : j < cls.length), j < q → (place rs cls[j]).isSome = true) (fun i _ => rs.length - (intOf i).toNat)
      case atStart => exact ⟨0, by omega, rfl, by rw [clT_zero]; exact HX2.out, HB2.out, fun j _ h => by omega⟩
      case round =>
        obtain ⟨q, hq, rfl, hX, hb, hall⟩ := hrel
        have HX := Lib.hid hX
        have HB := Lib.hid hb
        have HA := Lib.hid hall
        clear hX hb hall HX2 HB2
        obtain ⟨wX, rfl⟩ : ∃ x, x = wr := ⟨wr, rfl⟩
        by_cases hlt : q < rs.length
        · have hlen := clT_len rs cls HM3.out q hq
          have hqc : q < cls.length := by have := HM3.out; omega
          have hlti : (q : Int) < (rs.length : Int) := by omega
          rcases ownsRow_cell (k := 9) (f := Rg.cells) (l := clT rs cls q) (fun _ => rfl) rfl HX.out.rr with ⟨-, hnil⟩ | ⟨g, gcap, hva, hgb, hgl, -, hcell⟩
          · rw [hnil] at hlen; simp at hlen; omega
          injection hva with h1 h2 h3
          subst h1
          obtain ⟨gc, gcc, hvc, -, hgcl, hcc⟩ := own_strs HX.out.rc (by omega)
          injection hvc with h4 h5 h6
          subst h4
          have e0 := hcc q hqc
          have hf := ownsRow_free HX.out.rr g rfl (q * 9 + 8)
          have hv := hcell q (by omega) 8 (by decide)
          rw [clT_get rs cls HM3.out q hlt] at hv
          have hv : wX.cell? ⟨g, q * 9 + 8, none⟩ = some (.int .i64 rs[q].cl) := hv
          have HRW := Lib.hid (regs_of_row HX.out.rr)
          have HPO : Hid (plO (clT rs cls q) (wAt cls q) = plO rs (wAt cls q)) := by show plO _ _ = plO _ _; unfold plO; rw [place_clT rs cls HM3.out q hq]
          obtain ⟨S, hS⟩ : ∃ x, wAt cls q = x := ⟨_, rfl⟩
          have HS : Hid (cls[q] = S) := by show cls[q] = S; rw [wAt_is cls q hqc, hS]
          rw [hS] at e0 HPO
          clear hcell hcc hS h2 h3 h5 h6
          have hp := rplace_any _ _ S wX HRW.out
          rw [HPO.out] at hp
          go_wp2_with fail
          refine hp.mono ?_
          rintro e wY ⟨rfl, hwY⟩
          obtain rfl : wX = wY := hwY.symm
          go_upto_region 35 with fail
          obtain ⟨w5, hw5⟩ : ∃ x, wX.setCell ⟨g, q * 9 + 8, none⟩ (.int .i64 (plO rs S)) = x := ⟨_, rfl⟩
          rw [hw5]
          have ec5 : w5.cell? ⟨g, q * 9 + 8, none⟩ = some (.int .i64 (plO rs S)) := by rw [← hw5]; exact World.cell?_setCell_same _ _ _ hv
          have hgX : g < wX.heap.size := hgl
          have HS5 : Hid (Sy wX (.slice (some ⟨g, 0, none⟩) rs.length rcap) w5) := by show Sy _ _ _; rw [← hw5]; exact (Sy.refl _ _).set g _ rfl _
          have hBX : B ≤ wX.heap.size := by have := HB.out.size; rw [HB0.out] at this; exact this
          have HB5 := Lib.hid (HB.out.trans (HS5.out.bel B hBX (ownsRow_block HX.out.rr)))
          cases hpl : place rs S with
          | none =>
            have hpo : plO rs S = -1 := by unfold plO; rw [hpl]
            have HP : Hid (parseE s = (0, 3)) := by
              show parseE s = _
              rw [HR1.out, if_pos]
              unfold clB
              rw [List.all_eq_false]
              exact ⟨cls[q], List.getElem_mem _, by rw [HS.out, hpl]; decide⟩
            have HBB := Lib.hid (HBW.out.trans (HB5.out.mono hww))
            rw [hpo] at ec5
            clear hp e0 hf hv hw5 hpl hpo
            go_wp2_with fail
            refine bodyPost_ret (v := .tuple #[.slice none 0 0, .slice none 0 0, .int .i64 3, .int .i64 0]) (by simp [results, Tryd.results14, go_sem]) rfl (RdPost.bad _ 3 HP.out (by decide) rfl ?_)
            exact HBB.out
          | some v =>
            have hpo : plO rs S = v := by unfold plO; rw [hpl]
            have HX5 : Hid (RX w5 B (.slice (some ⟨g, 0, none⟩) rs.length rcap) (.slice (some ⟨gc, 0, none⟩) rs.length ccap) (.slice ta trs.length tcap) (.slice aa trs.length acap) (clT rs cls (q + 1)) cls TW AT F) := by
              refine HX.out.setR HS5.out ?_
              have h0 := HX.out.rr
              rw [hlen] at h0
              have h1 := ownsRow_set h0 (q * 9 + 8) (.int .i64 (plO rs S)) (by rw [fl_len, hlen]; omega)
              rw [hw5] at h1
              rw [clT_len rs cls HM3.out (q + 1) (by omega), clT_succ rs cls HM3.out q hlt]
              rw [fl_set (clT rs cls q) q (by omega) 8 (by decide) (clR rs rs[q] cls[q]) (.int .i64 (plO rs S)) (by
                rw [clT_get rs cls HM3.out q hlt, HS.out, hpo]
                simp only [clR, hpl, Rg.cells, Option.getD_some]
                rfl)]
              exact h1
            have hv0 : ¬ ((v : Int) < 0) := by omega
            have HNext : Hid (∀ j (hj : j < cls.length), j < q + 1 → (place rs cls[j]).isSome = true) := fun j hj hjq => by
              by_cases e : j = q
              · subst e; rw [HS.out, hpl]; rfl
              · exact HA.out j hj (by omega)
            rw [hpo] at ec5
            clear hp e0 hf hv hw5 hpl hpo
            go_wp2_with fail
            go_roundw
            case rel => exact ⟨q + 1, by omega, by go_num, HX5.out, HB5.out, HNext.out⟩
            case measure => simp [intOf]; omega
        · obtain rfl : q = rs.length := by omega
          have hlti : ¬ ((rs.length : Int) < (rs.length : Int)) := by omega
          have HC1 : Hid (clB rs cls = true) := by
            show clB rs cls = true
            unfold clB
            rw [List.all_eq_true]
            intro x hx
            obtain ⟨j, hj, rfl⟩ := List.mem_iff_getElem.1 hx
            exact HA.out j hj (by have := HM3.out; omega)
          have HX5 := HX.out
          rw [clT_all rs cls HM3.out] at HX5
          have HX6 := Lib.hid HX5
          clear HX5
          go_wp2_with fail
          go_meet
          case rel => exact ⟨HC1.out, HX6.out, HB.out⟩
    case rest =>
      obtain ⟨hcl, hX, hb⟩ := hcut
      obtain ⟨w3, rfl⟩ : ∃ x, x = wc := ⟨wc, rfl⟩
      have HX3 := Lib.hid hX
      have HB3 := Lib.hid hb
      have hB3 : B ≤ w3.heap.size := by have := hb.size; rw [HB0.out] at this; exact this
      have HR2 : Hid (parseE s = if (mksE rs trs trs.length).2 ≠ 0 then mksE rs trs trs.length else (0, newE (outRs s) (outMs s))) := by
        show parseE s = _
        rw [HR1.out, if_neg (by rw [hcl]; decide)]
      have HPM : Hid (∀ k, k ≤ trs.length → (mksE rs trs k).2 ≠ 0 → parseE s = mksE rs trs k) := by
        intro k hk h
        have e := mksE_bad rs trs k h _ hk
        rw [HR2.out, e, if_pos h]
      clear HR1 HX2 HB2 hX hb hcl hB2
      go_upto_block 6 with fail
      go_cut [19] (fun vm wc => (mksE rs trs trs.length).2 = 0 ∧ wc.ownsRow B 34 2 vm trs.length (flatM (trs.map (mkOf rs))) ∧ RX wc B (.slice ra rs.length rcap) (.slice ca rs.length ccap) (.slice ta trs.length tcap) (.slice aa trs.length acap) (clF rs cls) cls TW AT F ∧ Below B w1 wc)
      case first =>
        as_aux_lemma =>
        go_wp2_with fail
        go_loopw [19, 20] (fun vm i wr => ∃ q : Nat, q ≤ trs.length ∧ i = .int .i64 q ∧ (mksE rs trs q).2 = 0 ∧ wr.ownsRow B 34 2 vm q (flatM ((trs.take q).map (mkOf rs))) ∧ RX wr B (.slice ra rs.length rcap) (.slice ca rs.length ccap) (.slice ta trs.length tcap) (.slice aa trs.length acap) (clF rs cls) cls TW AT F ∧ Below B w1 wr) (fun _ i _ => trs.length - (intOf i).toNat)
        case atStart => exact ⟨0, by omega, rfl, rfl, World.ownsRow_nil _ _ _ _, HX3.out, HB3.out⟩
        case round =>
          obtain ⟨q, hq, rfl, hE, hown, hX, hb⟩ := hrel
          have HX := Lib.hid hX
          have HB := Lib.hid hb
          have HO := Lib.hid hown
          have HE := Lib.hid hE
          obtain ⟨ma, mcap, rfl⟩ := ownsRow_form hown
          clear hX hb hown hE HX3 HB3
          obtain ⟨wX, rfl⟩ : ∃ x, x = wr := ⟨wr, rfl⟩
          have hBX : B ≤ wX.heap.size := by have := HB.out.size; rw [HB0.out] at this; exact this
          by_cases hlt : q < trs.length
          · have hlti : (q : Int) < (trs.length : Int) := by omega
            have hqF : q < F.length := by have := HFT.out; omega
            have hTWl : TW.length = trs.length := by rw [← HTW.out, List.length_map]
            have hATl : AT.length = trs.length := by rw [← HAT.out, List.length_map]
            obtain ⟨gt, hgt1, e0⟩ := own_words HX.out.rt q hqF
            obtain ⟨ga, hga1, eA⟩ := own_ints HX.out.ra q (by omega)
            obtain ⟨S0, hW3⟩ := HX.out.tw q (by omega) hqF
            obtain ⟨b1, b2⟩ := row3 hW3
            have hT1 : TW[q]'(by omega) = trs[q].2 := by simp [← HTW.out]
            have hA1 : AT[q]'(by omega) = trs[q].1 := by simp [← HAT.out]
            rw [hT1] at b1 b2
            rw [hA1] at eA
            subst hgt1 hga1
            obtain ⟨FA, hFA⟩ : ∃ x, (F[q]).1 = x := ⟨_, rfl⟩
            obtain ⟨FC, hFC⟩ : ∃ x, (F[q]).2 = x := ⟨_, rfl⟩
            unfold wordV at e0
            rw [hFA, hFC] at e0
            rw [hFA] at b1 b2
            obtain ⟨x, hx⟩ : ∃ x, trs[q] = x := ⟨_, rfl⟩
            rw [hx] at b1 b2 eA
            obtain ⟨xl, x1, x2⟩ := x
            simp only at b1 b2 eA
            have hgd : trs.getD q (0, ByteArray.empty, ByteArray.empty) = (xl, x1, x2) := by rw [List.getD_eq_getElem?_getD, List.getElem?_eq_getElem hlt, hx]; rfl
            have HMS : Hid (mksE rs trs (q + 1) = if mkOne rs (xl, x1, x2) = 0 then (0, 0) else (xl, mkOne rs (xl, x1, x2))) := by
              show mksE _ _ _ = _
              rw [mksE, if_pos HE.out, hgd]
            have HTK : Hid ((trs.take (q + 1)).map (mkOf rs) = (trs.take q).map (mkOf rs) ++ [mkOf rs (xl, x1, x2)]) := by
              show List.map _ _ = _
              rw [List.take_add_one, List.getElem?_eq_getElem hlt, hx]
              simp
            have HRW := Lib.hid (regs_of_row HX.out.rr)
            have HPO : Hid (plO (clF rs cls) x1 = plO rs x1) := by show plO _ _ = plO _ _; unfold plO; rw [← clT_all rs cls HM3.out, place_clT rs cls HM3.out _ (Nat.le_refl _)]
            clear hW3 hT1 hA1 hFA hFC hx hgd
            have HPX := Lib.hid (fun (m : Nat) => rplace_any _ _ x1 (wX.drewN m) (regs_drewN HRW.out m))
            go_upto_region 41 with fail
            go_quiet (first | (go_at_call 49; exact Calls.quiet_of_same (HPX.out _)) | (go_at_call 48; exact Calls.quiet_of_same (rcount_any x2 _)))
            rw [HPO.out]
            have hgaX := World.block_lt_of_cell? wX _ eA
            simp only at hgaX
            obtain ⟨W, hW⟩ : ∃ x, wX.drewN nq = x := ⟨_, rfl⟩
            rw [hW]
            have hbW : Below wX.heap.size wX W := hW ▸ below_drewN' (Below.refl _ _) nq
            have HXW := Lib.hid (HX.out.below hbW)
            have HBW2 := Lib.hid (HB.out.trans (hbW.mono hBX))
            have HOW := Lib.hid (ownsRow_below HO.out hbW)
            have hBW : B ≤ W.heap.size := Nat.le_trans hBX hbW.size
            have eA' := (hbW.cell (p := ⟨ga, q, none⟩) hgaX).trans eA
            have HBB := Lib.hid (HBW.out.trans (HBW2.out.mono hww))
            clear hW hbW eA e0 b1 b2 hgaX HPX HPO HRW
            cases hpl : place rs x1 with
            | none =>
              have hpo : plO rs x1 = -1 := by unfold plO; rw [hpl]
              have hmo : mkOne rs (xl, x1, x2) = 3 := by unfold mkOne; simp [hpl]
              have HP : Hid (parseE s = (xl, 3)) := by
                have h1 : mksE rs trs (q + 1) = (xl, 3) := by rw [HMS.out, hmo]; rfl
                show parseE s = _
                rw [HPM.out (q + 1) (by omega) (by rw [h1]; simp), h1]
              rw [hpo]
              clear hpl hpo hmo
              go_wp2_with fail
              go_quiet (fail)
              go_wp2_with fail
              refine bodyPost_ret (v := .tuple #[.slice none 0 0, .slice none 0 0, .int .i64 3, .int .i64 xl]) (by simp [results, Tryd.results14, go_sem]) rfl (RdPost.bad _ 3 HP.out (by decide) rfl ?_)
              exact below_drewN' HBB.out _
            | some v =>
              have hpo : plO rs x1 = v := by unfold plO; rw [hpl]
              have hvl : v < rs.length := by
                have h1 := hpl
                unfold place at h1
                exact (List.findIdx?_eq_some_iff_getElem.1 h1).1
              rw [hpo]
              cases hnc : numC x2 with
              | none =>
                have hco : cntO x2 = -1 := by unfold cntO; rw [hnc]
                have hmo : mkOne rs (xl, x1, x2) = 28 := by unfold mkOne; simp [hpl, hnc]
                have HP : Hid (parseE s = (xl, 28)) := by
                  have h1 : mksE rs trs (q + 1) = (xl, 28) := by rw [HMS.out, hmo]; rfl
                  show parseE s = _
                  rw [HPM.out (q + 1) (by omega) (by rw [h1]; simp), h1]
                rw [hco]
                clear hpl hpo hmo hnc hco
                go_wp2_with fail
                go_quiet (fail)
                go_wp2_with fail
                refine bodyPost_ret (v := .tuple #[.slice none 0 0, .slice none 0 0, .int .i64 28, .int .i64 xl]) (by simp [results, Tryd.results14, go_sem]) rfl (RdPost.bad _ 28 HP.out (by decide) rfl ?_)
                exact below_drewN' HBB.out _
              | some c =>
                have hco : cntO x2 = c := by unfold cntO; rw [hnc]
                have hcl := numC_le x2 c hnc
                have hmo : mkOne rs (xl, x1, x2) = 0 := by unfold mkOne; simp [hpl, hnc]
                have HM0 : Hid ((mksE rs trs (q + 1)).2 = 0) := by show (mksE _ _ _).2 = 0; rw [HMS.out, if_pos hmo]
                obtain ⟨a, ha⟩ : ∃ a, v % 256 = a := ⟨_, rfl⟩
                have ha1 : a < 256 := by rw [← ha]; exact Nat.mod_lt _ (by omega)
                have hmod : Int.tmod (v : Int) 256 = (a : Int) := by rw [Int.tmod_eq_emod_of_nonneg (by omega), ← ha]; rfl
                have HMK : Hid (mkOf rs (xl, x1, x2) = ((a : Int), (c : Int))) := by show mkOf _ _ = _; unfold mkOf; simp [hpl, hnc, ha]
                have ha2 : (a : Int) < 256 := by omega
                have hc2 : (c : Int) < 65536 := by omega
                have hc0 : ¬ ((c : Int) < 0) := by omega
                have hv0 : ¬ ((v : Int) < 0) := by omega
                clear hcl
                rw [hco]
                clear hpl hpo hmo hnc hco ha
                go_wp2_with (first | (at_builtin; refine wpList_append_at rfl _ _ 23 rfl B 34 i34 _ 2 4 Tryd.underlying23 hi34 hx34 hy34 hz34 rfl (by decide) _ _ _ rfl (HOW.out.alloc _) ⟨W.heap.size, 0, none⟩ 1 1 [.int .u8 a, .int .u16 c] rfl rfl (cells_new W _ 34) (by simp [Value.oneCell']) (by unfold maxLen; omega) (by omega) (by simp; omega) ?_))
                intro vm' w6 hown hgrow hloc
                have HS6 := Lib.hid (((Sy.refl W (.slice ma q mcap)).alloc (.cells #[.int .u8 a, .int .u16 c] 34)).grown hgrow)
                have HX6 := Lib.hid (HXW.out.keep HOW.out HS6.out)
                have HB6 := Lib.hid (HBW2.out.trans (HS6.out.bel B hBW (ownsRow_block HOW.out)))
                have HO6 : Hid (w6.ownsRow B 34 2 vm' (q + 1) (flatM ((trs.take (q + 1)).map (mkOf rs)))) := by
                  show w6.ownsRow _ _ _ _ _ _
                  rw [HTK.out, HMK.out, flatM, List.flatMap_append]
                  simpa [flatM, markCells] using hown
                clear hown hgrow hloc HXW HOW HBW2 HS6
                go_wp2_with fail
                go_roundw
                case rel => exact ⟨q + 1, by omega, by go_num, HM0.out, HO6.out, HX6.out, HB6.out⟩
                case measure => simp [intOf]; omega
          · obtain rfl : q = trs.length := by omega
            have hlti : ¬ ((trs.length : Int) < (trs.length : Int)) := by omega
            have HO2 := HO.out
            rw [List.take_length] at HO2
            have HO3 := Lib.hid HO2
            clear HO2
            go_wp2_with fail
            go_meet
            case rel => exact ⟨HE.out, HO3.out, HX.out, HB.out⟩
      case rest =>
        obtain ⟨hmk, hown, hX, hb⟩ := hcut
        obtain ⟨w4, rfl⟩ : ∃ x, x = wc := ⟨wc, rfl⟩
        obtain ⟨ma, mcap, rfl⟩ := ownsRow_form hown
        have hPE : parseE s = (0, newE (outRs s) (outMs s)) := by rw [HR2.out, if_neg (by rw [hmk]; simp)]
        have hrg := regs_of_row hX.rr
        have hmks : Mks w4 (.slice ma trs.length mcap) (trs.map (mkOf rs)) := mks_of_row (by simp) hown
        rw [← HOutR.out] at hrg
        rw [← HOutM.out] at hmks
        have hrk : ∀ r ∈ outRs s, r.ok := by
          rw [HOutR.out]
          intro r hr
          obtain ⟨j, hj, rfl⟩ := List.mem_iff_getElem.1 hr
          have hj2 : j < rs.length := by rw [clF_len rs cls HM3.out] at hj; exact hj
          rw [clF_get rs cls HM3.out j hj2]
          exact (HROK.out _ (List.getElem_mem hj2)).1
        have hmk2 : ∀ m ∈ outMs s, markOk m := by
          rw [HOutM.out]
          intro m hm
          obtain ⟨x, -, rfl⟩ := List.mem_map.1 hm
          exact mkOf_ok rs x
        have hml : (outMs s).length ≤ 5000 := by rw [HOutM.out, List.length_map]; omega
        have hRT := HRT.out _ _ _ _ w4 hrg hrk hmks hmk2 hml
        have HPE := Lib.hid hPE
        have HRG := Lib.hid hrg
        have HMK := Lib.hid hmks
        have HBB4 := Lib.hid (HBW.out.trans (hb.mono hww))
        have hw4 : w.heap.size ≤ w4.heap.size := HBB4.out.size
        clear hown hX hb hPE hmks hrg hrk hmk2 hml HX3 HB3 HR2 HPM hmk
        go_wp2_with fail
        refine hRT.mono ?_
        rintro e w5 ⟨rfl, hb5⟩
        have HG5 := Lib.hid (HRG.out.below hb5)
        have HM5 := Lib.hid (HMK.out.below hb5)
        have HB5 := Lib.hid (HBB4.out.trans (hb5.mono hw4))
        obtain ⟨E, hE⟩ : ∃ x, newE (outRs s) (outMs s) = x := ⟨_, rfl⟩
        rw [hE] at HPE ⊢
        clear hRT hb5 hE
        go_wp2_with fail
        refine bodyPost_ret (v := .tuple #[.slice ra rs.length rcap, .slice ma trs.length mcap, .int .i64 E, .int .i64 0]) (by simp [results, Tryd.results14, go_sem]) rfl ⟨HB5.out, _, _, by rw [HPE.out], fun _ => ⟨HG5.out, HM5.out⟩⟩
end Go.Proofs.YtfkiinbmbbhbkaaDoor
