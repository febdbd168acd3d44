import Derived.Test.YtnfadmifdncjoaaGreatGA
import Derived.Deep.RegionHeld
import Derived.Laws.BitsAllLaws
import Derived.Laws.IdiomStrings
/- Nodes: Decode; there and back. -/
namespace Go.Proofs.YtnfadmifdncjoaaGreat
set_option linter.unusedSimpArgs false
set_option linter.unusedVariables false
open Go.RowKit Go.Maps
/-- a node with these pointers -/
def ptN (f p : Nat → Int) : Nat → Int := fun i => if i < 4 then f i else p (i - 4)
theorem Vl.lay6 {w : World} {g : Nat} {f : Nat → Int} (h : Vl w g (ndc f)) (q : Nat → Int) : Vl (w.setCells g 4 (drc q)) g (ndc fun i => if 4 ≤ i ∧ i < 10 then q i else f i) := by
  have ht : w.there g 4 6 := fun j hj => by
    have := h.there0 12 rfl (4 + j) (by omega)
    rwa [Nat.zero_add] at this
  refine ⟨by rw [size_setCells]; exact h.lt, fun j v hj => ?_, fun j hj => by rw [World.frozen?_setCells]; exact h.z j hj⟩
  have hj12 : j < 12 := (List.getElem?_eq_some_iff.1 hj).1
  by_cases h6 : 4 ≤ j ∧ j < 10
  · have := World.rangeAt_setCells_same w g 4 (drc q) ht (j - 4) v (by
      match j, hj12, h6 with
      | 4, _, _ | 5, _, _ | 6, _, _ | 7, _, _ | 8, _, _ | 9, _, _ => exact hj)
    rwa [show 4 + (j - 4) = j by omega] at this
  · rw [World.cell?_setCells_out g (drc q) 4 w _ (fun _ _ => by show j < 4 ∨ 4 + 6 ≤ j; omega)]
    refine h.c j v ?_
    match j, hj12, h6 with
    | 0, _, _ | 1, _, _ | 2, _, _ | 3, _, _ | 10, _, _ | 11, _, _ => exact hj
set_option maxHeartbeats 4000000 in
set_option maxRecDepth 100000 in
theorem point_any26 (gn : Nat) (f p : Nat → Int) (w : World) (F : Vl w gn (ndc f)) : Calls Tryz.prog 136 #[.pointer (some ⟨gn, 0, none⟩), .agg (ptc p).toArray] w fun e w' => e = .returned (.tuple #[]) ∧ Vl w' gn (ndc (ptN f p)) ∧ Kp w w' gn gn := by
  have HF := Lib.hid F
  have hlt := F.lt
  clear F
  go_enter Tryz.func136, Tryz.ntmps136
  go_upto_region 1 with (refine wpList_box_list (w := w) rfl 231 _ rfl (ptc p) rfl ?_; intro w1 F1 hb1 hz1; have HB1 := Lib.hid hb1; have hq1 : w.heap.size < w1.heap.size := (by omega); clear hb1 hz1)
  have HK := Lib.hid (Kp.of_below HB1.out gn gn)
  have HG := Lib.hid (HF.out.keep HB1.out)
  obtain ⟨b1, hb1⟩ : ∃ b, w.heap.size = b := ⟨_, rfl⟩
  rw [hb1] at F1 hq1 hlt ⊢
  have HW := Lib.hid hb1
  clear hb1 HF HB1
  go_still_tail 5, (by kernel_rfl)
  have D1 := Lib.hid (F1.out.keep (Below.refl w1.heap.size w1).drew)
  have D2 := Lib.hid (HG.out.keep (Below.refl w1.heap.size w1).drew)
  have DK := Lib.hid (HK.out.drew)
  have hq2 : b1 < (World.drew w1).heap.size := hq1
  change wpList _ _ _ _ _ (World.drew w1)
  obtain ⟨w2, hw⟩ : ∃ x, World.drew w1 = x := ⟨_, rfl⟩
  rw [hw] at D1 D2 DK hq2 ⊢
  clear hw F1 HG HK hq1
  refine wpList_copy_mid rfl (.tmp 7) (.tmp 8) 104 104 rfl 37 Tryz.sl101 1 Tryz.isize23 gn 4 6 6 (some ⟨b1, 0, none⟩) 8 8 rfl rfl (drc fun i => p (i - 4)) rfl (fun _ => ⟨_, rfl, fun j v hj => ?_⟩) ?_ (drc_one _) ?_
  · rw [Addr.add_mid, Nat.zero_add]
    refine D1.out.c j v ?_
    have hj6 : j < 6 := (List.getElem?_eq_some_iff.1 hj).1
    match j, hj6 with
    | 0, _ | 1, _ | 2, _ | 3, _ | 4, _ | 5, _ => exact hj
  · intro j hj
    have := D2.out.there0 12 rfl (4 + j) (by have : j < 6 := hj; omega)
    rwa [Nat.zero_add] at this
  have E2 := Lib.hid (D2.out.lay6 fun i => p (i - 4))
  have hk : Kp w2 (w2.setCells gn 4 (drc fun i => p (i - 4))) gn gn := (Kp.refl w2 gn gn).setCells gn 4 (.inl rfl) _
  have E1 := Lib.hid (D1.out.kp hk (by omega) (by omega))
  have EK := Lib.hid (DK.out.trans hk)
  obtain ⟨w3, hw⟩ : ∃ x, w2.setCells gn 4 (drc fun i => p (i - 4)) = x := ⟨_, rfl⟩
  rw [hw] at E1 E2 EK hk ⊢
  have hq3 := hk.size
  clear hw hk D1 D2 DK
  have c6 := E1.out.c 6 _ rfl
  have c10 := E2.out.c 10 _ rfl
  have z10 := E2.out.z 10 (by show 10 < 12; decide)
  go_upto_region 3 with fail
  have N2 := Lib.hid (E2.out.set 10 (by show 10 < 12; decide) (.int .u16 (p 6)))
  have hk : Kp w3 (w3.setCell ⟨gn, 10, none⟩ (.int .u16 (p 6))) gn gn := (Kp.refl _ _ _).setA 10 _
  have N1 := Lib.hid (E1.out.kp hk (by omega) (by omega))
  have NK := Lib.hid (EK.out.trans hk)
  obtain ⟨w4, hw⟩ : ∃ x, w3.setCell ⟨gn, 10, none⟩ (.int .u16 (p 6)) = x := ⟨_, rfl⟩
  rw [hw] at N1 N2 NK hk ⊢
  clear hw hk E1 E2 EK c6 c10 z10
  have c7 := N1.out.c 7 _ rfl
  have c11 := N2.out.c 11 _ rfl
  have z11 := N2.out.z 11 (by show 11 < 12; decide)
  have P2 := Lib.hid (N2.out.set 11 (by show 11 < 12; decide) (.int .u16 (p 7)))
  have PK := Lib.hid (NK.out.trans ((Kp.refl w4 gn gn).setA 11 (.int .u16 (p 7))))
  have hP : ((ndc fun i => if 4 ≤ i ∧ i < 10 then (fun i => p (i - 4)) i else f i).set 10 (.int .u16 (p 6))).set 11 (.int .u16 (p 7)) = ndc (ptN f p) := rfl
  rw [hP] at P2
  clear N1 N2 NK hP
  go_wp2_with fail
  go_end0
  exact ⟨rfl, P2.out, PK.out⟩
theorem step_alloc_list {P : Program} {ops : Array Oper} {o : Oper} {a : Act} {w : World} {K : Act → World → Prop} {Q : Exit → Act → World → Prop} {E : Prop} (hgd : o.guard = none) (ty : TypeId) (cs : List Value) (ho : o.op = .alloc ty)
    (hz : (P.info? ty).map (fun i => i.zero) = some (some (.agg cs.toArray)))
    (h : ∀ w', Hid (Vl w' w.heap.size cs) → Below w.heap.size w w' → w'.heap.size = w.heap.size + 1 → K (a.put o.dst (.pointer (some ⟨w.heap.size, 0, none⟩))) w') : if Region.wanted o (yielded ops a.tmps) = true then Oper.wp P o a w K Q else E := by
  have hw : Region.wanted o (yielded ops a.tmps) = true := by simp [Region.wanted, hgd]
  rw [if_pos hw]
  have hr : (Instr.alloc ty true (.tuple #[])).run P w = .ok (.pointer (some ⟨w.heap.size, 0, none⟩)) (w.alloc (.cells cs.toArray ty)) := by
    cases hq : P.info? ty with
    | none => simp [hq] at hz
    | some i =>
      simp [hq] at hz
      simp [Instr.alloc, zeroValue, typeInfo, hq, hz, newVar, newRow, Value.cells]
  unfold Oper.wp
  simp [execOp, ho, hr, Result.andThen]
  exact h _ (Vl.new w cs ty) ((Below.refl _ _).alloc (Nat.le_refl _) _) (by simp)
theorem yields_bld4 {P : Program} {ops : Array Oper} {S : World → Prop} {op : Oper} {a : Act} (hw : Region.wanted op (yielded ops a.tmps) = true) (ty : TypeId) (i0 i1 i2 i3 : Nat) (x0 x1 x2 x3 : Operand) (ho : op.op = .build ty #[(i0, x0), (i1, x1), (i2, x2), (i3, x3)]) (v0 v1 v2 v3 : Value) (h0 : a.eval x0 = v0) (h1 : a.eval x1 = v1) (h2 : a.eval x2 = v2) (h3 : a.eval x3 = v3) (v : Value)
    (hr : ∀ w, (Instr.build ty #[(i0, v0), (i1, v1), (i2, v2), (i3, v3)]).run P w = .ok v w) : YieldsIf P ops S op v a :=
  .inl ⟨hw, fun w _ => by
    have hr := hr w
    unfold execOp
    simp [ho, h0, h1, h2, h3, hr, Result.andThen]⟩
theorem Tryz.zero27 : (Tryz.prog.info? 68).map (fun i => i.zero) = some (some (.agg (ndc zpt).toArray)) := by kernel_rfl
theorem build27_zero (w : World) : (Instr.build 68 #[]).run Tryz.prog w = .ok (.agg (ndc zpt).toArray) w := by kernel_rfl
def headN (a b c d : Int) : Nat → Int := fun i => if i = 0 then a else if i = 1 then b else if i = 2 then c else if i = 3 then d else 0
theorem build27_head (a b c d : Int) (w : World) : (Instr.build 68 #[(0, .int .u8 a), (1, .int .u8 b), (2, .int .u16 c), (3, .int .u32 d)]).run Tryz.prog w = .ok (.agg (ndc (headN a b c d)).toArray) w := by kernel_rfl
/-- the node that bytes say -/
def decN (f : Nat → Int) : Nat → Int := fun i => if i = 0 then f 0 else if i = 1 then f 1 else if i = 2 then numS f 2 2 else if i = 3 then numS f 4 4 else numS f (8 + 2 * (i - 4)) 2
def tailZ (f : Nat → Int) : Bool := (List.range 8).all fun j => f (24 + j) == 0
def decE (f : Nat → Int) : Int := if tailZ f = true then codeN (decN f) else 28
def decV (f : Nat → Int) : Nat → Int := if decE f = 0 then decN f else zpt
theorem tailZ_iff (f : Nat → Int) : tailZ f = true ↔ ∀ j, j < 8 → f (24 + j) = 0 := by simp [tailZ]
theorem codeN_cases (f : Nat → Int) : codeN f = 0 ∨ codeN f = 28 := by unfold codeN; split <;> simp
def Byt32 (f : Nat → Int) : Prop := ∀ j, j < 32 → 0 ≤ f j ∧ f j < 256
theorem num2_bd {f : Nat → Int} (h : Byt32 f) (o : Nat) (ho : o + 2 ≤ 32) : 0 ≤ numS f o 2 ∧ numS f o 2 < 65536 := (numS_bd f o 2 fun i hi => h (o + i) (by omega)).2.1 (Nat.le_refl _)
theorem num4_bd {f : Nat → Int} (h : Byt32 f) (o : Nat) (ho : o + 4 ≤ 32) : 0 ≤ numS f o 4 ∧ numS f o 4 < 4294967296 := (numS_bd f o 4 fun i hi => h (o + i) (by omega)).2.2.2 (Nat.le_refl _)
theorem decN_ok {f : Nat → Int} (h : Byt32 f) : NdOk (decN f) := ⟨h 0 (by decide), h 1 (by decide), num2_bd h 2 (by decide), num4_bd h 4 (by decide), fun i h1 h2 => by
  unfold decN
  rw [if_neg (by omega), if_neg (by omega), if_neg (by omega), if_neg (by omega)]
  exact num2_bd h _ (by omega)⟩
theorem decN_pt (f : Nat → Int) : ndc (ptN (headN (f 0) (f 1) (numS f 2 2) (numS f 4 4)) (fun i => numS f (8 + 2 * i) 2)) = ndc (decN f) := rfl
set_option maxHeartbeats 40000000 in
set_option maxRecDepth 100000 in
theorem decode_any (f : Nat → Int) (hf : Byt32 f) (w : World) : Calls Tryz.prog 122 #[.agg (byts 32 f).toArray] w fun e w' => e = .returned (.tuple #[.agg (ndc (decV f)).toArray, .int .i64 (decE f)]) ∧ Below w.heap.size w w' := by
  obtain ⟨d27, hu27, hd27⟩ := Tryz.desc27
  obtain ⟨d70, hu70, hd70⟩ := Tryz.desc70
  have HU27 := Lib.hid hu27
  have HD27 := Lib.hid hd27
  have HU70 := Lib.hid hu70
  have HD70 := Lib.hid hd70
  have Hf := Lib.hid hf
  obtain ⟨c0, c1⟩ := num2_bd hf 2 (by decide)
  obtain ⟨d0, d1⟩ := num4_bd hf 4 (by decide)
  have HN : Hid (∀ g o cap c W, c ≤ 4 → o + c ≤ 32 → Fl W g 32 f → Calls Tryz.prog 135 #[.slice (some ⟨g, o, none⟩) c cap] W fun e w' => e = .returned (.int .u32 (numS f o c)) ∧ w' = W) := fun g o cap c W h1 h2 h3 => number_any g o c cap 32 h1 h2 f (fun i hi => hf (o + i) (by omega)) W h3
  have HWr : Hid (IntKind.u16.wrap (numS f 2 2) = numS f 2 2) := (by simp [IntKind.wrap, IntKind.bits, IntKind.signed]; omega : _ = _)
  have HC := Lib.hid (fun W => check_any (decN f) (decN_ok hf) W)
  clear hu27 hd27 hu70 hd70 hf
  go_enter Tryz.func122, Tryz.ntmps122
  go_wp2_with (first | (refine wpList_box_byts (w := w) rfl 203 _ 32 rfl f rfl ?_; intro w1 F1 hb1 hz1; have HB1 := Lib.hid hb1; have hq1 : w.heap.size < w1.heap.size := (by omega); clear hb1 hz1) | (refine wpList_alloc_list (w := w1) rfl 68 rfl (ndc zpt) Tryz.zero27 ?_; intro w2 F2 hb2 hz2; have HB2 := Lib.hid hb2; have hq2 : w1.heap.size < w2.heap.size := (by omega); clear hb2 hz2))
  obtain ⟨b1, hb1⟩ : ∃ b, w.heap.size = b := ⟨_, rfl⟩
  obtain ⟨b2, hb2⟩ : ∃ b, w1.heap.size = b := ⟨_, rfl⟩
  have G1 := Lib.hid (F1.out.below HB2.out F1.out.lt)
  have HB := Lib.hid (HB1.out.trans (HB2.out.mono HB1.out.size))
  have G2 := F2
  rw [hb1, hb2] at hq1
  rw [hb2] at hq2
  rw [hb1] at G1 HB
  rw [hb2] at G2
  have HW := Lib.hid hb1
  try rw [hb1]
  try rw [hb2]
  clear hb1 hb2 HB1 HB2 F1 F2
  go_loop [13] (fun i => ∃ k : Nat, k ≤ 8 ∧ i = .int .i64 k ∧ ∀ j, j < k → f (24 + j) = 0) (fun i => 8 - (Go.RowKit.intOf i).toNat)
  case atStart => exact ⟨0, by omega, rfl, fun j hj => by omega⟩
  case round =>
    obtain ⟨k, hk, rfl, hz⟩ := hrel
    have HZ := Lib.hid hz
    clear hz
    by_cases hlt : k < 8
    · have hkk : (k : Int) < 8 := by omega
      have hcell := G1.out.c (24 + k) (by omega)
      by_cases hx : f (24 + k) = 0
      · have HZ' : Hid (∀ j, j < k + 1 → f (24 + j) = 0) := fun j hj => by
          by_cases e : j = k
          · subst e; exact hx
          · exact HZ.out j (by omega)
        rw [hx] at hcell
        clear hx HZ
        go_wp2_with fail
        go_round
        case rel => exact ⟨k + 1, by omega, by go_num, HZ'.out⟩
        case measure => simp [Go.RowKit.intOf]; omega
      · have hE : decE f = 28 := by
          unfold decE
          rw [if_neg]
          intro h
          exact hx ((tailZ_iff f).1 h k hlt)
        have hV : decV f = zpt := by unfold decV; rw [hE]; rfl
        have HE := Lib.hid hE
        have HV := Lib.hid hV
        have hx0 : (f (24 + k) == 0) = false := by simpa using hx
        have hx1 : (f (24 + k) != 0) = true := by simpa using hx
        clear hE hV hx HZ
        go_wp2_with (first | (refine wpList_yields (.agg (ndc zpt).toArray) (yields_bld0 (by rfl) 68 rfl _ build27_zero) ?_; simp only [Act.put, List.getElem_toArray, List.getElem_cons_zero, List.getElem_cons_succ, List.setIfInBounds_toArray, List.set_cons_zero, List.set_cons_succ]; refine wpList_store_mid rfl 68 _ _ rfl b2 0 (ndc zpt).toArray rfl rfl (G2.out.there0 12 rfl) (size27' _) (all_oneCell_toArray (ndc_one _)) ?_))
        exact bodyPost_ret_by (results_mid_tmp rfl _ _ b2 (ndc zpt) d27 rfl (G2.out.stored (ndc zpt) rfl).range0 HU27.out HD27.out (size27 _)) rfl ⟨by rw [HE.out, HV.out]; rfl, by rw [HW.out]; exact below_setCells HB.out b2 0 (by omega) _⟩
    · obtain rfl : k = 8 := by omega
      have hT : tailZ f = true := (tailZ_iff f).2 HZ.out
      have hE : decE f = codeN (decN f) := by unfold decE; rw [if_pos hT]
      have HE := Lib.hid hE
      clear hE hT HZ
      have x0 := G1.out.c 0 (by decide)
      have x1 := G1.out.c 1 (by decide)
      go_upto_region 7 with fail
      go_cut [6] (fun v wc => ∃ b6, v = .pointer (some ⟨b6, 0, none⟩) ∧ b2 < b6 ∧ Vl wc b6 (ndc (headN (f 0) (f 1) (numS f 2 2) (numS f 4 4))) ∧ Fl wc b1 32 f ∧ Vl wc b2 (ndc zpt) ∧ Below b1 w wc)
      case first =>
        clear x0 x1
        refine wp_region_held (S := fun W => Fl W b1 32 f) (by kernel_rfl) ?_
        change wpAnyH _ _ _ _ _ _ _ _ (World.drew w2)
        have hS0 : Fl w2.drew b1 32 f := G1.out.below (Below.refl w2.heap.size w2).drew G1.out.lt
        have HV0 := Lib.hid (G2.out.keep (Below.refl w2.heap.size w2).drew)
        have HB0 := Lib.hid HB.out.drew
        have hq0 : b2 < w2.drew.heap.size := hq2
        obtain ⟨w0, hw0⟩ : ∃ x, World.drew w2 = x := ⟨_, rfl⟩
        rw [hw0] at hS0 HV0 HB0 hq0 ⊢
        clear hw0
        refine wpAnyH_take (i := 0) (v := ?_) rfl (by kernel_rfl) (by kernel_rfl) (by kernel_rfl) (fun _ _ _ h => h) (Or.inl ⟨by rfl, ?_⟩) hS0 ?_
        rotate_left 1
        · intro W hW
          go_simp
          try with_reducible rfl
        simp only [Act.put, List.getElem_toArray, List.getElem_cons_zero, List.getElem_cons_succ, List.setIfInBounds_toArray, List.set_cons_zero, List.set_cons_succ]
        refine wpAnyH_take (i := 1) (v := ?_) rfl (by kernel_rfl) (by kernel_rfl) (by kernel_rfl) (fun _ _ _ h => h) (Or.inl ⟨by rfl, ?_⟩) hS0 ?_
        rotate_left 1
        · intro W hW
          have c0 := hW.c 0 (by decide)
          go_simp
          try with_reducible rfl
        simp only [Act.put, List.getElem_toArray, List.getElem_cons_zero, List.getElem_cons_succ, List.setIfInBounds_toArray, List.set_cons_zero, List.set_cons_succ]
        refine wpAnyH_take (i := 2) (v := ?_) rfl (by kernel_rfl) (by kernel_rfl) (by kernel_rfl) (fun _ _ _ h => h) (Or.inl ⟨by rfl, ?_⟩) hS0 ?_
        rotate_left 1
        · intro W hW
          go_simp
          try with_reducible rfl
        simp only [Act.put, List.getElem_toArray, List.getElem_cons_zero, List.getElem_cons_succ, List.setIfInBounds_toArray, List.set_cons_zero, List.set_cons_succ]
        refine wpAnyH_take (i := 3) (v := ?_) rfl (by kernel_rfl) (by kernel_rfl) (by kernel_rfl) (fun _ _ _ h => h) (Or.inl ⟨by rfl, ?_⟩) hS0 ?_
        rotate_left 1
        · intro W hW
          have c1 := hW.c 1 (by decide)
          go_simp
          try with_reducible rfl
        simp only [Act.put, List.getElem_toArray, List.getElem_cons_zero, List.getElem_cons_succ, List.setIfInBounds_toArray, List.set_cons_zero, List.set_cons_succ]
        refine wpAnyH_take (i := 4) (v := ?_) rfl (by kernel_rfl) (by kernel_rfl) (by kernel_rfl) (fun _ _ _ h => h) (Or.inl ⟨by rfl, ?_⟩) hS0 ?_
        rotate_left 1
        · intro W hW
          go_simp
          try with_reducible rfl
        simp only [Act.put, List.getElem_toArray, List.getElem_cons_zero, List.getElem_cons_succ, List.setIfInBounds_toArray, List.set_cons_zero, List.set_cons_succ]
        refine wpAnyH_take (i := 7) (v := ?_) rfl (by kernel_rfl) (by kernel_rfl) (by kernel_rfl) (fun _ _ _ h => h) (Or.inl ⟨by rfl, ?_⟩) hS0 ?_
        rotate_left 1
        · intro W hW
          go_simp
          try with_reducible rfl
        simp only [Act.put, List.getElem_toArray, List.getElem_cons_zero, List.getElem_cons_succ, List.setIfInBounds_toArray, List.set_cons_zero, List.set_cons_succ]
        refine wpAnyH_ready (rs := [5, 10]) (by kernel_rfl) (by simp) (AllReadyH.cons rfl (fun KK hKK => ?_) (AllReadyH.cons rfl (fun KK hKK => ?_) AllReadyH.nil))
        · skip
          go_simp
          refine (HN.out b1 2 30 2 w0 (by decide) (by decide) hS0).mono ?_
          rintro e wz ⟨rfl, hwz⟩
          rw [hwz]
          clear hwz
          refine hKK _ _ hS0 ?_
          intro _
          clear hKK KK
          try simp only [Act.put, List.getElem_toArray, List.getElem_cons_zero, List.getElem_cons_succ, List.setIfInBounds_toArray, List.set_cons_zero, List.set_cons_succ]
          refine wpAnyH_take (i := 6) (v := ?_) rfl (by kernel_rfl) (by kernel_rfl) (by kernel_rfl) (fun _ _ _ h => h) (Or.inl ⟨by rfl, ?_⟩) hS0 ?_
          rotate_left 1
          · intro W hW
            have hwr := HWr.out
            go_simp
            try with_reducible rfl
          simp only [Act.put, List.getElem_toArray, List.getElem_cons_zero, List.getElem_cons_succ, List.setIfInBounds_toArray, List.set_cons_zero, List.set_cons_succ]
          refine wpAnyH_ready (rs := [8, 10]) (by kernel_rfl) (by simp) (AllReadyH.cons rfl (fun KK hKK => ?_) (AllReadyH.cons rfl (fun KK hKK => ?_) AllReadyH.nil))
          · skip
            go_simp
            refine (HN.out b1 4 28 4 w0 (by decide) (by decide) hS0).mono ?_
            rintro e wz ⟨rfl, hwz⟩
            rw [hwz]
            clear hwz
            refine hKK _ _ hS0 ?_
            intro _
            clear hKK KK
            try simp only [Act.put, List.getElem_toArray, List.getElem_cons_zero, List.getElem_cons_succ, List.setIfInBounds_toArray, List.set_cons_zero, List.set_cons_succ]
            refine wpAnyH_take (i := 9) (v := .agg (ndc (headN (f 0) (f 1) (numS f 2 2) (numS f 4 4))).toArray) rfl (by kernel_rfl) (by kernel_rfl) (by kernel_rfl) (fun _ _ _ h => h) ?_ hS0 ?_
            · exact yields_bld4 (by rfl) 68 0 1 2 3 (.tmp 22) (.tmp 24) (.tmp 27) (.tmp 29) rfl _ _ _ _ rfl rfl rfl rfl _ (build27_head (f 0) (f 1) (numS f 2 2) (numS f 4 4))
            simp only [Act.put, List.getElem_toArray, List.getElem_cons_zero, List.getElem_cons_succ, List.setIfInBounds_toArray, List.set_cons_zero, List.set_cons_succ]
            refine wpAnyH_ready (rs := [10]) (by kernel_rfl) (by simp) (AllReadyH.cons rfl (fun KK hKK => ?_) AllReadyH.nil)
            refine step_alloc_list rfl 68 (ndc zpt) rfl Tryz.zero27 ?_
            intro w5 HA5 hb5 hz5
            obtain ⟨b6, hb6⟩ : ∃ b6, w0.heap.size = b6 := ⟨_, rfl⟩
            have HV5 := Lib.hid (HV0.out.keep hb5)
            have HB5 := Lib.hid (HB0.out.trans (hb5.mono (by omega)))
            have hS1 : Fl w5 b1 32 f := hS0.below hb5 hS0.lt
            have hq5 : w0.heap.size < w5.heap.size := by omega
            rw [hb6] at HA5 hq0 hq5 ⊢
            clear hS0 hz5 hb5 hb6
            have hS0 := hS1
            clear hS1
            refine hKK _ _ hS0 ?_
            intro _
            clear hKK KK
            try simp only [Act.put, List.getElem_toArray, List.getElem_cons_zero, List.getElem_cons_succ, List.setIfInBounds_toArray, List.set_cons_zero, List.set_cons_succ]
            refine wpAnyH_ready (rs := [11]) (by kernel_rfl) (by simp) (AllReadyH.cons rfl (fun KK hKK => ?_) AllReadyH.nil)
            refine step_store_mid rfl 68 _ _ rfl b6 0 (ndc (headN (f 0) (f 1) (numS f 2 2) (numS f 4 4))).toArray rfl rfl (HA5.out.there0 12 rfl) (size27' _) (all_oneCell_toArray (ndc_one _)) ?_
            rw [List.toList_toArray]
            have HA6 := Lib.hid (HA5.out.stored (ndc (headN (f 0) (f 1) (numS f 2 2) (numS f 4 4))) rfl)
            have hk6 : Kp w5 (w5.setCells b6 0 (ndc (headN (f 0) (f 1) (numS f 2 2) (numS f 4 4)))) b6 b6 := (Kp.refl w5 b6 b6).setCells b6 0 (.inl rfl) _
            have HV6 := Lib.hid (HV5.out.kp hk6 (by omega) (by omega))
            have HB6 := Lib.hid (HB5.out.trans (hk6.below (by omega) (by omega) (by omega)))
            have hS1 := hS0.kp hk6 (by omega) (by omega)
            obtain ⟨w6, hw6⟩ : ∃ x, w5.setCells b6 0 (ndc (headN (f 0) (f 1) (numS f 2 2) (numS f 4 4))) = x := ⟨_, rfl⟩
            rw [hw6] at HA6 HV6 HB6 hS1 ⊢
            clear hS0 hk6 hw6
            have hS0 := hS1
            clear hS1
            refine hKK _ _ hS0 ?_
            intro _
            clear hKK KK
            try simp only [Act.put, List.getElem_toArray, List.getElem_cons_zero, List.getElem_cons_succ, List.setIfInBounds_toArray, List.set_cons_zero, List.set_cons_succ]
            refine wpAnyH_done (by kernel_rfl) ?_ _
            go_wp2_with fail
            go_meet
            case rel => exact ⟨b6, rfl, by omega, HA6.out, hS0, HV6.out, HB6.out⟩
          · skip
            refine step_alloc_list rfl 68 (ndc zpt) rfl Tryz.zero27 ?_
            intro w4 HA4 hb4 hz4
            obtain ⟨b6, hb6⟩ : ∃ b6, w0.heap.size = b6 := ⟨_, rfl⟩
            have HV4 := Lib.hid (HV0.out.keep hb4)
            have HB4 := Lib.hid (HB0.out.trans (hb4.mono (by omega)))
            have hS1 : Fl w4 b1 32 f := hS0.below hb4 hS0.lt
            have hq4 : w0.heap.size < w4.heap.size := by omega
            rw [hb6] at HA4 hq0 hq4 ⊢
            clear hS0 hz4 hb4 hb6
            have hS0 := hS1
            clear hS1
            refine hKK _ _ hS0 ?_
            intro _
            clear hKK KK
            try simp only [Act.put, List.getElem_toArray, List.getElem_cons_zero, List.getElem_cons_succ, List.setIfInBounds_toArray, List.set_cons_zero, List.set_cons_succ]
            refine wpAnyH_ready (rs := [8]) (by kernel_rfl) (by simp) (AllReadyH.cons rfl (fun KK hKK => ?_) AllReadyH.nil)
            go_simp
            refine (HN.out b1 4 28 4 w4 (by decide) (by decide) hS0).mono ?_
            rintro e wz ⟨rfl, hwz⟩
            rw [hwz]
            clear hwz
            refine hKK _ _ hS0 ?_
            intro _
            clear hKK KK
            try simp only [Act.put, List.getElem_toArray, List.getElem_cons_zero, List.getElem_cons_succ, List.setIfInBounds_toArray, List.set_cons_zero, List.set_cons_succ]
            refine wpAnyH_take (i := 9) (v := .agg (ndc (headN (f 0) (f 1) (numS f 2 2) (numS f 4 4))).toArray) rfl (by kernel_rfl) (by kernel_rfl) (by kernel_rfl) (fun _ _ _ h => h) ?_ hS0 ?_
            · exact yields_bld4 (by rfl) 68 0 1 2 3 (.tmp 22) (.tmp 24) (.tmp 27) (.tmp 29) rfl _ _ _ _ rfl rfl rfl rfl _ (build27_head (f 0) (f 1) (numS f 2 2) (numS f 4 4))
            simp only [Act.put, List.getElem_toArray, List.getElem_cons_zero, List.getElem_cons_succ, List.setIfInBounds_toArray, List.set_cons_zero, List.set_cons_succ]
            refine wpAnyH_ready (rs := [11]) (by kernel_rfl) (by simp) (AllReadyH.cons rfl (fun KK hKK => ?_) AllReadyH.nil)
            refine step_store_mid rfl 68 _ _ rfl b6 0 (ndc (headN (f 0) (f 1) (numS f 2 2) (numS f 4 4))).toArray rfl rfl (HA4.out.there0 12 rfl) (size27' _) (all_oneCell_toArray (ndc_one _)) ?_
            rw [List.toList_toArray]
            have HA6 := Lib.hid (HA4.out.stored (ndc (headN (f 0) (f 1) (numS f 2 2) (numS f 4 4))) rfl)
            have hk6 : Kp w4 (w4.setCells b6 0 (ndc (headN (f 0) (f 1) (numS f 2 2) (numS f 4 4)))) b6 b6 := (Kp.refl w4 b6 b6).setCells b6 0 (.inl rfl) _
            have HV6 := Lib.hid (HV4.out.kp hk6 (by omega) (by omega))
            have HB6 := Lib.hid (HB4.out.trans (hk6.below (by omega) (by omega) (by omega)))
            have hS1 := hS0.kp hk6 (by omega) (by omega)
            obtain ⟨w6, hw6⟩ : ∃ x, w4.setCells b6 0 (ndc (headN (f 0) (f 1) (numS f 2 2) (numS f 4 4))) = x := ⟨_, rfl⟩
            rw [hw6] at HA6 HV6 HB6 hS1 ⊢
            clear hS0 hk6 hw6
            have hS0 := hS1
            clear hS1
            refine hKK _ _ hS0 ?_
            intro _
            clear hKK KK
            try simp only [Act.put, List.getElem_toArray, List.getElem_cons_zero, List.getElem_cons_succ, List.setIfInBounds_toArray, List.set_cons_zero, List.set_cons_succ]
            refine wpAnyH_done (by kernel_rfl) ?_ _
            go_wp2_with fail
            go_meet
            case rel => exact ⟨b6, rfl, by omega, HA6.out, hS0, HV6.out, HB6.out⟩
        · skip
          refine step_alloc_list rfl 68 (ndc zpt) rfl Tryz.zero27 ?_
          intro w3 HA3 hb3 hz3
          obtain ⟨b6, hb6⟩ : ∃ b6, w0.heap.size = b6 := ⟨_, rfl⟩
          have HV3 := Lib.hid (HV0.out.keep hb3)
          have HB3 := Lib.hid (HB0.out.trans (hb3.mono (by omega)))
          have hS1 : Fl w3 b1 32 f := hS0.below hb3 hS0.lt
          have hq3 : w0.heap.size < w3.heap.size := by omega
          rw [hb6] at HA3 hq0 hq3 ⊢
          clear hS0 hz3 hb3 hb6
          have hS0 := hS1
          clear hS1
          refine hKK _ _ hS0 ?_
          intro _
          clear hKK KK
          try simp only [Act.put, List.getElem_toArray, List.getElem_cons_zero, List.getElem_cons_succ, List.setIfInBounds_toArray, List.set_cons_zero, List.set_cons_succ]
          refine wpAnyH_ready (rs := [5]) (by kernel_rfl) (by simp) (AllReadyH.cons rfl (fun KK hKK => ?_) AllReadyH.nil)
          go_simp
          refine (HN.out b1 2 30 2 w3 (by decide) (by decide) hS0).mono ?_
          rintro e wz ⟨rfl, hwz⟩
          rw [hwz]
          clear hwz
          refine hKK _ _ hS0 ?_
          intro _
          clear hKK KK
          try simp only [Act.put, List.getElem_toArray, List.getElem_cons_zero, List.getElem_cons_succ, List.setIfInBounds_toArray, List.set_cons_zero, List.set_cons_succ]
          refine wpAnyH_take (i := 6) (v := ?_) rfl (by kernel_rfl) (by kernel_rfl) (by kernel_rfl) (fun _ _ _ h => h) (Or.inl ⟨by rfl, ?_⟩) hS0 ?_
          rotate_left 1
          · intro W hW
            have hwr := HWr.out
            go_simp
            try with_reducible rfl
          simp only [Act.put, List.getElem_toArray, List.getElem_cons_zero, List.getElem_cons_succ, List.setIfInBounds_toArray, List.set_cons_zero, List.set_cons_succ]
          refine wpAnyH_ready (rs := [8]) (by kernel_rfl) (by simp) (AllReadyH.cons rfl (fun KK hKK => ?_) AllReadyH.nil)
          go_simp
          refine (HN.out b1 4 28 4 w3 (by decide) (by decide) hS0).mono ?_
          rintro e wz ⟨rfl, hwz⟩
          rw [hwz]
          clear hwz
          refine hKK _ _ hS0 ?_
          intro _
          clear hKK KK
          try simp only [Act.put, List.getElem_toArray, List.getElem_cons_zero, List.getElem_cons_succ, List.setIfInBounds_toArray, List.set_cons_zero, List.set_cons_succ]
          refine wpAnyH_take (i := 9) (v := .agg (ndc (headN (f 0) (f 1) (numS f 2 2) (numS f 4 4))).toArray) rfl (by kernel_rfl) (by kernel_rfl) (by kernel_rfl) (fun _ _ _ h => h) ?_ hS0 ?_
          · exact yields_bld4 (by rfl) 68 0 1 2 3 (.tmp 22) (.tmp 24) (.tmp 27) (.tmp 29) rfl _ _ _ _ rfl rfl rfl rfl _ (build27_head (f 0) (f 1) (numS f 2 2) (numS f 4 4))
          simp only [Act.put, List.getElem_toArray, List.getElem_cons_zero, List.getElem_cons_succ, List.setIfInBounds_toArray, List.set_cons_zero, List.set_cons_succ]
          refine wpAnyH_ready (rs := [11]) (by kernel_rfl) (by simp) (AllReadyH.cons rfl (fun KK hKK => ?_) AllReadyH.nil)
          refine step_store_mid rfl 68 _ _ rfl b6 0 (ndc (headN (f 0) (f 1) (numS f 2 2) (numS f 4 4))).toArray rfl rfl (HA3.out.there0 12 rfl) (size27' _) (all_oneCell_toArray (ndc_one _)) ?_
          rw [List.toList_toArray]
          have HA6 := Lib.hid (HA3.out.stored (ndc (headN (f 0) (f 1) (numS f 2 2) (numS f 4 4))) rfl)
          have hk6 : Kp w3 (w3.setCells b6 0 (ndc (headN (f 0) (f 1) (numS f 2 2) (numS f 4 4)))) b6 b6 := (Kp.refl w3 b6 b6).setCells b6 0 (.inl rfl) _
          have HV6 := Lib.hid (HV3.out.kp hk6 (by omega) (by omega))
          have HB6 := Lib.hid (HB3.out.trans (hk6.below (by omega) (by omega) (by omega)))
          have hS1 := hS0.kp hk6 (by omega) (by omega)
          obtain ⟨w6, hw6⟩ : ∃ x, w3.setCells b6 0 (ndc (headN (f 0) (f 1) (numS f 2 2) (numS f 4 4))) = x := ⟨_, rfl⟩
          rw [hw6] at HA6 HV6 HB6 hS1 ⊢
          clear hS0 hk6 hw6
          have hS0 := hS1
          clear hS1
          refine hKK _ _ hS0 ?_
          intro _
          clear hKK KK
          try simp only [Act.put, List.getElem_toArray, List.getElem_cons_zero, List.getElem_cons_succ, List.setIfInBounds_toArray, List.set_cons_zero, List.set_cons_succ]
          refine wpAnyH_done (by kernel_rfl) ?_ _
          go_wp2_with fail
          go_meet
          case rel => exact ⟨b6, rfl, by omega, HA6.out, hS0, HV6.out, HB6.out⟩
      case rest =>
        obtain ⟨b6, rfl, hb6, hF6, hF1, hV2, hBB⟩ := hcut
        obtain ⟨wY, rfl⟩ : ∃ x, x = wc := ⟨wc, rfl⟩
        have A6 := Lib.hid hF6
        have A1 := Lib.hid hF1
        have A2 := Lib.hid hV2
        have AB := Lib.hid hBB
        have hl6 := hF6.lt
        clear hF6 hF1 hV2 hBB G1 G2 HB x0 x1
        have hbw : b1 ≤ w.heap.size := Nat.le_of_eq HW.out.symm
        go_wp2_with (refine wpList_alloc_list (w := wY) rfl 231 rfl (ptc zpt) Tryz.zero70 ?_; intro wZ F7 hb7 hz7; have HB7 := Lib.hid hb7; have hq7 : wY.heap.size < wZ.heap.size := (by omega); clear hb7 hz7)
        obtain ⟨b7, hb7⟩ : ∃ b, wY.heap.size = b := ⟨_, rfl⟩
        have E6 := Lib.hid (A6.out.keep HB7.out)
        have E1 := Lib.hid (A1.out.below HB7.out A1.out.lt)
        have E2 := Lib.hid (A2.out.keep HB7.out)
        have EB := Lib.hid (AB.out.trans (HB7.out.mono (by omega)))
        rw [hb7] at F7 hl6 hq7
        try rw [hb7]
        clear hb7 HB7 A6 A1 A2 AB
        go_loopw [31] (fun i wr => ∃ k : Nat, k ≤ 8 ∧ i = .int .i64 k ∧ Vl wr b7 (ptc fun i => if i < k then numS f (8 + 2 * i) 2 else 0) ∧ Vl wr b6 (ndc (headN (f 0) (f 1) (numS f 2 2) (numS f 4 4))) ∧ Fl wr b1 32 f ∧ Vl wr b2 (ndc zpt) ∧ Below b1 w wr) (fun i _ => 8 - (Go.RowKit.intOf i).toNat)
        case atStart => exact ⟨0, by omega, rfl, F7.out, E6.out, E1.out, E2.out, EB.out⟩
        case round =>
          obtain ⟨k, hk, rfl, h7, h6, h1, h2, hBB⟩ := hrel
          have X7 := Lib.hid h7
          have X6 := Lib.hid h6
          have X1 := Lib.hid h1
          have X2 := Lib.hid h2
          have XB := Lib.hid hBB
          clear h7 h6 h1 h2 hBB F7 E6 E1 E2 EB
          by_cases hlt : k < 8
          · have hk8 : k = 0 ∨ k = 1 ∨ k = 2 ∨ k = 3 ∨ k = 4 ∨ k = 5 ∨ k = 6 ∨ k = 7 := by omega
            rcases hk8 with rfl | rfl | rfl | rfl | rfl | rfl | rfl | rfl
            · have HNk := Lib.hid (HN.out b1 8 24 2 wr (by decide) (by decide) X1.out)
              have hxb := num2_bd Hf.out 8 (by decide)
              obtain ⟨x, hx⟩ : ∃ x, numS f 8 2 = x := ⟨_, rfl⟩
              rw [hx] at HNk hxb
              obtain ⟨hx0, hx1⟩ := hxb
              have hwr : IntKind.u16.wrap x = x := (by simp [IntKind.wrap, IntKind.bits, IntKind.signed]; omega : _ = _)
              have c7 := X7.out.c 0 _ rfl
              have z7 := X7.out.z 0 (by show 0 < 8; decide)
              have HX := Lib.hid hx
              clear hx
              go_wp2_with fail
              refine HNk.out.mono ?_
              rintro e wz ⟨rfl, hwz⟩
              rw [hwz]
              clear hwz HNk
              have Y7 := Lib.hid (X7.out.set 0 (by show 0 < 8; decide) (.int .u16 x))
              have hk' : Kp wr (wr.setCell ⟨b7, 0, none⟩ (.int .u16 x)) b7 b7 := (Kp.refl _ _ _).setA 0 _
              have Y6 := Lib.hid (X6.out.kp hk' (by omega) (by omega))
              have Y1 := Lib.hid (X1.out.kp hk' (by omega) (by omega))
              have Y2 := Lib.hid (X2.out.kp hk' (by omega) (by omega))
              have YB := Lib.hid (XB.out.trans (hk'.below (by omega) (by omega) (by have := XB.out.size; omega)))
              have hP : (ptc fun i => if i < 0 then numS f (8 + 2 * i) 2 else 0).set 0 (.int .u16 (numS f 8 2)) = ptc fun i => if i < 0 + 1 then numS f (8 + 2 * i) 2 else 0 := rfl
              rw [HX.out] at hP
              rw [hP] at Y7
              clear hk' X7 X6 X1 X2 XB hP
              go_wp2_with fail
              go_roundw
              case rel => exact ⟨1, by decide, rfl, Y7.out, Y6.out, Y1.out, Y2.out, YB.out⟩
              case measure => simp [Go.RowKit.intOf]
            · have HNk := Lib.hid (HN.out b1 10 22 2 wr (by decide) (by decide) X1.out)
              have hxb := num2_bd Hf.out 10 (by decide)
              obtain ⟨x, hx⟩ : ∃ x, numS f 10 2 = x := ⟨_, rfl⟩
              rw [hx] at HNk hxb
              obtain ⟨hx0, hx1⟩ := hxb
              have hwr : IntKind.u16.wrap x = x := (by simp [IntKind.wrap, IntKind.bits, IntKind.signed]; omega : _ = _)
              have c7 := X7.out.c 1 _ rfl
              have z7 := X7.out.z 1 (by show 1 < 8; decide)
              have HX := Lib.hid hx
              clear hx
              go_wp2_with fail
              refine HNk.out.mono ?_
              rintro e wz ⟨rfl, hwz⟩
              rw [hwz]
              clear hwz HNk
              have Y7 := Lib.hid (X7.out.set 1 (by show 1 < 8; decide) (.int .u16 x))
              have hk' : Kp wr (wr.setCell ⟨b7, 1, none⟩ (.int .u16 x)) b7 b7 := (Kp.refl _ _ _).setA 1 _
              have Y6 := Lib.hid (X6.out.kp hk' (by omega) (by omega))
              have Y1 := Lib.hid (X1.out.kp hk' (by omega) (by omega))
              have Y2 := Lib.hid (X2.out.kp hk' (by omega) (by omega))
              have YB := Lib.hid (XB.out.trans (hk'.below (by omega) (by omega) (by have := XB.out.size; omega)))
              have hP : (ptc fun i => if i < 1 then numS f (8 + 2 * i) 2 else 0).set 1 (.int .u16 (numS f 10 2)) = ptc fun i => if i < 1 + 1 then numS f (8 + 2 * i) 2 else 0 := rfl
              rw [HX.out] at hP
              rw [hP] at Y7
              clear hk' X7 X6 X1 X2 XB hP
              go_wp2_with fail
              go_roundw
              case rel => exact ⟨2, by decide, rfl, Y7.out, Y6.out, Y1.out, Y2.out, YB.out⟩
              case measure => simp [Go.RowKit.intOf]
            · have HNk := Lib.hid (HN.out b1 12 20 2 wr (by decide) (by decide) X1.out)
              have hxb := num2_bd Hf.out 12 (by decide)
              obtain ⟨x, hx⟩ : ∃ x, numS f 12 2 = x := ⟨_, rfl⟩
              rw [hx] at HNk hxb
              obtain ⟨hx0, hx1⟩ := hxb
              have hwr : IntKind.u16.wrap x = x := (by simp [IntKind.wrap, IntKind.bits, IntKind.signed]; omega : _ = _)
              have c7 := X7.out.c 2 _ rfl
              have z7 := X7.out.z 2 (by show 2 < 8; decide)
              have HX := Lib.hid hx
              clear hx
              go_wp2_with fail
              refine HNk.out.mono ?_
              rintro e wz ⟨rfl, hwz⟩
              rw [hwz]
              clear hwz HNk
              have Y7 := Lib.hid (X7.out.set 2 (by show 2 < 8; decide) (.int .u16 x))
              have hk' : Kp wr (wr.setCell ⟨b7, 2, none⟩ (.int .u16 x)) b7 b7 := (Kp.refl _ _ _).setA 2 _
              have Y6 := Lib.hid (X6.out.kp hk' (by omega) (by omega))
              have Y1 := Lib.hid (X1.out.kp hk' (by omega) (by omega))
              have Y2 := Lib.hid (X2.out.kp hk' (by omega) (by omega))
              have YB := Lib.hid (XB.out.trans (hk'.below (by omega) (by omega) (by have := XB.out.size; omega)))
              have hP : (ptc fun i => if i < 2 then numS f (8 + 2 * i) 2 else 0).set 2 (.int .u16 (numS f 12 2)) = ptc fun i => if i < 2 + 1 then numS f (8 + 2 * i) 2 else 0 := rfl
              rw [HX.out] at hP
              rw [hP] at Y7
              clear hk' X7 X6 X1 X2 XB hP
              go_wp2_with fail
              go_roundw
              case rel => exact ⟨3, by decide, rfl, Y7.out, Y6.out, Y1.out, Y2.out, YB.out⟩
              case measure => simp [Go.RowKit.intOf]
            · have HNk := Lib.hid (HN.out b1 14 18 2 wr (by decide) (by decide) X1.out)
              have hxb := num2_bd Hf.out 14 (by decide)
              obtain ⟨x, hx⟩ : ∃ x, numS f 14 2 = x := ⟨_, rfl⟩
              rw [hx] at HNk hxb
              obtain ⟨hx0, hx1⟩ := hxb
              have hwr : IntKind.u16.wrap x = x := (by simp [IntKind.wrap, IntKind.bits, IntKind.signed]; omega : _ = _)
              have c7 := X7.out.c 3 _ rfl
              have z7 := X7.out.z 3 (by show 3 < 8; decide)
              have HX := Lib.hid hx
              clear hx
              go_wp2_with fail
              refine HNk.out.mono ?_
              rintro e wz ⟨rfl, hwz⟩
              rw [hwz]
              clear hwz HNk
              have Y7 := Lib.hid (X7.out.set 3 (by show 3 < 8; decide) (.int .u16 x))
              have hk' : Kp wr (wr.setCell ⟨b7, 3, none⟩ (.int .u16 x)) b7 b7 := (Kp.refl _ _ _).setA 3 _
              have Y6 := Lib.hid (X6.out.kp hk' (by omega) (by omega))
              have Y1 := Lib.hid (X1.out.kp hk' (by omega) (by omega))
              have Y2 := Lib.hid (X2.out.kp hk' (by omega) (by omega))
              have YB := Lib.hid (XB.out.trans (hk'.below (by omega) (by omega) (by have := XB.out.size; omega)))
              have hP : (ptc fun i => if i < 3 then numS f (8 + 2 * i) 2 else 0).set 3 (.int .u16 (numS f 14 2)) = ptc fun i => if i < 3 + 1 then numS f (8 + 2 * i) 2 else 0 := rfl
              rw [HX.out] at hP
              rw [hP] at Y7
              clear hk' X7 X6 X1 X2 XB hP
              go_wp2_with fail
              go_roundw
              case rel => exact ⟨4, by decide, rfl, Y7.out, Y6.out, Y1.out, Y2.out, YB.out⟩
              case measure => simp [Go.RowKit.intOf]
            · have HNk := Lib.hid (HN.out b1 16 16 2 wr (by decide) (by decide) X1.out)
              have hxb := num2_bd Hf.out 16 (by decide)
              obtain ⟨x, hx⟩ : ∃ x, numS f 16 2 = x := ⟨_, rfl⟩
              rw [hx] at HNk hxb
              obtain ⟨hx0, hx1⟩ := hxb
              have hwr : IntKind.u16.wrap x = x := (by simp [IntKind.wrap, IntKind.bits, IntKind.signed]; omega : _ = _)
              have c7 := X7.out.c 4 _ rfl
              have z7 := X7.out.z 4 (by show 4 < 8; decide)
              have HX := Lib.hid hx
              clear hx
              go_wp2_with fail
              refine HNk.out.mono ?_
              rintro e wz ⟨rfl, hwz⟩
              rw [hwz]
              clear hwz HNk
              have Y7 := Lib.hid (X7.out.set 4 (by show 4 < 8; decide) (.int .u16 x))
              have hk' : Kp wr (wr.setCell ⟨b7, 4, none⟩ (.int .u16 x)) b7 b7 := (Kp.refl _ _ _).setA 4 _
              have Y6 := Lib.hid (X6.out.kp hk' (by omega) (by omega))
              have Y1 := Lib.hid (X1.out.kp hk' (by omega) (by omega))
              have Y2 := Lib.hid (X2.out.kp hk' (by omega) (by omega))
              have YB := Lib.hid (XB.out.trans (hk'.below (by omega) (by omega) (by have := XB.out.size; omega)))
              have hP : (ptc fun i => if i < 4 then numS f (8 + 2 * i) 2 else 0).set 4 (.int .u16 (numS f 16 2)) = ptc fun i => if i < 4 + 1 then numS f (8 + 2 * i) 2 else 0 := rfl
              rw [HX.out] at hP
              rw [hP] at Y7
              clear hk' X7 X6 X1 X2 XB hP
              go_wp2_with fail
              go_roundw
              case rel => exact ⟨5, by decide, rfl, Y7.out, Y6.out, Y1.out, Y2.out, YB.out⟩
              case measure => simp [Go.RowKit.intOf]
            · have HNk := Lib.hid (HN.out b1 18 14 2 wr (by decide) (by decide) X1.out)
              have hxb := num2_bd Hf.out 18 (by decide)
              obtain ⟨x, hx⟩ : ∃ x, numS f 18 2 = x := ⟨_, rfl⟩
              rw [hx] at HNk hxb
              obtain ⟨hx0, hx1⟩ := hxb
              have hwr : IntKind.u16.wrap x = x := (by simp [IntKind.wrap, IntKind.bits, IntKind.signed]; omega : _ = _)
              have c7 := X7.out.c 5 _ rfl
              have z7 := X7.out.z 5 (by show 5 < 8; decide)
              have HX := Lib.hid hx
              clear hx
              go_wp2_with fail
              refine HNk.out.mono ?_
              rintro e wz ⟨rfl, hwz⟩
              rw [hwz]
              clear hwz HNk
              have Y7 := Lib.hid (X7.out.set 5 (by show 5 < 8; decide) (.int .u16 x))
              have hk' : Kp wr (wr.setCell ⟨b7, 5, none⟩ (.int .u16 x)) b7 b7 := (Kp.refl _ _ _).setA 5 _
              have Y6 := Lib.hid (X6.out.kp hk' (by omega) (by omega))
              have Y1 := Lib.hid (X1.out.kp hk' (by omega) (by omega))
              have Y2 := Lib.hid (X2.out.kp hk' (by omega) (by omega))
              have YB := Lib.hid (XB.out.trans (hk'.below (by omega) (by omega) (by have := XB.out.size; omega)))
              have hP : (ptc fun i => if i < 5 then numS f (8 + 2 * i) 2 else 0).set 5 (.int .u16 (numS f 18 2)) = ptc fun i => if i < 5 + 1 then numS f (8 + 2 * i) 2 else 0 := rfl
              rw [HX.out] at hP
              rw [hP] at Y7
              clear hk' X7 X6 X1 X2 XB hP
              go_wp2_with fail
              go_roundw
              case rel => exact ⟨6, by decide, rfl, Y7.out, Y6.out, Y1.out, Y2.out, YB.out⟩
              case measure => simp [Go.RowKit.intOf]
            · have HNk := Lib.hid (HN.out b1 20 12 2 wr (by decide) (by decide) X1.out)
              have hxb := num2_bd Hf.out 20 (by decide)
              obtain ⟨x, hx⟩ : ∃ x, numS f 20 2 = x := ⟨_, rfl⟩
              rw [hx] at HNk hxb
              obtain ⟨hx0, hx1⟩ := hxb
              have hwr : IntKind.u16.wrap x = x := (by simp [IntKind.wrap, IntKind.bits, IntKind.signed]; omega : _ = _)
              have c7 := X7.out.c 6 _ rfl
              have z7 := X7.out.z 6 (by show 6 < 8; decide)
              have HX := Lib.hid hx
              clear hx
              go_wp2_with fail
              refine HNk.out.mono ?_
              rintro e wz ⟨rfl, hwz⟩
              rw [hwz]
              clear hwz HNk
              have Y7 := Lib.hid (X7.out.set 6 (by show 6 < 8; decide) (.int .u16 x))
              have hk' : Kp wr (wr.setCell ⟨b7, 6, none⟩ (.int .u16 x)) b7 b7 := (Kp.refl _ _ _).setA 6 _
              have Y6 := Lib.hid (X6.out.kp hk' (by omega) (by omega))
              have Y1 := Lib.hid (X1.out.kp hk' (by omega) (by omega))
              have Y2 := Lib.hid (X2.out.kp hk' (by omega) (by omega))
              have YB := Lib.hid (XB.out.trans (hk'.below (by omega) (by omega) (by have := XB.out.size; omega)))
              have hP : (ptc fun i => if i < 6 then numS f (8 + 2 * i) 2 else 0).set 6 (.int .u16 (numS f 20 2)) = ptc fun i => if i < 6 + 1 then numS f (8 + 2 * i) 2 else 0 := rfl
              rw [HX.out] at hP
              rw [hP] at Y7
              clear hk' X7 X6 X1 X2 XB hP
              go_wp2_with fail
              go_roundw
              case rel => exact ⟨7, by decide, rfl, Y7.out, Y6.out, Y1.out, Y2.out, YB.out⟩
              case measure => simp [Go.RowKit.intOf]
            · have HNk := Lib.hid (HN.out b1 22 10 2 wr (by decide) (by decide) X1.out)
              have hxb := num2_bd Hf.out 22 (by decide)
              obtain ⟨x, hx⟩ : ∃ x, numS f 22 2 = x := ⟨_, rfl⟩
              rw [hx] at HNk hxb
              obtain ⟨hx0, hx1⟩ := hxb
              have hwr : IntKind.u16.wrap x = x := (by simp [IntKind.wrap, IntKind.bits, IntKind.signed]; omega : _ = _)
              have c7 := X7.out.c 7 _ rfl
              have z7 := X7.out.z 7 (by show 7 < 8; decide)
              have HX := Lib.hid hx
              clear hx
              go_wp2_with fail
              refine HNk.out.mono ?_
              rintro e wz ⟨rfl, hwz⟩
              rw [hwz]
              clear hwz HNk
              have Y7 := Lib.hid (X7.out.set 7 (by show 7 < 8; decide) (.int .u16 x))
              have hk' : Kp wr (wr.setCell ⟨b7, 7, none⟩ (.int .u16 x)) b7 b7 := (Kp.refl _ _ _).setA 7 _
              have Y6 := Lib.hid (X6.out.kp hk' (by omega) (by omega))
              have Y1 := Lib.hid (X1.out.kp hk' (by omega) (by omega))
              have Y2 := Lib.hid (X2.out.kp hk' (by omega) (by omega))
              have YB := Lib.hid (XB.out.trans (hk'.below (by omega) (by omega) (by have := XB.out.size; omega)))
              have hP : (ptc fun i => if i < 7 then numS f (8 + 2 * i) 2 else 0).set 7 (.int .u16 (numS f 22 2)) = ptc fun i => if i < 7 + 1 then numS f (8 + 2 * i) 2 else 0 := rfl
              rw [HX.out] at hP
              rw [hP] at Y7
              clear hk' X7 X6 X1 X2 XB hP
              go_wp2_with fail
              go_roundw
              case rel => exact ⟨8, by decide, rfl, Y7.out, Y6.out, Y1.out, Y2.out, YB.out⟩
              case measure => simp [Go.RowKit.intOf]
          · obtain rfl : k = 8 := by omega
            have hP8 : (ptc fun i => if i < 8 then numS f (8 + 2 * i) 2 else 0) = ptc fun i => numS f (8 + 2 * i) 2 := rfl
            rw [hP8] at X7
            clear hP8
            have HR7 := Lib.hid X7.out.range0
            go_wp2_with (refine wpList_load_mid rfl 231 _ rfl b7 0 rfl (ptc fun i => numS f (8 + 2 * i) 2) d70 HR7.out HU70.out HD70.out (size70 _) ?_)
            refine (point_any26 b6 (headN (f 0) (f 1) (numS f 2 2) (numS f 4 4)) (fun i => numS f (8 + 2 * i) 2) wr X6.out).mono ?_
            rintro e wp ⟨rfl, hV, hk'⟩
            rw [decN_pt] at hV
            have P6 := Lib.hid hV
            have P2 := Lib.hid (X2.out.kp hk' (by omega) (by omega))
            have PB := Lib.hid (XB.out.trans (hk'.below (by omega) (by omega) (by have := XB.out.size; omega)))
            clear hV hk' X7 X6 X1 X2 XB HR7
            have HR6 := Lib.hid P6.out.range0
            go_wp2_with (refine wpList_load_mid rfl 68 _ rfl b6 0 rfl (ndc (decN f)) d27 HR6.out HU27.out HD27.out (size27 _) ?_)
            refine (HC.out wp).mono ?_
            rintro e wq ⟨rfl, hb⟩
            have Q6 := Lib.hid (P6.out.keep hb)
            have Q2 := Lib.hid (P2.out.keep hb)
            have QB := Lib.hid (PB.out.trans (hb.mono (by have := PB.out.size; omega)))
            clear hb P6 P2 PB HR6
            have HR6 := Lib.hid Q6.out.range0
            rcases codeN_cases (decN f) with hc | hc
            · have hV : decV f = decN f := by unfold decV; rw [HE.out, hc]; rfl
              have HV := Lib.hid hV
              have HC0 := Lib.hid hc
              rw [hc]
              clear hc hV
              go_wp2_with (first | (refine wpList_load_mid rfl 68 _ rfl b6 0 rfl (ndc (decN f)) d27 HR6.out HU27.out HD27.out (size27 _) ?_; simp only [Act.put, List.getElem_toArray, List.getElem_cons_zero, List.getElem_cons_succ, List.setIfInBounds_toArray, List.set_cons_zero, List.set_cons_succ]; refine wpList_store_mid rfl 68 _ _ rfl b2 0 (ndc (decN f)).toArray rfl rfl (Q2.out.there0 12 rfl) (size27' _) (all_oneCell_toArray (ndc_one _)) ?_))
              exact bodyPost_ret_by (results_mid_tmp rfl _ _ b2 (ndc (decN f)) d27 rfl (Q2.out.stored (ndc (decN f)) rfl).range0 HU27.out HD27.out (size27 _)) rfl ⟨by rw [HE.out, HV.out, HC0.out]; rfl, by rw [HW.out]; exact below_setCells QB.out b2 0 (by omega) _⟩
            · have hV : decV f = zpt := by unfold decV; rw [HE.out, hc]; rfl
              have HV := Lib.hid hV
              have HC0 := Lib.hid hc
              rw [hc]
              clear hc hV
              go_wp2_with (first | (refine wpList_yields (.agg (ndc zpt).toArray) (yields_bld0 (by rfl) 68 rfl _ build27_zero) ?_) | (refine wpList_store_mid rfl 68 _ _ rfl b2 0 (ndc zpt).toArray rfl rfl (Q2.out.there0 12 rfl) (size27' _) (all_oneCell_toArray (ndc_one _)) ?_))
              exact bodyPost_ret_by (results_mid_tmp rfl _ _ b2 (ndc zpt) d27 rfl (Q2.out.stored (ndc zpt) rfl).range0 HU27.out HD27.out (size27 _)) rfl ⟨by rw [HE.out, HV.out, HC0.out]; rfl, by rw [HW.out]; exact below_setCells QB.out b2 0 (by omega) _⟩
theorem wpAnyH_monoS {P : Program} {md : Region.Mode} {ops : Array Oper} {Q : Exit → Act → World → Prop} {S S' : World → Prop} (h : ∀ w, S' w → S w) :
    ∀ (fuel : Nat) (listed : Array Bool) (a : Act) (w : World), wpAnyH P md ops Q S' fuel listed a w → wpAnyH P md ops Q S fuel listed a w
  | 0, _, _, _, hh => hh
  | fuel + 1, listed, a, w, hh => ⟨hh.1, fun i hi => wpOp_mono (fun a' w' h' => ⟨h w' h'.1, wpAnyH_monoS h fuel _ a' w' h'.2⟩) (hh.2 i hi)⟩
theorem encF_byt {f : Nat → Int} (h : NdOk f) : Byt32 (encF f) := by
  intro j hj
  unfold encF
  by_cases h0 : j = 0
  · rw [if_pos h0]; exact h.k
  rw [if_neg h0]
  by_cases h1 : j = 1
  · rw [if_pos h1]; exact h.l
  rw [if_neg h1]
  repeat' split
  all_goals first | exact dig_bd _ _ | exact ⟨Int.le_refl _, by decide⟩
theorem num2_dig (x : Int) (h0 : 0 ≤ x) (h1 : x < 65536) : dig x 0 + dig x 1 * 256 = x := by
  unfold dig
  simp
  omega
theorem dec_enc {f : Nat → Int} (h : NdOk f) : ∀ i, i < 12 → decN (encF f) i = f i := by
  have hp (k : Nat) (hk : k < 8) : numS (encF f) (8 + 2 * k) 2 = f (4 + k) := by
    have e0 : encF f (8 + 2 * k) = dig (f (4 + k)) 0 := by
      unfold encF
      rw [if_neg (by omega), if_neg (by omega), if_neg (by omega), if_neg (by omega), if_pos (by omega), show (8 + 2 * k - 8) / 2 = k by omega, show (8 + 2 * k - 8) % 2 = 0 by omega]
    have e1 : encF f (8 + 2 * k + 1) = dig (f (4 + k)) 1 := by
      unfold encF
      rw [if_neg (by omega), if_neg (by omega), if_neg (by omega), if_neg (by omega), if_pos (by omega), show (8 + 2 * k + 1 - 8) / 2 = k by omega, show (8 + 2 * k + 1 - 8) % 2 = 1 by omega]
    have hb := h.p (4 + k) (by omega) (by omega)
    have hd := num2_dig (f (4 + k)) hb.1 hb.2
    simp only [numS, Nat.add_zero, e0, e1]
    simp
    omega
  intro i hi
  by_cases h0 : i = 0
  · subst h0; rfl
  by_cases h1 : i = 1
  · subst h1; rfl
  by_cases h2 : i = 2
  · subst h2
    have hd := num2_dig (f 2) h.g.1 h.g.2
    show numS (encF f) 2 2 = f 2
    have e0 : encF f 2 = dig (f 2) 0 := rfl
    have e1 : encF f 3 = dig (f 2) 1 := rfl
    simp only [numS, Nat.add_zero, e0, e1]
    simp
    omega
  by_cases h3 : i = 3
  · subst h3
    show numS (encF f) 4 4 = f 3
    have e0 : encF f 4 = dig (f 3) 0 := rfl
    have e1 : encF f 5 = dig (f 3) 1 := rfl
    have e2 : encF f 6 = dig (f 3) 2 := rfl
    have e3 : encF f 7 = dig (f 3) 3 := rfl
    have hs := h.s
    simp only [numS, Nat.add_zero, e0, e1, e2, e3]
    unfold dig
    simp
    omega
  · unfold decN
    rw [if_neg h0, if_neg h1, if_neg h2, if_neg h3, hp (i - 4) (by omega), show 4 + (i - 4) = i by omega]
theorem tail_enc (f : Nat → Int) : tailZ (encF f) = true := by
  rw [tailZ_iff]
  intro j hj
  unfold encF
  rw [if_neg (by omega), if_neg (by omega), if_neg (by omega), if_neg (by omega), if_neg (by omega)]
theorem ndc_congr {f g : Nat → Int} (h : ∀ i, i < 12 → f i = g i) : ndc f = ndc g := by
  unfold ndc
  rw [h 0 (by decide), h 1 (by decide), h 2 (by decide), h 3 (by decide), h 4 (by decide), h 5 (by decide), h 6 (by decide), h 7 (by decide), h 8 (by decide), h 9 (by decide), h 10 (by decide), h 11 (by decide)]
theorem eqb_congr {n : Nat} {f g f' g' : Nat → Int} (h : ∀ i, i < n → f i = f' i) (h' : ∀ i, i < n → g i = g' i) : eqb n f g = eqb n f' g' := by
  rw [Bool.eq_iff_iff, eqb_iff, eqb_iff]
  exact ⟨fun e i hi => by rw [← h i hi, ← h' i hi]; exact e i hi, fun e i hi => by rw [h i hi, h' i hi]; exact e i hi⟩
theorem blank_congr {f g : Nat → Int} (h : ∀ i, i < 12 → f i = g i) : blankB f = blankB g := by
  unfold blankB
  exact eqb_congr h (fun i _ => by unfold genN; rw [h 2 (by decide)])
theorem code_congr {f g : Nat → Int} (h : ∀ i, i < 12 → f i = g i) : codeN f = codeN g := by
  unfold codeN okN
  rw [blank_congr h, h 0 (by decide), h 1 (by decide), h 3 (by decide)]
theorem decE_enc {f : Nat → Int} (h : NdOk f) : decE (encF f) = codeN f := by
  unfold decE
  rw [if_pos (tail_enc f), code_congr (dec_enc h)]
theorem ndc_dec {f : Nat → Int} (h : NdOk f) (hc : codeN f = 0) : ndc (decV (encF f)) = ndc f := by
  unfold decV
  rw [decE_enc h, if_pos hc]
  exact ndc_congr (dec_enc h)
theorem ndc_dec0 {f : Nat → Int} (h : NdOk f) (hc : codeN f ≠ 0) : ndc (decV (encF f)) = ndc zpt := by
  unfold decV
  rw [decE_enc h, if_neg hc]
theorem zpt_ok : NdOk zpt := ⟨⟨Int.le_refl _, by show (0 : Int) < 256; decide⟩, ⟨Int.le_refl _, by show (0 : Int) < 256; decide⟩, ⟨Int.le_refl _, by show (0 : Int) < 65536; decide⟩, ⟨Int.le_refl _, by show (0 : Int) < 4294967296; decide⟩, fun _ _ _ => ⟨Int.le_refl _, by show (0 : Int) < 65536; decide⟩⟩
end Go.Proofs.YtnfadmifdncjoaaGreat
