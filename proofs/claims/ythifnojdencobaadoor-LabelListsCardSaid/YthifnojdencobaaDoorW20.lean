import Derived.Test.YthifnojdencobaaDoorW21
namespace Go.Proofs.YthifnojdencobaaDoor
open Go.RowKit

set_option maxHeartbeats 4000000 in
set_option maxRecDepth 100000 in
theorem lists_walk (v : Value) (ls : List (Int × Int)) (lx cx : Int) (joined : Bool) (w : World) (hx : 0 ≤ cx ∧ cx < 65536) (hm : ls.length ≤ maxLen) (hran : InRange ls) (hlv : ∀ x ∈ ls, 0 ≤ x.1 ∧ x.1 ≤ 255) (hL0 : Labs w v ls) (hnn : ∀ n c, v = .slice none n c → n = 0 ∧ c = 0) :
    Calls Tryd.prog 7 #[v, .agg #[.int .u8 lx, .int .u16 cx], .bool joined] w fun e w' => e = .returned (.bool true) ∧ Below w.heap.size w w' := by
  obtain ⟨i25, hi25, hz0, hz1, hz2⟩ := info_parts Tryd.info25
  obtain ⟨ad, cap, rfl⟩ := hL0.form
  unfold maxLen at hm
  have HL := Lib.hid hL0
  have HRan := Lib.hid hran
  have HLv := Lib.hid hlv
  have HNN := Lib.hid hnn
  clear hL0 hran hlv hnn
  go_enter Tryd.func7, Tryd.ntmps7
  go_wp2_with fail
  refine (awake_any _).mono ?_
  rintro e w1 ⟨rfl, hb1⟩
  have hB1 : Below w.heap.size w w1 := (below_more (Below.refl _ w) _).trans (hb1.mono (by simp))
  have HPx := Lib.hid ((Pair.new w (.int .u8 lx) (.int .u16 cx) 25).below hb1 (by simp))
  clear hb1
  have HL1 := Lib.hid (HL.out.below hB1)
  by_cases hlen : 60 < ls.length
  · have hd : decide ((60 : Int) < (ls.length : Int)) = true := by simp; omega
    go_wp2
    go_ret
    exact ⟨rfl, hB1⟩
  · have hd : decide ((60 : Int) < (ls.length : Int)) = false := by simp; omega
    have hm60 : ls.length ≤ 60 := by omega
    go_upto_region 5 with fail
    go_cut [0] (fun s0 wx => ∃ v', s0 = v' ∧ wx.ownsRow w1.heap.size 25 2 v' ls.length (flat ls) ∧ Below w1.heap.size w1 wx)
    case first =>
      have hown0 : (w1.alloc (.cells #[] 25)).ownsRow w1.heap.size 25 2 (.slice (some ⟨w1.heap.size, 0, none⟩) 0 0) 0 [] := World.ownsRow_lit w1 #[] 0 (Nat.le_refl _) (by simp) rfl
      have hBe : Below w1.heap.size w1 (w1.alloc (.cells #[] 25)) := below_more (Below.refl _ w1) _
      rcases HL1.out with ⟨a', cap', he, rfl⟩ | ⟨b, off, cap', he, hbl, _, h0, h1⟩
      · injection he with e1 e2 e3
        subst e1 e3
        rcases ad with _ | a
        · obtain ⟨_, hc0⟩ := HNN.out _ _ rfl
          subst hc0
          go_wp2_with (first | (at_builtin; refine wpList_append_own_none rfl _ _ 37 rfl w1.heap.size 25 i25 2 Tryd.underlying37 hi25 _ 0 [] rfl hown0 rfl ?_))
          go_meet
          exact ⟨_, rfl, hown0, hBe⟩
        · go_wp2_with (first | (at_builtin; refine wpList_append_own _ rfl _ _ 37 rfl w1.heap.size 25 i25 (.agg #[.int .u8 0, .int .u16 0]) 2 4 Tryd.underlying37 hi25 hz0 hz1 hz2 rfl (by decide) _ 0 [] rfl hown0 a 0 cap [] rfl rfl (by intro j u h; simp at h) (by intro u h; cases h) (by simp) (by omega) (by simp) ?_; intro v' w2 hown' hgrow _))
          have hb2 := hBe.grown hgrow (by simp) (ownsRow_block hown0)
          clear hgrow
          go_wp2_with fail
          go_meet
          exact ⟨_, rfl, by simpa [flat] using hown', hb2⟩
      · injection he with e1 e2 e3
        subst e1 e3
        have hnews := flat_cells (w := w1.alloc (.cells #[] 25)) (fun i hi => (hBe.cell (p := ⟨b, off + i * 2, none⟩) hbl).trans (h0 i hi)) (fun i hi => (hBe.cell (p := ⟨b, off + i * 2 + 1, none⟩) hbl).trans (h1 i hi))
        have HN := Lib.hid hnews
        clear hnews h0 h1
        go_wp2_with (first | (at_builtin; refine wpList_append_own _ rfl _ _ 37 rfl w1.heap.size 25 i25 (.agg #[.int .u8 0, .int .u16 0]) 2 4 Tryd.underlying37 hi25 hz0 hz1 hz2 rfl (by decide) _ 0 [] rfl hown0 ⟨b, off, none⟩ ls.length cap (flat ls) rfl (flat_len ls) HN.out (flat_one ls) (by unfold maxLen; omega) (by omega) (by simp) ?_; intro v' w2 hown' hgrow _))
        have hb2 := hBe.grown hgrow (by simp) (ownsRow_block hown0)
        clear hgrow
        go_wp2_with fail
        go_meet
        exact ⟨_, rfl, by simpa using hown', hb2⟩
    case rest =>
      obtain ⟨v', rfl, hown, hb⟩ := hcut
      rcases Nat.eq_zero_or_pos ls.length with hzero | hpos
      · obtain rfl := List.eq_nil_of_length_eq_zero hzero
        obtain ⟨a', c', rfl⟩ := (ownsRow_labs hown).form
        have HB := Lib.hid hb
        clear hown hb
        simp only [List.length_nil]
        obtain ⟨hp0, p0, p1, -, -⟩ := id HPx.out
        have c0 := (HB.out.cell (p := ⟨w.heap.size, 0, none⟩) hp0).trans p0
        have c1 := (HB.out.cell (p := ⟨w.heap.size, 1, none⟩) hp0).trans p1
        clear p0 p1
        go_wp2_with fail
        refine wp_loop_rounds 1 ?_
        rw [rounds_succ]
        go_wp2_with fail
        refine wp_loop_rounds 1 ?_
        rw [rounds_succ]
        go_wp2_with fail
        refine (below_empty _ _ lx cx _).mono ?_
        rintro e w5 ⟨v5, rfl, hi5, hb5⟩
        have HI5 := Lib.hid hi5
        clear hi5
        go_wp2_with fail
        refine (same_any _ _ [] _ HI5.out (Or.inl ⟨none, 0, rfl, rfl⟩)).mono ?_
        rintro e w6 ⟨rfl, hb6⟩
        go_wp2_with fail
        refine (chain_empty _ _ _).mono ?_
        rintro e w7 ⟨rfl, hb7⟩
        have HB7 := Lib.hid (hb5.trans ((hb6.trans (hb7.mono hb6.size)).mono hb5.size))
        clear hb5 hb6 hb7
        cases joined
        · go_wp2
          go_ret
          exact ⟨rfl, hB1.trans ((HB.out.trans (HB7.out.mono HB.out.size)).mono hB1.size)⟩
        · go_wp2
          go_ret
          exact ⟨rfl, hB1.trans ((HB.out.trans (HB7.out.mono HB.out.size)).mono hB1.size)⟩
      · obtain ⟨g, cap', rfl⟩ := Joins.ownsRow_form hown hpos
        have HO := Lib.hid hown
        have HB := Lib.hid hb
        clear hown hb
        have hge : w1.heap.size ≤ g := ownsRow_block HO.out g rfl
        go_wp2_with fail
        go_loopw [21] (fun i wr => ∃ k : Nat, k ≤ ls.length ∧ i = .int .i64 k ∧ wr.ownsRow w1.heap.size 25 2 (.slice (some ⟨g, 0, none⟩) ls.length cap') ls.length (flat (runJ joined ls k)) ∧ Below w1.heap.size w1 wr) (fun i _ => ls.length - (intOf i).toNat)
        case atStart => exact ⟨0, by omega, rfl, HO.out, HB.out⟩
        case round =>
          obtain ⟨k, hk, rfl, hown, hb⟩ := hrel
          have HO1 := Lib.hid hown
          have HB1 := Lib.hid hb
          clear hown hb
          have hk0 : (0 : Int) ≤ (k : Int) := by omega
          by_cases hlt : k < ls.length
          · have hlt' : (k : Int) < (ls.length : Int) := by omega
            cases joined
            · go_wp2
              go_roundw
              case rel => exact ⟨k + 1, by omega, by go_num, by rw [runJ_false] at *; exact HO1.out, HB1.out⟩
              case measure => simp [intOf]; omega
            · by_cases hkp : 0 < k
              · have hdk : decide ((0 : Int) < (k : Int)) = true := by simp; omega
                have hlenJ := runJ_len true ls k
                obtain ⟨hR1, hR2⟩ := runJ_range true ls HRan.out HLv.out k (by omega)
                have hX := flat_at (runJ true ls k) (k - 1) (by omega)
                have hY := flat_at (runJ true ls k) k (by omega)
                have e0 : wr.cell? ⟨g, (k - 1) * 2, none⟩ = _ := (HO1.out.cellAt _ (by omega)).trans hX.1
                have e1 : wr.cell? ⟨g, (k - 1) * 2 + 1, none⟩ = _ := (HO1.out.cellAt _ (by omega)).trans hX.2
                have e2 : wr.cell? ⟨g, k * 2, none⟩ = _ := (HO1.out.cellAt _ (by omega)).trans hY.1
                have e3 : wr.cell? ⟨g, k * 2 + 1, none⟩ = _ := (HO1.out.cellAt _ (by omega)).trans hY.2
                have HU : Hid (runJ true ls (k + 1) = (runJ true ls k).set k (joinC [((runJ true ls k)[k - 1].1, (runJ true ls k)[k - 1].2), ((runJ true ls k)[k].1, (runJ true ls k)[k].2)])) := by
                  show runJ true ls (k + 1) = _
                  rw [runJ, upd]
                  have e4 : (runJ true ls k).getD (k - 1) (0, 0) = (runJ true ls k)[k - 1] := by rw [List.getD_eq_getElem?_getD, List.getElem?_eq_getElem (by omega)]; rfl
                  have e5 : (runJ true ls k).getD k (0, 0) = (runJ true ls k)[k] := by rw [List.getD_eq_getElem?_getD, List.getElem?_eq_getElem (by omega)]; rfl
                  rw [e4, e5, if_pos (by simpa using hkp)]
                have hXY : InRange [((runJ true ls k)[k - 1].1, (runJ true ls k)[k - 1].2), ((runJ true ls k)[k].1, (runJ true ls k)[k].2)] := by
                  intro x hx
                  simp only [List.mem_cons, List.not_mem_nil, or_false] at hx
                  rcases hx with rfl | rfl
                  · exact hR1 _ (List.getElem_mem _)
                  · exact hR1 _ (List.getElem_mem _)
                have HXY := Lib.hid hXY
                clear hXY hR1 hR2 hX hY
                generalize (runJ true ls k)[k - 1] = X at *
                generalize (runJ true ls k)[k] = Y at *
                clear hlenJ
                have hgl : g < wr.heap.size := World.block_lt_of_cell? wr _ e0
                have HFz : ∀ wx, Below wr.heap.size wr wx → wx.frozen? ⟨g, k * 2, none⟩ = false ∧ wx.frozen? ⟨g, k * 2 + 1, none⟩ = false := fun wx hw =>
                  ⟨(hw.frozen (p := ⟨g, k * 2, none⟩) hgl).trans (HO1.out.frozenAt _), (hw.frozen (p := ⟨g, k * 2 + 1, none⟩) hgl).trans (HO1.out.frozenAt _)⟩
                go_wp2_with fail
                refine wp_region_inv (by kernel_rfl) (by kernel_rfl) (fun A f a wx => ∃ u29 u30 u31 u32 u33 u34 u35 u36 u37 u38 u39 u40 u41 u42, a = ((((((((((((((A.put (some 29) u29).put (some 30) u30).put (some 31) u31).put (some 32) u32).put (some 33) u33).put (some 34) u34).put (some 35) u35).put (some 36) u36).put (some 37) u37).put (some 38) u38).put (some 39) u39).put (some 40) u40).put (some 41) u41).put (some 42) u42) ∧
                  RJ wr (.slice (some ⟨g, 0, none⟩) ls.length cap') g k X Y (joinC [(X.1, X.2), (Y.1, Y.2)]) f u29 u30 u31 u32 u33 u34 u35 u36 u37 u38 u39 u40 u41 u42 wx) ?_ ?_ ?_
                · refine ⟨u29, u30, u31, u32, u33, u34, u35, u36, u37, u38, u39, u40, u41, u42, by kernel_rfl, ?_⟩
                  refine { last := (fun h => by cases h), bl := fun _ => (Below.refl _ _).drew, f0 := ?_, f1 := ?_, f2 := ?_, f3 := ?_, f4 := ?_, f5 := ?_, f6 := ?_, f7 := ?_, f8 := ?_, f9 := ?_, f10 := ?_, f11 := ?_, f12 := ?_, f13 := ?_, f14 := ?_ } <;> (first | (intro h; cases h; done) | (intro _ h; cases h))
                · rintro f a wx ⟨u29, u30, u31, u32, u33, u34, u35, u36, u37, u38, u39, u40, u41, u42, rfl, r⟩ i o ho hfi hr
                  simp only [Act.put, List.setIfInBounds_toArray, List.set_cons_zero, List.set_cons_succ]
                  have h14 : f 14 = false := by
                    cases hq : f 14 with
                    | false => rfl
                    | true =>
                      exfalso
                      have hil : i < 15 := (Array.getElem?_eq_some_iff.1 ho).1
                      rcases Nat.lt_or_ge i 14 with h' | h'
                      · rw [r.last hq i h'] at hfi; cases hfi
                      · obtain rfl : i = 14 := by omega
                        rw [hq] at hfi; cases hfi
                  have g0 := ((r.bl h14).cell (p := ⟨g, (k - 1) * 2, none⟩) hgl).trans e0
                  have g1 := ((r.bl h14).cell (p := ⟨g, (k - 1) * 2 + 1, none⟩) hgl).trans e1
                  have g2 := ((r.bl h14).cell (p := ⟨g, k * 2, none⟩) hgl).trans e2
                  have g3 := ((r.bl h14).cell (p := ⟨g, k * 2 + 1, none⟩) hgl).trans e3
                  have hz : ((k : Int) - 1).toNat = k - 1 := by omega
                  have hz0 : (0 : Int) ≤ (k : Int) - 1 := by omega
                  have hk1 : (1 : Int) ≤ (k : Int) := by omega
                  have hz1 : (k : Int) - 1 < (ls.length : Int) := by omega
                  have hw1 : IntKind.i64.wrap ((k : Int) - 1) = (k : Int) - 1 := IntWalk.i64_in _ (by omega)
                  match i, ho with
                  | 0, ho =>
                    refine wpOp_step0 ho (by obtain rfl := Option.some.inj ho; rfl) (fun K hK => ?_)
                    clear hr
                    simp only [List.getElem?_toArray, List.getElem?_cons_zero] at ho
                    obtain rfl := Option.some.inj ho
                    have HR := Lib.hid r
                    clear r
                    go_simp
                    exact hK _ _ ⟨(.slice (some ⟨g, 0, none⟩) ls.length cap'), u30, u31, u32, u33, u34, u35, u36, u37, u38, u39, u40, u41, u42, by kernel_rfl, { HR.out with last := (fun h => by (have h' : f 14 = true := h); rw [h14] at h'; cases h'), f0 := fun _ => rfl }⟩
                        | 1, ho =>
                    refine wpOp_step0 ho (by obtain rfl := Option.some.inj ho; rfl) (fun K hK => ?_)
                    clear hr
                    simp only [List.getElem?_toArray, List.getElem?_cons_succ, List.getElem?_cons_zero] at ho
                    obtain rfl := Option.some.inj ho
                    have HR := Lib.hid r
                    clear r
                    go_simp
                    exact hK _ _ ⟨u29, (.int .i64 (k : Int)), u31, u32, u33, u34, u35, u36, u37, u38, u39, u40, u41, u42, by kernel_rfl, { HR.out with last := (fun h => by (have h' : f 14 = true := h); rw [h14] at h'; cases h'), f1 := fun _ => rfl }⟩
                        | 2, ho =>
                    refine wpOp_step0 ho (by obtain rfl := Option.some.inj ho; rfl) (fun K hK => ?_)
                    clear hr
                    simp only [List.getElem?_toArray, List.getElem?_cons_succ, List.getElem?_cons_zero] at ho
                    obtain rfl := Option.some.inj ho
                    have HR := Lib.hid r
                    clear r
                    go_simp
                    exact hK _ _ ⟨u29, u30, (.slice (some ⟨g, 0, none⟩) ls.length cap'), u32, u33, u34, u35, u36, u37, u38, u39, u40, u41, u42, by kernel_rfl, { HR.out with last := (fun h => by (have h' : f 14 = true := h); rw [h14] at h'; cases h'), f2 := fun _ => rfl }⟩
                        | 3, ho =>
                    refine wpOp_step0 ho (by obtain rfl := Option.some.inj ho; rfl) (fun K hK => ?_)
                    clear hr
                    simp only [List.getElem?_toArray, List.getElem?_cons_succ, List.getElem?_cons_zero] at ho
                    obtain rfl := Option.some.inj ho
                    have HR := Lib.hid r
                    clear r
                    go_simp
                    exact hK _ _ ⟨u29, u30, u31, (.int .i64 (k : Int)), u33, u34, u35, u36, u37, u38, u39, u40, u41, u42, by kernel_rfl, { HR.out with last := (fun h => by (have h' : f 14 = true := h); rw [h14] at h'; cases h'), f3 := fun _ => rfl }⟩
                        | 4, ho =>
                    have q3 := r.f3 (hr ⟨3, .data⟩ (by obtain rfl := Option.some.inj ho; simp) rfl)
                    subst q3
                    refine wpOp_step0 ho (by obtain rfl := Option.some.inj ho; rfl) (fun K hK => ?_)
                    clear hr
                    simp only [List.getElem?_toArray, List.getElem?_cons_succ, List.getElem?_cons_zero] at ho
                    obtain rfl := Option.some.inj ho
                    have HR := Lib.hid r
                    clear r
                    go_simp
                    exact hK _ _ ⟨u29, u30, u31, (.int .i64 (k : Int)), (.int .i64 ((k : Int) - 1)), u34, u35, u36, u37, u38, u39, u40, u41, u42, by kernel_rfl, { HR.out with last := (fun h => by (have h' : f 14 = true := h); rw [h14] at h'; cases h'), f4 := fun _ => rfl }⟩
                        | 5, ho =>
                    have q2 := r.f2 (hr ⟨2, .data⟩ (by obtain rfl := Option.some.inj ho; simp) rfl)
                    have q4 := r.f4 (hr ⟨4, .data⟩ (by obtain rfl := Option.some.inj ho; simp) rfl)
                    subst q2 q4
                    refine wpOp_step0 ho (by obtain rfl := Option.some.inj ho; rfl) (fun K hK => ?_)
                    clear hr
                    simp only [List.getElem?_toArray, List.getElem?_cons_succ, List.getElem?_cons_zero] at ho
                    obtain rfl := Option.some.inj ho
                    have HR := Lib.hid r
                    clear r
                    go_simp
                    exact hK _ _ ⟨u29, u30, (.slice (some ⟨g, 0, none⟩) ls.length cap'), u32, (.int .i64 ((k : Int) - 1)), (.pointer (some ⟨g, (k - 1) * 2, none⟩)), u35, u36, u37, u38, u39, u40, u41, u42, by kernel_rfl, { HR.out with last := (fun h => by (have h' : f 14 = true := h); rw [h14] at h'; cases h'), f5 := fun _ => rfl }⟩
                        | 6, ho =>
                    have q5 := r.f5 (hr ⟨5, .data⟩ (by obtain rfl := Option.some.inj ho; simp) rfl)
                    subst q5
                    refine wpOp_step0 ho (by obtain rfl := Option.some.inj ho; rfl) (fun K hK => ?_)
                    clear hr
                    simp only [List.getElem?_toArray, List.getElem?_cons_succ, List.getElem?_cons_zero] at ho
                    obtain rfl := Option.some.inj ho
                    have HR := Lib.hid r
                    clear r
                    go_simp
                    exact hK _ _ ⟨u29, u30, u31, u32, u33, (.pointer (some ⟨g, (k - 1) * 2, none⟩)), (.agg #[.int .u8 X.1, .int .u16 X.2]), u36, u37, u38, u39, u40, u41, u42, by kernel_rfl, { HR.out with last := (fun h => by (have h' : f 14 = true := h); rw [h14] at h'; cases h'), f6 := fun _ => rfl }⟩
                        | 7, ho =>
                    refine wpOp_step0 ho (by obtain rfl := Option.some.inj ho; rfl) (fun K hK => ?_)
                    clear hr
                    simp only [List.getElem?_toArray, List.getElem?_cons_succ, List.getElem?_cons_zero] at ho
                    obtain rfl := Option.some.inj ho
                    have HR := Lib.hid r
                    clear r
                    go_simp
                    exact hK _ _ ⟨u29, u30, u31, u32, u33, u34, u35, (.slice (some ⟨g, 0, none⟩) ls.length cap'), u37, u38, u39, u40, u41, u42, by kernel_rfl, { HR.out with last := (fun h => by (have h' : f 14 = true := h); rw [h14] at h'; cases h'), f7 := fun _ => rfl }⟩
                        | 8, ho =>
                    refine wpOp_step0 ho (by obtain rfl := Option.some.inj ho; rfl) (fun K hK => ?_)
                    clear hr
                    simp only [List.getElem?_toArray, List.getElem?_cons_succ, List.getElem?_cons_zero] at ho
                    obtain rfl := Option.some.inj ho
                    have HR := Lib.hid r
                    clear r
                    go_simp
                    exact hK _ _ ⟨u29, u30, u31, u32, u33, u34, u35, u36, (.int .i64 (k : Int)), u38, u39, u40, u41, u42, by kernel_rfl, { HR.out with last := (fun h => by (have h' : f 14 = true := h); rw [h14] at h'; cases h'), f8 := fun _ => rfl }⟩
                        | 9, ho =>
                    have q7 := r.f7 (hr ⟨7, .data⟩ (by obtain rfl := Option.some.inj ho; simp) rfl)
                    have q8 := r.f8 (hr ⟨8, .data⟩ (by obtain rfl := Option.some.inj ho; simp) rfl)
                    subst q7 q8
                    refine wpOp_step0 ho (by obtain rfl := Option.some.inj ho; rfl) (fun K hK => ?_)
                    clear hr
                    simp only [List.getElem?_toArray, List.getElem?_cons_succ, List.getElem?_cons_zero] at ho
                    obtain rfl := Option.some.inj ho
                    have HR := Lib.hid r
                    clear r
                    go_simp
                    exact hK _ _ ⟨u29, u30, u31, u32, u33, u34, u35, (.slice (some ⟨g, 0, none⟩) ls.length cap'), (.int .i64 (k : Int)), (.pointer (some ⟨g, k * 2, none⟩)), u39, u40, u41, u42, by kernel_rfl, { HR.out with last := (fun h => by (have h' : f 14 = true := h); rw [h14] at h'; cases h'), f9 := fun _ => rfl }⟩
                        | 10, ho =>
                    have q9 := r.f9 (hr ⟨9, .data⟩ (by obtain rfl := Option.some.inj ho; simp) rfl)
                    subst q9
                    refine wpOp_step0 ho (by obtain rfl := Option.some.inj ho; rfl) (fun K hK => ?_)
                    clear hr
                    simp only [List.getElem?_toArray, List.getElem?_cons_succ, List.getElem?_cons_zero] at ho
                    obtain rfl := Option.some.inj ho
                    have HR := Lib.hid r
                    clear r
                    go_simp
                    exact hK _ _ ⟨u29, u30, u31, u32, u33, u34, u35, u36, u37, (.pointer (some ⟨g, k * 2, none⟩)), (.agg #[.int .u8 Y.1, .int .u16 Y.2]), u40, u41, u42, by kernel_rfl, { HR.out with last := (fun h => by (have h' : f 14 = true := h); rw [h14] at h'; cases h'), f10 := fun _ => rfl }⟩
                        | 11, ho =>
                    have q6 := r.f6 (hr ⟨6, .data⟩ (by obtain rfl := Option.some.inj ho; simp) rfl)
                    have q10 := r.f10 (hr ⟨10, .data⟩ (by obtain rfl := Option.some.inj ho; simp) rfl)
                    subst q6 q10
                    clear g0 g1 g2 g3 e0 e1 e2 e3 hz hz0 hz1 hw1 HFz
                    refine wpOp_step0 ho (by obtain rfl := Option.some.inj ho; rfl) (fun K hK => ?_)
                    clear hr
                    simp only [List.getElem?_toArray, List.getElem?_cons_succ, List.getElem?_cons_zero] at ho
                    obtain rfl := Option.some.inj ho
                    have HR := Lib.hid r
                    clear r
                    go_simp
                    have r := HR.out.mono h14 (below_more (Below.refl _ wx) (.cells #[.int .u8 X.1, .int .u16 X.2, .int .u8 Y.1, .int .u16 Y.2] 25))
                    exact hK _ _ ⟨u29, u30, u31, u32, u33, u34, (.agg #[.int .u8 X.1, .int .u16 X.2]), u36, u37, u38, (.agg #[.int .u8 Y.1, .int .u16 Y.2]), (.slice (some ⟨wx.heap.size, 0, none⟩) 2 2), u41, u42, by kernel_rfl, { r with last := (fun h => by (have h' : f 14 = true := h); rw [h14] at h'; cases h'), f11 := fun _ _ => labs_lit wx X.1 X.2 Y.1 Y.2 }⟩
                        | 12, ho =>
                    have q11 := r.f11 hfi (hr ⟨11, .data⟩ (by obtain rfl := Option.some.inj ho; simp) rfl)
                    clear g0 g1 g2 g3 e0 e1 e2 e3 hz hz0 hz1 hw1 HFz
                    refine wpOp_step0 ho (by obtain rfl := Option.some.inj ho; rfl) (fun K hK => ?_)
                    clear hr
                    simp only [List.getElem?_toArray, List.getElem?_cons_succ, List.getElem?_cons_zero] at ho
                    obtain rfl := Option.some.inj ho
                    have HR := Lib.hid r
                    clear r
                    go_simp
                    refine (rjoin_any _ _ _ HXY.out q11).mono ?_
                    rintro e w3 ⟨rfl, hb3⟩
                    have r := HR.out.mono h14 hb3
                    exact hK _ _ ⟨u29, u30, u31, u32, u33, u34, u35, u36, u37, u38, u39, u40, (.agg #[.int .u8 (joinC [(X.1, X.2), (Y.1, Y.2)]).1, .int .u16 (joinC [(X.1, X.2), (Y.1, Y.2)]).2]), u42, by kernel_rfl, { r with last := (fun h => by (have h' : f 14 = true := h); rw [h14] at h'; cases h'), f12 := fun _ => rfl, f11 := (fun h => by simp at h) }⟩
                        | 13, ho =>
                    have q0 := r.f0 (hr ⟨0, .data⟩ (by obtain rfl := Option.some.inj ho; simp) rfl)
                    have q1 := r.f1 (hr ⟨1, .data⟩ (by obtain rfl := Option.some.inj ho; simp) rfl)
                    subst q0 q1
                    refine wpOp_step0 ho (by obtain rfl := Option.some.inj ho; rfl) (fun K hK => ?_)
                    clear hr
                    simp only [List.getElem?_toArray, List.getElem?_cons_succ, List.getElem?_cons_zero] at ho
                    obtain rfl := Option.some.inj ho
                    have HR := Lib.hid r
                    clear r
                    go_simp
                    exact hK _ _ ⟨(.slice (some ⟨g, 0, none⟩) ls.length cap'), (.int .i64 (k : Int)), u31, u32, u33, u34, u35, u36, u37, u38, u39, u40, u41, (.pointer (some ⟨g, k * 2, none⟩)), by kernel_rfl, { HR.out with last := (fun h => by (have h' : f 14 = true := h); rw [h14] at h'; cases h'), f13 := fun _ => rfl }⟩
                        | 14, ho =>
                    have q12 := r.f12 (hr ⟨12, .data⟩ (by obtain rfl := Option.some.inj ho; simp) rfl)
                    have q13 := r.f13 (hr ⟨13, .data⟩ (by obtain rfl := Option.some.inj ho; simp) rfl)
                    have a0 : f 0 = true := hr ⟨0, .phase⟩ (by obtain rfl := Option.some.inj ho; simp) rfl
                    have a1 : f 1 = true := hr ⟨1, .phase⟩ (by obtain rfl := Option.some.inj ho; simp) rfl
                    have a2 : f 2 = true := hr ⟨2, .phase⟩ (by obtain rfl := Option.some.inj ho; simp) rfl
                    have a3 : f 3 = true := hr ⟨3, .phase⟩ (by obtain rfl := Option.some.inj ho; simp) rfl
                    have a4 : f 4 = true := hr ⟨4, .phase⟩ (by obtain rfl := Option.some.inj ho; simp) rfl
                    have a5 : f 5 = true := hr ⟨5, .phase⟩ (by obtain rfl := Option.some.inj ho; simp) rfl
                    have a6 : f 6 = true := hr ⟨6, .phase⟩ (by obtain rfl := Option.some.inj ho; simp) rfl
                    have a7 : f 7 = true := hr ⟨7, .phase⟩ (by obtain rfl := Option.some.inj ho; simp) rfl
                    have a8 : f 8 = true := hr ⟨8, .phase⟩ (by obtain rfl := Option.some.inj ho; simp) rfl
                    have a9 : f 9 = true := hr ⟨9, .phase⟩ (by obtain rfl := Option.some.inj ho; simp) rfl
                    have a10 : f 10 = true := hr ⟨10, .phase⟩ (by obtain rfl := Option.some.inj ho; simp) rfl
                    have a11 : f 11 = true := hr ⟨11, .phase⟩ (by obtain rfl := Option.some.inj ho; simp) rfl
                    have a12 : f 12 = true := hr ⟨12, .data⟩ (by obtain rfl := Option.some.inj ho; simp) rfl
                    have a13 : f 13 = true := hr ⟨13, .data⟩ (by obtain rfl := Option.some.inj ho; simp) rfl
                    subst q12 q13
                    have hall : Hid (∀ j, j < 14 → f j = true) := by
                      intro j hj
                      match j, hj with
                      | 0, _ => exact a0
                      | 1, _ => exact a1
                      | 2, _ => exact a2
                      | 3, _ => exact a3
                      | 4, _ => exact a4
                      | 5, _ => exact a5
                      | 6, _ => exact a6
                      | 7, _ => exact a7
                      | 8, _ => exact a8
                      | 9, _ => exact a9
                      | 10, _ => exact a10
                      | 11, _ => exact a11
                      | 12, _ => exact a12
                      | 13, _ => exact a13
                      | n + 14, hj => omega
                    have z12 := Lib.hid a12
                    clear a0 a1 a2 a3 a4 a5 a6 a7 a8 a9 a10 a11 a12 a13
                    have z0 : wx.frozen? ⟨g, k * 2, none⟩ = false := (HFz wx (r.bl h14)).1
                    have z1 : wx.frozen? ⟨g, k * 2 + 1, none⟩ = false := (HFz wx (r.bl h14)).2
                    refine wpOp_step0 ho (by obtain rfl := Option.some.inj ho; rfl) (fun K hK => ?_)
                    clear hr
                    simp only [List.getElem?_toArray, List.getElem?_cons_succ, List.getElem?_cons_zero] at ho
                    obtain rfl := Option.some.inj ho
                    have HR := Lib.hid r
                    clear r
                    go_simp
                    exact hK _ _ ⟨u29, u30, u31, u32, u33, u34, u35, u36, u37, u38, u39, u40, (.agg #[.int .u8 (joinC [(X.1, X.2), (Y.1, Y.2)]).1, .int .u16 (joinC [(X.1, X.2), (Y.1, Y.2)]).2]), (.pointer (some ⟨g, k * 2, none⟩)), by kernel_rfl, { HR.out with last := (fun _ j hj => by rw [hall.out j hj, Bool.or_true]), bl := (fun h => by simp at h), f11 := (fun h => by (have h' : f 12 = false := h); rw [z12.out] at h'; cases h'), f14 := fun _ => ⟨wx, HR.out.bl h14, rfl⟩ }⟩
                  | n + 15, ho => exact absurd (Array.getElem?_eq_some_iff.1 ho).1 (by simp)
                · rintro f a wx hf ⟨u29, u30, u31, u32, u33, u34, u35, u36, u37, u38, u39, u40, u41, u42, rfl, r⟩
                  obtain ⟨wy, hby, rfl⟩ := r.f14 (hf 14 (by simp))
                  clear r hf
                  simp only [Act.put, List.setIfInBounds_toArray, List.set_cons_zero, List.set_cons_succ]
                  obtain ⟨hs1, -⟩ := (ownsRow_below HO1.out hby).stored (k * 2) (.int .u8 (joinC [(X.1, X.2), (Y.1, Y.2)]).1)
                  obtain ⟨hs2, -⟩ := hs1.stored (k * 2 + 1) (.int .u16 (joinC [(X.1, X.2), (Y.1, Y.2)]).2)
                  rw [flat_set, ← HU.out] at hs2
                  have HB2 : Below w1.heap.size w1 _ := ((HB1.out.trans (hby.mono HB1.out.size)).setCell (p := ⟨g, k * 2, none⟩) hge (.int .u8 (joinC [(X.1, X.2), (Y.1, Y.2)]).1)).setCell (p := ⟨g, k * 2 + 1, none⟩) hge (.int .u16 (joinC [(X.1, X.2), (Y.1, Y.2)]).2)
                  clear hs1 hby e0 e1 e2 e3 HFz
                  generalize (wy.setCell ⟨g, k * 2, none⟩ (.int .u8 (joinC [(X.1, X.2), (Y.1, Y.2)]).1)).setCell ⟨g, k * 2 + 1, none⟩ (.int .u16 (joinC [(X.1, X.2), (Y.1, Y.2)]).2) = w5 at *
                  have HO5 := Lib.hid hs2
                  clear hs2
                  go_wp2
                  go_roundw
                  case rel => exact ⟨k + 1, by omega, by go_num, HO5.out, HB2⟩
                  case measure => simp [intOf]; omega
              · have hdk : decide ((0 : Int) < (k : Int)) = false := by simp; omega
                have HU : Hid (runJ true ls (k + 1) = runJ true ls k) := by
                  show runJ true ls (k + 1) = _
                  rw [runJ, upd, if_neg (by simpa using hkp)]
                go_wp2
                go_roundw
                case rel => exact ⟨k + 1, by omega, by go_num, by rw [HU.out]; exact HO1.out, HB1.out⟩
                case measure => simp [intOf]; omega
          · obtain rfl : k = ls.length := by omega
            have hLen := runJ_len joined ls ls.length
            have hR := runJ_range joined ls HRan.out HLv.out ls.length (Nat.le_refl _)
            have HChn : Hid (joined = true → chainB (runJ joined ls ls.length) ls.length = true) := by
              show joined = true → _
              intro h; subst h; exact runJ_chain ls HRan.out HLv.out ls.length (Nat.le_refl _)
            have HR := Lib.hid hR.1
            have HLen := Lib.hid hLen
            clear hR hLen hk hk0
            generalize runJ joined ls ls.length = L at *
            have HLab := Lib.hid (ownsRow_labs' HO1.out HLen.out.symm)
            obtain ⟨wq, rfl⟩ : ∃ x, x = wr := ⟨wr, rfl⟩
            go_wp2_with fail
            go_loopw [8, 9, 46] (fun v c i wx => ∃ m : Nat, m ≤ ls.length ∧ i = .int .i64 m ∧ c = .bool (chainB L m) ∧ wx.ownsRow wq.heap.size 3 1 v (belowL L lx cx m).length ((belowL L lx cx m).map (Value.int .i64)) ∧ Below wq.heap.size wq wx) (fun _ _ i _ => ls.length - (intOf i).toNat)
            case atStart => exact ⟨0, by omega, rfl, rfl, by simpa [belowL] using World.ownsRow_nil _ _ _ _, Below.refl _ _⟩
            case round =>
              obtain ⟨m, hm2, rfl, rfl, hown, hb⟩ := hrel
              have HO3 := Lib.hid hown
              have HB3 := Lib.hid hb
              clear hown hb
              have HBw := Lib.hid (HB1.out.trans (HB3.out.mono HB1.out.size))
              by_cases hltm : m < ls.length
              · have hmL : m < L.length := by rw [HLen.out]; exact hltm
                have hX := flat_at L m hmL
                have hY := flat_at L (m - 1) (by omega)
                have hlenB := belowL_len L lx cx m
                have f0 := (HO1.out.cellAt (m * 2) (by omega)).trans hX.1
                have f1 := (HO1.out.cellAt (m * 2 + 1) (by omega)).trans hX.2
                have f2 := (HO1.out.cellAt ((m - 1) * 2) (by omega)).trans hY.1
                have f3 := (HO1.out.cellAt ((m - 1) * 2 + 1) (by omega)).trans hY.2
                have hgq : g < wq.heap.size := World.block_lt_of_cell? wq _ f0
                have HXr := HR.out _ (List.getElem_mem hmL)
                have HYr := HR.out _ (List.getElem_mem (show m - 1 < L.length by omega))
                have HS := Lib.hid (belowL_succ L lx cx m hmL)
                have HC : Hid (chainB L (m + 1) = (chainB L m && (m == 0 || leqB L[m - 1].1 L[m - 1].2 L[m].1 L[m].2))) := by
                  show chainB L (m + 1) = _
                  have e4 : L.getD (m - 1) (0, 0) = L[m - 1] := by rw [List.getD_eq_getElem?_getD, List.getElem?_eq_getElem (by omega)]; rfl
                  have e5 : L.getD m (0, 0) = L[m] := by rw [List.getD_eq_getElem?_getD, List.getElem?_eq_getElem (by omega)]; rfl
                  rw [chainB, e4, e5]
                clear hX hY
                generalize L[m - 1] = y at *
                generalize L[m] = x at *
                have HE : Hid (∀ wz, Below wq.heap.size wq wz → wz.cell? ⟨g, m * 2, none⟩ = some (.int .u8 x.1) ∧ wz.cell? ⟨g, m * 2 + 1, none⟩ = some (.int .u16 x.2) ∧ wz.cell? ⟨g, (m - 1) * 2, none⟩ = some (.int .u8 y.1) ∧ wz.cell? ⟨g, (m - 1) * 2 + 1, none⟩ = some (.int .u16 y.2)) := by
                  show ∀ wz, _ → _
                  intro wz hz
                  exact ⟨(hz.cell (p := ⟨g, m * 2, none⟩) hgq).trans f0, (hz.cell (p := ⟨g, m * 2 + 1, none⟩) hgq).trans f1, (hz.cell (p := ⟨g, (m - 1) * 2, none⟩) hgq).trans f2, (hz.cell (p := ⟨g, (m - 1) * 2 + 1, none⟩) hgq).trans f3⟩
                clear f0 f1 f2 f3
                obtain ⟨e0, e1, -, -⟩ := HE.out _ HB3.out
                obtain ⟨hp0, p0, p1, -, -⟩ := id HPx.out
                have c0 := (HBw.out.cell (p := ⟨w.heap.size, 0, none⟩) hp0).trans p0
                have c1 := (HBw.out.cell (p := ⟨w.heap.size, 1, none⟩) hp0).trans p1
                clear p0 p1
                have hlt' : (m : Int) < (ls.length : Int) := by omega
                have hm0 : (0 : Int) ≤ (m : Int) := by omega
                have k0 := cell_regrown e0
                have k1 := cell_regrown e1
                have k2 := cell_regrown c0
                have k3 := cell_regrown c1
                have q1 := fun d os => Calls.regrown_of (rleq_any x.1 x.2 lx cx (Sort.grow (redrawn wr d) os) HXr.1 HXr.2 hx.1 hx.2)
                go_wp2_with fail
                refine wp_region_quiet_below (by kernel_rfl) (by kernel_rfl) ?_
                repeat (first | go_big_quiet_step (with_reducible exact q1 _ _) | quiet_step (with_reducible exact q1 _ _))
                refine wpQuiet_nil ?_
                intro _ hw'
                obtain ⟨⟨dq, osq⟩, rfl⟩ := hw'
                have hwy := below_regrown wr dq osq
                have HB4 := Lib.hid (HB3.out.trans (hwy.mono HB3.out.size))
                have HO4 := Lib.hid (ownsRow_below HO3.out hwy)
                clear k0 k1 k2 k3 q1 e0 e1 c0 c1 hwy
                generalize Sort.grow (redrawn wr dq) osq = w4 at *
                go_upto_if 54 with fail
                go_cut [8] (fun s8 wx => ∃ v5, s8 = v5 ∧ wx.ownsRow wq.heap.size 3 1 v5 (belowL L lx cx (m + 1)).length ((belowL L lx cx (m + 1)).map (Value.int .i64)) ∧ Below wq.heap.size wq wx)
                case first =>
                  cases hh : leqB x.1 x.2 lx cx
                  · have HH := Lib.hid hh
                    clear hh
                    go_wp2_with fail
                    go_meet
                    exact ⟨_, rfl, by rw [HS.out, HH.out]; exact HO4.out, HB4.out⟩
                  · have HH := Lib.hid hh
                    clear hh
                    obtain ⟨i0, hi, hz0', hz1', hz2'⟩ := info_parts Tryd.info3
                    have hsz4 := HB4.out.size
                    go_wp2_with (first | (at_builtin; refine wpList_append_own _ rfl _ _ 22 rfl wq.heap.size 3 i0 (.int .i64 0) 1 8 Tryd.underlying22 hi hz0' hz1' hz2' rfl (by decide) _ _ _ rfl (HO4.out.alloc _) ⟨w4.heap.size, 0, none⟩ 1 1 [.int .i64 (m : Int)] rfl rfl ?c1 ?c2 ?c3 ?c4 ?c5 ?_))
                    case c1 =>
                      intro j u hj
                      match j, hj with
                      | 0, hj => simp at hj; subst hj; simp [Addr.add]
                    case c2 => intro u hu; simp at hu; subst hu; rfl
                    case c3 => unfold maxLen; omega
                    case c4 => omega
                    case c5 => simp; omega
                    intro v' w5 hown' hgrow _
                    have hb5 : Below wq.heap.size wq w5 := (HB4.out.alloc (by omega) _).grown hgrow (by simp; omega) (ownsRow_block HO4.out)
                    have HO5 : Hid (w5.ownsRow wq.heap.size 3 1 v' (belowL L lx cx (m + 1)).length ((belowL L lx cx (m + 1)).map (Value.int .i64))) := by
                      show w5.ownsRow _ _ _ _ _ _
                      rw [HS.out, HH.out]; simpa using hown'
                    clear hown' hgrow
                    go_wp2_with fail
                    go_meet
                    exact ⟨_, rfl, HO5.out, hb5⟩
                case rest =>
                  obtain ⟨v5, rfl, hown5, hb5⟩ := hcut
                  have HO5 := Lib.hid hown5
                  have HB5 := Lib.hid hb5
                  clear hown5 hb5
                  obtain ⟨w5, rfl⟩ : ∃ x, x = wc := ⟨wc, rfl⟩
                  obtain ⟨e0, e1, e2, e3⟩ := HE.out _ HB5.out
                  cases hch : chainB L m
                  · have HF : Hid (chainB L (m + 1) = false) := by
                      show chainB L (m + 1) = false
                      rw [HC.out, hch]; rfl
                    clear hch e0 e1 e2 e3
                    go_wp2_with fail
                    refine wp_region_quiet_below (by kernel_rfl) (by kernel_rfl) ?_
                    repeat (first | go_big_quiet_step (fail) | quiet_step (fail))
                    refine wpQuiet_nil ?_
                    intro _ hw'
                    obtain ⟨⟨dq2, osq2⟩, rfl⟩ := hw'
                    have hwy := below_regrown w5 dq2 osq2
                    have HB6 := Lib.hid (HB5.out.trans (hwy.mono HB5.out.size))
                    have HO6 := Lib.hid (ownsRow_below HO5.out hwy)
                    clear hwy
                    generalize Sort.grow (redrawn w5 dq2) osq2 = w6 at *
                    go_wp2
                    go_roundw
                    case rel => exact ⟨m + 1, by omega, by go_num, by rw [HF.out], HO6.out, HB6.out⟩
                    case measure => simp [intOf]; omega
                  · rcases Nat.eq_zero_or_pos m with hmz | hmz
                    · have HF : Hid (chainB L (m + 1) = true) := by
                        show chainB L (m + 1) = true
                        rw [HC.out, hch, hmz]; rfl
                      clear hch e0 e1 e2 e3
                      have hdm : ((m : Int) == 0) = true := by simp; omega
                      have hdm' : decide ((m : Int) = 0) = true := by simp; omega
                      clear hmz
                      go_wp2_with fail
                      refine wp_region_quiet_below (by kernel_rfl) (by kernel_rfl) ?_
                      repeat (first | go_big_quiet_step (fail) | quiet_step (fail))
                      refine wpQuiet_nil ?_
                      intro _ hw'
                      obtain ⟨⟨dq2, osq2⟩, rfl⟩ := hw'
                      have hwy := below_regrown w5 dq2 osq2
                      have HB6 := Lib.hid (HB5.out.trans (hwy.mono HB5.out.size))
                      have HO6 := Lib.hid (ownsRow_below HO5.out hwy)
                      clear hwy
                      generalize Sort.grow (redrawn w5 dq2) osq2 = w6 at *
                      go_wp2
                      go_roundw
                      case rel => exact ⟨m + 1, by omega, by go_num, by rw [HF.out], HO6.out, HB6.out⟩
                      case measure => simp [intOf]; omega
                    · have HF : Hid (chainB L (m + 1) = leqB y.1 y.2 x.1 x.2) := by
                        show chainB L (m + 1) = _
                        rw [HC.out, hch, show (m == 0) = false by simp; omega]; simp
                      clear hch
                      have hdm : ((m : Int) == 0) = false := by simp; omega
                      have hdm' : decide ((m : Int) = 0) = false := by simp; omega
                      have hk1 : (1 : Int) ≤ (m : Int) := by omega
                      have hz : ((m : Int) - 1).toNat = m - 1 := by omega
                      have hz0 : (0 : Int) ≤ (m : Int) - 1 := by omega
                      have hz1 : (m : Int) - 1 < (ls.length : Int) := by omega
                      have hw1 : IntKind.i64.wrap ((m : Int) - 1) = (m : Int) - 1 := IntWalk.i64_in _ (by omega)
                      have k0 := cell_regrown e0
                      have k1 := cell_regrown e1
                      have k2 := cell_regrown e2
                      have k3 := cell_regrown e3
                      have q1 := fun d os => Calls.regrown_of (rleq_any y.1 y.2 x.1 x.2 (Sort.grow (redrawn w5 d) os) HYr.1 HYr.2 HXr.1 HXr.2)
                      go_wp2_with fail
                      refine wp_region_quiet_below (by kernel_rfl) (by kernel_rfl) ?_
                      repeat (first | go_big_quiet_step (with_reducible exact q1 _ _) | quiet_step (with_reducible exact q1 _ _))
                      refine wpQuiet_nil ?_
                      intro _ hw'
                      obtain ⟨⟨dq2, osq2⟩, rfl⟩ := hw'
                      have hwy := below_regrown w5 dq2 osq2
                      have HB6 := Lib.hid (HB5.out.trans (hwy.mono HB5.out.size))
                      have HO6 := Lib.hid (ownsRow_below HO5.out hwy)
                      clear hwy k0 k1 k2 k3 q1 e0 e1 e2 e3 hz hz0 hz1 hw1
                      generalize Sort.grow (redrawn w5 dq2) osq2 = w6 at *
                      go_wp2
                      go_roundw
                      case rel => exact ⟨m + 1, by omega, by go_num, by rw [HF.out], HO6.out, HB6.out⟩
                      case measure => simp [intOf]; omega
              · obtain rfl : m = ls.length := by omega
                have hjc : joined = false ∨ chainB L ls.length = true := by
                  cases joined
                  · exact Or.inl rfl
                  · exact Or.inr (HChn.out rfl)
                have HCh : Hid (chainB L L.length = chainB L ls.length) := by
                  show chainB L L.length = _
                  rw [HLen.out]
                have HBl : Hid (belowL L lx cx L.length = belowL L lx cx ls.length) := by
                  show belowL L lx cx L.length = _
                  rw [HLen.out]
                obtain ⟨hp0, p0, p1, -, -⟩ := id HPx.out
                have c0 := (HBw.out.cell (p := ⟨w.heap.size, 0, none⟩) hp0).trans p0
                have c1 := (HBw.out.cell (p := ⟨w.heap.size, 1, none⟩) hp0).trans p1
                clear p0 p1
                have HI3 := Lib.hid (ownsRow_ints HO3.out)
                generalize chainB L ls.length = c at *
                generalize belowL L lx cx ls.length = bl at *
                have HJC := Lib.hid hjc
                clear hjc
                go_wp2_with fail
                refine (below_any _ L lx cx _ (by rw [HLen.out]; exact hm60) (HLab.out.below HB3.out)).mono ?_
                rintro e w5 ⟨v5, rfl, hi5, hb5⟩
                rw [HBl.out] at hi5
                have HI5 := Lib.hid hi5
                clear hi5 c0 c1
                go_wp2_with fail
                refine (same_any _ _ bl _ HI5.out (HI3.out.below hb5)).mono ?_
                rintro e w6 ⟨rfl, hb6⟩
                have HB6 := Lib.hid (hb5.trans (hb6.mono hb5.size))
                clear hb5 hb6
                go_wp2_with fail
                refine (chain_any _ L _ (by rw [HLen.out]; exact hm60) (HLab.out.below (HB3.out.trans (HB6.out.mono HB3.out.size)))).mono ?_
                rintro e w7 ⟨rfl, hb7⟩
                rw [HCh.out]
                have HB7 := Lib.hid (hB1.trans ((HBw.out.trans ((HB6.out.trans (hb7.mono HB6.out.size)).mono HBw.out.size)).mono hB1.size))
                clear hb7
                rcases HJC.out with rfl | rfl
                · go_wp2
                  go_ret
                  exact ⟨rfl, HB7.out⟩
                · cases joined
                  · go_wp2
                    go_ret
                    exact ⟨rfl, HB7.out⟩
                  · go_wp2
                    go_ret
                    exact ⟨rfl, HB7.out⟩
end Go.Proofs.YthifnojdencobaaDoor
