import Derived.Test.YtlbfdmiihnlljaaR2
/- What a head says, by the answer. -/
namespace Go.Proofs.Ytlbfdmiihnlljaa
set_option linter.unusedSimpArgs false
set_option linter.unusedVariables false
open Go.RowKit Go.Maps

/-- the answer of Places -/
def Places2 (o : Option (List Nat)) (w : World) (e : Ending) (w' : World) : Prop :=
  ∃ v, e = .returned (.tuple #[v, .bool o.isSome]) ∧ Ns w' v (o.getD []) ∧ (∀ k, v.ownBlock = some k → w.heap.size ≤ k) ∧ Below w.heap.size w w'
theorem all_take_false {p : Nat → Bool} {L : List Nat} {k : Nat} (hk : k < L.length) (h : p L[k] = false) : L.all p = false := by
  rw [Bool.eq_false_iff]
  intro hh
  have := List.all_eq_true.1 hh L[k] (List.getElem_mem hk)
  rw [h] at this
  cases this

set_option maxHeartbeats 8000000 in
set_option maxRecDepth 2000000 in
theorem rplaces_any (f : Nat → Int) (hb : Byt f) (n fi : Nat) (hn : n ≤ 65536) (hf : fi ≤ 65536) (nI fI : Int) (hnI : nI = (n : Int)) (hfI : fI = (fi : Int)) (w : World) : Calls Try.prog 46 #[.agg (byts 64 f).toArray, .int .i64 nI, .int .i64 fI] w (Places2 (rightF n fi f) w) := by
  have HBy := Lib.hid hb
  obtain ⟨i0, hi, hz0, hz1, hz2⟩ := Try.info3i
  have HI := Lib.hid hi
  have HZ0 := Lib.hid hz0
  have HZ1 := Lib.hid hz1
  have HZ2 := Lib.hid hz2
  have HU : Hid (Try.prog.underlying 43 = some (.slice 3)) := by show _ = _; kernel_rfl
  obtain ⟨n0, n1⟩ := num_rng hb 2 (by decide)
  obtain ⟨N, hN⟩ := Int.eq_ofNat_of_zero_le n0
  obtain ⟨M, hM⟩ : ∃ M, f 2 + 256 * f 3 = M := ⟨_, rfl⟩
  have hMN : M = (N : Int) := by rw [← hM, ← hN]; rfl
  obtain ⟨p0, p0'⟩ := hb 0 (by decide)
  obtain ⟨p1, p1'⟩ := hb 1 (by decide)
  obtain ⟨p2, p2'⟩ := hb 2 (by decide)
  obtain ⟨p3, p3'⟩ := hb 3 (by decide)
  have hNN : Hid (f 2 + 256 * f 3 = M) := hM
  have HMN := Lib.hid hMN
  have h0n : 0 ≤ nI := by omega
  have h0f : 0 ≤ fI := by omega
  have HFL : Hid (fI ≤ 65536) := by show fI ≤ 65536; omega
  have HnI := Lib.hid hnI
  have HfI := Lib.hid hfI
  have HM1 : Hid (M < 65536) := by show M < 65536; omega
  have hM0 : 0 ≤ M := by omega
  have HNum : Hid (num f 0 = f 0 + 256 * f 1) := rfl
  have HNum2 : Hid (num f 2 = (N : Int)) := hN
  obtain ⟨o, ho⟩ : ∃ o, rightF n fi f = o := ⟨_, rfl⟩
  have HO := Lib.hid ho
  rw [ho]
  clear hb n0 n1 hN hM hMN ho hi hz0 hz1 hz2 hn hf hnI hfI
  by_cases hA : f 0 = 161
  · by_cases hB : f 1 = 103
    · by_cases hC : M ≤ 30
      · have hN30 : N ≤ 30 := by have := HMN.out; omega
        obtain ⟨L, hL⟩ : ∃ L, (List.range N).map (fun i => (num f (4 + 2 * i)).toNat) = L := ⟨_, rfl⟩
        have HLL : Hid (L.length = N) := by show L.length = N; rw [← hL]; simp
        have HLk : Hid (∀ k (h : k < L.length), f (4 + 2 * k) + 256 * f (5 + 2 * k) = (L[k] : Nat)) := fun k h => by
          subst hL
          have := num_rng HBy.out (4 + 2 * k) (by rw [List.length_map, List.length_range] at h; omega)
          have h2 : num f (4 + 2 * k) = f (4 + 2 * k) + 256 * f (5 + 2 * k) := by unfold num; rw [show 4 + 2 * k + 1 = 5 + 2 * k by omega]
          rw [← h2]
          simp
          omega
        have HR : Hid (rightF n fi f = if (L.all fun t => outB n fi t) = true then some L else none) := by
          show rightF n fi f = _
          unfold rightF placesF
          rw [HNum.out, HNum2.out, if_pos (by omega), Int.toNat_natCast, hL]
          rfl
        clear hL
        go_enter Try.func46, Try.ntmps46
        go_upto_region 4 with (refine wpList_box_byts rfl 50 _ 64 rfl f rfl ?_; intro w1 F1 hb1 hz1; have HB1 := Lib.hid hb1; have hq1 : w.heap.size < w1.heap.size := (by omega); have c0 := F1.out.c 0 (by decide); have c1 := F1.out.c 1 (by decide); have c2 := F1.out.c 2 (by decide); have c3 := F1.out.c 3 (by decide); have hnn := hNN.out; clear hb1 hz1)
        clear c0 c1 c2 c3 hnn hA hB
        obtain ⟨b, hb⟩ : ∃ b, w.heap.size = b := ⟨_, rfl⟩
        rw [hb] at F1 hq1 ⊢
        have hbw : b ≤ w.heap.size := by omega
        go_wp2_with fail
        go_loopw [9, 10, 11] (fun v i _ wr => ∃ k : Nat, k ≤ N ∧ i = .int .i64 k ∧ wr.ownsRow w1.heap.size 3 1 v k ((L.take k).map fun (x : Nat) => Value.int .i64 (x : Int)) ∧ ((L.take k).all fun t => outB n fi t) = true ∧ Fl wr b 64 f ∧ Below w1.heap.size w1 wr) (fun _ i _ _ => N - (Go.RowKit.intOf i).toNat)
        case atStart => exact ⟨0, by omega, rfl, by simpa using World.ownsRow_nil w1 w1.heap.size 3 1, by simp, F1.out, Below.refl _ _⟩
        case round =>
          obtain ⟨k, hk, rfl, hown, hall, hF, hBr⟩ := hrel
          have HOw := Lib.hid hown
          have HAll := Lib.hid hall
          have HF := Lib.hid hF
          have HBr := Lib.hid hBr
          have hzr := hBr.size
          clear hown hall hF hBr
          have hk0 : (0 : Int) ≤ k := by omega
          obtain ⟨wX, rfl⟩ : ∃ x, x = wr := ⟨wr, rfl⟩
          by_cases hlt : k < N
          · have hkM : (k : Int) < M := by have := HMN.out; omega
            have hkL : k < L.length := by rw [HLL.out]; exact hlt
            have HTk := Lib.hid (HLk.out k hkL)
            have HSt : Hid ((L.take (k + 1)).all (fun t => outB n fi t) = outB n fi (L[k] : Nat)) := by
              show _ = _
              rw [List.take_succ_eq_append_getElem hkL, List.all_append, HAll.out]
              simp
            have HMp : Hid (((L.take (k + 1)).map fun (x : Nat) => Value.int .i64 (x : Int)) = ((L.take k).map fun (x : Nat) => Value.int .i64 (x : Int)) ++ [Value.int .i64 ((L[k] : Nat) : Int)]) := by
              show _ = _
              rw [List.take_succ_eq_append_getElem hkL, List.map_append]
              rfl
            have HNo : Hid (outB n fi (L[k] : Nat) = false → o = none) := fun h => by
              rw [← HO.out, HR.out, all_take_false hkL h]
              rfl
            obtain ⟨t, ht⟩ : ∃ t, L[k] = t := ⟨_, rfl⟩
            rw [ht] at HTk HSt HMp HNo
            obtain ⟨g0, g0'⟩ := HBy.out (4 + 2 * k) (by omega)
            obtain ⟨g1, g1'⟩ := HBy.out (5 + 2 * k) (by omega)
            obtain ⟨x0, hx0⟩ : ∃ x, f (4 + 2 * k) = x := ⟨_, rfl⟩
            obtain ⟨x1, hx1⟩ : ∃ x, f (5 + 2 * k) = x := ⟨_, rfl⟩
            have HX0 := Lib.hid hx0
            have HX1 := Lib.hid hx1
            rw [hx0] at g0 g0'
            rw [hx1] at g1 g1'
            rw [hx0, hx1] at HTk
            have HA1 : Hid (IntKind.i64.wrap (2 * (k : Int)) = 2 * (k : Int)) := IntWalk.i64_in _ (by omega)
            have HA2 : Hid (IntKind.i64.wrap (4 + 2 * (k : Int)) = 4 + 2 * (k : Int)) := IntWalk.i64_in _ (by omega)
            have HA3 : Hid (IntKind.i64.wrap (5 + 2 * (k : Int)) = 5 + 2 * (k : Int)) := IntWalk.i64_in _ (by omega)
            have HA4 : Hid ((4 + 2 * (k : Int)).toNat = 4 + 2 * k) := by show (4 + 2 * (k : Int)).toNat = _; omega
            have HA5 : Hid ((5 + 2 * (k : Int)).toNat = 5 + 2 * k) := by show (5 + 2 * (k : Int)).toNat = _; omega
            have HA6 : Hid (IntKind.i64.wrap x0 = x0) := IntWalk.i64_in _ (by omega)
            have HA7 : Hid (IntKind.i64.wrap x1 = x1) := IntWalk.i64_in _ (by omega)
            have HA8 : Hid (IntKind.i64.wrap (256 * x1) = 256 * x1) := IntWalk.i64_in _ (by omega)
            obtain ⟨z, hz⟩ : ∃ z, (t : Int) = z := ⟨_, rfl⟩
            have HZ := Lib.hid hz
            have HA9 : Hid (IntKind.i64.wrap (x0 + 256 * x1) = z) := by
              show _ = z
              rw [← hz]
              rw [← HTk.out]
              exact IntWalk.i64_in _ (by omega)
            have i0' : (0 : Int) ≤ 4 + 2 * (k : Int) := by omega
            have i1' : 4 + 2 * (k : Int) < 64 := by omega
            have i2' : (0 : Int) ≤ 5 + 2 * (k : Int) := by omega
            have i3' : 5 + 2 * (k : Int) < 64 := by omega
            have hkk : 5 + 2 * k < 64 := by omega
            have HT9 : Hid ((t : Int) < 65536) := by
              show (t : Int) < 65536
              rw [← HTk.out]
              omega
            clear ht hx0 hx1 g0 g0' g1 g1' hz
            go_upto_region 8 with fail
            go_cut [11] (fun x wc => x = .int .i64 z ∧ Fl wc b 64 f ∧ Below wX.heap.size wX wc)
            case first =>
              refine wp_region_held (S := fun W => Fl W b 64 f) (by kernel_rfl) ?_
              change wpAnyH _ _ _ _ _ _ _ _ (World.drew _)
              have hS0 : Fl (World.drew wX) b 64 f := HF.out.below (Below.refl _ _).drew HF.out.lt
              have a1 := HA1.out
              have a2 := HA2.out
              have a3 := HA3.out
              have a4 := HA4.out
              have a5 := HA5.out
              have a6 := HA6.out
              have a7 := HA7.out
              have a8 := HA8.out
              have a9 := HA9.out
              refine wpAnyH_take (i := 0) (v := ?_) rfl (by kernel_rfl) (by kernel_rfl) (by kernel_rfl) (fun _ _ _ h => h) (Or.inl ⟨by rfl, ?_⟩) hS0 ?_
              rotate_left 1
              · intro W hW
                go_simp
                try with_reducible rfl
              simp only [Act.put, List.getElem_toArray, List.getElem_cons_zero, List.getElem_cons_succ, List.setIfInBounds_toArray, List.set_cons_zero, List.set_cons_succ]
              refine wpAnyH_take (i := 1) (v := ?_) rfl (by kernel_rfl) (by kernel_rfl) (by kernel_rfl) (fun _ _ _ h => h) (Or.inl ⟨by rfl, ?_⟩) hS0 ?_
              rotate_left 1
              · intro W hW
                go_simp
                try with_reducible rfl
              simp only [Act.put, List.getElem_toArray, List.getElem_cons_zero, List.getElem_cons_succ, List.setIfInBounds_toArray, List.set_cons_zero, List.set_cons_succ]
              refine wpAnyH_take (i := 2) (v := ?_) rfl (by kernel_rfl) (by kernel_rfl) (by kernel_rfl) (fun _ _ _ h => h) (Or.inl ⟨by rfl, ?_⟩) hS0 ?_
              rotate_left 1
              · intro W hW
                go_simp
                try with_reducible rfl
              simp only [Act.put, List.getElem_toArray, List.getElem_cons_zero, List.getElem_cons_succ, List.setIfInBounds_toArray, List.set_cons_zero, List.set_cons_succ]
              refine wpAnyH_take (i := 3) (v := ?_) rfl (by kernel_rfl) (by kernel_rfl) (by kernel_rfl) (fun _ _ _ h => h) (Or.inl ⟨by rfl, ?_⟩) hS0 ?_
              rotate_left 1
              · intro W hW
                go_simp
                try with_reducible rfl
              simp only [Act.put, List.getElem_toArray, List.getElem_cons_zero, List.getElem_cons_succ, List.setIfInBounds_toArray, List.set_cons_zero, List.set_cons_succ]
              refine wpAnyH_take (i := 4) (v := ?_) rfl (by kernel_rfl) (by kernel_rfl) (by kernel_rfl) (fun _ _ _ h => h) (Or.inl ⟨by rfl, ?_⟩) hS0 ?_
              rotate_left 1
              · intro W hW
                have c0 := hW.c (4 + 2 * k) (by omega)
                rw [HX0.out] at c0
                go_simp
                try with_reducible rfl
              simp only [Act.put, List.getElem_toArray, List.getElem_cons_zero, List.getElem_cons_succ, List.setIfInBounds_toArray, List.set_cons_zero, List.set_cons_succ]
              refine wpAnyH_take (i := 5) (v := ?_) rfl (by kernel_rfl) (by kernel_rfl) (by kernel_rfl) (fun _ _ _ h => h) (Or.inl ⟨by rfl, ?_⟩) hS0 ?_
              rotate_left 1
              · intro W hW
                go_simp
                try with_reducible rfl
              simp only [Act.put, List.getElem_toArray, List.getElem_cons_zero, List.getElem_cons_succ, List.setIfInBounds_toArray, List.set_cons_zero, List.set_cons_succ]
              refine wpAnyH_take (i := 6) (v := ?_) rfl (by kernel_rfl) (by kernel_rfl) (by kernel_rfl) (fun _ _ _ h => h) (Or.inl ⟨by rfl, ?_⟩) hS0 ?_
              rotate_left 1
              · intro W hW
                go_simp
                try with_reducible rfl
              simp only [Act.put, List.getElem_toArray, List.getElem_cons_zero, List.getElem_cons_succ, List.setIfInBounds_toArray, List.set_cons_zero, List.set_cons_succ]
              refine wpAnyH_take (i := 7) (v := ?_) rfl (by kernel_rfl) (by kernel_rfl) (by kernel_rfl) (fun _ _ _ h => h) (Or.inl ⟨by rfl, ?_⟩) hS0 ?_
              rotate_left 1
              · intro W hW
                go_simp
                try with_reducible rfl
              simp only [Act.put, List.getElem_toArray, List.getElem_cons_zero, List.getElem_cons_succ, List.setIfInBounds_toArray, List.set_cons_zero, List.set_cons_succ]
              refine wpAnyH_take (i := 8) (v := ?_) rfl (by kernel_rfl) (by kernel_rfl) (by kernel_rfl) (fun _ _ _ h => h) (Or.inl ⟨by rfl, ?_⟩) hS0 ?_
              rotate_left 1
              · intro W hW
                go_simp
                try with_reducible rfl
              simp only [Act.put, List.getElem_toArray, List.getElem_cons_zero, List.getElem_cons_succ, List.setIfInBounds_toArray, List.set_cons_zero, List.set_cons_succ]
              refine wpAnyH_take (i := 9) (v := ?_) rfl (by kernel_rfl) (by kernel_rfl) (by kernel_rfl) (fun _ _ _ h => h) (Or.inl ⟨by rfl, ?_⟩) hS0 ?_
              rotate_left 1
              · intro W hW
                go_simp
                try with_reducible rfl
              simp only [Act.put, List.getElem_toArray, List.getElem_cons_zero, List.getElem_cons_succ, List.setIfInBounds_toArray, List.set_cons_zero, List.set_cons_succ]
              refine wpAnyH_take (i := 10) (v := ?_) rfl (by kernel_rfl) (by kernel_rfl) (by kernel_rfl) (fun _ _ _ h => h) (Or.inl ⟨by rfl, ?_⟩) hS0 ?_
              rotate_left 1
              · intro W hW
                have c1 := hW.c (5 + 2 * k) hkk
                rw [HX1.out] at c1
                go_simp
                try with_reducible rfl
              simp only [Act.put, List.getElem_toArray, List.getElem_cons_zero, List.getElem_cons_succ, List.setIfInBounds_toArray, List.set_cons_zero, List.set_cons_succ]
              refine wpAnyH_take (i := 11) (v := ?_) rfl (by kernel_rfl) (by kernel_rfl) (by kernel_rfl) (fun _ _ _ h => h) (Or.inl ⟨by rfl, ?_⟩) hS0 ?_
              rotate_left 1
              · intro W hW
                go_simp
                try with_reducible rfl
              simp only [Act.put, List.getElem_toArray, List.getElem_cons_zero, List.getElem_cons_succ, List.setIfInBounds_toArray, List.set_cons_zero, List.set_cons_succ]
              refine wpAnyH_take (i := 12) (v := ?_) rfl (by kernel_rfl) (by kernel_rfl) (by kernel_rfl) (fun _ _ _ h => h) (Or.inl ⟨by rfl, ?_⟩) hS0 ?_
              rotate_left 1
              · intro W hW
                go_simp
                try with_reducible rfl
              simp only [Act.put, List.getElem_toArray, List.getElem_cons_zero, List.getElem_cons_succ, List.setIfInBounds_toArray, List.set_cons_zero, List.set_cons_succ]
              refine wpAnyH_take (i := 13) (v := ?_) rfl (by kernel_rfl) (by kernel_rfl) (by kernel_rfl) (fun _ _ _ h => h) (Or.inl ⟨by rfl, ?_⟩) hS0 ?_
              rotate_left 1
              · intro W hW
                go_simp
                try with_reducible rfl
              simp only [Act.put, List.getElem_toArray, List.getElem_cons_zero, List.getElem_cons_succ, List.setIfInBounds_toArray, List.set_cons_zero, List.set_cons_succ]
              refine wpAnyH_take (i := 14) (v := ?_) rfl (by kernel_rfl) (by kernel_rfl) (by kernel_rfl) (fun _ _ _ h => h) (Or.inl ⟨by rfl, ?_⟩) hS0 ?_
              rotate_left 1
              · intro W hW
                go_simp
                try with_reducible rfl
              simp only [Act.put, List.getElem_toArray, List.getElem_cons_zero, List.getElem_cons_succ, List.setIfInBounds_toArray, List.set_cons_zero, List.set_cons_succ]
              refine wpAnyH_done (by kernel_rfl) ?_ _
              clear hS0 a1 a2 a3 a4 a5 a6 a7 a8 a9
              go_wp2_with fail
              go_meet
              case rel => exact ⟨rfl, HF.out.below (Below.refl _ _).drew HF.out.lt, (Below.refl _ _).drew⟩
            case rest =>
              obtain ⟨rfl, hF2, hB2⟩ := hcut
              obtain ⟨wY, rfl⟩ : ∃ x, x = wc := ⟨wc, rfl⟩
              have HF2 := Lib.hid hF2
              have HOw2 := Lib.hid (ownsRow_below HOw.out hB2)
              have HB2 := Lib.hid (HBr.out.trans (hB2.mono hzr))
              have hz2 := HB2.out.size
              have HFi : Hid (∀ b0, outB n fi (t : Int) = b0 → outB n fi (t : Nat) = b0) := fun _ h => h
              clear hF2 hB2 HA1 HA2 HA3 HA4 HA5 HA6 HA7 HA8 HA9 i0' i1' i2' i3' HX0 HX1 HTk HF HOw HBr
              have hzt := HZ.out
              have hni := HnI.out
              have hfi := HfI.out
              have ht0 : 0 ≤ z := by omega
              have ht9 : z < 65536 := by have := HT9.out; omega
              have hfl := HFL.out
              by_cases c1 : z < nI
              · by_cases c2 : fI ≤ z
                · by_cases c3 : z ≤ fI + 30
                  · have hno := HNo.out (by unfold outB; simp; omega)
                    subst hno
                    clear HNo hzt hni hfi
                    go_wp2_with fail
                    refine bodyPost_ret (v := .tuple #[.slice none 0 0, .bool false]) (by simp [results, Try.results46, go_sem]) rfl ⟨_, rfl, Ns.nil _, fun k hk => by simp [Value.ownBlock] at hk, HB1.out.trans (HB2.out.mono (by omega))⟩
                  · have hall2 : outB n fi (t : Int) = true := by unfold outB; simp; omega
                    have HAl2 := Lib.hid (HSt.out.trans hall2)
                    clear HNo hall2 hzt hni hfi
                    go_wp2_with (at_builtin; refine wpList_append_own _ rfl _ _ 43 rfl w1.heap.size 3 i0 (.int .i64 0) 1 8 HU.out HI.out HZ0.out HZ1.out HZ2.out rfl (by decide) _ _ _ rfl (HOw2.out.alloc _) ⟨wY.heap.size, 0, none⟩ 1 1 [Value.int .i64 z] rfl rfl (cell_one_new _ _ _) (by simp [Value.oneCell']) (by unfold maxLen; omega) (by omega) (by simp; omega) ?_; intro v' w3 hown' hg3 hnil3; have HOW3 := Lib.hid hown'; have HG3 := Lib.hid hg3; clear hown' hg3 hnil3)
                    have HB3 : Hid (Below w1.heap.size w1 w3) := (HB2.out.alloc hz2 _).grown HG3.out (by simp; omega) (fun j hj => ownsRow_block HOw2.out j hj)
                    have HF3 : Hid (Fl w3 b 64 f) := F1.out.below HB3.out hq1
                    go_roundw
                    case rel =>
                      refine ⟨k + 1, by omega, by go_num, ?_, HAl2.out, HF3.out, HB3.out⟩
                      rw [HMp.out, HZ.out]
                      exact HOW3.out
                    case measure => simp [Go.RowKit.intOf]; omega
                · have c3 : z < fI := by omega
                  have hall2 : outB n fi (t : Int) = true := by unfold outB; simp; omega
                  have HAl2 := Lib.hid (HSt.out.trans hall2)
                  clear HNo hall2 hzt hni hfi
                  go_wp2_with (at_builtin; refine wpList_append_own _ rfl _ _ 43 rfl w1.heap.size 3 i0 (.int .i64 0) 1 8 HU.out HI.out HZ0.out HZ1.out HZ2.out rfl (by decide) _ _ _ rfl (HOw2.out.alloc _) ⟨wY.heap.size, 0, none⟩ 1 1 [Value.int .i64 z] rfl rfl (cell_one_new _ _ _) (by simp [Value.oneCell']) (by unfold maxLen; omega) (by omega) (by simp; omega) ?_; intro v' w3 hown' hg3 hnil3; have HOW3 := Lib.hid hown'; have HG3 := Lib.hid hg3; clear hown' hg3 hnil3)
                  have HB3 : Hid (Below w1.heap.size w1 w3) := (HB2.out.alloc hz2 _).grown HG3.out (by simp; omega) (fun j hj => ownsRow_block HOw2.out j hj)
                  have HF3 : Hid (Fl w3 b 64 f) := F1.out.below HB3.out hq1
                  go_roundw
                  case rel =>
                    refine ⟨k + 1, by omega, by go_num, ?_, HAl2.out, HF3.out, HB3.out⟩
                    rw [HMp.out, HZ.out]
                    exact HOW3.out
                  case measure => simp [Go.RowKit.intOf]; omega
              · have hno := HNo.out (by unfold outB; simp; omega)
                subst hno
                clear HNo hzt hni hfi
                go_wp2_with fail
                refine bodyPost_ret (v := .tuple #[.slice none 0 0, .bool false]) (by simp [results, Try.results46, go_sem]) rfl ⟨_, rfl, Ns.nil _, fun k hk => by simp [Value.ownBlock] at hk, HB1.out.trans (HB2.out.mono (by omega))⟩
          · obtain rfl : k = N := by omega
            have hkM : ¬ ((k : Int) < M) := by have := HMN.out; omega
            have hLt : L.take k = L := List.take_of_length_le (by rw [HLL.out]; omega)
            have hal := HAll.out
            have how := HOw.out
            rw [hLt] at hal how
            have hsome : o = some L := by rw [← HO.out, HR.out, if_pos hal]
            subst hsome
            rw [← HLL.out] at how
            obtain ⟨hNs, hOw⟩ := ownsRow_ns how
            have HNs := Lib.hid hNs
            have HOwn := Lib.hid hOw
            clear hal how hNs hOw hLt HAll HOw
            go_wp2_with fail
            obtain ⟨pa, pc, hvv, -⟩ := HNs.out.form
            subst hvv
            refine bodyPost_ret (v := .tuple #[.slice pa L.length pc, .bool true]) (by simp [results, Try.results46, go_sem]) rfl ⟨_, rfl, HNs.out, fun k' hk' => by have := HOwn.out k' hk'; omega, HB1.out.trans (HBr.out.mono (by omega))⟩
      · have hnone : o = none := by
          rw [← HO.out]
          unfold rightF placesF
          rw [if_neg (by rw [HNum2.out]; have := HMN.out; omega)]
          rfl
        subst hnone
        clear HNum HNum2 HO
        go_enter Try.func46, Try.ntmps46
        go_wp2_with (refine wpList_box_byts rfl 50 _ 64 rfl f rfl ?_; intro w1 F1 hb1 hz1; have HB1 := Lib.hid hb1; have c0 := F1.out.c 0 (by decide); have c1 := F1.out.c 1 (by decide); have c2 := F1.out.c 2 (by decide); have c3 := F1.out.c 3 (by decide); have hnn := hNN.out; clear hb1 hz1)
        refine bodyPost_ret (v := .tuple #[.slice none 0 0, .bool false]) (by simp [results, Try.results46, go_sem]) rfl ⟨_, rfl, Ns.nil _, fun k hk => by simp [Value.ownBlock] at hk, HB1.out⟩
    · have hnone : o = none := by
        rw [← HO.out]
        unfold rightF placesF
        rw [if_neg (by rw [HNum.out]; omega)]
        rfl
      subst hnone
      clear HNum HNum2 HO
      go_enter Try.func46, Try.ntmps46
      go_wp2_with (refine wpList_box_byts rfl 50 _ 64 rfl f rfl ?_; intro w1 F1 hb1 hz1; have HB1 := Lib.hid hb1; have c0 := F1.out.c 0 (by decide); have c1 := F1.out.c 1 (by decide); have c2 := F1.out.c 2 (by decide); have c3 := F1.out.c 3 (by decide); have hnn := hNN.out; clear hb1 hz1)
      refine bodyPost_ret (v := .tuple #[.slice none 0 0, .bool false]) (by simp [results, Try.results46, go_sem]) rfl ⟨_, rfl, Ns.nil _, fun k hk => by simp [Value.ownBlock] at hk, HB1.out⟩
  · have hnone : o = none := by
      rw [← HO.out]
      unfold rightF placesF
      rw [if_neg (by rw [HNum.out]; omega)]
      rfl
    subst hnone
    go_enter Try.func46, Try.ntmps46
    go_wp2_with (refine wpList_box_byts rfl 50 _ 64 rfl f rfl ?_; intro w1 F1 hb1 hz1; have HB1 := Lib.hid hb1; have c0 := F1.out.c 0 (by decide); have c1 := F1.out.c 1 (by decide); have c2 := F1.out.c 2 (by decide); have c3 := F1.out.c 3 (by decide); have hnn := hNN.out; clear hb1 hz1)
    refine bodyPost_ret (v := .tuple #[.slice none 0 0, .bool false]) (by simp [results, Try.results46, go_sem]) rfl ⟨_, rfl, Ns.nil _, fun k hk => by simp [Value.ownBlock] at hk, HB1.out⟩
end Go.Proofs.Ytlbfdmiihnlljaa
