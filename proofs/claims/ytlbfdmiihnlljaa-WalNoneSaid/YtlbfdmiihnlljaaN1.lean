import Derived.Test.YtlbfdmiihnlljaaE13
/- WalNone: the walk. -/
namespace Go.Proofs.Ytlbfdmiihnlljaa
set_option linter.unusedSimpArgs false
set_option linter.unusedVariables false
open Go.RowKit Go.Maps

set_option maxHeartbeats 2000000 in
set_option maxRecDepth 100000 in
theorem get_nil (x : Int) (w : World) : Calls Try.prog 14 #[.pointer none, .int .i64 x] w fun e w' => e = .returned (.tuple #[.agg (byts 64 fun _ => 0).toArray, .int .i64 1]) ∧ Below w.heap.size w w' := by
  go_enter Try.func14, Try.ntmps14
  go_wp2_with (first | (refine wpList_alloc_byts rfl 50 64 rfl Try.zero36 ?_; intro w1 F1 hb1 hz1; have hb1' := Lib.hid hb1; clear hb1) | (refine wpList_yields _ (yields_build0 rfl rfl) ?_) | (refine wpList_store_mid rfl 50 (.tmp 4) (.tmp 10) rfl w.heap.size 0 (byts 64 fun _ => 0).toArray rfl rfl (by rw [byts_size]; exact F1.out.there 0 64 (Nat.le_refl _)) (size36' _) (byts_all _ _) ?_))
  have F2 := F1.out.stored (fun _ => 0)
  exact bodyPost_ret_by (results_mid_tmp rfl _ _ w.heap.size _ (.array 64 5) rfl F2.range0 Try.arr36 rfl (size36 _)) rfl ⟨rfl, below_setCells hb1'.out _ _ (Nat.le_refl _) _⟩
theorem blocks_nil (w : World) : Calls Try.prog 29 #[.pointer none] w fun e w' => e = .returned (.slice none 0 0) ∧ w' = w := by
  go_enter Try.func29, Try.ntmps29
  go_wp2
  go_ret
  exact ⟨rfl, rfl⟩

set_option maxHeartbeats 40000000 in
set_option maxRecDepth 100000 in
theorem none_walk (n x y : Int) (hn0 : -9223372036854775808 ≤ n) (hn1 : n < 9223372036854775808) (hx0 : -9223372036854775808 ≤ x) (hx1 : x < 9223372036854775808) (hy0 : 0 ≤ y) (hy1 : y < 256) (w : World) :
    Calls Try.prog 7 #[.int .i64 n, .int .i64 x, .int .u8 y] w fun e w' => e = .returned (.bool true) ∧ Below w.heap.size w w' := by
  have HA := Lib.hid (awake_any w)
  have HX0 := Lib.hid hx0
  have HX1 := Lib.hid hx1
  have HN0 := Lib.hid hn0
  have HN1 := Lib.hid hn1
  clear hx0 hx1 hn0 hn1
  by_cases h_mid : 3000 < n ∧ n ≤ 65536
  · obtain ⟨h1, h2⟩ := h_mid
    go_enter Try.func7, Try.ntmps7
    go_wp2_with fail
    refine HA.out.mono ?_
    rintro e w1 ⟨rfl, hb1⟩
    have HB1 := Lib.hid hb1
    clear HA hb1
    go_wp2
    go_ret
    exact ⟨rfl, HB1.out⟩
  · have HMid := Lib.hid h_mid
    clear h_mid
    by_cases h_out : n < 0 ∨ 65536 < n
    · have HN := Lib.hid (fun W => new_out n h_out W)
      have hg1 : (decide (3000 < n) && decide (n ≤ 65536)) = false := by simp; omega
      rcases h_out with h | h
      · have h3 : ¬ (3000 < n) := by omega
        go_enter Try.func7, Try.ntmps7
        go_wp2_with fail
        refine HA.out.mono ?_
        rintro e w1 ⟨rfl, hb⟩
        have HBw1 := Lib.hid hb
        clear HA hb
        go_wp2_with fail
        refine (HN.out w1).mono ?_
        rintro e w2 ⟨rfl, hb⟩
        have HBw2 := Lib.hid (HBw1.out.trans (hb.mono HBw1.out.size))
        clear HN hb
        go_wp2_with fail
        refine (open_nil x w2).mono ?_
        rintro e w3 ⟨rfl, hb⟩
        have HBw3 := Lib.hid (HBw2.out.trans (hb.mono HBw2.out.size))
        clear hb
        go_wp2_with fail
        refine (recover_nil w3).mono ?_
        rintro e wz ⟨rfl, hwz⟩
        rw [hwz]
        clear hwz
        go_wp2_with fail
        refine (get_nil x w3).mono ?_
        rintro e w4 ⟨rfl, hb⟩
        have HBw4 := Lib.hid (HBw3.out.trans (hb.mono HBw3.out.size))
        clear hb
        have e36 : ∀ W, (Op.equalIn 10000 50 (.agg (byts 64 fun _ => 0).toArray) (.agg (byts 64 fun _ => 0).toArray)).run Try.prog W = .ok true W := fun W => by rw [eq36, eqb_same fun _ _ => rfl]
        have HE := Lib.hid e36
        clear e36
        go_wp2_with (first | (refine wpList_alloc_byts rfl 50 64 rfl Try.zero36 ?_; intro w5 F5 hb hz; have HBw5 := Lib.hid (HBw4.out.trans (hb.mono HBw4.out.size)); have hlt5 : w4.heap.size < w5.heap.size := (by omega); clear hb hz) | (refine wpList_store_blk rfl (.tmp 15) (.tmp 46) rfl w4.heap.size 0 64 (fun _ => 0) (fun _ => 0) F5.out (by omega) rfl rfl ?_; intro w10 F10 HK10; have F10' := Lib.hid (F10.out.congr (f' := fun _ => 0) (fun j hj => (by unfold upd; split <;> rfl)))))
        have hq1 := HBw3.out.size
        have hq2 := HBw4.out.size
        obtain ⟨b9, hb9⟩ : ∃ b9, w4.heap.size = b9 := ⟨_, rfl⟩
        have hb9w : w.heap.size ≤ b9 := by omega
        have HB10 := Lib.hid (HBw5.out.trans (HK10.out.below (B := w.heap.size) (by omega) (by omega) HBw5.out.size))
        rw [hb9] at F10' ⊢
        clear F5 F10 HK10 hb9 hq1 hq2
        refine (drop_nil w10).mono ?_
        rintro e wz ⟨rfl, hwz⟩
        rw [hwz]
        clear hwz
        go_wp2_with fail
        refine (begin_nil w10).mono ?_
        rintro e wz ⟨rfl, hwz⟩
        rw [hwz]
        clear hwz
        go_wp2_with fail
        refine (format_nil w10).mono ?_
        rintro e wz ⟨rfl, hwz⟩
        rw [hwz]
        clear hwz
        have e36 := HE.out
        go_wp2_with (first | (refine wpList_yields _ (yieldsIf_load_mid (S := fun W => W = w10) (by rfl) 50 (.tmp 15) rfl b9 0 rfl (byts 64 fun _ => 0) (.array 64 5) (fun W hW => (by rw [hW]; exact F10'.out.range0)) Try.arr36 rfl (size36 _)) ?_) | (refine wpList_yields _ (yields_build0 rfl rfl) ?_))
        clear e36
        refine (block_any y hy0 hy1 w10).mono ?_
        rintro e w11 ⟨rfl, hb⟩
        have HB11 := Lib.hid (HB10.out.trans (hb.mono HB10.out.size))
        clear hb
        go_wp2_with fail
        refine (put_nil x (blk y) w11).mono ?_
        rintro e w12 ⟨rfl, hb⟩
        have HB12 := Lib.hid (HB11.out.trans (hb.mono HB11.out.size))
        clear hb
        go_wp2_with fail
        refine (tlen_nil w12).mono ?_
        rintro e wz ⟨rfl, hwz⟩
        rw [hwz]
        clear hwz
        go_wp2_with fail
        refine (blocks_nil w12).mono ?_
        rintro e wz ⟨rfl, hwz⟩
        rw [hwz]
        clear hwz
        go_wp2_with fail
        refine (commit_nil w12).mono ?_
        rintro e wz ⟨rfl, hwz⟩
        rw [hwz]
        clear hwz
        go_wp2
        go_ret
        exact ⟨rfl, HB12.out⟩
      · have h3 : ¬ (n ≤ 65536) := by omega
        have h4 : 3000 < n := by omega
        go_enter Try.func7, Try.ntmps7
        go_wp2_with fail
        refine HA.out.mono ?_
        rintro e w1 ⟨rfl, hb⟩
        have HBw1 := Lib.hid hb
        clear HA hb
        go_wp2_with fail
        refine (HN.out w1).mono ?_
        rintro e w2 ⟨rfl, hb⟩
        have HBw2 := Lib.hid (HBw1.out.trans (hb.mono HBw1.out.size))
        clear HN hb
        go_wp2_with fail
        refine (open_nil x w2).mono ?_
        rintro e w3 ⟨rfl, hb⟩
        have HBw3 := Lib.hid (HBw2.out.trans (hb.mono HBw2.out.size))
        clear hb
        go_wp2_with fail
        refine (recover_nil w3).mono ?_
        rintro e wz ⟨rfl, hwz⟩
        rw [hwz]
        clear hwz
        go_wp2_with fail
        refine (get_nil x w3).mono ?_
        rintro e w4 ⟨rfl, hb⟩
        have HBw4 := Lib.hid (HBw3.out.trans (hb.mono HBw3.out.size))
        clear hb
        have e36 : ∀ W, (Op.equalIn 10000 50 (.agg (byts 64 fun _ => 0).toArray) (.agg (byts 64 fun _ => 0).toArray)).run Try.prog W = .ok true W := fun W => by rw [eq36, eqb_same fun _ _ => rfl]
        have HE := Lib.hid e36
        clear e36
        go_wp2_with (first | (refine wpList_alloc_byts rfl 50 64 rfl Try.zero36 ?_; intro w5 F5 hb hz; have HBw5 := Lib.hid (HBw4.out.trans (hb.mono HBw4.out.size)); have hlt5 : w4.heap.size < w5.heap.size := (by omega); clear hb hz) | (refine wpList_store_blk rfl (.tmp 15) (.tmp 46) rfl w4.heap.size 0 64 (fun _ => 0) (fun _ => 0) F5.out (by omega) rfl rfl ?_; intro w10 F10 HK10; have F10' := Lib.hid (F10.out.congr (f' := fun _ => 0) (fun j hj => (by unfold upd; split <;> rfl)))))
        have hq1 := HBw3.out.size
        have hq2 := HBw4.out.size
        obtain ⟨b9, hb9⟩ : ∃ b9, w4.heap.size = b9 := ⟨_, rfl⟩
        have hb9w : w.heap.size ≤ b9 := by omega
        have HB10 := Lib.hid (HBw5.out.trans (HK10.out.below (B := w.heap.size) (by omega) (by omega) HBw5.out.size))
        rw [hb9] at F10' ⊢
        clear F5 F10 HK10 hb9 hq1 hq2
        refine (drop_nil w10).mono ?_
        rintro e wz ⟨rfl, hwz⟩
        rw [hwz]
        clear hwz
        go_wp2_with fail
        refine (begin_nil w10).mono ?_
        rintro e wz ⟨rfl, hwz⟩
        rw [hwz]
        clear hwz
        go_wp2_with fail
        refine (format_nil w10).mono ?_
        rintro e wz ⟨rfl, hwz⟩
        rw [hwz]
        clear hwz
        have e36 := HE.out
        go_wp2_with (first | (refine wpList_yields _ (yieldsIf_load_mid (S := fun W => W = w10) (by rfl) 50 (.tmp 15) rfl b9 0 rfl (byts 64 fun _ => 0) (.array 64 5) (fun W hW => (by rw [hW]; exact F10'.out.range0)) Try.arr36 rfl (size36 _)) ?_) | (refine wpList_yields _ (yields_build0 rfl rfl) ?_))
        clear e36
        refine (block_any y hy0 hy1 w10).mono ?_
        rintro e w11 ⟨rfl, hb⟩
        have HB11 := Lib.hid (HB10.out.trans (hb.mono HB10.out.size))
        clear hb
        go_wp2_with fail
        refine (put_nil x (blk y) w11).mono ?_
        rintro e w12 ⟨rfl, hb⟩
        have HB12 := Lib.hid (HB11.out.trans (hb.mono HB11.out.size))
        clear hb
        go_wp2_with fail
        refine (tlen_nil w12).mono ?_
        rintro e wz ⟨rfl, hwz⟩
        rw [hwz]
        clear hwz
        go_wp2_with fail
        refine (blocks_nil w12).mono ?_
        rintro e wz ⟨rfl, hwz⟩
        rw [hwz]
        clear hwz
        go_wp2_with fail
        refine (commit_nil w12).mono ?_
        rintro e wz ⟨rfl, hwz⟩
        rw [hwz]
        clear hwz
        go_wp2
        go_ret
        exact ⟨rfl, HB12.out⟩
    · have hM := HMid.out
      have HNN : Hid ((n.toNat : Int) = n) := Int.toNat_of_nonneg (by omega)
      have hNi : ¬ (n < 0) := by omega
      have h3 : ¬ (3000 < n) := by omega
      have HN3 : Hid (n.toNat ≤ 3000) := by show n.toNat ≤ 3000; omega
      have HN : Hid (∀ W, Calls Try.prog 9 #[.int .i64 n] W (Made W (DS.new n.toNat))) := by
        intro W
        have h := new_any n.toNat (by have := HN3.out; omega) W
        rwa [HNN.out] at h
      clear hM h_out
      have HP : ∀ Z : Prop, (x < 0 → Z) → ((0 ≤ x ∧ n - 31 < x) → Z) → ((0 ≤ x ∧ x ≤ n - 31) → Z) → Z := fun Z h1 h2 h3 => by
        by_cases c1 : x < 0
        · exact h1 c1
        · by_cases c2 : n - 31 < x
          · exact h2 ⟨by omega, c2⟩
          · exact h3 ⟨by omega, by omega⟩
      refine HP _ (fun c => ?_) (fun c => ?_) (fun c => ?_)
      · clear HP
        have hx : x < 0 ∨ ((DS.new n.toNat).n : Int) - 31 < x := .inl c
        have HO := Lib.hid (fun d g W (h : Dk W d g (DS.new n.toNat)) => open_out d g _ x HX0.out HX1.out hx (by show n.toNat ≤ 65536; have := HN3.out; omega) W h)
        have c1 : ¬ (0 ≤ x) := by omega
        clear hx
        go_enter Try.func7, Try.ntmps7
        go_wp2_with fail
        refine HA.out.mono ?_
        rintro e w1 ⟨rfl, hb⟩
        have HBw1 := Lib.hid hb
        clear HA hb
        go_wp2_with fail
        refine (HN.out w1).mono ?_
        rintro e w2 ⟨d, g, rfl, hd, hg, hD, hb⟩
        have HD := Lib.hid hD
        have HBw2 := Lib.hid (HBw1.out.trans (hb.mono HBw1.out.size))
        clear HN hb hD
        go_wp2_with fail
        refine (HO.out d g w2 HD.out).mono ?_
        rintro e w3 ⟨rfl, hb⟩
        have HBw3 := Lib.hid (HBw2.out.trans (hb.mono HBw2.out.size))
        clear hb HO HD
        go_wp2_with fail
        refine (recover_nil w3).mono ?_
        rintro e wz ⟨rfl, hwz⟩
        rw [hwz]
        clear hwz
        go_wp2_with fail
        refine (get_nil x w3).mono ?_
        rintro e w4 ⟨rfl, hb⟩
        have HBw4 := Lib.hid (HBw3.out.trans (hb.mono HBw3.out.size))
        clear hb
        have e36 : ∀ W, (Op.equalIn 10000 50 (.agg (byts 64 fun _ => 0).toArray) (.agg (byts 64 fun _ => 0).toArray)).run Try.prog W = .ok true W := fun W => by rw [eq36, eqb_same fun _ _ => rfl]
        have HE := Lib.hid e36
        clear e36
        go_wp2_with (first | (refine wpList_alloc_byts rfl 50 64 rfl Try.zero36 ?_; intro w5 F5 hb hz; have HBw5 := Lib.hid (HBw4.out.trans (hb.mono HBw4.out.size)); have hlt5 : w4.heap.size < w5.heap.size := (by omega); clear hb hz) | (refine wpList_store_blk rfl (.tmp 15) (.tmp 46) rfl w4.heap.size 0 64 (fun _ => 0) (fun _ => 0) F5.out (by omega) rfl rfl ?_; intro w10 F10 HK10; have F10' := Lib.hid (F10.out.congr (f' := fun _ => 0) (fun j hj => (by unfold upd; split <;> rfl)))))
        have hq1 := HBw3.out.size
        have hq2 := HBw4.out.size
        obtain ⟨b9, hb9⟩ : ∃ b9, w4.heap.size = b9 := ⟨_, rfl⟩
        have hb9w : w.heap.size ≤ b9 := by omega
        have HB10 := Lib.hid (HBw5.out.trans (HK10.out.below (B := w.heap.size) (by omega) (by omega) HBw5.out.size))
        rw [hb9] at F10' ⊢
        clear F5 F10 HK10 hb9 hq1 hq2
        refine (drop_nil w10).mono ?_
        rintro e wz ⟨rfl, hwz⟩
        rw [hwz]
        clear hwz
        go_wp2_with fail
        refine (begin_nil w10).mono ?_
        rintro e wz ⟨rfl, hwz⟩
        rw [hwz]
        clear hwz
        go_wp2_with fail
        refine (format_nil w10).mono ?_
        rintro e wz ⟨rfl, hwz⟩
        rw [hwz]
        clear hwz
        have e36 := HE.out
        go_wp2_with (first | (refine wpList_yields _ (yieldsIf_load_mid (S := fun W => W = w10) (by rfl) 50 (.tmp 15) rfl b9 0 rfl (byts 64 fun _ => 0) (.array 64 5) (fun W hW => (by rw [hW]; exact F10'.out.range0)) Try.arr36 rfl (size36 _)) ?_) | (refine wpList_yields _ (yields_build0 rfl rfl) ?_))
        clear e36
        refine (block_any y hy0 hy1 w10).mono ?_
        rintro e w11 ⟨rfl, hb⟩
        have HB11 := Lib.hid (HB10.out.trans (hb.mono HB10.out.size))
        clear hb
        go_wp2_with fail
        refine (put_nil x (blk y) w11).mono ?_
        rintro e w12 ⟨rfl, hb⟩
        have HB12 := Lib.hid (HB11.out.trans (hb.mono HB11.out.size))
        clear hb
        go_wp2_with fail
        refine (tlen_nil w12).mono ?_
        rintro e wz ⟨rfl, hwz⟩
        rw [hwz]
        clear hwz
        go_wp2_with fail
        refine (blocks_nil w12).mono ?_
        rintro e wz ⟨rfl, hwz⟩
        rw [hwz]
        clear hwz
        go_wp2_with fail
        refine (commit_nil w12).mono ?_
        rintro e wz ⟨rfl, hwz⟩
        rw [hwz]
        clear hwz
        go_wp2
        go_ret
        exact ⟨rfl, HB12.out⟩
      · clear HP
        obtain ⟨c1, c2⟩ := c
        have hx : x < 0 ∨ ((DS.new n.toNat).n : Int) - 31 < x := .inr (by show (n.toNat : Int) - 31 < x; rw [HNN.out]; exact c2)
        have HO := Lib.hid (fun d g W (h : Dk W d g (DS.new n.toNat)) => open_out d g _ x HX0.out HX1.out hx (by show n.toNat ≤ 65536; have := HN3.out; omega) W h)
        have c3 : ¬ ((31 : Int) ≤ n - x) := by omega
        clear hx c2
        go_enter Try.func7, Try.ntmps7
        go_wp2_with fail
        refine HA.out.mono ?_
        rintro e w1 ⟨rfl, hb⟩
        have HBw1 := Lib.hid hb
        clear HA hb
        go_wp2_with fail
        refine (HN.out w1).mono ?_
        rintro e w2 ⟨d, g, rfl, hd, hg, hD, hb⟩
        have HD := Lib.hid hD
        have HBw2 := Lib.hid (HBw1.out.trans (hb.mono HBw1.out.size))
        clear HN hb hD
        go_wp2_with fail
        refine (HO.out d g w2 HD.out).mono ?_
        rintro e w3 ⟨rfl, hb⟩
        have HBw3 := Lib.hid (HBw2.out.trans (hb.mono HBw2.out.size))
        clear hb HO HD
        go_wp2_with fail
        refine (recover_nil w3).mono ?_
        rintro e wz ⟨rfl, hwz⟩
        rw [hwz]
        clear hwz
        go_wp2_with fail
        refine (get_nil x w3).mono ?_
        rintro e w4 ⟨rfl, hb⟩
        have HBw4 := Lib.hid (HBw3.out.trans (hb.mono HBw3.out.size))
        clear hb
        have e36 : ∀ W, (Op.equalIn 10000 50 (.agg (byts 64 fun _ => 0).toArray) (.agg (byts 64 fun _ => 0).toArray)).run Try.prog W = .ok true W := fun W => by rw [eq36, eqb_same fun _ _ => rfl]
        have HE := Lib.hid e36
        clear e36
        go_wp2_with (first | (refine wpList_alloc_byts rfl 50 64 rfl Try.zero36 ?_; intro w5 F5 hb hz; have HBw5 := Lib.hid (HBw4.out.trans (hb.mono HBw4.out.size)); have hlt5 : w4.heap.size < w5.heap.size := (by omega); clear hb hz) | (refine wpList_store_blk rfl (.tmp 15) (.tmp 46) rfl w4.heap.size 0 64 (fun _ => 0) (fun _ => 0) F5.out (by omega) rfl rfl ?_; intro w10 F10 HK10; have F10' := Lib.hid (F10.out.congr (f' := fun _ => 0) (fun j hj => (by unfold upd; split <;> rfl)))))
        have hq1 := HBw3.out.size
        have hq2 := HBw4.out.size
        obtain ⟨b9, hb9⟩ : ∃ b9, w4.heap.size = b9 := ⟨_, rfl⟩
        have hb9w : w.heap.size ≤ b9 := by omega
        have HB10 := Lib.hid (HBw5.out.trans (HK10.out.below (B := w.heap.size) (by omega) (by omega) HBw5.out.size))
        rw [hb9] at F10' ⊢
        clear F5 F10 HK10 hb9 hq1 hq2
        refine (drop_nil w10).mono ?_
        rintro e wz ⟨rfl, hwz⟩
        rw [hwz]
        clear hwz
        go_wp2_with fail
        refine (begin_nil w10).mono ?_
        rintro e wz ⟨rfl, hwz⟩
        rw [hwz]
        clear hwz
        go_wp2_with fail
        refine (format_nil w10).mono ?_
        rintro e wz ⟨rfl, hwz⟩
        rw [hwz]
        clear hwz
        have e36 := HE.out
        go_wp2_with (first | (refine wpList_yields _ (yieldsIf_load_mid (S := fun W => W = w10) (by rfl) 50 (.tmp 15) rfl b9 0 rfl (byts 64 fun _ => 0) (.array 64 5) (fun W hW => (by rw [hW]; exact F10'.out.range0)) Try.arr36 rfl (size36 _)) ?_) | (refine wpList_yields _ (yields_build0 rfl rfl) ?_))
        clear e36
        refine (block_any y hy0 hy1 w10).mono ?_
        rintro e w11 ⟨rfl, hb⟩
        have HB11 := Lib.hid (HB10.out.trans (hb.mono HB10.out.size))
        clear hb
        go_wp2_with fail
        refine (put_nil x (blk y) w11).mono ?_
        rintro e w12 ⟨rfl, hb⟩
        have HB12 := Lib.hid (HB11.out.trans (hb.mono HB11.out.size))
        clear hb
        go_wp2_with fail
        refine (tlen_nil w12).mono ?_
        rintro e wz ⟨rfl, hwz⟩
        rw [hwz]
        clear hwz
        go_wp2_with fail
        refine (blocks_nil w12).mono ?_
        rintro e wz ⟨rfl, hwz⟩
        rw [hwz]
        clear hwz
        go_wp2_with fail
        refine (commit_nil w12).mono ?_
        rintro e wz ⟨rfl, hwz⟩
        rw [hwz]
        clear hwz
        by_cases c4 : x < n
        · go_wp2
          go_ret
          exact ⟨ret_bool (by show (!decide (31 ≤ n - x)) = true; simpa using c3), HB12.out⟩
        · go_wp2
          go_ret
          exact ⟨rfl, HB12.out⟩
      · clear HP
        obtain ⟨c1, c2⟩ := c
        have HFF : Hid ((x.toNat : Int) = x) := Int.toNat_of_nonneg c1
        have HO : Hid (∀ d g W, Dk W d g (DS.new n.toNat) → Calls Try.prog 10 #[.pointer (some ⟨d, 0, none⟩), .int .i64 x] W fun e w' => ∃ l, e = .returned (.tuple #[.pointer (some ⟨l, 0, none⟩), .int .i64 0]) ∧ W.heap.size ≤ l ∧ Below W.heap.size W w') := fun d g W h => by
          have h1 := open_in d g _ x.toNat (by show x.toNat + 31 ≤ n.toNat; have := HFF.out; have := HNN.out; omega) (by show n.toNat ≤ 65536; have := HN3.out; omega) W h
          rw [HFF.out] at h1
          exact h1.mono fun e w' ⟨l, he, hl, _, hb⟩ => ⟨l, he, hl, hb⟩
        have c3 : (31 : Int) ≤ n - x := by omega
        have c4 : x < n := by omega
        clear c2
        go_enter Try.func7, Try.ntmps7
        go_wp2_with fail
        refine HA.out.mono ?_
        rintro e w1 ⟨rfl, hb⟩
        have HBw1 := Lib.hid hb
        clear HA hb
        go_wp2_with fail
        refine (HN.out w1).mono ?_
        rintro e w2 ⟨d, g, rfl, hd, hg, hD, hb⟩
        have HD := Lib.hid hD
        have HBw2 := Lib.hid (HBw1.out.trans (hb.mono HBw1.out.size))
        clear HN hb hD
        go_wp2_with fail
        refine (HO.out d g w2 HD.out).mono ?_
        rintro e w3 ⟨l, rfl, hl, hb⟩
        have HBw3 := Lib.hid (HBw2.out.trans (hb.mono HBw2.out.size))
        clear hb HO HD
        go_wp2_with fail
        refine (recover_nil w3).mono ?_
        rintro e wz ⟨rfl, hwz⟩
        rw [hwz]
        clear hwz
        go_wp2_with fail
        refine (get_nil x w3).mono ?_
        rintro e w4 ⟨rfl, hb⟩
        have HBw4 := Lib.hid (HBw3.out.trans (hb.mono HBw3.out.size))
        clear hb
        have e36 : ∀ W, (Op.equalIn 10000 50 (.agg (byts 64 fun _ => 0).toArray) (.agg (byts 64 fun _ => 0).toArray)).run Try.prog W = .ok true W := fun W => by rw [eq36, eqb_same fun _ _ => rfl]
        have HE := Lib.hid e36
        clear e36
        go_wp2_with (first | (refine wpList_alloc_byts rfl 50 64 rfl Try.zero36 ?_; intro w5 F5 hb hz; have HBw5 := Lib.hid (HBw4.out.trans (hb.mono HBw4.out.size)); have hlt5 : w4.heap.size < w5.heap.size := (by omega); clear hb hz) | (refine wpList_store_blk rfl (.tmp 15) (.tmp 46) rfl w4.heap.size 0 64 (fun _ => 0) (fun _ => 0) F5.out (by omega) rfl rfl ?_; intro w10 F10 HK10; have F10' := Lib.hid (F10.out.congr (f' := fun _ => 0) (fun j hj => (by unfold upd; split <;> rfl)))))
        have hq1 := HBw3.out.size
        have hq2 := HBw4.out.size
        obtain ⟨b9, hb9⟩ : ∃ b9, w4.heap.size = b9 := ⟨_, rfl⟩
        have hb9w : w.heap.size ≤ b9 := by omega
        have HB10 := Lib.hid (HBw5.out.trans (HK10.out.below (B := w.heap.size) (by omega) (by omega) HBw5.out.size))
        rw [hb9] at F10' ⊢
        clear F5 F10 HK10 hb9 hq1 hq2
        refine (drop_nil w10).mono ?_
        rintro e wz ⟨rfl, hwz⟩
        rw [hwz]
        clear hwz
        go_wp2_with fail
        refine (begin_nil w10).mono ?_
        rintro e wz ⟨rfl, hwz⟩
        rw [hwz]
        clear hwz
        go_wp2_with fail
        refine (format_nil w10).mono ?_
        rintro e wz ⟨rfl, hwz⟩
        rw [hwz]
        clear hwz
        have e36 := HE.out
        go_wp2_with (first | (refine wpList_yields _ (yieldsIf_load_mid (S := fun W => W = w10) (by rfl) 50 (.tmp 15) rfl b9 0 rfl (byts 64 fun _ => 0) (.array 64 5) (fun W hW => (by rw [hW]; exact F10'.out.range0)) Try.arr36 rfl (size36 _)) ?_) | (refine wpList_yields _ (yields_build0 rfl rfl) ?_))
        clear e36
        refine (block_any y hy0 hy1 w10).mono ?_
        rintro e w11 ⟨rfl, hb⟩
        have HB11 := Lib.hid (HB10.out.trans (hb.mono HB10.out.size))
        clear hb
        go_wp2_with fail
        refine (put_nil x (blk y) w11).mono ?_
        rintro e w12 ⟨rfl, hb⟩
        have HB12 := Lib.hid (HB11.out.trans (hb.mono HB11.out.size))
        clear hb
        go_wp2_with fail
        refine (tlen_nil w12).mono ?_
        rintro e wz ⟨rfl, hwz⟩
        rw [hwz]
        clear hwz
        go_wp2_with fail
        refine (blocks_nil w12).mono ?_
        rintro e wz ⟨rfl, hwz⟩
        rw [hwz]
        clear hwz
        go_wp2_with fail
        refine (commit_nil w12).mono ?_
        rintro e wz ⟨rfl, hwz⟩
        rw [hwz]
        clear hwz
        go_wp2
        go_ret
        exact ⟨rfl, HB12.out⟩
end Go.Proofs.Ytlbfdmiihnlljaa
