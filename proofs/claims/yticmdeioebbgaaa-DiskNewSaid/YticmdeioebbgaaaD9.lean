import Derived.Test.YticmdeioebbgaaaD8
/- DiskNew: the walk. -/
namespace Go.Proofs.Yticmdeioebbgaaa
open Go.RowKit

set_option maxHeartbeats 40000000 in
set_option maxRecDepth 100000 in
theorem new_walk (n : Int) (hn0 : -9223372036854775808 ≤ n) (hn1 : n < 9223372036854775808) (v : Value) (xs : List Int) (hxs : ∀ x ∈ xs, 0 ≤ x ∧ x < 256) (w : World) (hv : U8s w v xs) :
    Calls Try.prog 5 #[.int .i64 n, v] w fun e w' => e = .returned (.bool true) ∧ Below w.heap.size w w' := by
  obtain ⟨a, cap, rfl, hm⟩ := hv.form
  have HV := Lib.hid hv
  have HX := Lib.hid hxs
  have HA := Lib.hid (awake_any w)
  have HM := Lib.hid hm
  unfold maxLen at hm
  obtain ⟨i0, hi0, hz0, hs0, hb0⟩ := Try.info36i
  have hu29 : Try.prog.underlying 29 = some (.slice 36) := by kernel_rfl
  have HI := Lib.hid hi0
  have HZ := Lib.hid hz0
  have HS := Lib.hid hs0
  have HBY := Lib.hid hb0
  have HU := Lib.hid hu29
  clear hv hxs hi0 hz0 hs0 hb0 hu29
  by_cases hL : 100 < xs.length
  · have hL' : (100 : Int) < xs.length := by omega
    go_enter Try.func5, Try.ntmps5
    go_wp2_with fail
    refine HA.out.mono ?_
    rintro e w1 ⟨rfl, hb1⟩
    have HB1 := Lib.hid hb1
    clear HA hb1
    go_wp2
    go_ret
    exact ⟨rfl, HB1.out⟩
  have hL' : ¬ ((100 : Int) < xs.length) := by omega
  by_cases h_lo : n < 0
  · have HN := Lib.hid (fun W => new_out n (by omega) W)
    have hA1 : ¬ (5000 < n) := by omega
    go_enter Try.func5, Try.ntmps5
    go_wp2_with fail
    refine HA.out.mono ?_
    rintro e w1 ⟨rfl, hb1⟩
    have HB1 := Lib.hid hb1
    clear HA hb1
    go_wp2_with fail
    refine (HN.out w1).mono ?_
    rintro e w2 ⟨rfl, hb2⟩
    have HB2 := Lib.hid (HB1.out.trans (hb2.mono HB1.out.size))
    clear hb2 HN
    clear HB1
    go_wp2
    go_loopw [7, 9, 32] (fun v _ i wr => ∃ k : Nat, k ≤ xs.length ∧ i = .int .i64 k ∧ wr.ownsRow w2.heap.size 36 64 v k (byts (k * 64) (flat xs)) ∧ Below w2.heap.size w2 wr) (fun _ _ i _ => xs.length - (intOf i).toNat)
    case atStart => exact ⟨0, by omega, rfl, by simpa [byts] using World.ownsRow_nil _ _ _ _, Below.refl _ _⟩
    case round =>
      obtain ⟨k, hk, rfl, hown, hbr⟩ := hrel
      have HO := Lib.hid hown
      have HB := Lib.hid hbr
      clear hown hbr
      have hzr := HB.out.size
      by_cases hlt : k < xs.length
      · have hk0 : (0 : Int) ≤ k := by omega
        have hkk : (k : Int) < xs.length := by omega
        obtain ⟨b, off, rfl, hbl, hbc⟩ := HV.out.at k hlt
        have ec := ((HB2.out.trans (HB.out.mono HB2.out.size)).cell (p := ⟨b, off + k, none⟩) hbl).trans hbc
        have hx := HX.out xs[k] (List.getElem_mem hlt)
        have HF := Lib.hid (flat_succ xs k hlt)
        clear hbc
        generalize xs[k] = x at *
        go_wp2_with fail
        refine (block_any x hx.1 hx.2 wr).mono ?_
        rintro e w3 ⟨rfl, hb3⟩
        have HB3 := Lib.hid (HB.out.trans (hb3.mono hzr))
        have HO3 := Lib.hid (ownsRow_below HO.out hb3)
        clear hb3
        go_wp2_with (first | (refine wpList_slice1 rfl _ rfl (blk x) rfl ?_; intro w4 F4 hb4 hz4; have HB4 := Lib.hid (HB3.out.trans (hb4.mono HB3.out.size)); have HO4 := Lib.hid (ownsRow_below HO3.out hb4); clear hb4) | (at_builtin; refine wpList_append_own _ rfl _ _ 29 rfl w2.heap.size 36 i0 _ 64 64 HU.out HI.out HZ.out HS.out HBY.out (byts_size 64 _) (by decide) _ _ _ rfl HO4.out ⟨w3.heap.size, 0, none⟩ 1 1 (byts 64 (blk x)) rfl (by rw [byts_len]) ?c1 (byts_one _ _) (by unfold maxLen; omega) (by omega) HB4.out.size ?_))
        case c1 =>
          intro j u hj
          obtain ⟨hj1, rfl⟩ := byts_of hj
          rw [Addr.add_mid, Nat.zero_add]
          exact F4.out.c j hj1
        intro v' w5 hown5 hgrow _
        have HB5 := Lib.hid (HB4.out.grown hgrow HB4.out.size (ownsRow_block HO4.out))
        have HO5 : Hid (w5.ownsRow w2.heap.size 36 64 v' (k + 1) (byts ((k + 1) * 64) (flat xs))) := by
          show w5.ownsRow _ _ _ _ _ _
          rw [HF.out]; exact hown5
        clear hown5 hgrow HO4 HO3
        go_wp2
        go_roundw
        case rel => exact ⟨k + 1, by omega, by go_num, HO5.out, HB5.out⟩
        case measure => simp [intOf]; omega
      · obtain rfl : k = xs.length := by omega
        have HBs := Lib.hid (ownsRow_bs HO.out)
        go_wp2_with fail
        refine (of_any _ _ _ (by omega) wr HBs.out).mono ?_
        rintro e w3 ⟨d3, g3, rfl, hd3, hg3, hD3, hb3⟩
        have HD3 := Lib.hid hD3
        have HB3 := Lib.hid (HB.out.trans (hb3.mono hzr))
        have HBs3 := Lib.hid (HBs.out.below hb3)
        have h3z := hb3.size
        clear hD3 hb3 HO HBs HB
        go_wp2
        go_ret
        exact ⟨rfl, HB2.out.trans (HB3.out.mono HB2.out.size)⟩
  by_cases h_hi : 65536 < n
  · have HN := Lib.hid (fun W => new_out n (by omega) W)
    have hA1 : 5000 < n := by omega
    have hA2 : ¬ (n ≤ 65536) := by omega
    have hA3 : ¬ (n < 0) := by omega
    go_enter Try.func5, Try.ntmps5
    go_wp2_with fail
    refine HA.out.mono ?_
    rintro e w1 ⟨rfl, hb1⟩
    have HB1 := Lib.hid hb1
    clear HA hb1
    go_wp2_with fail
    refine (HN.out w1).mono ?_
    rintro e w2 ⟨rfl, hb2⟩
    have HB2 := Lib.hid (HB1.out.trans (hb2.mono HB1.out.size))
    clear hb2 HN
    clear HB1
    go_wp2
    go_loopw [7, 9, 32] (fun v _ i wr => ∃ k : Nat, k ≤ xs.length ∧ i = .int .i64 k ∧ wr.ownsRow w2.heap.size 36 64 v k (byts (k * 64) (flat xs)) ∧ Below w2.heap.size w2 wr) (fun _ _ i _ => xs.length - (intOf i).toNat)
    case atStart => exact ⟨0, by omega, rfl, by simpa [byts] using World.ownsRow_nil _ _ _ _, Below.refl _ _⟩
    case round =>
      obtain ⟨k, hk, rfl, hown, hbr⟩ := hrel
      have HO := Lib.hid hown
      have HB := Lib.hid hbr
      clear hown hbr
      have hzr := HB.out.size
      by_cases hlt : k < xs.length
      · have hk0 : (0 : Int) ≤ k := by omega
        have hkk : (k : Int) < xs.length := by omega
        obtain ⟨b, off, rfl, hbl, hbc⟩ := HV.out.at k hlt
        have ec := ((HB2.out.trans (HB.out.mono HB2.out.size)).cell (p := ⟨b, off + k, none⟩) hbl).trans hbc
        have hx := HX.out xs[k] (List.getElem_mem hlt)
        have HF := Lib.hid (flat_succ xs k hlt)
        clear hbc
        generalize xs[k] = x at *
        go_wp2_with fail
        refine (block_any x hx.1 hx.2 wr).mono ?_
        rintro e w3 ⟨rfl, hb3⟩
        have HB3 := Lib.hid (HB.out.trans (hb3.mono hzr))
        have HO3 := Lib.hid (ownsRow_below HO.out hb3)
        clear hb3
        go_wp2_with (first | (refine wpList_slice1 rfl _ rfl (blk x) rfl ?_; intro w4 F4 hb4 hz4; have HB4 := Lib.hid (HB3.out.trans (hb4.mono HB3.out.size)); have HO4 := Lib.hid (ownsRow_below HO3.out hb4); clear hb4) | (at_builtin; refine wpList_append_own _ rfl _ _ 29 rfl w2.heap.size 36 i0 _ 64 64 HU.out HI.out HZ.out HS.out HBY.out (byts_size 64 _) (by decide) _ _ _ rfl HO4.out ⟨w3.heap.size, 0, none⟩ 1 1 (byts 64 (blk x)) rfl (by rw [byts_len]) ?c1 (byts_one _ _) (by unfold maxLen; omega) (by omega) HB4.out.size ?_))
        case c1 =>
          intro j u hj
          obtain ⟨hj1, rfl⟩ := byts_of hj
          rw [Addr.add_mid, Nat.zero_add]
          exact F4.out.c j hj1
        intro v' w5 hown5 hgrow _
        have HB5 := Lib.hid (HB4.out.grown hgrow HB4.out.size (ownsRow_block HO4.out))
        have HO5 : Hid (w5.ownsRow w2.heap.size 36 64 v' (k + 1) (byts ((k + 1) * 64) (flat xs))) := by
          show w5.ownsRow _ _ _ _ _ _
          rw [HF.out]; exact hown5
        clear hown5 hgrow HO4 HO3
        go_wp2
        go_roundw
        case rel => exact ⟨k + 1, by omega, by go_num, HO5.out, HB5.out⟩
        case measure => simp [intOf]; omega
      · obtain rfl : k = xs.length := by omega
        have HBs := Lib.hid (ownsRow_bs HO.out)
        go_wp2_with fail
        refine (of_any _ _ _ (by omega) wr HBs.out).mono ?_
        rintro e w3 ⟨d3, g3, rfl, hd3, hg3, hD3, hb3⟩
        have HD3 := Lib.hid hD3
        have HB3 := Lib.hid (HB.out.trans (hb3.mono hzr))
        have HBs3 := Lib.hid (HBs.out.below hb3)
        have h3z := hb3.size
        clear hD3 hb3 HO HBs HB
        go_wp2
        go_ret
        exact ⟨rfl, HB2.out.trans (HB3.out.mono HB2.out.size)⟩
  by_cases h_mid : 5000 < n
  · have hA2 : n ≤ 65536 := by omega
    go_enter Try.func5, Try.ntmps5
    go_wp2_with fail
    refine HA.out.mono ?_
    rintro e w1 ⟨rfl, hb1⟩
    have HB1 := Lib.hid hb1
    clear HA hb1
    go_wp2
    go_ret
    exact ⟨rfl, HB1.out⟩
  have hA3 : ¬ (n < 0) := by omega
  have hA4 : ¬ (65536 < n) := by omega
  have HNN : Hid ((n.toNat : Int) = n) := Int.toNat_of_nonneg (by omega)
  have HN5 : Hid (n.toNat ≤ 5000) := by show n.toNat ≤ 5000; omega
  have HN : Hid (∀ W, Calls Try.prog 8 #[.int .i64 n] W (Made W (DS.new n.toNat))) := by
    intro W
    have h := new_any n.toNat (by omega) W
    rwa [HNN.out] at h
  clear h_lo h_hi
  go_enter Try.func5, Try.ntmps5
  go_wp2_with fail
  refine HA.out.mono ?_
  rintro e w1 ⟨rfl, hb1⟩
  have HB1 := Lib.hid hb1
  clear HA hb1
  go_wp2_with fail
  refine (HN.out w1).mono ?_
  rintro e w2 ⟨d2, g2, rfl, hd2, hg2, hD2, hb2⟩
  have HD2 := Lib.hid hD2
  have HB2 := Lib.hid (HB1.out.trans (hb2.mono HB1.out.size))
  clear hb2 hD2 HN
  clear HB1
  go_wp2
  go_loopw [7, 9, 32] (fun v _ i wr => ∃ k : Nat, k ≤ xs.length ∧ i = .int .i64 k ∧ wr.ownsRow w2.heap.size 36 64 v k (byts (k * 64) (flat xs)) ∧ Below w2.heap.size w2 wr) (fun _ _ i _ => xs.length - (intOf i).toNat)
  case atStart => exact ⟨0, by omega, rfl, by simpa [byts] using World.ownsRow_nil _ _ _ _, Below.refl _ _⟩
  case round =>
    obtain ⟨k, hk, rfl, hown, hbr⟩ := hrel
    have HO := Lib.hid hown
    have HB := Lib.hid hbr
    clear hown hbr
    have hzr := HB.out.size
    by_cases hlt : k < xs.length
    · have hk0 : (0 : Int) ≤ k := by omega
      have hkk : (k : Int) < xs.length := by omega
      obtain ⟨b, off, rfl, hbl, hbc⟩ := HV.out.at k hlt
      have ec := ((HB2.out.trans (HB.out.mono HB2.out.size)).cell (p := ⟨b, off + k, none⟩) hbl).trans hbc
      have hx := HX.out xs[k] (List.getElem_mem hlt)
      have HF := Lib.hid (flat_succ xs k hlt)
      clear hbc
      generalize xs[k] = x at *
      go_wp2_with fail
      refine (block_any x hx.1 hx.2 wr).mono ?_
      rintro e w3 ⟨rfl, hb3⟩
      have HB3 := Lib.hid (HB.out.trans (hb3.mono hzr))
      have HO3 := Lib.hid (ownsRow_below HO.out hb3)
      clear hb3
      go_wp2_with (first | (refine wpList_slice1 rfl _ rfl (blk x) rfl ?_; intro w4 F4 hb4 hz4; have HB4 := Lib.hid (HB3.out.trans (hb4.mono HB3.out.size)); have HO4 := Lib.hid (ownsRow_below HO3.out hb4); clear hb4) | (at_builtin; refine wpList_append_own _ rfl _ _ 29 rfl w2.heap.size 36 i0 _ 64 64 HU.out HI.out HZ.out HS.out HBY.out (byts_size 64 _) (by decide) _ _ _ rfl HO4.out ⟨w3.heap.size, 0, none⟩ 1 1 (byts 64 (blk x)) rfl (by rw [byts_len]) ?c1 (byts_one _ _) (by unfold maxLen; omega) (by omega) HB4.out.size ?_))
      case c1 =>
        intro j u hj
        obtain ⟨hj1, rfl⟩ := byts_of hj
        rw [Addr.add_mid, Nat.zero_add]
        exact F4.out.c j hj1
      intro v' w5 hown5 hgrow _
      have HB5 := Lib.hid (HB4.out.grown hgrow HB4.out.size (ownsRow_block HO4.out))
      have HO5 : Hid (w5.ownsRow w2.heap.size 36 64 v' (k + 1) (byts ((k + 1) * 64) (flat xs))) := by
        show w5.ownsRow _ _ _ _ _ _
        rw [HF.out]; exact hown5
      clear hown5 hgrow HO4 HO3
      go_wp2
      go_roundw
      case rel => exact ⟨k + 1, by omega, by go_num, HO5.out, HB5.out⟩
      case measure => simp [intOf]; omega
    · obtain rfl : k = xs.length := by omega
      have HBs := Lib.hid (ownsRow_bs HO.out)
      go_wp2_with fail
      refine (of_any _ _ _ (by omega) wr HBs.out).mono ?_
      rintro e w3 ⟨d3, g3, rfl, hd3, hg3, hD3, hb3⟩
      have HD3 := Lib.hid hD3
      have HB3 := Lib.hid (HB.out.trans (hb3.mono hzr))
      have HBs3 := Lib.hid (HBs.out.below hb3)
      have h3z := hb3.size
      clear hD3 hb3 HO HBs HB
      go_wp2_with fail
      have HDn := Lib.hid (HD2.out.keep HB3.out)
      refine (len_any d2 g2 _ (by show n.toNat ≤ 65536; have := HN5.out; omega) w3 HDn.out).mono ?_
      rintro e w4 ⟨rfl, rfl⟩
      simp only [DS.new, HNN.out]
      go_wp2_with fail
      refine (dead_any d2 g2 _ w4 HDn.out).mono ?_
      rintro e w5 ⟨rfl, rfl⟩
      simp only [DS.new]
      go_wp2_with fail
      refine (image_any d3 g3 _ (by show xs.length ≤ 65536; omega) w5 HD3.out).mono ?_
      rintro e w6 ⟨v6, rfl, hB6, hb6⟩
      have HB6 := Lib.hid hB6
      have HBW6 := Lib.hid (HB3.out.trans (hb6.mono HB3.out.size))
      have HBs6 := Lib.hid (HBs3.out.below hb6)
      clear hB6 hb6
      go_wp2_with fail
      refine (same_any _ _ _ _ _ _ (by show xs.length ≤ 65536; omega) (by omega) w6 HB6.out HBs6.out).mono ?_
      rintro e w7 ⟨rfl, hb7⟩
      have HBW7 := Lib.hid (HBW6.out.trans (hb7.mono HBW6.out.size))
      rw [show (decide (xs.length = xs.length) && eqb (xs.length * 64) (flat xs) (flat xs)) = true by rw [eqb_same fun _ _ => rfl]; simp]
      clear hb7
      go_wp2
      go_ret
      exact ⟨rfl, HB2.out.trans (HBW7.out.mono HB2.out.size)⟩
end Go.Proofs.Yticmdeioebbgaaa
