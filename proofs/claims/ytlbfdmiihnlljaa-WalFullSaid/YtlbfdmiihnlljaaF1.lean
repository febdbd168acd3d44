import Derived.Test.YtlbfdmiihnlljaaE14
/- WalFull: the walk. -/
namespace Go.Proofs.Ytlbfdmiihnlljaa
set_option linter.unusedSimpArgs false
set_option linter.unusedVariables false
open Go.RowKit Go.Maps

/-- what is to be written behind k puts -/
def TF (k : Nat) : TS := (List.range (min k 30)).map fun j => (40 + j, blk ((j + 1 : Nat) : Int))
theorem TF_len (k : Nat) : (TF k).length = min k 30 := by simp [TF]
theorem TF_at (k i : Nat) (h : i < (TF k).length) : (TF k)[i] = (40 + i, blk ((i + 1 : Nat) : Int)) := by simp [TF]
theorem TF_rise (k : Nat) : Rise (TF k) := by
  unfold Rise TF
  rw [List.pairwise_map]
  exact List.pairwise_lt_range.imp fun {a b} h => by show 40 + a < 40 + b; omega
theorem TF_find (k i : Nat) (h : k ≤ i) : find (TF k) (40 + (i : Int)) = none := by
  cases hf : find (TF k) (40 + (i : Int)) with
  | none => rfl
  | some f =>
    obtain ⟨p, hp, hpk, _⟩ := find_mem hf
    unfold TF at hp
    obtain ⟨j, hj, rfl⟩ := List.mem_map.1 hp
    have := List.mem_range.1 hj
    simp only at hpk
    omega
theorem put_last (k : Nat) (f : Nat → Int) : ∀ T : TS, (∀ p ∈ T, p.1 < k) → put k f T = T ++ [(k, f)]
  | [], _ => rfl
  | p :: r, h => by
    have h0 := h p (by simp)
    unfold put
    rw [if_neg (by omega), if_neg (by omega), put_last k f r (fun q hq => h q (by simp [hq]))]
    rfl
theorem TF_succ (k : Nat) (h : k < 30) : put (40 + k) (blk ((k + 1 : Nat) : Int)) (TF k) = TF (k + 1) := by
  rw [put_last]
  · unfold TF
    rw [show min (k + 1) 30 = min k 30 + 1 by omega, List.range_succ, List.map_append, show min k 30 = k by omega]
    rfl
  · intro p hp
    unfold TF at hp
    obtain ⟨j, hj, rfl⟩ := List.mem_map.1 hp
    have := List.mem_range.1 hj
    show 40 + j < 40 + k
    omega
theorem TF_stop (k : Nat) (h : 30 ≤ k) : TF (k + 1) = TF k := by
  unfold TF
  rw [show min (k + 1) 30 = min k 30 by omega]
theorem TF_ok (k : Nat) : TOk (TF k) 100 0 := by
  refine ⟨TF_rise k, by rw [TF_len]; omega, fun p hp => ?_, fun p hp => ?_⟩
  · unfold TF at hp
    obtain ⟨j, hj, rfl⟩ := List.mem_map.1 hp
    have := List.mem_range.1 hj
    show 40 + j < 100 ∧ _
    omega
  · unfold TF at hp
    obtain ⟨j, hj, rfl⟩ := List.mem_map.1 hp
    exact blk_byt _
def faF (k : Nat) : Int := if k ≤ 30 then 0 else 23
theorem putT_in (k : Nat) (h : k < 30) : putT 100 0 (40 + (k : Int)) (blk ((k + 1 : Nat) : Int)) (TF k) (faF k) = (0, TF (k + 1), faF (k + 1)) := by
  have hm : mayB 100 0 (TF k) (40 + (k : Int)) = 0 := by
    unfold mayB
    rw [if_neg, if_neg]
    · rw [TF_len]; omega
    · unfold outB; simp; omega
  unfold putT
  rw [if_pos hm, show (40 + (k : Int)).toNat = 40 + k by omega, TF_succ k h]
  unfold faF
  rw [if_pos (by omega), if_pos (by omega)]
theorem putT_out (k : Nat) (h : 30 ≤ k) (h2 : k < 40) : putT 100 0 (40 + (k : Int)) (blk ((k + 1 : Nat) : Int)) (TF k) (faF k) = (23, TF (k + 1), faF (k + 1)) := by
  have hm : mayB 100 0 (TF k) (40 + (k : Int)) = 23 := by
    unfold mayB
    rw [if_neg, if_pos]
    · rw [TF_len]
      refine ⟨?_, by omega⟩
      have : find (TF k) (40 + (k : Int)) = none := TF_find k k (Nat.le_refl _)
      rw [this]
      rfl
    · unfold outB; simp; omega
  unfold putT
  rw [hm, if_neg (by decide), TF_stop k h]
  unfold faF
  rw [if_neg (show ¬ k + 1 ≤ 30 by omega)]
  by_cases h3 : k ≤ 30
  · rw [if_pos h3, if_pos rfl]
  · rw [if_neg h3, if_neg (by decide)]

set_option maxHeartbeats 40000000 in
set_option maxRecDepth 100000 in
theorem full_walk (n : Int) (h0 : 0 ≤ n) (h1 : n < 256) (w : World) :
    Calls Try.prog 5 #[.int .u8 n] w fun e w' => e = .returned (.bool true) ∧ Below w.heap.size w w' := by
  have HA := Lib.hid (awake_any w)
  have HN := Lib.hid (fun W => new_any 100 (by decide) W)
  obtain ⟨M, hM⟩ := Int.eq_ofNat_of_zero_le (show 0 ≤ n % 40 by omega)
  have hM40 : M < 40 := by omega
  have HM : Hid (n % 40 = (M : Int)) := hM
  clear hM
  go_enter Try.func5, Try.ntmps5
  go_wp2_with fail
  refine HA.out.mono ?_
  rintro e w0 ⟨rfl, hb⟩
  have HB0 := Lib.hid hb
  clear HA hb
  go_wp2_with fail
  refine (HN.out w0).mono ?_
  rintro e w1 ⟨d, g, rfl, hd, hg, hD, hb⟩
  have HD1 := Lib.hid hD
  have HB1 := Lib.hid (HB0.out.trans (hb.mono HB0.out.size))
  have h01 := HB0.out.size
  have hdl := hD.lt
  have hgl := hD.fl.lt
  clear hD hb HN HB0
  go_wp2_with fail
  refine (open_in d g _ 0 (by decide) (by decide) w1 HD1.out).mono ?_
  rintro e w2 ⟨l, rfl, hl, hL, hb⟩
  have HL2 := Lib.hid hL
  have HD2 := Lib.hid (HD1.out.keep hb)
  have HB2 := Lib.hid (HB1.out.trans (hb.mono HB1.out.size))
  have h12 := hb.size
  clear hL hb HD1 HB1
  have hS0 : Sane (DS.new 100) 100 0 := Sane.new 100
  go_wp2_with fail
  refine (format_any l d g 0 100 0 _ (by decide) (by decide) (by decide) hS0 w2 HL2.out HD2.out (by omega) (by omega)).mono ?_
  have hw0 : (DS.new 100).write 0 (headF []) = (0, ⟨100, upd (fun _ => 0) (0 * 64) 64 (headF []), false, 0, false, 0, 1⟩) := by simp [DS.write, DS.new]
  rw [hw0]
  rintro e w3 ⟨rfl, hD3, hk3⟩
  obtain ⟨f, hf⟩ : ∃ f, upd (fun _ => 0) (0 * 64) 64 (headF []) = f := ⟨_, rfl⟩
  have HSB : Hid (SB f 0 (headF [])) := by rw [← hf]; exact SB.upd_same _ _ _
  have HS3 : Hid (Sane ⟨100, f, false, 0, false, 0, 1⟩ 100 1) := by
    have := hS0.write 0 (headF []) (headF_byt _)
    rw [hw0, hf] at this
    exact this
  rw [hf] at hD3
  obtain ⟨s, hs⟩ : ∃ s : DS, (⟨100, f, false, 0, false, 0, 1⟩ : DS) = s := ⟨_, rfl⟩
  have HsA : Hid (Awk s) := by rw [← hs]; exact ⟨rfl, rfl⟩
  have HsN : Hid (s.n = 100) := by rw [← hs]; rfl
  have HsF : Hid (SB s.f 0 (headF [])) := by rw [← hs]; exact HSB.out
  rw [hs] at HS3 hD3
  have HD3 := Lib.hid hD3
  have HL3 := Lib.hid (HL2.out.kp hk3 (by omega) (by omega))
  have HB3 := Lib.hid (HB2.out.trans (hk3.below (B := w.heap.size) (by omega) (by omega) HB2.out.size))
  have h23 := hk3.size
  clear hD3 hk3 HD2 HB2 hf hw0 hS0 HL2 hs HSB
  go_wp2_with fail
  refine (image_at d g 100 1 s (by decide) HS3.out w3 HD3.out).mono ?_
  rintro e w4 ⟨rfl, hI4, hb⟩
  have HI4 := Lib.hid hI4
  have HD4 := Lib.hid (HD3.out.keep hb)
  have HL4 := Lib.hid (HL3.out.keep hb)
  have HB4 := Lib.hid (HB3.out.trans (hb.mono HB3.out.size))
  have h34 := hb.size
  have hi4 := hI4.lt
  have hdl3 := HD3.out.lt
  have hgl3 := HD3.out.fl.lt
  obtain ⟨b4, hb4⟩ : ∃ b4, w3.heap.size = b4 := ⟨_, rfl⟩
  rw [hb4] at HI4 hi4 hdl3 hgl3 h34 ⊢
  clear hI4 hb HD3 HL3 HB3 hb4
  go_wp2_with fail
  refine (begin_any l d 0 (by decide) w4 HL4.out).mono ?_
  rintro e w5 ⟨t, m, rfl, ht, hm, hT, hb⟩
  have HT5 := Lib.hid hT
  have HD5 := Lib.hid (HD4.out.keep hb)
  have HI5 := Lib.hid (HI4.out.below hb hi4)
  have HB5 := Lib.hid (HB4.out.trans (hb.mono HB4.out.size))
  have htl := hT.lg.lt
  have hml := hT.mp.lt
  clear hT hb HD4 HI4 HL4 HB4
  have hM2 : (M : Int) < 40 := by omega
  have hM3 : (0 : Int) ≤ M := by omega
  have hMM := HM.out
  have h4w : w.heap.size ≤ w4.heap.size := by omega
  go_wp2_with fail
  clear hMM
  go_loopw [10, 11, 36] (fun _ _ i wr => ∃ k : Nat, k ≤ M ∧ i = .int .i64 k ∧ Tx wr t m d 0 (TF k) (faF k) ∧ Dk wr d g s ∧ Fl wr b4 (100 * 64) s.f ∧ Below w.heap.size w wr ∧ w5.heap.size ≤ wr.heap.size) (fun _ _ i _ => M - (Go.RowKit.intOf i).toNat)
  case atStart => exact ⟨0, by omega, rfl, HT5.out, HD5.out, HI5.out, HB5.out, Nat.le_refl _⟩
  case round =>
    obtain ⟨k, hk, rfl, hT, hD, hI, hB, hz⟩ := hrel
    have HT := Lib.hid hT
    have HD := Lib.hid hD
    have HI := Lib.hid hI
    have HB := Lib.hid hB
    clear hT hD hI hB HT5 HD5 HI5 HB5
    have hk0 : (0 : Int) ≤ k := by omega
    obtain ⟨wX, rfl⟩ : ∃ x, x = wr := ⟨wr, rfl⟩
    by_cases hlt : k < M
    · have hkk : (k : Int) < M := by omega
      have hk40 : (k : Int) < 40 := by omega
      have HBk : Hid (∀ W, Calls Try.prog 25 #[.int .u8 ((k : Int) + 1)] W fun e w' => e = .returned (.agg (byts 64 (blk ((k + 1 : Nat) : Int))).toArray) ∧ Below W.heap.size W w') := fun W => by
        have := block_any ((k + 1 : Nat) : Int) (by omega) (by omega) W
        rwa [show ((k + 1 : Nat) : Int) = (k : Int) + 1 by omega] at this ⊢
      have HPu := Lib.hid (fun W (h1 : Tx W t m d 0 (TF k) (faF k)) (h2 : Dk W d g s) => put_any t m d g 0 100 1 (TF k) (faF k) s (40 + (k : Int)) (blk ((k + 1 : Nat) : Int)) (by omega) (by omega) (by rw [TF_len]; omega) (by decide) (by decide) HS3.out W h1 h2 (by unfold faF; split <;> omega))
      obtain ⟨B, hBq⟩ : ∃ B, blk ((k + 1 : Nat) : Int) = B := ⟨_, rfl⟩
      have HPi : Hid (k < 30 → putT 100 0 (40 + (k : Int)) B (TF k) (faF k) = (0, TF (k + 1), faF (k + 1))) := fun h => by rw [← hBq]; exact putT_in k h
      have HPo : Hid (30 ≤ k → putT 100 0 (40 + (k : Int)) B (TF k) (faF k) = (23, TF (k + 1), faF (k + 1))) := fun h => by rw [← hBq]; exact putT_out k h (by omega)
      rw [hBq] at HBk HPu
      clear hBq
      go_wp2_with fail
      refine (HBk.out wX).mono ?_
      rintro e w6 ⟨rfl, hb⟩
      have HT6 := Lib.hid (HT.out.keep hb)
      have HD6 := Lib.hid (HD.out.keep hb)
      have HI6 := Lib.hid (HI.out.below hb HI.out.lt)
      have HB6 := Lib.hid (HB.out.trans (hb.mono HB.out.size))
      have h56 := hb.size
      clear hb HT HD HI HB HBk
      by_cases hk30 : k < 30
      · have hk30' : (k : Int) < 30 := by omega
        have hp := HPi.out hk30
        have HPx : Hid (∀ W, Tx W t m d 0 (TF k) (faF k) → Dk W d g s → Calls Try.prog 24 #[.pointer (some ⟨t, 0, none⟩), .int .i64 (40 + (k : Int)), .agg (byts 64 B).toArray] W fun e w' => e = .returned (.int .i64 0) ∧ Tx w' t m d 0 (TF (k + 1)) (faF (k + 1)) ∧ Kp W w' t m) := fun W h1 h2 => by
          have h := HPu.out W h1 h2
          rwa [hp] at h
        clear hp HPi HPo HPu
        go_wp2_with fail
        refine (HPx.out w6 HT6.out HD6.out).mono ?_
        rintro e w7 ⟨rfl, hT7, hk7⟩
        have HT7 := Lib.hid hT7
        have HD7 := Lib.hid (HD6.out.kp hk7 (by omega) (by omega) (by omega) (by omega))
        have HI7 := Lib.hid (HI6.out.kp hk7 (by omega) (by omega))
        have HB7 := Lib.hid (HB6.out.trans (hk7.below (B := w.heap.size) (by omega) (by omega) HB6.out.size))
        have h67 := hk7.size
        clear hT7 hk7 HT6 HD6 HI6 HB6 HPx
        go_wp2_with fail
        go_roundw
        case rel => exact ⟨k + 1, by omega, by go_num, HT7.out, HD7.out, HI7.out, HB7.out, by omega⟩
        case measure => simp [Go.RowKit.intOf]; omega
      · have hk30' : ¬ ((k : Int) < 30) := by omega
        have hp := HPo.out (by omega)
        have HPx : Hid (∀ W, Tx W t m d 0 (TF k) (faF k) → Dk W d g s → Calls Try.prog 24 #[.pointer (some ⟨t, 0, none⟩), .int .i64 (40 + (k : Int)), .agg (byts 64 B).toArray] W fun e w' => e = .returned (.int .i64 23) ∧ Tx w' t m d 0 (TF (k + 1)) (faF (k + 1)) ∧ Kp W w' t m) := fun W h1 h2 => by
          have h := HPu.out W h1 h2
          rwa [hp] at h
        clear hp HPi HPo HPu
        go_wp2_with fail
        refine (HPx.out w6 HT6.out HD6.out).mono ?_
        rintro e w7 ⟨rfl, hT7, hk7⟩
        have HT7 := Lib.hid hT7
        have HD7 := Lib.hid (HD6.out.kp hk7 (by omega) (by omega) (by omega) (by omega))
        have HI7 := Lib.hid (HI6.out.kp hk7 (by omega) (by omega))
        have HB7 := Lib.hid (HB6.out.trans (hk7.below (B := w.heap.size) (by omega) (by omega) HB6.out.size))
        have h67 := hk7.size
        clear hT7 hk7 HT6 HD6 HI6 HB6 HPx
        go_wp2_with fail
        go_roundw
        case rel => exact ⟨k + 1, by omega, by go_num, HT7.out, HD7.out, HI7.out, HB7.out, by omega⟩
        case measure => simp [Go.RowKit.intOf]; omega
    · obtain rfl : k = M := by omega
      have hTl : (TF k).length ≤ 30 := by rw [TF_len]; omega
      have HTO := Lib.hid (TF_ok k)
      have HCo := Lib.hid (commit_any t m d g 0 100 1 (TF k) (faF k) s hTl (fun p hp => ⟨((TF_ok k).out p hp).1, (TF_ok k).byt p hp⟩) (by decide) (by decide) (by decide) (by unfold faF; split <;> omega) HS3.out wX HT.out HD.out (by omega) (by omega) (by omega) (by omega))
      have HSC := Lib.hid (Sane.commit (fi := 0) (TF k) (faF k) 1 s hTl (TF_ok k).byt HS3.out)
      by_cases hk30 : 30 < k
      · have hk30' : (30 : Int) < k := by omega
        have hc : commit 0 (TF k) (faF k) s = (23, TF k, s) := by
          unfold commit
          rw [show faF k = 23 by unfold faF; rw [if_neg (by omega)], if_pos (by decide)]
        rw [hc] at HCo HSC
        clear hc
        go_wp2_with fail
        refine HCo.out.mono ?_
        rintro e w6 ⟨rfl, hT6, hD6, hkc⟩
        have HD6 := Lib.hid hD6
        have HI6 : Hid (Fl w6 b4 (100 * 64) s.f) := by
          obtain ⟨u1, u2, k1, k2, k3⟩ := hkc
          exact ((HI.out.kp k1 (by omega) (by omega)).kp k2 (by omega) (by omega)).kp k3 (by omega) (by omega)
        have HB6 := Lib.hid (HB.out.trans (hkc.below (B := w.heap.size) (by omega) (by omega) (by omega) HB.out.size))
        clear hT6 hD6 hkc HCo HT HD HI HB
        go_wp2_with fail
        refine (image_at d g 100 _ s (by decide) HSC.out w6 HD6.out).mono ?_
        rintro e w7 ⟨rfl, hI7, hb⟩
        have HJ7 := Lib.hid hI7
        have HI7 := Lib.hid (HI6.out.below hb HI6.out.lt)
        have HB7 := Lib.hid (HB6.out.trans (hb.mono HB6.out.size))
        clear hI7 hb HI6 HD6 HB6
        go_wp2_with fail
        refine (same_any _ _ 100 100 s.f s.f (by decide) (by decide) w7 (Bs.of_fl HJ7.out 100) (Bs.of_fl HI7.out 100)).mono ?_
        rintro e w8 ⟨rfl, hb⟩
        have HB8 := Lib.hid (HB7.out.trans (hb.mono HB7.out.size))
        rw [show (decide (100 = 100) && eqb (100 * 64) s.f s.f) = true by rw [eqb_same fun _ _ => rfl]; rfl]
        clear hb HB7
        go_wp2_with fail
        go_ret
        exact ⟨rfl, HB8.out⟩
      · have hk30' : ¬ ((30 : Int) < k) := by omega
        have hfa : faF k = 0 := by unfold faF; rw [if_pos (by omega)]
        rw [hfa] at HCo HSC
        have hsA : StA s 100 0 (fun k i => s.f (k * 64 + i)) := ⟨HsN.out, HsF.out, fun k _ i _ => rfl⟩
        have hcw := commit_whole HTO.out _ (by decide) s hsA
        obtain ⟨R, hR⟩ : ∃ R, commit 0 (TF k) 0 s = R := ⟨_, rfl⟩
        rw [hR] at HCo HSC hcw
        clear hR hsA
        obtain ⟨r1, r2, r3⟩ := R
        have hgood : r1 = 0 ∧ r2 = [] ∧ StA r3 100 0 (over (TF k) (fun k i => s.f (k * 64 + i))) := by
          rcases hcw with ⟨h1, h2, h3, _⟩ | ⟨_, _, h3⟩
          · exact ⟨h1, h2, h3⟩
          · exact absurd HsA.out h3
        clear hcw
        obtain ⟨rfl, rfl, hSt⟩ := hgood
        have HSt := Lib.hid hSt
        clear hSt
        go_wp2_with fail
        refine HCo.out.mono ?_
        rintro e w6 ⟨rfl, hT6, hD6, hkc⟩
        have HT6 := Lib.hid hT6
        have HD6 := Lib.hid hD6
        have HB6 := Lib.hid (HB.out.trans (hkc.below (B := w.heap.size) (by omega) (by omega) (by omega) HB.out.size))
        clear hT6 hD6 hkc HCo HT HD HI HB
        go_wp2_with fail
        refine (image_at d g 100 _ r3 (by decide) HSC.out w6 HD6.out).mono ?_
        rintro e w7 ⟨rfl, hI7, hb⟩
        have hb6w := HB6.out.size
        have hi7 := hI7.lt
        have HJ7 := Lib.hid hI7
        have HT7 := Lib.hid (HT6.out.keep hb)
        have HB7 := Lib.hid (HB6.out.trans (hb.mono HB6.out.size))
        obtain ⟨b7, hb7⟩ : ∃ b7, w6.heap.size = b7 := ⟨_, rfl⟩
        rw [hb7] at HJ7 hi7 ⊢
        clear hI7 hb HT6 HD6 HB6 hb7 hb6w
        go_wp2_with fail
        go_loopw [14, 75] (fun _ i wr => ∃ j : Nat, j ≤ k ∧ i = .int .i64 j ∧ Below w7.heap.size w7 wr) (fun _ i _ => k - (Go.RowKit.intOf i).toNat)
        case atStart => exact ⟨0, by omega, rfl, Below.refl _ _⟩
        case round =>
          obtain ⟨j, hj, rfl, hBr⟩ := hrel
          have HBr := Lib.hid hBr
          have hzr := hBr.size
          clear hBr
          have hj0 : (0 : Int) ≤ j := by omega
          by_cases hjk : j < k
          · have hjk' : (j : Int) < k := by omega
            have hj30 : (j : Int) < 30 := by omega
            have a1 : (0 : Int) ≤ 40 + (j : Int) := by omega
            have a2 : 40 + (j : Int) < 100 := by omega
            have HA3 : Hid (IntKind.i64.wrap (40 + (j : Int)) = 40 + (j : Int)) := IntWalk.i64_in _ (by omega)
            have HA4 : Hid ((40 + (j : Int)).toNat = 40 + j) := by show (40 + (j : Int)).toNat = _; omega
            have HA5 : Hid (IntKind.i64.wrap ((j : Int) + 1) = (j : Int) + 1) := IntWalk.i64_in _ (by omega)
            have HA6 : Hid (IntKind.u8.wrap ((j : Int) + 1) = (j : Int) + 1) := IntWalk.u8_in _ (by omega)
            have HBk : Hid (∀ W, Calls Try.prog 25 #[.int .u8 ((j : Int) + 1)] W fun e w' => e = .returned (.agg (byts 64 (blk ((j + 1 : Nat) : Int))).toArray) ∧ Below W.heap.size W w') := fun W => by
              have := block_any ((j + 1 : Nat) : Int) (by omega) (by omega) W
              rwa [show ((j + 1 : Nat) : Int) = (j : Int) + 1 by omega] at this ⊢
            obtain ⟨B, hBq⟩ : ∃ B, blk ((j + 1 : Nat) : Int) = B := ⟨_, rfl⟩
            obtain ⟨V, hV⟩ : ∃ V : Nat → Int, (fun i => r3.f ((40 + j) * 64 + i)) = V := ⟨_, rfl⟩
            have e36 : ∀ W, (Op.equalIn 10000 50 (.agg (byts 64 V).toArray) (.agg (byts 64 B).toArray)).run Try.prog W = .ok true W := fun W => by
              rw [eq36, eqb_same fun i hi => ?_]
              rw [← hV, ← hBq]
              have hl : j < (TF k).length := by rw [TF_len]; omega
              have h1 := HSt.out.out (40 + j) ⟨by omega, by omega⟩ i hi
              have h2 := over_at HTO.out.rise (fun k i => s.f (k * 64 + i)) hl
              rw [TF_at k j hl] at h2
              rw [h2] at h1
              exact h1
            have HE := Lib.hid e36
            have hR : ∀ W, Below w7.heap.size w7 W → W.rangeAt b7 ((40 + j) * 64) (byts 64 V) := fun W hW => by
              have h1 := (HJ7.out.below hW hi7).range ((40 + j) * 64) 64 (by omega)
              rwa [hV] at h1
            have HR := Lib.hid hR
            rw [hBq] at HBk
            clear e36 hR hV hBq
            go_wp2_with fail
            refine wp_region_held (S := fun W => Below w7.heap.size w7 W) (by kernel_rfl) ?_
            change wpAnyH _ _ _ _ _ _ _ _ (World.drew _)
            have hS0 : Below w7.heap.size w7 (World.drew wr) := HBr.out.drew
            have a3 := HA3.out
            have a4 := HA4.out
            have a5 := HA5.out
            have a6 := HA6.out
            refine wpAnyH_take (i := 0) (v := ?_) rfl (by kernel_rfl) (by kernel_rfl) (by kernel_rfl) (fun _ _ _ h => h) (Or.inl ⟨by rfl, ?_⟩) hS0 ?_
            rotate_left 1
            · intro W hW
              go_simp
              try with_reducible rfl
            simp only [Act.put, List.getElem_toArray, List.getElem_cons_zero, List.getElem_cons_succ, List.setIfInBounds_toArray, List.set_cons_zero, List.set_cons_succ]
            refine wpAnyH_take (i := 1) (v := ?_) rfl (by kernel_rfl) (by kernel_rfl) (by kernel_rfl) (fun _ _ _ h => h) (Or.inl ⟨by rfl, ?_⟩) hS0 ?_
            rotate_left 1
            · intro W hW
              go_simp
              try with_reducible rfl
            simp only [Act.put, List.getElem_toArray, List.getElem_cons_zero, List.getElem_cons_succ, List.setIfInBounds_toArray, List.set_cons_zero, List.set_cons_succ]
            refine wpAnyH_take (i := 2) (v := ?_) rfl (by kernel_rfl) (by kernel_rfl) (by kernel_rfl) (fun _ _ _ h => h) (Or.inl ⟨by rfl, ?_⟩) hS0 ?_
            rotate_left 1
            · intro W hW
              go_simp
              try with_reducible rfl
            simp only [Act.put, List.getElem_toArray, List.getElem_cons_zero, List.getElem_cons_succ, List.setIfInBounds_toArray, List.set_cons_zero, List.set_cons_succ]
            refine wpAnyH_take (i := 3) (v := ?_) rfl (by kernel_rfl) (by kernel_rfl) (by kernel_rfl) (fun _ _ _ h => h) (Or.inl ⟨by rfl, ?_⟩) hS0 ?_
            rotate_left 1
            · intro W hW
              go_simp
              try with_reducible rfl
            simp only [Act.put, List.getElem_toArray, List.getElem_cons_zero, List.getElem_cons_succ, List.setIfInBounds_toArray, List.set_cons_zero, List.set_cons_succ]
            refine wpAnyH_take (i := 4) (v := .agg (byts 64 V).toArray) rfl (by kernel_rfl) (by kernel_rfl) (by kernel_rfl) (fun _ _ _ h => h) ?_ hS0 ?_
            · exact yieldsIf_load_mid (by rfl) 50 _ rfl b7 ((40 + j) * 64) rfl (byts 64 V) (.array 64 5) (fun W h => HR.out W h) Try.arr36 rfl (size36 _)
            simp only [Act.put, List.getElem_toArray, List.getElem_cons_zero, List.getElem_cons_succ, List.setIfInBounds_toArray, List.set_cons_zero, List.set_cons_succ]
            refine wpAnyH_take (i := 5) (v := ?_) rfl (by kernel_rfl) (by kernel_rfl) (by kernel_rfl) (fun _ _ _ h => h) (Or.inl ⟨by rfl, ?_⟩) hS0 ?_
            rotate_left 1
            · intro W hW
              go_simp
              try with_reducible rfl
            simp only [Act.put, List.getElem_toArray, List.getElem_cons_zero, List.getElem_cons_succ, List.setIfInBounds_toArray, List.set_cons_zero, List.set_cons_succ]
            refine wpAnyH_take (i := 6) (v := ?_) rfl (by kernel_rfl) (by kernel_rfl) (by kernel_rfl) (fun _ _ _ h => h) (Or.inl ⟨by rfl, ?_⟩) hS0 ?_
            rotate_left 1
            · intro W hW
              go_simp
              try with_reducible rfl
            simp only [Act.put, List.getElem_toArray, List.getElem_cons_zero, List.getElem_cons_succ, List.setIfInBounds_toArray, List.set_cons_zero, List.set_cons_succ]
            refine wpAnyH_take (i := 7) (v := ?_) rfl (by kernel_rfl) (by kernel_rfl) (by kernel_rfl) (fun _ _ _ h => h) (Or.inl ⟨by rfl, ?_⟩) hS0 ?_
            rotate_left 1
            · intro W hW
              go_simp
              try with_reducible rfl
            simp only [Act.put, List.getElem_toArray, List.getElem_cons_zero, List.getElem_cons_succ, List.setIfInBounds_toArray, List.set_cons_zero, List.set_cons_succ]
            clear a3 a4 a5 a6
            refine wpAnyH_ready (rs := [8]) (by kernel_rfl) (by simp) (AllReadyH.cons rfl (fun KK hKK => ?_) AllReadyH.nil)
            go_simp
            refine (HBk.out _).mono ?_
            rintro e w9 ⟨rfl, hb⟩
            have hS1 := hS0.trans (hb.mono hS0.size)
            have HB9 := Lib.hid hS1
            clear hS0
            have hS0 : Below w7.heap.size w7 w9 := hS1
            refine hKK _ _ hS0 ?_
            intro _
            clear hKK KK hb hS1
            refine wpAnyH_take (i := 9) (v := ?_) rfl (by kernel_rfl) (by kernel_rfl) (by kernel_rfl) (fun _ _ _ h => h) (Or.inl ⟨by rfl, ?_⟩) hS0 ?_
            rotate_left 1
            · intro W hW
              have e36 := HE.out W
              go_simp
              try with_reducible rfl
            simp only [Act.put, List.getElem_toArray, List.getElem_cons_zero, List.getElem_cons_succ, List.setIfInBounds_toArray, List.set_cons_zero, List.set_cons_succ]
            refine wpAnyH_done (by kernel_rfl) ?_ _
            clear hS0
            go_wp2_with fail
            go_roundw
            case rel => exact ⟨j + 1, by omega, by go_num, HB9.out⟩
            case measure => simp [Go.RowKit.intOf]; omega
          · obtain rfl : j = k := by omega
            have HTr := Lib.hid (HT7.out.keep HBr.out)
            go_wp2_with fail
            refine (tlen_any t m d 0 [] 0 wr HTr.out).mono ?_
            rintro e wz ⟨rfl, hwz⟩
            rw [hwz]
            clear hwz
            go_wp2_with fail
            go_ret
            exact ⟨rfl, HB7.out.trans (HBr.out.mono HB7.out.size)⟩
end Go.Proofs.Ytlbfdmiihnlljaa
