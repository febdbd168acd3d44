import Derived.Test.YtlpbhijfdeceoaaB10
/- BitsSpare: the walk. -/
namespace Go.Proofs.Ytlpbhijfdeceoaa
set_option linter.unusedSimpArgs false
set_option linter.unusedVariables false
open Go.RowKit Go.Maps


set_option maxHeartbeats 40000000 in
set_option maxRecDepth 100000 in
theorem spare_walk (n : Int) (on : Bool) (h0 : 0 ≤ n) (h1 : n < 65536) (w : World) :
    Calls Try.prog 6 #[.int .u16 n, .bool on] w fun e w' => e = .returned (.bool true) ∧ Below w.heap.size w w' := by
  have HA := Lib.hid (awake_any w)
  obtain ⟨M, hM⟩ := Int.eq_ofNat_of_zero_le (show 0 ≤ n % 700 by omega)
  have hM7 : M < 700 := by omega
  have hM2 : (0 : Int) ≤ M := by omega
  have hM3 : (M : Int) < 700 := by omega
  have HMM : Hid (n % 700 = (M : Int)) := hM
  clear hM
  obtain ⟨X, hX⟩ : ∃ X, 33 + M / 512 = X := ⟨_, rfl⟩
  have hX1 : 33 ≤ X := by omega
  have hX2 : X < 40 := by omega
  go_enter Try.func6, Try.ntmps6
  go_wp2_with fail
  refine HA.out.mono ?_
  rintro e w0 ⟨rfl, hb⟩
  have HB0 := Lib.hid hb
  clear HA hb
  go_wp2_with fail
  refine (begun_any w0).mono ?_
  rintro e w1 ⟨t, m, d, g, rfl, hFr, hR, hb⟩
  have HR1 := Lib.hid hR
  have HB1 := Lib.hid (HB0.out.trans (hb.mono HB0.out.size))
  have HFr := Lib.hid (show From w.heap.size t m d g from ⟨Nat.le_trans HB0.out.size hFr.1, Nat.le_trans HB0.out.size hFr.2.1, Nat.le_trans HB0.out.size hFr.2.2.1, Nat.le_trans HB0.out.size hFr.2.2.2⟩)
  clear hR hb hFr HB0
  cases on
  · skip
    have HT1l : Hid ((setT [] X M false).length = 0) := by
      show _ = _
      unfold setT
      have hb : bitOf (vw [] X) M = false := by rw [vw_zero (by omega) rfl, bitOf_zero]
      rw [hb]
      rw [if_pos rfl]; rfl
    have HT2 : Hid (setT (setT [] X M false) X M false = setT [] X M false) := by
      show _ = _
      have h := bt_set (T := []) (fun p hp => by cases hp) 33 M M false
      rw [if_pos rfl] at h
      unfold bt at h
      rw [hX] at h
      exact if_pos h
    have HTr : Hid (TB (setT [] X M false)) := setT_tb (fun p hp => by cases hp) X M false
    have HS1 : Hid (∀ p W, p ∉ [t, m, d, g] → Mb W p t 33 700 → Rd W t m d g [] 0 → Calls Try.prog 11 #[.pointer (some ⟨p, 0, none⟩), .int .i64 M, .bool false] W fun e w' => e = .returned (.int .i64 0) ∧ Rd w' t m d g (setT [] X M false) 1 ∧ Kf W w' [t, m, d, g]) := fun p W hp h1 h2 => by
      have := set_any p t m d g 33 700 0 M [] false (by decide) (by decide) (by omega) (by omega) (by omega) (by decide) (by decide) W h1 h2 hp
      rwa [hX] at this
    have HS2 : Hid (∀ p W, p ∉ [t, m, d, g] → Mb W p t 33 700 → Rd W t m d g (setT [] X M false) 1 → Calls Try.prog 11 #[.pointer (some ⟨p, 0, none⟩), .int .i64 M, .bool false] W fun e w' => e = .returned (.int .i64 0) ∧ Rd w' t m d g (setT [] X M false) 2 ∧ Kf W w' [t, m, d, g]) := fun p W hp h1 h2 => by
      have := set_any p t m d g 33 700 1 M (setT [] X M false) false (by decide) (by decide) (by omega) (by omega) (by omega) (by rw [HT1l.out]; decide) (by decide) W h1 h2 hp
      rw [hX, HT2.out] at this
      exact this
    clear HT2 hX
    obtain ⟨T1, hT1⟩ : ∃ T1, setT [] X M false = T1 := ⟨_, rfl⟩
    rw [hT1] at HS1 HS2 HT1l HTr
    clear hT1
    have hT1l := HT1l.out
    go_wp2_with fail
    refine (new5 t 33 700 (by decide) (by decide) w1).mono ?_
    rintro e w2 ⟨p, rfl, hp, hM', hb⟩
    have HM2 := Lib.hid hM'
    have HPn := Lib.hid (HR1.out.notin hp)
    have HR2 := Lib.hid (HR1.out.keep hb)
    have HB2 := Lib.hid (HB1.out.trans (hb.mono HB1.out.size))
    clear hM' hb HR1 HB1 hp
    have hMM := HMM.out
    go_wp2_with fail
    clear hMM
    refine (HS1.out p w2 HPn.out HM2.out HR2.out).mono ?_
    rintro e w3 ⟨rfl, hR, hk⟩
    have HR3 := Lib.hid hR
    have HM3 := Lib.hid (HM2.out.kf hk HPn.out)
    have HB3 := Lib.hid (hk.after HB2.out HFr.out)
    clear hR hk HS1 HR2 HM2 HB2
    go_wp2_with fail
    refine (tlen_any t m d 0 T1 0 w3 HR3.out.tx).mono ?_
    rintro e wz ⟨rfl, hwz⟩
    rw [hwz, HT1l.out]
    clear hwz
    go_wp2_with fail
    refine (HS2.out p w3 HPn.out HM3.out HR3.out).mono ?_
    rintro e w4 ⟨rfl, hR, hk⟩
    have HR4 := Lib.hid hR
    have HB4 := Lib.hid (hk.after HB3.out HFr.out)
    clear hR hk HS2 HR3 HM3 HB3
    go_wp2_with (refine wpList_alloc_byts rfl 49 64 rfl Try.zero36 ?_; intro w5 F5 hb5 hz5; have HF5 := F5; have HR5 := Lib.hid (HR4.out.keep hb5); have HB5 := Lib.hid (HB4.out.trans (hb5.mono HB4.out.size)); clear hb5 hz5 F5)
    have HBn := Lib.hid (HR4.out.notin (p := w4.heap.size) (Nat.le_refl _))
    have hbw : w.heap.size ≤ w4.heap.size := HB4.out.size
    obtain ⟨b, hbq⟩ : ∃ b, w4.heap.size = b := ⟨_, rfl⟩
    rw [hbq] at HF5 HBn hbw ⊢
    clear hbq HR4 HB4
    go_loopw [14, 47] (fun _ i wr => ∃ k : Nat, k ≤ 64 ∧ i = .int .i64 k ∧ Rd wr t m d g T1 2 ∧ Fl wr b 64 (fun j => if j < k then 255 else 0) ∧ Below w.heap.size w wr) (fun _ i _ => 64 - (Go.RowKit.intOf i).toNat)
    case atStart => exact ⟨0, by decide, rfl, HR5.out, HF5.out.congr (fun j hj => by rw [if_neg (by omega)]), HB5.out⟩
    case round =>
      obtain ⟨k, hk, rfl, hR, hF, hB⟩ := hrel
      have HR6 := Lib.hid hR
      have HF6 := Lib.hid hF
      have HB6 := Lib.hid hB
      clear hR hF hB HR5 HF5 HB5
      have hk0 : (0 : Int) ≤ k := by omega
      obtain ⟨w6, rfl⟩ : ∃ x, x = wr := ⟨wr, rfl⟩
      by_cases hlt : k < 64
      · have hlti : (k : Int) < 64 := by omega
        have hc := HF6.out.c k hlt
        have hz := HF6.out.z k hlt
        go_wp2_with fail
        clear hc hz
        have HF7 := Lib.hid ((HF6.out.set k hlt 255).congr (f' := fun j => if j < k + 1 then 255 else 0) (fun j hj => by
          by_cases e : j = k
          · rw [if_pos e, if_pos (by omega)]
          · rw [if_neg e]
            by_cases e2 : j < k
            · rw [if_pos e2, if_pos (by omega)]
            · rw [if_neg e2, if_neg (by omega)]))
        have hk7 : Kp w6 (w6.setCell ⟨b, k, none⟩ (.int .u8 255)) b b := (Kp.refl _ _ _).setCell ⟨b, k, none⟩ (.inl rfl) _
        have HR7 := Lib.hid (HR6.out.kp hk7 HBn.out HBn.out)
        have HB7 := Lib.hid (HB6.out.trans (hk7.below hbw hbw HB6.out.size))
        obtain ⟨w7, hw7⟩ : ∃ x, w6.setCell ⟨b, k, none⟩ (.int .u8 255) = x := ⟨_, rfl⟩
        rw [hw7] at HF7 HR7 HB7 ⊢
        clear hw7 hk7 HF6 HR6 HB6
        go_wp2_with fail
        go_roundw
        case rel => exact ⟨k + 1, by omega, by go_num, HR7.out, HF7.out, HB7.out⟩
        case measure => simp [Go.RowKit.intOf]; omega
      · obtain rfl : k = 64 := by omega
        have HF7 := Lib.hid (HF6.out.congr (f' := fun _ => 255) (fun j hj => by rw [if_pos hj]))
        have HPu := Lib.hid (fun W h => put5 t m d g 2 T1 36 (fun _ => 255) (fun _ _ => ⟨(by show (0 : Int) ≤ 255; decide), (by show (255 : Int) < 256; decide)⟩) (by decide) (by decide) (by omega) (by decide) W h)
        have HA3 : Hid (∀ j, j < 5 → bt (put 36 (fun _ => 255) T1) 36 j = (fun _ => true) j) := fun j hj => by
          unfold bt
          rw [vw_put, if_pos (by omega)]
          have : j = 0 ∨ j = 1 ∨ j = 2 ∨ j = 3 ∨ j = 4 := by omega
          rcases this with rfl | rfl | rfl | rfl | rfl <;> decide
        obtain ⟨T3, hT3⟩ : ∃ T3, put 36 (fun _ => (255 : Int)) T1 = T3 := ⟨_, rfl⟩
        rw [hT3] at HPu HA3
        obtain ⟨V, hV⟩ : ∃ V : Nat → Int, (fun _ => 255) = V := ⟨_, rfl⟩
        rw [hV] at HPu HF7
        clear hT3 hV HF6 hk hk0 hlt
        go_wp2_with (refine wpList_load_mid rfl 49 (.tmp 13) rfl b 0 rfl (byts 64 V) (.array 64 5) HF7.out.range0 Try.arr36 rfl (size36 _) ?_)
        refine (HPu.out w6 HR6.out).mono ?_
        rintro e w7 ⟨rfl, hR, hk⟩
        have HR7 := Lib.hid hR
        have HB7 := Lib.hid (hk.after HB6.out HFr.out)
        clear hR hk HPu HR6 HB6 HF7
        go_wp2_with fail
        refine (new5 t 36 5 (by decide) (by decide) w7).mono ?_
        rintro e w8 ⟨p2, rfl, hp, hM', hb⟩
        have HM8 := Lib.hid hM'
        have HPn2 := Lib.hid (HR7.out.notin hp)
        have HR8 := Lib.hid (HR7.out.keep hb)
        have HB8 := Lib.hid (HB7.out.trans (hb.mono HB7.out.size))
        clear hM' hb HR7 HB7 hp
        have HL5 : Hid ((setL (bt T3 36) 5).length = 5) := by show _ = _; rw [setL_congr HA3.out]; decide
        go_wp2_with fail
        refine (free_any p2 t m d g 36 5 2 T3 (by decide) (by decide) (fun i hi => by omega) (by decide) w8 HM8.out HR8.out HPn2.out).mono ?_
        rintro e w9 ⟨v, rfl, hFr9, hR, hk⟩
        have hv : v = -1 := hFr9.uniq (.inl ⟨rfl, fun j hj => HA3.out j hj⟩)
        subst hv
        have HR9 := Lib.hid hR
        have HM9 := Lib.hid (HM8.out.kf hk HPn2.out)
        have HB9 := Lib.hid (hk.after HB8.out HFr.out)
        clear hR hk hFr9 HR8 HM8 HB8
        have HC9 : Hid (Calls Try.prog 15 #[.pointer (some ⟨p2, 0, none⟩)] w9 fun e w' => e = .returned (.tuple #[.int .i64 5, .int .i64 0]) ∧ Rd w' t m d g T3 (2 + 200 + 200) ∧ Kf w9 w' [t, m, d, g]) := by
          have h := count_any p2 t m d g 36 5 202 T3 (by decide) (by decide) (fun i hi => by omega) (by decide) w9 HM9.out HR9.out HPn2.out
          rw [HL5.out] at h
          exact h
        go_wp2_with fail
        refine HC9.out.mono ?_
        rintro e w10 ⟨rfl, hR, hk⟩
        have HR10 := Lib.hid hR
        have HM10 := Lib.hid (HM9.out.kf hk HPn2.out)
        have HB10 := Lib.hid (hk.after HB9.out HFr.out)
        clear hR hk HR9 HM9 HB9 HC9
        have HLi : Hid (Calls Try.prog 13 #[.pointer (some ⟨p2, 0, none⟩)] w10 fun e w' => ∃ a c, e = .returned (.tuple #[.slice a 5 c, .int .i64 0]) ∧ Kf w10 w' [t, m, d, g]) := by
          refine (list_any p2 t m d g 36 5 402 T3 (by decide) (by decide) (fun i hi => by omega) (by decide) w10 HM10.out HR10.out HPn2.out).mono ?_
          rintro e w' ⟨v, he, hO, _, hk⟩
          obtain ⟨a, c, hv⟩ := ownsRow_slice hO
          rw [HL5.out] at hv
          exact ⟨a, c, by rw [he, hv], hk⟩
        go_wp2_with fail
        refine HLi.out.mono ?_
        rintro e w11 ⟨av, cv, rfl, hk⟩
        have HB11 := Lib.hid (hk.after HB10.out HFr.out)
        clear hk HR10 HM10 HB10 HLi
        go_wp2_with fail
        go_ret
        exact ⟨rfl, HB11.out⟩

  · skip
    have HT1l : Hid ((setT [] X M true).length = 1) := by
      show _ = _
      unfold setT
      have hb : bitOf (vw [] X) M = false := by rw [vw_zero (by omega) rfl, bitOf_zero]
      rw [hb]
      rw [if_neg (by decide)]; rfl
    have HT2 : Hid (setT (setT [] X M true) X M true = setT [] X M true) := by
      show _ = _
      have h := bt_set (T := []) (fun p hp => by cases hp) 33 M M true
      rw [if_pos rfl] at h
      unfold bt at h
      rw [hX] at h
      exact if_pos h
    have HTr : Hid (TB (setT [] X M true)) := setT_tb (fun p hp => by cases hp) X M true
    have HS1 : Hid (∀ p W, p ∉ [t, m, d, g] → Mb W p t 33 700 → Rd W t m d g [] 0 → Calls Try.prog 11 #[.pointer (some ⟨p, 0, none⟩), .int .i64 M, .bool true] W fun e w' => e = .returned (.int .i64 0) ∧ Rd w' t m d g (setT [] X M true) 1 ∧ Kf W w' [t, m, d, g]) := fun p W hp h1 h2 => by
      have := set_any p t m d g 33 700 0 M [] true (by decide) (by decide) (by omega) (by omega) (by omega) (by decide) (by decide) W h1 h2 hp
      rwa [hX] at this
    have HS2 : Hid (∀ p W, p ∉ [t, m, d, g] → Mb W p t 33 700 → Rd W t m d g (setT [] X M true) 1 → Calls Try.prog 11 #[.pointer (some ⟨p, 0, none⟩), .int .i64 M, .bool true] W fun e w' => e = .returned (.int .i64 0) ∧ Rd w' t m d g (setT [] X M true) 2 ∧ Kf W w' [t, m, d, g]) := fun p W hp h1 h2 => by
      have := set_any p t m d g 33 700 1 M (setT [] X M true) true (by decide) (by decide) (by omega) (by omega) (by omega) (by rw [HT1l.out]; decide) (by decide) W h1 h2 hp
      rw [hX, HT2.out] at this
      exact this
    clear HT2 hX
    obtain ⟨T1, hT1⟩ : ∃ T1, setT [] X M true = T1 := ⟨_, rfl⟩
    rw [hT1] at HS1 HS2 HT1l HTr
    clear hT1
    have hT1l := HT1l.out
    go_wp2_with fail
    refine (new5 t 33 700 (by decide) (by decide) w1).mono ?_
    rintro e w2 ⟨p, rfl, hp, hM', hb⟩
    have HM2 := Lib.hid hM'
    have HPn := Lib.hid (HR1.out.notin hp)
    have HR2 := Lib.hid (HR1.out.keep hb)
    have HB2 := Lib.hid (HB1.out.trans (hb.mono HB1.out.size))
    clear hM' hb HR1 HB1 hp
    have hMM := HMM.out
    go_wp2_with fail
    clear hMM
    refine (HS1.out p w2 HPn.out HM2.out HR2.out).mono ?_
    rintro e w3 ⟨rfl, hR, hk⟩
    have HR3 := Lib.hid hR
    have HM3 := Lib.hid (HM2.out.kf hk HPn.out)
    have HB3 := Lib.hid (hk.after HB2.out HFr.out)
    clear hR hk HS1 HR2 HM2 HB2
    go_wp2_with fail
    refine (tlen_any t m d 0 T1 0 w3 HR3.out.tx).mono ?_
    rintro e wz ⟨rfl, hwz⟩
    rw [hwz, HT1l.out]
    clear hwz
    go_wp2_with fail
    refine (HS2.out p w3 HPn.out HM3.out HR3.out).mono ?_
    rintro e w4 ⟨rfl, hR, hk⟩
    have HR4 := Lib.hid hR
    have HB4 := Lib.hid (hk.after HB3.out HFr.out)
    clear hR hk HS2 HR3 HM3 HB3
    go_wp2_with (refine wpList_alloc_byts rfl 49 64 rfl Try.zero36 ?_; intro w5 F5 hb5 hz5; have HF5 := F5; have HR5 := Lib.hid (HR4.out.keep hb5); have HB5 := Lib.hid (HB4.out.trans (hb5.mono HB4.out.size)); clear hb5 hz5 F5)
    have HBn := Lib.hid (HR4.out.notin (p := w4.heap.size) (Nat.le_refl _))
    have hbw : w.heap.size ≤ w4.heap.size := HB4.out.size
    obtain ⟨b, hbq⟩ : ∃ b, w4.heap.size = b := ⟨_, rfl⟩
    rw [hbq] at HF5 HBn hbw ⊢
    clear hbq HR4 HB4
    go_loopw [14, 47] (fun _ i wr => ∃ k : Nat, k ≤ 64 ∧ i = .int .i64 k ∧ Rd wr t m d g T1 2 ∧ Fl wr b 64 (fun j => if j < k then 255 else 0) ∧ Below w.heap.size w wr) (fun _ i _ => 64 - (Go.RowKit.intOf i).toNat)
    case atStart => exact ⟨0, by decide, rfl, HR5.out, HF5.out.congr (fun j hj => by rw [if_neg (by omega)]), HB5.out⟩
    case round =>
      obtain ⟨k, hk, rfl, hR, hF, hB⟩ := hrel
      have HR6 := Lib.hid hR
      have HF6 := Lib.hid hF
      have HB6 := Lib.hid hB
      clear hR hF hB HR5 HF5 HB5
      have hk0 : (0 : Int) ≤ k := by omega
      obtain ⟨w6, rfl⟩ : ∃ x, x = wr := ⟨wr, rfl⟩
      by_cases hlt : k < 64
      · have hlti : (k : Int) < 64 := by omega
        have hc := HF6.out.c k hlt
        have hz := HF6.out.z k hlt
        go_wp2_with fail
        clear hc hz
        have HF7 := Lib.hid ((HF6.out.set k hlt 255).congr (f' := fun j => if j < k + 1 then 255 else 0) (fun j hj => by
          by_cases e : j = k
          · rw [if_pos e, if_pos (by omega)]
          · rw [if_neg e]
            by_cases e2 : j < k
            · rw [if_pos e2, if_pos (by omega)]
            · rw [if_neg e2, if_neg (by omega)]))
        have hk7 : Kp w6 (w6.setCell ⟨b, k, none⟩ (.int .u8 255)) b b := (Kp.refl _ _ _).setCell ⟨b, k, none⟩ (.inl rfl) _
        have HR7 := Lib.hid (HR6.out.kp hk7 HBn.out HBn.out)
        have HB7 := Lib.hid (HB6.out.trans (hk7.below hbw hbw HB6.out.size))
        obtain ⟨w7, hw7⟩ : ∃ x, w6.setCell ⟨b, k, none⟩ (.int .u8 255) = x := ⟨_, rfl⟩
        rw [hw7] at HF7 HR7 HB7 ⊢
        clear hw7 hk7 HF6 HR6 HB6
        go_wp2_with fail
        go_roundw
        case rel => exact ⟨k + 1, by omega, by go_num, HR7.out, HF7.out, HB7.out⟩
        case measure => simp [Go.RowKit.intOf]; omega
      · obtain rfl : k = 64 := by omega
        have HF7 := Lib.hid (HF6.out.congr (f' := fun _ => 255) (fun j hj => by rw [if_pos hj]))
        have HPu := Lib.hid (fun W h => put5 t m d g 2 T1 36 (fun _ => 255) (fun _ _ => ⟨(by show (0 : Int) ≤ 255; decide), (by show (255 : Int) < 256; decide)⟩) (by decide) (by decide) (by omega) (by decide) W h)
        have HA3 : Hid (∀ j, j < 5 → bt (put 36 (fun _ => 255) T1) 36 j = (fun _ => true) j) := fun j hj => by
          unfold bt
          rw [vw_put, if_pos (by omega)]
          have : j = 0 ∨ j = 1 ∨ j = 2 ∨ j = 3 ∨ j = 4 := by omega
          rcases this with rfl | rfl | rfl | rfl | rfl <;> decide
        obtain ⟨T3, hT3⟩ : ∃ T3, put 36 (fun _ => (255 : Int)) T1 = T3 := ⟨_, rfl⟩
        rw [hT3] at HPu HA3
        obtain ⟨V, hV⟩ : ∃ V : Nat → Int, (fun _ => 255) = V := ⟨_, rfl⟩
        rw [hV] at HPu HF7
        clear hT3 hV HF6 hk hk0 hlt
        go_wp2_with (refine wpList_load_mid rfl 49 (.tmp 13) rfl b 0 rfl (byts 64 V) (.array 64 5) HF7.out.range0 Try.arr36 rfl (size36 _) ?_)
        refine (HPu.out w6 HR6.out).mono ?_
        rintro e w7 ⟨rfl, hR, hk⟩
        have HR7 := Lib.hid hR
        have HB7 := Lib.hid (hk.after HB6.out HFr.out)
        clear hR hk HPu HR6 HB6 HF7
        go_wp2_with fail
        refine (new5 t 36 5 (by decide) (by decide) w7).mono ?_
        rintro e w8 ⟨p2, rfl, hp, hM', hb⟩
        have HM8 := Lib.hid hM'
        have HPn2 := Lib.hid (HR7.out.notin hp)
        have HR8 := Lib.hid (HR7.out.keep hb)
        have HB8 := Lib.hid (HB7.out.trans (hb.mono HB7.out.size))
        clear hM' hb HR7 HB7 hp
        have HL5 : Hid ((setL (bt T3 36) 5).length = 5) := by show _ = _; rw [setL_congr HA3.out]; decide
        go_wp2_with fail
        refine (free_any p2 t m d g 36 5 2 T3 (by decide) (by decide) (fun i hi => by omega) (by decide) w8 HM8.out HR8.out HPn2.out).mono ?_
        rintro e w9 ⟨v, rfl, hFr9, hR, hk⟩
        have hv : v = -1 := hFr9.uniq (.inl ⟨rfl, fun j hj => HA3.out j hj⟩)
        subst hv
        have HR9 := Lib.hid hR
        have HM9 := Lib.hid (HM8.out.kf hk HPn2.out)
        have HB9 := Lib.hid (hk.after HB8.out HFr.out)
        clear hR hk hFr9 HR8 HM8 HB8
        have HC9 : Hid (Calls Try.prog 15 #[.pointer (some ⟨p2, 0, none⟩)] w9 fun e w' => e = .returned (.tuple #[.int .i64 5, .int .i64 0]) ∧ Rd w' t m d g T3 (2 + 200 + 200) ∧ Kf w9 w' [t, m, d, g]) := by
          have h := count_any p2 t m d g 36 5 202 T3 (by decide) (by decide) (fun i hi => by omega) (by decide) w9 HM9.out HR9.out HPn2.out
          rw [HL5.out] at h
          exact h
        go_wp2_with fail
        refine HC9.out.mono ?_
        rintro e w10 ⟨rfl, hR, hk⟩
        have HR10 := Lib.hid hR
        have HM10 := Lib.hid (HM9.out.kf hk HPn2.out)
        have HB10 := Lib.hid (hk.after HB9.out HFr.out)
        clear hR hk HR9 HM9 HB9 HC9
        have HLi : Hid (Calls Try.prog 13 #[.pointer (some ⟨p2, 0, none⟩)] w10 fun e w' => ∃ a c, e = .returned (.tuple #[.slice a 5 c, .int .i64 0]) ∧ Kf w10 w' [t, m, d, g]) := by
          refine (list_any p2 t m d g 36 5 402 T3 (by decide) (by decide) (fun i hi => by omega) (by decide) w10 HM10.out HR10.out HPn2.out).mono ?_
          rintro e w' ⟨v, he, hO, _, hk⟩
          obtain ⟨a, c, hv⟩ := ownsRow_slice hO
          rw [HL5.out] at hv
          exact ⟨a, c, by rw [he, hv], hk⟩
        go_wp2_with fail
        refine HLi.out.mono ?_
        rintro e w11 ⟨av, cv, rfl, hk⟩
        have HB11 := Lib.hid (hk.after HB10.out HFr.out)
        clear hk HR10 HM10 HB10 HLi
        go_wp2_with fail
        go_ret
        exact ⟨rfl, HB11.out⟩

end Go.Proofs.Ytlpbhijfdeceoaa
