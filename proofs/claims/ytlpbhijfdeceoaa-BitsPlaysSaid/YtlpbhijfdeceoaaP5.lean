import Derived.Test.YtlpbhijfdeceoaaBl
import Derived.Test.YtlpbhijfdeceoaaX2
import Derived.Test.YtlpbhijfdeceoaaZs
import Derived.Deep.CutBlock
import Derived.Deep.DeepCutAuto
/- BitsPlays: the walk. -/
namespace Go.Proofs.Ytlpbhijfdeceoaa
set_option linter.unusedSimpArgs false
set_option linter.unusedVariables false
open Go.RowKit Go.Maps


set_option maxHeartbeats 80000000 in
set_option maxRecDepth 200000 in
theorem plays_walk (n raw : Int) (h0 : 0 ≤ n) (h1 : n < 65536) (hr0 : -9223372036854775808 ≤ raw) (hr1 : raw < 9223372036854775808) (va : Value) (xs : List Int) (hxr : ∀ z ∈ xs, -32768 ≤ z ∧ z < 32768) (w : World) (hxs : Zs w .i16 va xs) :
    Calls Try.prog 3 #[.int .u16 n, va, .int .i64 raw] w fun e w' => e = .returned (.bool true) ∧ Below w.heap.size w w' := by
  have HA := Lib.hid (awake_any w)
  obtain ⟨N, hN⟩ := Int.eq_ofNat_of_zero_le (show 0 ≤ n % 1200 by omega)
  have hN7 : N < 1200 := by omega
  have hN2 : (0 : Int) ≤ N := by omega
  have hN3 : (N : Int) < 1200 := by omega
  have HNN : Hid (n % 1200 = (N : Int)) := hN
  have HV := Lib.hid hxs
  have HXR := Lib.hid hxr
  obtain ⟨ax, cx, rfl, hxm⟩ := hxs.form
  unfold maxLen at hxm
  have HR0 := Lib.hid hr0
  have HR1' := Lib.hid hr1
  clear hN hxs hxr hr0 hr1
  go_enter Try.func3, Try.ntmps3
  go_wp2_with fail
  refine HA.out.mono ?_
  rintro e w0 ⟨rfl, hb⟩
  have HB0 := Lib.hid hb
  clear HA hb
  have hNN := HNN.out
  go_wp2_with fail
  clear hNN
  refine (begun_any w0).mono ?_
  rintro e w1 ⟨t, m, d, g, rfl, hFr, hR, hb⟩
  have HR1 := Lib.hid hR
  have HB1 := Lib.hid (HB0.out.trans (hb.mono HB0.out.size))
  have HFr := Lib.hid (show From w.heap.size t m d g from ⟨Nat.le_trans HB0.out.size hFr.1, Nat.le_trans HB0.out.size hFr.2.1, Nat.le_trans HB0.out.size hFr.2.2.1, Nat.le_trans HB0.out.size hFr.2.2.2⟩)
  clear hR hb hFr HB0
  go_wp2_with fail
  refine (new5 t 32 N (by decide) (by omega) w1).mono ?_
  rintro e w2 ⟨p, rfl, hp, hM, hb⟩
  have HM2 := Lib.hid hM
  have HPn := Lib.hid (HR1.out.notin hp)
  have HR2 := Lib.hid (HR1.out.keep hb)
  have HB2 := Lib.hid (HB1.out.trans (hb.mono HB1.out.size))
  clear hM hb HR1 HB1 hp
  go_upto_block 0 with (refine wpList_make4 rfl _ rfl N rfl (by omega) ?_; intro w3 HW3 hb3 hz3; have HM3 := Lib.hid (HM2.out.keep hb3); have HR3 := Lib.hid (HR2.out.keep hb3); have HB3 := Lib.hid (HB2.out.trans (hb3.mono HB2.out.size)); clear hb3 hz3)
  have HWn := Lib.hid (HR2.out.notin (p := w2.heap.size) (Nat.le_refl _))
  have hgw : w.heap.size ≤ w2.heap.size := HB2.out.size
  have hpg := HM2.out.lt
  have hlts := HR2.out.lts
  obtain ⟨gw, hgq⟩ : ∃ b, w2.heap.size = b := ⟨_, rfl⟩
  rw [hgq] at HW3 HWn hgw hpg hlts ⊢
  clear hgq HR2 HB2 HM2
  go_cut [13, 14, 15, 16, 17, 18, 19] (fun _ _ _ _ _ _ _ wc => ∃ T f K, K ≤ 130 ∧ Mb wc p t 32 N ∧ Rd wc t m d g T K ∧ In T 32 3 ∧ (∀ j, j < N → bt T 32 j = f j) ∧ Bl wc gw N f ∧ Below w.heap.size w wc)
  case first =>
    go_wp2_with fail
    go_loopw [13, 14, 15, 16, 17, 18, 19, 52] (fun _ _ _ _ _ _ _ i wr => ∃ k : Nat, k ≤ xs.length ∧ k ≤ 61 ∧ i = .int .i64 k ∧ Mb wr p t 32 N ∧ (∃ T f, Rd wr t m d g T (2 * k) ∧ In T 32 3 ∧ (∀ j, j < N → bt T 32 j = f j) ∧ Bl wr gw N f) ∧ Below w.heap.size w wr) (fun _ _ _ _ _ _ _ i _ => xs.length - (Go.RowKit.intOf i).toNat)
    case atStart => exact ⟨0, by omega, by decide, rfl, HM3.out, ⟨[], _, HR3.out, (fun p hp => by cases hp), (fun j hj => bt_nil 32 j (by decide)), HW3.out⟩, HB3.out⟩
    case round =>
      obtain ⟨k, hk, hk61, rfl, hM, ⟨T, f, hR, hIn, hBt, hW⟩, hB⟩ := hrel
      have HM := Lib.hid hM
      have HR := Lib.hid hR
      have HIn := Lib.hid hIn
      have HBt := Lib.hid hBt
      have HW := Lib.hid hW
      have HB := Lib.hid hB
      clear hM hR hIn hBt hW hB HM3 HR3 HW3 HB3
      have hk0 : (0 : Int) ≤ k := by omega
      have hk62 : (k : Int) ≤ 61 := by omega
      obtain ⟨wX, rfl⟩ : ∃ x, x = wr := ⟨wr, rfl⟩
      by_cases hlt : k < xs.length
      · have hlti : (k : Int) < xs.length := by omega
        obtain ⟨b1, o1, hax, hb1, hc1⟩ := (HV.out.below HB.out).at k hlt
        subst hax
        obtain ⟨hx0, hx1⟩ := HXR.out xs[k] (List.getElem_mem hlt)
        generalize xs[k] = x at hc1 hx0 hx1
        by_cases h60 : k ≤ 60
        · have h60i : (k : Int) ≤ 60 := by omega
          by_cases hx : 0 ≤ x
          · obtain ⟨A, hA⟩ := Int.eq_ofNat_of_zero_le (show 0 ≤ x % 1300 by omega)
            have hA1 : A < 1300 := by omega
            have hA2 : (0 : Int) ≤ A := by omega
            have hA3 : (A : Int) < 1300 := by omega
            by_cases hAN : A < N
            · have hANi : ¬ ((N : Int) ≤ A) := by omega
              have hANi2 : (A : Int) < N := by omega
              have hT29 : T.length < 30 := by have := In.len HR.out.tx.mp.2 HIn.out; omega
              have HSet : Hid (∀ W, Mb W p t 32 N → Rd W t m d g T (2 * k) → Calls Try.prog 11 #[.pointer (some ⟨p, 0, none⟩), .int .i64 A, .bool true] W fun e w' => e = .returned (.int .i64 0) ∧ Rd w' t m d g (setT T (32 + A / 512) A true) (2 * k + 1) ∧ Kf W w' [t, m, d, g]) := fun W h1 h2 =>
                set_any p t m d g 32 N (2 * k) A T true (by decide) (by omega) hAN (by omega) (by omega) hT29 (by omega) W h1 h2 HPn.out
              have HIn2 := Lib.hid (HIn.out.set (32 + A / 512) A true (by omega) (by omega))
              have HBt2 : Hid (∀ j, j < N → bt (setT T (32 + A / 512) A true) 32 j = if j = A then true else f j) := fun j hj => by
                rw [bt_set HR.out.tb 32 A j true]
                by_cases e : A = j
                · rw [if_pos e, if_pos e.symm]
                · rw [if_neg e, if_neg (fun h => e h.symm), HBt.out j hj]
              have HHas : Hid (∀ W, Mb W p t 32 N → Rd W t m d g (setT T (32 + A / 512) A true) (2 * k + 1) → Calls Try.prog 12 #[.pointer (some ⟨p, 0, none⟩), .int .i64 A] W fun e w' => e = .returned (.tuple #[.bool true, .int .i64 0]) ∧ Rd w' t m d g (setT T (32 + A / 512) A true) (2 * k + 2) ∧ Kf W w' [t, m, d, g]) := fun W h1 h2 => by
                have h := has_any p t m d g 32 N (2 * k + 1) A (setT T (32 + A / 512) A true) (by decide) (by omega) hAN (by omega) (by omega) W h1 h2 HPn.out
                have hb : bitOf (vw (setT T (32 + A / 512) A true) (32 + A / 512)) A = true := by
                  have := HBt2.out A hAN
                  rw [if_pos rfl] at this
                  exact this
                rw [hb] at h
                exact h
              obtain ⟨T2, hT2⟩ : ∃ T2, setT T (32 + A / 512) A true = T2 := ⟨_, rfl⟩
              rw [hT2] at HSet HIn2 HBt2 HHas
              clear hT2 HIn HBt
              go_wp2_with fail
              refine (HSet.out wX HM.out HR.out).mono ?_
              rintro e w5 ⟨rfl, hR, hk5⟩
              have HR5 := Lib.hid hR
              have HM5 := Lib.hid (HM.out.kf hk5 HPn.out)
              have HW5 := Lib.hid (HW.out.kf hk5 HWn.out)
              have HB5 := Lib.hid (hk5.after HB.out HFr.out)
              clear hR hk5 HSet HR HM HW HB
              have hc := HW5.out.c A hAN
              have hz := HW5.out.z A hAN
              go_wp2_with fail
              clear hc hz
              have HW6 := Lib.hid (HW5.out.set A hAN true)
              have hk6 : Kp w5 (w5.setCell ⟨gw, A, none⟩ (.bool true)) gw gw := (Kp.refl _ _ _).setCell ⟨gw, A, none⟩ (.inl rfl) _
              have HR6 := Lib.hid (HR5.out.kp hk6 HWn.out HWn.out)
              have HM6 := Lib.hid (HM5.out.kp hk6 (by omega))
              have HB6 := Lib.hid (HB5.out.trans (hk6.below hgw hgw HB5.out.size))
              obtain ⟨w6, hw6⟩ : ∃ x, w5.setCell ⟨gw, A, none⟩ (.bool true) = x := ⟨_, rfl⟩
              rw [hw6] at HW6 HR6 HM6 HB6 ⊢
              clear hw6 hk6 HW5 HR5 HM5 HB5
              refine (HHas.out w6 HM6.out HR6.out).mono ?_
              rintro e w7 ⟨rfl, hR, hk7⟩
              have HR7 := Lib.hid hR
              have HM7 := Lib.hid (HM6.out.kf hk7 HPn.out)
              have HW7 := Lib.hid (HW6.out.kf hk7 HWn.out)
              have HB7 := Lib.hid (hk7.after HB6.out HFr.out)
              clear hR hk7 HHas HR6 HM6 HW6 HB6
              go_wp2_with fail
              go_roundw
              case rel => exact ⟨k + 1, by omega, by omega, by go_num, HM7.out, ⟨_, _, HR7.out.mono (by omega), HIn2.out, HBt2.out, HW7.out⟩, HB7.out⟩
              case measure => simp [Go.RowKit.intOf]; omega

            · have hANi : (N : Int) ≤ A := by omega
              go_wp2_with fail
              refine (set_err (A : Int) true 27 (by decide) _ wX (blockof_out p t 32 N (A : Int) (.inr (by omega)) (by omega) wX HM.out)).mono ?_
              rintro e w5 ⟨rfl, hb5⟩
              have HR5 := Lib.hid (HR.out.keep hb5)
              have HM5 := Lib.hid (HM.out.keep hb5)
              have HW5 := Lib.hid (HW.out.keep hb5)
              have HB5 := Lib.hid (HB.out.trans (hb5.mono HB.out.size))
              clear hb5 HR HM HW HB
              go_wp2_with fail
              go_roundw
              case rel => exact ⟨k + 1, by omega, by omega, by go_num, HM5.out, ⟨_, _, HR5.out.mono (by omega), HIn.out, HBt.out, HW5.out⟩, HB5.out⟩
              case measure => simp [Go.RowKit.intOf]; omega


          · obtain ⟨y, hy⟩ : ∃ y, -1 - x = y := ⟨_, rfl⟩
            have hy0 : 0 ≤ y := by omega
            have hy1 : y < 32768 := by omega
            obtain ⟨A, hA⟩ := Int.eq_ofNat_of_zero_le (show 0 ≤ y % 1300 by omega)
            have hA1 : A < 1300 := by omega
            have hA2 : (0 : Int) ≤ A := by omega
            have hA3 : (A : Int) < 1300 := by omega
            by_cases hAN : A < N
            · have hANi : ¬ ((N : Int) ≤ A) := by omega
              have hANi2 : (A : Int) < N := by omega
              have hT29 : T.length < 30 := by have := In.len HR.out.tx.mp.2 HIn.out; omega
              have HSet : Hid (∀ W, Mb W p t 32 N → Rd W t m d g T (2 * k) → Calls Try.prog 11 #[.pointer (some ⟨p, 0, none⟩), .int .i64 A, .bool false] W fun e w' => e = .returned (.int .i64 0) ∧ Rd w' t m d g (setT T (32 + A / 512) A false) (2 * k + 1) ∧ Kf W w' [t, m, d, g]) := fun W h1 h2 =>
                set_any p t m d g 32 N (2 * k) A T false (by decide) (by omega) hAN (by omega) (by omega) hT29 (by omega) W h1 h2 HPn.out
              have HIn2 := Lib.hid (HIn.out.set (32 + A / 512) A false (by omega) (by omega))
              have HBt2 : Hid (∀ j, j < N → bt (setT T (32 + A / 512) A false) 32 j = if j = A then false else f j) := fun j hj => by
                rw [bt_set HR.out.tb 32 A j false]
                by_cases e : A = j
                · rw [if_pos e, if_pos e.symm]
                · rw [if_neg e, if_neg (fun h => e h.symm), HBt.out j hj]
              have HHas : Hid (∀ W, Mb W p t 32 N → Rd W t m d g (setT T (32 + A / 512) A false) (2 * k + 1) → Calls Try.prog 12 #[.pointer (some ⟨p, 0, none⟩), .int .i64 A] W fun e w' => e = .returned (.tuple #[.bool false, .int .i64 0]) ∧ Rd w' t m d g (setT T (32 + A / 512) A false) (2 * k + 2) ∧ Kf W w' [t, m, d, g]) := fun W h1 h2 => by
                have h := has_any p t m d g 32 N (2 * k + 1) A (setT T (32 + A / 512) A false) (by decide) (by omega) hAN (by omega) (by omega) W h1 h2 HPn.out
                have hb : bitOf (vw (setT T (32 + A / 512) A false) (32 + A / 512)) A = false := by
                  have := HBt2.out A hAN
                  rw [if_pos rfl] at this
                  exact this
                rw [hb] at h
                exact h
              obtain ⟨T2, hT2⟩ : ∃ T2, setT T (32 + A / 512) A false = T2 := ⟨_, rfl⟩
              rw [hT2] at HSet HIn2 HBt2 HHas
              clear hT2 HIn HBt
              go_wp2_with fail
              refine (HSet.out wX HM.out HR.out).mono ?_
              rintro e w5 ⟨rfl, hR, hk5⟩
              have HR5 := Lib.hid hR
              have HM5 := Lib.hid (HM.out.kf hk5 HPn.out)
              have HW5 := Lib.hid (HW.out.kf hk5 HWn.out)
              have HB5 := Lib.hid (hk5.after HB.out HFr.out)
              clear hR hk5 HSet HR HM HW HB
              have hc := HW5.out.c A hAN
              have hz := HW5.out.z A hAN
              go_wp2_with fail
              clear hc hz
              have HW6 := Lib.hid (HW5.out.set A hAN false)
              have hk6 : Kp w5 (w5.setCell ⟨gw, A, none⟩ (.bool false)) gw gw := (Kp.refl _ _ _).setCell ⟨gw, A, none⟩ (.inl rfl) _
              have HR6 := Lib.hid (HR5.out.kp hk6 HWn.out HWn.out)
              have HM6 := Lib.hid (HM5.out.kp hk6 (by omega))
              have HB6 := Lib.hid (HB5.out.trans (hk6.below hgw hgw HB5.out.size))
              obtain ⟨w6, hw6⟩ : ∃ x, w5.setCell ⟨gw, A, none⟩ (.bool false) = x := ⟨_, rfl⟩
              rw [hw6] at HW6 HR6 HM6 HB6 ⊢
              clear hw6 hk6 HW5 HR5 HM5 HB5
              refine (HHas.out w6 HM6.out HR6.out).mono ?_
              rintro e w7 ⟨rfl, hR, hk7⟩
              have HR7 := Lib.hid hR
              have HM7 := Lib.hid (HM6.out.kf hk7 HPn.out)
              have HW7 := Lib.hid (HW6.out.kf hk7 HWn.out)
              have HB7 := Lib.hid (hk7.after HB6.out HFr.out)
              clear hR hk7 HHas HR6 HM6 HW6 HB6
              go_wp2_with fail
              go_roundw
              case rel => exact ⟨k + 1, by omega, by omega, by go_num, HM7.out, ⟨_, _, HR7.out.mono (by omega), HIn2.out, HBt2.out, HW7.out⟩, HB7.out⟩
              case measure => simp [Go.RowKit.intOf]; omega

            · have hANi : (N : Int) ≤ A := by omega
              go_wp2_with fail
              refine (set_err (A : Int) false 27 (by decide) _ wX (blockof_out p t 32 N (A : Int) (.inr (by omega)) (by omega) wX HM.out)).mono ?_
              rintro e w5 ⟨rfl, hb5⟩
              have HR5 := Lib.hid (HR.out.keep hb5)
              have HM5 := Lib.hid (HM.out.keep hb5)
              have HW5 := Lib.hid (HW.out.keep hb5)
              have HB5 := Lib.hid (HB.out.trans (hb5.mono HB.out.size))
              clear hb5 HR HM HW HB
              go_wp2_with fail
              go_roundw
              case rel => exact ⟨k + 1, by omega, by omega, by go_num, HM5.out, ⟨_, _, HR5.out.mono (by omega), HIn.out, HBt.out, HW5.out⟩, HB5.out⟩
              case measure => simp [Go.RowKit.intOf]; omega


        · have h60i : ¬ ((k : Int) ≤ 60) := by omega
          have h60j : (60 : Int) < k := by omega
          go_wp2_with fail
          go_meet
          case rel => exact ⟨T, f, 2 * k, by omega, HM.out, HR.out, HIn.out, HBt.out, HW.out, HB.out⟩
      · have hlti : ¬ ((k : Int) < xs.length) := by omega
        go_wp2_with fail
        go_meet
        case rel => exact ⟨T, f, 2 * k, by omega, HM.out, HR.out, HIn.out, HBt.out, HW.out, HB.out⟩
  case rest =>
    obtain ⟨T, f, K, hK, hM, hR, hIn, hBt, hW, hB⟩ := hcut
    have HM := Lib.hid hM
    have HR := Lib.hid hR
    have HBt := Lib.hid hBt
    have HW := Lib.hid hW
    have HB := Lib.hid hB
    clear hM hR hIn hBt hW hB HM3 HR3 HW3 HB3 HXR HV
    have hlts := HR.out.lts
    have hpl := HM.out.lt
    have hgl := HW.out.lt
    have hbase : w.heap.size ≤ wc.heap.size := HB.out.size
    obtain ⟨i0, hi, hz0, hz1, hz2⟩ := Try.info3i
    have HI := Lib.hid hi
    have HZ0 := Lib.hid hz0
    have HZ1 := Lib.hid hz1
    have HZ2 := Lib.hid hz2
    have HU : Hid (Try.prog.underlying 38 = some (.slice 3)) := by show _ = _; kernel_rfl
    clear hi hz0 hz1 hz2
    obtain ⟨wY, rfl⟩ : ∃ x, x = wc := ⟨wc, rfl⟩
    go_wp2_with fail
    go_loopw [20, 21, 22, 23, 102] (fun v fv _ _ i wr => ∃ (k : Nat) (fr : Int), k ≤ N ∧ i = .int .i64 k ∧ fv = .int .i64 fr ∧ Fr f k fr ∧ wr.ownsRow wY.heap.size 3 1 v (setL f k).length (nsV (setL f k)) ∧ Below wY.heap.size wY wr) (fun _ _ _ _ i _ => N - (Go.RowKit.intOf i).toNat)
    case atStart => exact ⟨0, -1, by omega, rfl, rfl, .inl ⟨rfl, fun j hj => by omega⟩, World.ownsRow_nil _ _ _ _, Below.refl _ _⟩
    case round =>
      obtain ⟨k, fr, hk, rfl, rfl, hFf, hrow, hbr⟩ := hrel
      have HFf := Lib.hid hFf
      have HROW := Lib.hid hrow
      have HBR := Lib.hid hbr
      clear hFf hrow hbr
      have hk0 : (0 : Int) ≤ k := by omega
      have hkn : (k : Int) ≤ N := by omega
      have hlen := setL_len f k
      by_cases hlt : k < N
      · have hlti : (k : Int) < N := by omega
        have hce := (HW.out.below HBR.out hgl).c k hlt
        have HSu := Lib.hid (setL_succ f k)
        have hfrr : -1 ≤ fr ∧ fr < 1200 := by
          rcases HFf.out with ⟨e, _⟩ | ⟨i, hi, e, _⟩ <;> omega
        obtain ⟨hfr0, hfr1⟩ := hfrr
        cases hfk : f k with
        | true =>
          have HF2 : Hid (Fr f (k + 1) fr) := by
            rcases HFf.out with ⟨e, h⟩ | ⟨i, hi, e, h2, h3⟩
            · exact .inl ⟨e, fun j hj => by
                by_cases ej : j = k
                · rw [ej, hfk]
                · exact h j (by omega)⟩
            · exact .inr ⟨i, by omega, e, h2, h3⟩
          rw [hfk] at hce HSu
          obtain ⟨L, hL⟩ : ∃ L, setL f k = L := ⟨_, rfl⟩
          rw [hL] at HROW HSu hlen
          have HS2 : Hid (setL f (k + 1) = L ++ [k]) := by show _ = _; rw [HSu.out, if_pos rfl]
          clear hfk hL HSu
          go_wp2_with (at_builtin; refine wpList_append_own _ rfl _ _ 38 rfl wY.heap.size 3 i0 (.int .i64 0) 1 8 HU.out HI.out HZ0.out HZ1.out HZ2.out rfl (by decide) _ _ _ rfl (HROW.out.alloc _) ⟨wr.heap.size, 0, none⟩ 1 1 [.int .i64 k] rfl rfl (cell_one_new _ _ _) (by simp [Value.oneCell']) (by unfold maxLen; omega) (by omega) (by have := HBR.out.size; simp; omega) ?_; intro v' w3 hown' hg3 hnil3; have HOW3 := Lib.hid hown'; have HB3 := Lib.hid ((HBR.out.alloc HBR.out.size _).grown hg3 (by have := HBR.out.size; simp; omega) (fun k hk => ownsRow_block HROW.out k hk)); clear hown' hg3 hnil3)
          go_roundw
          case rel => exact ⟨k + 1, fr, by omega, by go_num, rfl, HF2.out, (by rw [HS2.out]; simpa [nsV] using HOW3.out), HB3.out⟩
          case measure => simp [Go.RowKit.intOf]; omega
        | false =>
          rw [hfk] at hce HSu
          have HS2 : Hid (setL f (k + 1) = setL f k) := by show _ = _; rw [HSu.out, if_neg (by decide)]
          clear HSu
          by_cases hfn : fr < 0
          · have HF2 : Hid (Fr f (k + 1) k) := by
              rcases HFf.out with ⟨e, h⟩ | ⟨i, hi, e, h2, h3⟩
              · exact .inr ⟨k, by omega, rfl, hfk, h⟩
              · omega
            clear hfk
            go_wp2_with fail
            go_roundw
            case rel => exact ⟨k + 1, k, by omega, by go_num, rfl, HF2.out, (by rw [HS2.out]; exact HROW.out), HBR.out⟩
            case measure => simp [Go.RowKit.intOf]; omega
          · have HF2 : Hid (Fr f (k + 1) fr) := by
              rcases HFf.out with ⟨e, h⟩ | ⟨i, hi, e, h2, h3⟩
              · omega
              · exact .inr ⟨i, by omega, e, h2, h3⟩
            clear hfk
            go_wp2_with fail
            go_roundw
            case rel => exact ⟨k + 1, fr, by omega, by go_num, rfl, HF2.out, (by rw [HS2.out]; exact HROW.out), HBR.out⟩
            case measure => simp [Go.RowKit.intOf]; omega
      · obtain rfl : k = N := by omega
        obtain ⟨w4, rfl⟩ : ∃ x, x = wr := ⟨wr, rfl⟩
        have HM4 := Lib.hid (HM.out.keep HBR.out)
        have HR4 := Lib.hid (HR.out.keep HBR.out)
        have HW4 := Lib.hid (HW.out.keep HBR.out)
        have HB4 := Lib.hid (HB.out.trans (HBR.out.mono HB.out.size))
        have HLi := Lib.hid (fun W h1 h2 => list_any p t m d g 32 k K T (by decide) (by omega) (fun i hi => by omega) (by omega) W h1 h2 HPn.out)
        have HFe := Lib.hid (fun W h1 h2 => free_any p t m d g 32 k (K + 200) T (by decide) (by omega) (fun i hi => by omega) (by omega) W h1 h2 HPn.out)
        have HCo := Lib.hid (fun W h1 h2 => count_any p t m d g 32 k (K + 200 + 200) T (by decide) (by omega) (fun i hi => by omega) (by omega) W h1 h2 HPn.out)
        have hLe : setL (bt T 32) k = setL f k := setL_congr HBt.out
        rw [hLe] at HLi HCo
        obtain ⟨L, hL⟩ : ∃ L, setL f k = L := ⟨_, rfl⟩
        rw [hL] at HLi HCo HROW hlen
        have HLl : Hid (L.length ≤ 65536) := by show _ ≤ _; omega
        obtain ⟨aL, cL, hvL⟩ := ownsRow_slice HROW.out
        subst hvL
        have HL4 := HROW
        have HRn : Hid (∀ j, wY.heap.size ≤ j → j ∉ [t, m, d, g]) := fun j hj => HR.out.notin hj
        have HRn4 : Hid (∀ j, w4.heap.size ≤ j → j ∉ [t, m, d, g]) := fun j hj => HR4.out.notin hj
        have hLi2 : (L.length : Int) ≤ 1200 := by omega
        clear hL hLe HROW HM HR HW HB HBR
        go_wp2_with fail
        by_cases hrr : 0 ≤ raw ∧ raw < k
        · obtain ⟨hrr1, hrr2⟩ := hrr
          obtain ⟨r, hrq⟩ := Int.eq_ofNat_of_zero_le hrr1
          have hr : r < k := by omega
          subst hrq
          have HHr : Hid (∀ W, Mb W p t 32 k → Rd W t m d g T (K + 200 + 200 + 200) → Calls Try.prog 12 #[.pointer (some ⟨p, 0, none⟩), .int .i64 r] W fun e w' => e = .returned (.tuple #[.bool (f r), .int .i64 0]) ∧ Rd w' t m d g T (K + 200 + 200 + 200 + 1) ∧ Kf W w' [t, m, d, g]) := fun W h1 h2 => by
            have h := has_any p t m d g 32 k (K + 200 + 200 + 200) r T (by decide) (by omega) hr (by omega) (by omega) W h1 h2 HPn.out
            have hb : bitOf (vw T (32 + r / 512)) r = f r := HBt.out r hr
            rw [hb] at h
            exact h
          refine (HLi.out w4 HM4.out HR4.out).mono ?_
          rintro e w5 ⟨v5, rfl, hO5, hR, hk⟩
          obtain ⟨a5, c5, hv5⟩ := ownsRow_slice hO5
          subst hv5
          have HO5 := Lib.hid hO5
          have HR5 := Lib.hid hR
          have HM5 := Lib.hid (HM4.out.kf hk HPn.out)
          have HW5 := Lib.hid (HW4.out.kf hk HWn.out)
          have HL5 := Lib.hid (ownsRow_keep HL4.out (fun k hk' => hk.block k (HL4.out.lt k hk').2 (HRn.out k (HL4.out.lt k hk').1)))
          have HB5 := Lib.hid (hk.after HB4.out HFr.out)
          clear hO5 hR hk HLi HR4 HM4 HW4 HL4 HB4
          go_wp2_with fail
          refine (HFe.out w5 HM5.out HR5.out).mono ?_
          rintro e w6 ⟨v6, rfl, hF6, hR, hk⟩
          have hvv : v6 = fr := (hF6.congr HBt.out).uniq HFf.out
          subst hvv
          have HR6 := Lib.hid hR
          have HM6 := Lib.hid (HM5.out.kf hk HPn.out)
          have HW6 := Lib.hid (HW5.out.kf hk HWn.out)
          have HL6 := Lib.hid (ownsRow_keep HL5.out (fun k hk' => hk.block k (HL5.out.lt k hk').2 (HRn.out k (HL5.out.lt k hk').1)))
          have HO6 := Lib.hid (ownsRow_keep HO5.out (fun k hk' => hk.block k (HO5.out.lt k hk').2 (HRn4.out k (HO5.out.lt k hk').1)))
          have HB6 := Lib.hid (hk.after HB5.out HFr.out)
          clear hR hk hF6 HFe HFf HR5 HM5 HW5 HL5 HO5 HB5
          go_wp2_with fail
          refine (HCo.out w6 HM6.out HR6.out).mono ?_
          rintro e w7 ⟨rfl, hR, hk⟩
          have HR7 := Lib.hid hR
          have HM7 := Lib.hid (HM6.out.kf hk HPn.out)
          have HW7 := Lib.hid (HW6.out.kf hk HWn.out)
          have HL7 := Lib.hid (ownsRow_keep HL6.out (fun k hk' => hk.block k (HL6.out.lt k hk').2 (HRn.out k (HL6.out.lt k hk').1)))
          have HO7 := Lib.hid (ownsRow_keep HO6.out (fun k hk' => hk.block k (HO6.out.lt k hk').2 (HRn4.out k (HO6.out.lt k hk').1)))
          have HB7 := Lib.hid (hk.after HB6.out HFr.out)
          clear hR hk HCo HR6 HM6 HW6 HL6 HO6 HB6
          go_wp2_with fail
          refine (HHr.out w7 HM7.out HR7.out).mono ?_
          rintro e w8 ⟨rfl, hR, hk⟩
          have HW8 := Lib.hid (HW7.out.kf hk HWn.out)
          have HL8 := Lib.hid (ownsRow_keep HL7.out (fun k hk' => hk.block k (HL7.out.lt k hk').2 (HRn.out k (HL7.out.lt k hk').1)))
          have HO8 := Lib.hid (ownsRow_keep HO7.out (fun k hk' => hk.block k (HO7.out.lt k hk').2 (HRn4.out k (HO7.out.lt k hk').1)))
          have HB8 := Lib.hid (hk.after HB7.out HFr.out)
          clear hR hk HHr HR7 HM7 HW7 HL7 HO7 HB7
          go_wp2_with fail
          have HSI : Hid (Calls Try.prog 16 #[.slice a5 L.length c5, .slice aL L.length cL] w8 fun e w' => e = .returned (.bool true) ∧ Below w8.heap.size w8 w') := by
            have h := sameints_any _ _ L L HLl.out HLl.out w8 (ownsRow_ns HO8.out).1 (ownsRow_ns HL8.out).1
            rwa [decide_eq_true rfl] at h
          refine HSI.out.mono ?_
          rintro e w9 ⟨rfl, hb9⟩
          have HB9 := Lib.hid (HB8.out.trans (hb9.mono HB8.out.size))
          have HW9 := Lib.hid (HW8.out.keep hb9)
          clear hb9 HSI HW8 HL8 HO8 HB8
          have hcr := HW9.out.c r hr
          go_wp2_with fail
          go_ret
          exact ⟨rfl, HB9.out⟩

        · have hrr' : raw < 0 ∨ (k : Int) ≤ raw := by omega
          clear hrr
          by_cases hrn : raw < 0
          · skip
            refine (HLi.out w4 HM4.out HR4.out).mono ?_
            rintro e w5 ⟨v5, rfl, hO5, hR, hk⟩
            obtain ⟨a5, c5, hv5⟩ := ownsRow_slice hO5
            subst hv5
            have HO5 := Lib.hid hO5
            have HR5 := Lib.hid hR
            have HM5 := Lib.hid (HM4.out.kf hk HPn.out)
            have HW5 := Lib.hid (HW4.out.kf hk HWn.out)
            have HL5 := Lib.hid (ownsRow_keep HL4.out (fun k hk' => hk.block k (HL4.out.lt k hk').2 (HRn.out k (HL4.out.lt k hk').1)))
            have HB5 := Lib.hid (hk.after HB4.out HFr.out)
            clear hO5 hR hk HLi HR4 HM4 HW4 HL4 HB4
            go_wp2_with fail
            refine (HFe.out w5 HM5.out HR5.out).mono ?_
            rintro e w6 ⟨v6, rfl, hF6, hR, hk⟩
            have hvv : v6 = fr := (hF6.congr HBt.out).uniq HFf.out
            subst hvv
            have HR6 := Lib.hid hR
            have HM6 := Lib.hid (HM5.out.kf hk HPn.out)
            have HW6 := Lib.hid (HW5.out.kf hk HWn.out)
            have HL6 := Lib.hid (ownsRow_keep HL5.out (fun k hk' => hk.block k (HL5.out.lt k hk').2 (HRn.out k (HL5.out.lt k hk').1)))
            have HO6 := Lib.hid (ownsRow_keep HO5.out (fun k hk' => hk.block k (HO5.out.lt k hk').2 (HRn4.out k (HO5.out.lt k hk').1)))
            have HB6 := Lib.hid (hk.after HB5.out HFr.out)
            clear hR hk hF6 HFe HFf HR5 HM5 HW5 HL5 HO5 HB5
            go_wp2_with fail
            refine (HCo.out w6 HM6.out HR6.out).mono ?_
            rintro e w7 ⟨rfl, hR, hk⟩
            have HR7 := Lib.hid hR
            have HM7 := Lib.hid (HM6.out.kf hk HPn.out)
            have HW7 := Lib.hid (HW6.out.kf hk HWn.out)
            have HL7 := Lib.hid (ownsRow_keep HL6.out (fun k hk' => hk.block k (HL6.out.lt k hk').2 (HRn.out k (HL6.out.lt k hk').1)))
            have HO7 := Lib.hid (ownsRow_keep HO6.out (fun k hk' => hk.block k (HO6.out.lt k hk').2 (HRn4.out k (HO6.out.lt k hk').1)))
            have HB7 := Lib.hid (hk.after HB6.out HFr.out)
            clear hR hk HCo HR6 HM6 HW6 HL6 HO6 HB6
            go_wp2_with fail
            refine (has_err raw 27 (by decide) _ w7 (blockof_out p t 32 k raw (by omega) (by omega) w7 HM7.out)).mono ?_
            rintro e w8 ⟨rfl, hb8⟩
            have HW8 := Lib.hid (HW7.out.keep hb8)
            have HL8 := Lib.hid (ownsRow_keep HL7.out (fun k hk' => hb8.block k (HL7.out.lt k hk').2))
            have HO8 := Lib.hid (ownsRow_keep HO7.out (fun k hk' => hb8.block k (HO7.out.lt k hk').2))
            have HB8 := Lib.hid (HB7.out.trans (hb8.mono HB7.out.size))
            clear hb8 HR7 HM7 HW7 HL7 HO7 HB7
            go_wp2_with fail
            have HSI : Hid (Calls Try.prog 16 #[.slice a5 L.length c5, .slice aL L.length cL] w8 fun e w' => e = .returned (.bool true) ∧ Below w8.heap.size w8 w') := by
              have h := sameints_any _ _ L L HLl.out HLl.out w8 (ownsRow_ns HO8.out).1 (ownsRow_ns HL8.out).1
              rwa [decide_eq_true rfl] at h
            refine HSI.out.mono ?_
            rintro e w9 ⟨rfl, hb9⟩
            have HB9 := Lib.hid (HB8.out.trans (hb9.mono HB8.out.size))
            have HW9 := Lib.hid (HW8.out.keep hb9)
            clear hb9 HSI HW8 HL8 HO8 HB8
            go_wp2_with fail
            go_ret
            exact ⟨rfl, HB9.out⟩

          · have hrp : (k : Int) ≤ raw := by omega
            have hrz : 0 ≤ raw := by omega
            refine (HLi.out w4 HM4.out HR4.out).mono ?_
            rintro e w5 ⟨v5, rfl, hO5, hR, hk⟩
            obtain ⟨a5, c5, hv5⟩ := ownsRow_slice hO5
            subst hv5
            have HO5 := Lib.hid hO5
            have HR5 := Lib.hid hR
            have HM5 := Lib.hid (HM4.out.kf hk HPn.out)
            have HW5 := Lib.hid (HW4.out.kf hk HWn.out)
            have HL5 := Lib.hid (ownsRow_keep HL4.out (fun k hk' => hk.block k (HL4.out.lt k hk').2 (HRn.out k (HL4.out.lt k hk').1)))
            have HB5 := Lib.hid (hk.after HB4.out HFr.out)
            clear hO5 hR hk HLi HR4 HM4 HW4 HL4 HB4
            go_wp2_with fail
            refine (HFe.out w5 HM5.out HR5.out).mono ?_
            rintro e w6 ⟨v6, rfl, hF6, hR, hk⟩
            have hvv : v6 = fr := (hF6.congr HBt.out).uniq HFf.out
            subst hvv
            have HR6 := Lib.hid hR
            have HM6 := Lib.hid (HM5.out.kf hk HPn.out)
            have HW6 := Lib.hid (HW5.out.kf hk HWn.out)
            have HL6 := Lib.hid (ownsRow_keep HL5.out (fun k hk' => hk.block k (HL5.out.lt k hk').2 (HRn.out k (HL5.out.lt k hk').1)))
            have HO6 := Lib.hid (ownsRow_keep HO5.out (fun k hk' => hk.block k (HO5.out.lt k hk').2 (HRn4.out k (HO5.out.lt k hk').1)))
            have HB6 := Lib.hid (hk.after HB5.out HFr.out)
            clear hR hk hF6 HFe HFf HR5 HM5 HW5 HL5 HO5 HB5
            go_wp2_with fail
            refine (HCo.out w6 HM6.out HR6.out).mono ?_
            rintro e w7 ⟨rfl, hR, hk⟩
            have HR7 := Lib.hid hR
            have HM7 := Lib.hid (HM6.out.kf hk HPn.out)
            have HW7 := Lib.hid (HW6.out.kf hk HWn.out)
            have HL7 := Lib.hid (ownsRow_keep HL6.out (fun k hk' => hk.block k (HL6.out.lt k hk').2 (HRn.out k (HL6.out.lt k hk').1)))
            have HO7 := Lib.hid (ownsRow_keep HO6.out (fun k hk' => hk.block k (HO6.out.lt k hk').2 (HRn4.out k (HO6.out.lt k hk').1)))
            have HB7 := Lib.hid (hk.after HB6.out HFr.out)
            clear hR hk HCo HR6 HM6 HW6 HL6 HO6 HB6
            go_wp2_with fail
            refine (has_err raw 27 (by decide) _ w7 (blockof_out p t 32 k raw (by omega) (by omega) w7 HM7.out)).mono ?_
            rintro e w8 ⟨rfl, hb8⟩
            have HW8 := Lib.hid (HW7.out.keep hb8)
            have HL8 := Lib.hid (ownsRow_keep HL7.out (fun k hk' => hb8.block k (HL7.out.lt k hk').2))
            have HO8 := Lib.hid (ownsRow_keep HO7.out (fun k hk' => hb8.block k (HO7.out.lt k hk').2))
            have HB8 := Lib.hid (HB7.out.trans (hb8.mono HB7.out.size))
            clear hb8 HR7 HM7 HW7 HL7 HO7 HB7
            go_wp2_with fail
            have HSI : Hid (Calls Try.prog 16 #[.slice a5 L.length c5, .slice aL L.length cL] w8 fun e w' => e = .returned (.bool true) ∧ Below w8.heap.size w8 w') := by
              have h := sameints_any _ _ L L HLl.out HLl.out w8 (ownsRow_ns HO8.out).1 (ownsRow_ns HL8.out).1
              rwa [decide_eq_true rfl] at h
            refine HSI.out.mono ?_
            rintro e w9 ⟨rfl, hb9⟩
            have HB9 := Lib.hid (HB8.out.trans (hb9.mono HB8.out.size))
            have HW9 := Lib.hid (HW8.out.keep hb9)
            clear hb9 HSI HW8 HL8 HO8 HB8
            go_wp2_with fail
            go_ret
            exact ⟨rfl, HB9.out⟩

end Go.Proofs.Ytlpbhijfdeceoaa
