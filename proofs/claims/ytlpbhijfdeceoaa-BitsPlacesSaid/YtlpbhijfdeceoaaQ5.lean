import Derived.Test.YtlpbhijfdeceoaaM2
import Derived.Test.YtlpbhijfdeceoaaZs
import Derived.Deep.CutBlock
import Derived.Deep.DeepCutAuto
/- BitsPlaces: the walk. -/
namespace Go.Proofs.Ytlpbhijfdeceoaa
set_option linter.unusedSimpArgs false
set_option linter.unusedVariables false
open Go.RowKit Go.Maps


set_option maxHeartbeats 80000000 in
set_option maxRecDepth 200000 in
theorem places_walk (n : Int) (h0 : 0 ≤ n) (h1 : n < 256) (va : Value) (xs : List Int) (hxr : ∀ z ∈ xs, 0 ≤ z ∧ z < 65536) (w : World) (hxs : Zs w .u16 va xs) :
    Calls Try.prog 4 #[.int .u8 n, va] w fun e w' => e = .returned (.bool true) ∧ Below w.heap.size w w' := by
  have HA := Lib.hid (awake_any w)
  obtain ⟨N, hN⟩ := Int.eq_ofNat_of_zero_le (show 0 ≤ n % 4 by omega)
  have hN7 : N < 4 := by omega
  have hN2 : (0 : Int) ≤ N := by omega
  have hN3 : (N : Int) < 4 := by omega
  have HNN : Hid (n % 4 = (N : Int)) := hN
  obtain ⟨Z, hZ⟩ : ∃ Z, 31 + N = Z := ⟨_, rfl⟩
  have HZZ : Hid ((31 : Int) + (N : Int) = (Z : Int)) := by show _ = _; omega
  have hZ1 : 31 ≤ Z := by omega
  have hZ2 : Z ≤ 34 := by omega
  have HV := Lib.hid hxs
  have HXR := Lib.hid hxr
  obtain ⟨ax, cx, rfl, hxm⟩ := hxs.form
  unfold maxLen at hxm
  clear hN hxs hxr hZ
  go_enter Try.func4, Try.ntmps4
  go_wp2_with fail
  refine HA.out.mono ?_
  rintro e w0 ⟨rfl, hb⟩
  have HB0 := Lib.hid hb
  clear HA hb
  have hNN := HNN.out
  have hZZ := HZZ.out
  go_wp2_with fail
  clear hNN hZZ
  refine (begun_any w0).mono ?_
  rintro e w1 ⟨t, m, d, g, rfl, hFr, hR, hb⟩
  have HR1 := Lib.hid hR
  have HB1 := Lib.hid (HB0.out.trans (hb.mono HB0.out.size))
  have HFr := Lib.hid (show From w.heap.size t m d g from ⟨Nat.le_trans HB0.out.size hFr.1, Nat.le_trans HB0.out.size hFr.2.1, Nat.le_trans HB0.out.size hFr.2.2.1, Nat.le_trans HB0.out.size hFr.2.2.2⟩)
  clear hR hb hFr HB0
  go_wp2_with fail
  refine (new5 t Z 1500 (by omega) (by decide) w1).mono ?_
  rintro e w2 ⟨p, rfl, hp, hM, hb⟩
  have HM2 := Lib.hid hM
  have HPn := Lib.hid (HR1.out.notin hp)
  have HR2 := Lib.hid (HR1.out.keep hb)
  have HB2 := Lib.hid (HB1.out.trans (hb.mono HB1.out.size))
  clear hM hb HR1 HB1 hp
  have hmk := @run_makeMap Try.prog
  go_wp2_with fail
  clear hmk
  have hb3 : Below w2.heap.size w2 (w2.alloc (.map #[] 0)) := (Below.refl _ _).alloc (Nat.le_refl _) _
  have HS3 := Lib.hid (Sp.new w2)
  have HM3 := Lib.hid (HM2.out.keep hb3)
  have HR3 := Lib.hid (HR2.out.keep hb3)
  have HB3 := Lib.hid (HB2.out.trans (hb3.mono HB2.out.size))
  have HMn := Lib.hid (HR2.out.notin (p := w2.heap.size) (Nat.le_refl _))
  have hmm : w.heap.size ≤ w2.heap.size := HB2.out.size
  have hpm := HM2.out.lt
  obtain ⟨w3, hw3⟩ : ∃ x, w2.alloc (.map #[] 0) = x := ⟨_, rfl⟩
  obtain ⟨mm, hmq⟩ : ∃ b, w2.heap.size = b := ⟨_, rfl⟩
  rw [hw3] at HS3 HM3 HR3 HB3 ⊢
  rw [hmq] at HS3 HMn hmm hpm ⊢
  clear hw3 hb3 hmq HR2 HB2 HM2
  go_loopw [11, 12, 37] (fun _ _ i wr => ∃ k : Nat, k ≤ xs.length ∧ i = .int .i64 k ∧ Mb wr p t Z 1500 ∧ (∃ T S, Rd wr t m d g T (min k 40) ∧ In T Z 3 ∧ Sp wr mm S ∧ S.length ≤ 40 ∧ S.length ≤ k ∧ ∀ j, j < 1500 → bt T Z j = mem S j) ∧ Below w.heap.size w wr) (fun _ _ i _ => xs.length - (Go.RowKit.intOf i).toNat)
  case atStart => exact ⟨0, by omega, rfl, HM3.out, ⟨[], [], HR3.out, (fun p hp => by cases hp), HS3.out, by decide, by decide, fun j hj => bt_nil Z j (by omega)⟩, HB3.out⟩
  case round =>
    obtain ⟨k, hk, rfl, hM, ⟨T, S, hR, hIn, hS, hSl, hSk, hBt⟩, hB⟩ := hrel
    have HM := Lib.hid hM
    have HR := Lib.hid hR
    have HIn := Lib.hid hIn
    have HBt := Lib.hid hBt
    have HS := Lib.hid hS
    have HB := Lib.hid hB
    clear hM hR hIn hBt hS hB HM3 HR3 HS3 HB3
    have hk0 : (0 : Int) ≤ k := by omega
    obtain ⟨wX, rfl⟩ : ∃ x, x = wr := ⟨wr, rfl⟩
    by_cases hlt : k < xs.length
    · have hlti : (k : Int) < xs.length := by omega
      obtain ⟨b1, o1, hax, hb1, hc1⟩ := (HV.out.below HB.out).at k hlt
      subst hax
      obtain ⟨hx0, hx1⟩ := HXR.out xs[k] (List.getElem_mem hlt)
      generalize xs[k] = x at hc1 hx0 hx1
      by_cases h40 : k < 40
      · have h40i : (k : Int) < 40 := by omega
        obtain ⟨A, hA⟩ := Int.eq_ofNat_of_zero_le (show 0 ≤ x % 1500 by omega)
        have HAA : Hid (x % 1500 = (A : Int)) := hA
        have hA1 : A < 1500 := by omega
        have hA2 : (0 : Int) ≤ A := by omega
        have hA3 : (A : Int) < 1500 := by omega
        clear hA
        have hT29 : T.length < 30 := by have := In.len HR.out.tx.mp.2 HIn.out; omega
        have HSet : Hid (∀ W, Mb W p t Z 1500 → Rd W t m d g T (min k 40) → Calls Try.prog 11 #[.pointer (some ⟨p, 0, none⟩), .int .i64 A, .bool true] W fun e w' => e = .returned (.int .i64 0) ∧ Rd w' t m d g (setT T (Z + A / 512) A true) (min k 40 + 1) ∧ Kf W w' [t, m, d, g]) := fun W h1 h2 =>
          set_any p t m d g Z 1500 (min k 40) A T true (by omega) (by decide) hA1 (by omega) (by omega) hT29 (by omega) W h1 h2 HPn.out
        have HIn2 := Lib.hid (HIn.out.set (Z + A / 512) A true (by omega) (by omega))
        have HBt2 : Hid (∀ j, j < 1500 → bt (setT T (Z + A / 512) A true) Z j = mem (put A (fun _ => 0) S) j) := fun j hj => by
          rw [bt_set HR.out.tb Z A j true, mem_put']
          by_cases e : A = j
          · rw [if_pos e, decide_eq_true e]; rfl
          · rw [if_neg e, decide_eq_false e, HBt.out j hj]; rfl
        have hSl2 : (put A (fun _ => 0) S).length ≤ S.length + 1 := by
          rw [put_len A _ S HS.out.2]
          split <;> omega
        obtain ⟨T2, hT2⟩ : ∃ T2, setT T (Z + A / 512) A true = T2 := ⟨_, rfl⟩
        rw [hT2] at HSet HIn2 HBt2
        clear hT2 HIn HBt
        have hAA := HAA.out
        go_wp2_with fail
        clear hAA
        refine (HSet.out wX HM.out HR.out).mono ?_
        rintro e w5 ⟨rfl, hR, hk5⟩
        have HR5 := Lib.hid hR
        have HM5 := Lib.hid (HM.out.kf hk5 HPn.out)
        have HS5 := Lib.hid (HS.out.kf hk5 HMn.out)
        have HB5 := Lib.hid (hk5.after HB.out HFr.out)
        clear hR hk5 HSet HR HM HS HB
        have hAA := HAA.out
        go_wp2_with (at_mapUpdate; refine wpList_put_sp rfl _ _ _ rfl mm S HS5.out rfl A rfl rfl (by omega) (by omega) ?_; intro w6 HS6 HK6)
        have HR6 := Lib.hid (HR5.out.kp HK6.out HMn.out HMn.out)
        have HM6 := Lib.hid (HM5.out.kp HK6.out (by omega))
        have HB6 := Lib.hid (HB5.out.trans (HK6.out.below hmm hmm HB5.out.size))
        clear HR5 HM5 HS5 HB5 HK6
        go_roundw
        case rel => exact ⟨k + 1, by omega, by go_num, HM6.out, ⟨_, _, HR6.out.mono (by omega), HIn2.out, HS6.out, by omega, by omega, HBt2.out⟩, HB6.out⟩
        case measure => simp [Go.RowKit.intOf]; omega
      · have h40i : ¬ ((k : Int) < 40) := by omega
        go_wp2_with fail
        go_roundw
        case rel => exact ⟨k + 1, by omega, by go_num, HM.out, ⟨_, _, HR.out.mono (by omega), HIn.out, HS.out, hSl, by omega, HBt.out⟩, HB.out⟩
        case measure => simp [Go.RowKit.intOf]; omega
    · have hlti : ¬ ((k : Int) < xs.length) := by omega
      obtain ⟨c0, hc0⟩ : ∃ c, min k 40 = c := ⟨_, rfl⟩
      have hc0' : c0 ≤ 40 := by omega
      rw [hc0] at HR
      clear hc0
      have hbase : w.heap.size ≤ wX.heap.size := HB.out.size
      have HRn : Hid (∀ j, wX.heap.size ≤ j → j ∉ [t, m, d, g]) := fun j hj => HR.out.notin hj
      have hml := HS.out.lt
      obtain ⟨i5, hi, hz0, hz1, hz2⟩ := Try.info36i
      have HI := Lib.hid hi
      have HZ0 := Lib.hid hz0
      have HZ1 := Lib.hid hz1
      have HZ2 := Lib.hid hz2
      have HU : Hid (Try.prog.underlying 47 = some (.slice 49)) := by show _ = _; kernel_rfl
      clear hi hz0 hz1 hz2
      obtain ⟨F, hF⟩ : ∃ F : Nat → Int, (fun j => vw T (j / 64) (j % 64)) = F := ⟨_, rfl⟩
      have HFx : Hid (∀ x j, j < 64 → F (x * 64 + j) = vw T x j) := fun x j hj => by
        rw [← hF]
        show vw T ((x * 64 + j) / 64) ((x * 64 + j) % 64) = _
        rw [show (x * 64 + j) / 64 = x by omega, show (x * 64 + j) % 64 = j by omega]
      clear hF
      go_wp2_with fail
      go_loopw [13, 14, 15, 16, 54] (fun v _ _ _ i wr => ∃ k : Nat, k ≤ 40 ∧ i = .int .i64 k ∧ wr.ownsRow wX.heap.size 49 64 v k (byts (k * 64) F) ∧ Rd wr t m d g T (c0 + k) ∧ Sp wr mm S ∧ Below w.heap.size w wr ∧ wX.heap.size ≤ wr.heap.size) (fun _ _ _ _ i _ => 40 - (Go.RowKit.intOf i).toNat)
      case atStart => exact ⟨0, by decide, rfl, (by simpa [byts] using World.ownsRow_nil wX wX.heap.size 49 64), HR.out, HS.out, HB.out, Nat.le_refl _⟩
      case round =>
        obtain ⟨k2, hk2, rfl, hrow, hR, hS, hB, hz⟩ := hrel
        have HROW := Lib.hid hrow
        have HR3 := Lib.hid hR
        have HS3 := Lib.hid hS
        have HB3 := Lib.hid hB
        clear hrow hR hS hB HR HS HB HM
        have hk20 : (0 : Int) ≤ k2 := by omega
        obtain ⟨wY, rfl⟩ : ∃ x, x = wr := ⟨wr, rfl⟩
        by_cases hlt2 : k2 < 40
        · have hlt2i : (k2 : Int) < 40 := by omega
          have HG := Lib.hid (fun W h => get5 t m d g (c0 + k2) T k2 hlt2 (by omega) W h)
          have HFk : Hid (byts ((k2 + 1) * 64) F = byts (k2 * 64) F ++ byts 64 (vw T k2)) := by
            show _ = _
            rw [show (k2 + 1) * 64 = k2 * 64 + 64 by omega, byts_append]
            congr 1
            exact byts_congr fun j hj => HFx.out k2 j hj
          obtain ⟨V, hV⟩ : ∃ V, vw T k2 = V := ⟨_, rfl⟩
          rw [hV] at HG HFk
          clear hV
          go_wp2_with fail
          refine (HG.out wY HR3.out).mono ?_
          rintro e w5 ⟨rfl, hR, hk5⟩
          have HR5 := Lib.hid hR
          have HS5 := Lib.hid (HS3.out.kf hk5 HMn.out)
          have HROW5 := Lib.hid (ownsRow_keep HROW.out (fun k hk' => hk5.block k (HROW.out.lt k hk').2 (HRn.out k (HROW.out.lt k hk').1)))
          have HB5 := Lib.hid (hk5.after HB3.out HFr.out)
          have hz5 : wX.heap.size ≤ w5.heap.size := Nat.le_trans hz hk5.size
          clear hR hk5 HG HR3 HS3 HROW HB3
          go_wp2_with (first | (refine wpList_alloc_byts (w := w5) rfl 49 64 rfl Try.zero36 ?_; intro w6 F6 hb6 hq6; have HB6 := Lib.hid (HB5.out.trans (hb6.mono HB5.out.size)); have HR6 := Lib.hid (HR5.out.keep hb6); have HS6 := Lib.hid (HS5.out.keep hb6); have HROW6 := Lib.hid (ownsRow_below HROW5.out hb6); have hz6 : wX.heap.size ≤ w6.heap.size := (by omega); clear hb6 hq6) | (refine wpList_store_blk rfl (.tmp 15) (.tmp 61) rfl w5.heap.size 0 64 (fun _ => 0) V F6.out (by omega) rfl rfl ?_; intro w7 F7 HK7; have HB7 := Lib.hid (HB6.out.trans (HK7.out.below (B := w.heap.size) (by omega) (by omega) HB6.out.size)); have HR7 := Lib.hid (HR6.out.kp HK7.out (HR5.out.notin (Nat.le_refl _)) (HR5.out.notin (Nat.le_refl _))); have HS7 : Hid (Sp w7 mm S) := HS6.out.block (HK7.out.block mm HS6.out.lt (by have := HS5.out.lt; omega) (by have := HS5.out.lt; omega)); have HROW7 := Lib.hid (ownsRow_keep HROW6.out (fun k hk' => HK7.out.block k (HROW6.out.lt k hk').2 (by have := (HROW5.out.lt k hk').2; omega) (by have := (HROW5.out.lt k hk').2; omega))); have hz7 : wX.heap.size ≤ w7.heap.size := Nat.le_trans hz6 HK7.out.size; have hR7 := (F7.out.congr (f' := V) (fun j hj => (by unfold upd; rw [if_pos (by omega), Nat.sub_zero]))).range0; have HRg7 := Lib.hid hR7; clear hR7) | (refine wpList_load_mid rfl 49 (.tmp 15) rfl w5.heap.size 0 rfl (byts 64 V) (.array 64 5) HRg7.out Try.arr36 rfl (size36 _) ?_) | (refine wpList_slice1 rfl _ rfl V rfl ?_; intro w8 F8 hb8 hq8; have HB8 := Lib.hid (HB7.out.trans (hb8.mono HB7.out.size)); have HR8 := Lib.hid (HR7.out.keep hb8); have HS8 := Lib.hid (HS7.out.keep hb8); have HROW8 := Lib.hid (ownsRow_below HROW7.out hb8); have hz8 : wX.heap.size ≤ w8.heap.size := (by omega); clear hb8 hq8) | (at_builtin; refine wpList_append_own _ rfl _ _ 47 rfl wX.heap.size 49 i5 _ 64 64 HU.out HI.out HZ0.out HZ1.out HZ2.out (byts_size 64 _) (by decide) _ k2 (byts (k2 * 64) F) rfl HROW8.out ⟨w7.heap.size, 0, none⟩ 1 1 (byts 64 V) rfl (by rw [byts_len]) (fun j u hj => (by rw [Addr.add_mid, Nat.zero_add]; obtain ⟨hj1, hj2⟩ := byts_of hj; rw [hj2]; exact F8.out.c j hj1)) (byts_one _ _) (by unfold maxLen; omega) (by omega) (by omega) ?_; intro v' w9 hown' hg9 hnil9; have HOW9 := Lib.hid hown'; have hb9 : Below wX.heap.size w8 w9 := ((Below.refl _ _).grown hg9 hz8 (fun k hk => ownsRow_block HROW8.out k hk)); have HBx9 := Lib.hid hb9; have hz9 : wX.heap.size ≤ w9.heap.size := Nat.le_trans hz8 hb9.size; clear hown' hg9 hnil9 hb9))
          have hlt8 : t < wX.heap.size ∧ m < wX.heap.size ∧ d < wX.heap.size ∧ g < wX.heap.size := by
            have h1 := fun j (hj : wX.heap.size ≤ j) => HRn.out j hj
            refine ⟨?_, ?_, ?_, ?_⟩
            · refine Nat.lt_of_not_le fun hh => h1 t hh (by simp)
            · refine Nat.lt_of_not_le fun hh => h1 m hh (by simp)
            · refine Nat.lt_of_not_le fun hh => h1 d hh (by simp)
            · refine Nat.lt_of_not_le fun hh => h1 g hh (by simp)
          have HR9 := Lib.hid (HR8.out.below HBx9.out hlt8.1 hlt8.2.1 hlt8.2.2.1 hlt8.2.2.2)
          have HS9 := Lib.hid (HS8.out.below HBx9.out hml)
          have HB9 := Lib.hid (HB8.out.trans (HBx9.out.mono hbase))
          have HOW := Lib.hid HOW9.out
          clear HR8 HS8 HB8 HBx9 HROW5 HROW6 HROW7 HROW8 HB7 HB6 HB5 HR7 HR6 HR5 HS7 HS6 HS5 HOW9 hlt8
          go_roundw
          case rel => exact ⟨k2 + 1, by omega, by go_num, (by rw [HFk.out]; exact HOW.out), HR9.out.mono (by omega), HS9.out, HB9.out, hz9⟩
          case measure => simp [Go.RowKit.intOf]; omega
        · obtain rfl : k2 = 40 := by omega
          have HBsY := Lib.hid (ownsRow_bs HROW.out)
          obtain ⟨aL, cL, hvL⟩ := ownsRow_slice HROW.out
          subst hvL
          have HTb := Lib.hid HR3.out.tb
          clear HROW HR3
          go_wp2_with fail
          go_loopw [17, 68] (fun _ i wr => ∃ j : Nat, j ≤ 1500 ∧ i = .int .i64 j ∧ Bs wr (.slice aL 40 cL) 40 F ∧ Sp wr mm S ∧ Below w.heap.size w wr) (fun _ i _ => 1500 - (Go.RowKit.intOf i).toNat)
          case atStart => exact ⟨0, by decide, rfl, HBsY.out, HS3.out, HB3.out⟩
          case round =>
            obtain ⟨j, hj, rfl, hBs, hS, hB⟩ := hrel
            have HBs := Lib.hid hBs
            have HS := Lib.hid hS
            have HB := Lib.hid hB
            clear hBs hS hB HBsY HS3 HB3
            have hj0 : (0 : Int) ≤ j := by omega
            have hj1 : (j : Int) ≤ 1500 := by omega
            by_cases hlj : j < 1500
            · have hlji : (j : Int) < 1500 := by omega
              have HBit : Hid (∀ W, Bs W (.slice aL 40 cL) 40 F → Calls Try.prog 18 #[.slice aL 40 cL, .int .i64 Z, .int .i64 j] W fun e w' => e = .returned (.bool (mem S j)) ∧ Below W.heap.size W w') := fun W h => by
                have h2 := bit_any (.slice aL 40 cL) 40 Z j F (fun x hx => fun i hi => by
                  show 0 ≤ F (x * 64 + i) ∧ F (x * 64 + i) < 256
                  rw [HFx.out x i hi]
                  exact vw_byt HTb.out x i hi) (by decide) (by omega) (by omega) W h
                have he : bitOf (fun i => F ((Z + j / 512) * 64 + i)) j = mem S j := by
                  rw [← HBt.out j hlj]
                  unfold bt bitOf
                  show (F ((Z + j / 512) * 64 + j / 8 % 64)).toNat.testBit (j % 8) = _
                  rw [HFx.out (Z + j / 512) (j / 8 % 64) (at_lt j)]
                rw [he] at h2
                exact h2
              go_wp2_with fail
              refine wp_region_held (S := fun W => Sp W mm S) (by kernel_rfl) ?_
              change wpAnyH _ _ _ _ _ _ _ _ (World.drew _)
              have hS0 : Sp (World.drew wr) mm S := HS.out.keep (Below.refl _ _).drew
              have HB0 := Lib.hid (HB.out.drew)
              have HBs0 := Lib.hid (HBs.out.below (Below.refl _ _).drew)
              obtain ⟨w5, hw5⟩ : ∃ x, World.drew wr = x := ⟨_, rfl⟩
              rw [hw5] at hS0 HB0 HBs0 ⊢
              clear hw5 HS HB HBs
              refine wpAnyH_take (i := 0) (v := ?_) rfl (by kernel_rfl) (by kernel_rfl) (by kernel_rfl) (fun _ _ _ h => h) (Or.inl ⟨by rfl, ?_⟩) hS0 ?_
              rotate_left 1
              · intro W hW
                go_simp
                try with_reducible rfl
              simp only [Act.put, List.getElem_toArray, List.getElem_cons_zero, List.getElem_cons_succ, List.setIfInBounds_toArray, List.set_cons_zero, List.set_cons_succ]
              refine wpAnyH_take (i := 1) (v := ?_) rfl (by kernel_rfl) (by kernel_rfl) (by kernel_rfl) (fun _ _ _ h => h) (Or.inl ⟨by rfl, ?_⟩) hS0 ?_
              rotate_left 1
              · intro W hW
                go_simp
                try with_reducible rfl
              simp only [Act.put, List.getElem_toArray, List.getElem_cons_zero, List.getElem_cons_succ, List.setIfInBounds_toArray, List.set_cons_zero, List.set_cons_succ]
              refine wpAnyH_take (i := 2) (v := ?_) rfl (by kernel_rfl) (by kernel_rfl) (by kernel_rfl) (fun _ _ _ h => h) (Or.inl ⟨by rfl, ?_⟩) hS0 ?_
              rotate_left 1
              · intro W hW
                go_simp
                try with_reducible rfl
              simp only [Act.put, List.getElem_toArray, List.getElem_cons_zero, List.getElem_cons_succ, List.setIfInBounds_toArray, List.set_cons_zero, List.set_cons_succ]
              refine wpAnyH_take (i := 4) (v := ?_) rfl (by kernel_rfl) (by kernel_rfl) (by kernel_rfl) (fun _ _ _ h => h) (Or.inl ⟨by rfl, ?_⟩) hS0 ?_
              rotate_left 1
              · intro W hW
                go_simp
                try with_reducible rfl
              simp only [Act.put, List.getElem_toArray, List.getElem_cons_zero, List.getElem_cons_succ, List.setIfInBounds_toArray, List.set_cons_zero, List.set_cons_succ]
              refine wpAnyH_take (i := 5) (v := ?_) rfl (by kernel_rfl) (by kernel_rfl) (by kernel_rfl) (fun _ _ _ h => h) (Or.inl ⟨by rfl, ?_⟩) hS0 ?_
              rotate_left 1
              · intro W hW
                go_simp
                try with_reducible rfl
              simp only [Act.put, List.getElem_toArray, List.getElem_cons_zero, List.getElem_cons_succ, List.setIfInBounds_toArray, List.set_cons_zero, List.set_cons_succ]
              refine wpAnyH_take (i := 6) (v := .bool (mem S j)) rfl (by kernel_rfl) (by kernel_rfl) (by kernel_rfl) (fun _ _ _ h => h) ?_ hS0 ?_
              · exact yields_look_sp rfl _ _ rfl mm S (fun W h => h) rfl j rfl (by omega) (by omega)
              simp only [Act.put, List.getElem_toArray, List.getElem_cons_zero, List.getElem_cons_succ, List.setIfInBounds_toArray, List.set_cons_zero, List.set_cons_succ]
              refine wpAnyH_ready (rs := [3]) (by kernel_rfl) (by simp) (AllReadyH.cons rfl (fun KK hKK => ?_) AllReadyH.nil)
              go_simp
              refine (HBit.out w5 HBs0.out).mono ?_
              rintro e w6 ⟨rfl, hb6⟩
              have HB6 := Lib.hid (HB0.out.trans (hb6.mono HB0.out.size))
              have HBs6 := Lib.hid (HBs0.out.below hb6)
              have hS1 : Sp w6 mm S := hS0.keep hb6
              clear hS0 HB0 HBs0 hb6 HBit
              have hS0 := hS1
              clear hS1
              have HS6 := Lib.hid hS0
              refine hKK _ _ hS0 ?_
              intro _
              clear hKK KK
              try simp only [Act.put, List.getElem_toArray, List.getElem_cons_zero, List.getElem_cons_succ, List.setIfInBounds_toArray, List.set_cons_zero, List.set_cons_succ]
              refine wpAnyH_take (i := 7) (v := ?_) rfl (by kernel_rfl) (by kernel_rfl) (by kernel_rfl) (fun _ _ _ h => h) (Or.inl ⟨by rfl, ?_⟩) hS0 ?_
              rotate_left 1
              · intro W hW
                go_simp
                try with_reducible rfl
              simp only [Act.put, List.getElem_toArray, List.getElem_cons_zero, List.getElem_cons_succ, List.setIfInBounds_toArray, List.set_cons_zero, List.set_cons_succ]
              refine wpAnyH_done (by kernel_rfl) ?_ _
              clear hS0

              cases mem S j
              · go_wp2_with fail
                refine ⟨?_, ?measure⟩
                apply Exists.intro
                apply Exists.intro
                apply Exists.intro
                repeat apply Exists.intro
                refine ⟨?rel, rfl⟩
                case rel => exact ⟨j + 1, by omega, by go_num, HBs6.out, HS6.out, HB6.out⟩
                case measure => simp [Go.RowKit.intOf]; omega
              · go_wp2_with fail
                refine ⟨?_, ?measure⟩
                apply Exists.intro
                apply Exists.intro
                apply Exists.intro
                repeat apply Exists.intro
                refine ⟨?rel, rfl⟩
                case rel => exact ⟨j + 1, by omega, by go_num, HBs6.out, HS6.out, HB6.out⟩
                case measure => simp [Go.RowKit.intOf]; omega
            · obtain rfl : j = 1500 := by omega
              go_wp2_with fail
              go_ret
              exact ⟨rfl, HB.out⟩
end Go.Proofs.Ytlpbhijfdeceoaa
