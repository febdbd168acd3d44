import Derived.Test.YticmdeioebbgaaaD14
import Derived.Test.YticmdeioebbgaaaD10
import Derived.Deep.CutBlock
import Derived.Deep.DeepCutAuto
/- DiskPlays: the walk. -/
namespace Go.Proofs.Yticmdeioebbgaaa
set_option linter.unusedSimpArgs false
set_option linter.unusedVariables false
open Go.RowKit

theorem wrap64_rng (x : Int) : -9223372036854775808 ≤ wrap64 x ∧ wrap64 x < 9223372036854775808 := by
  unfold wrap64
  omega
/-- a disk that calls in any order may have left: so many counts at most, so many blocks -/
structure Sane (s : DS) (N k : Nat) : Prop where
  n : s.n = N
  r0 : 0 ≤ s.rd
  r1 : s.rd ≤ k
  w0 : 0 ≤ s.wr
  w1 : s.wr ≤ k
  l0 : s.ar = true → 0 ≤ s.lf
  l1 : s.lf < 9223372036854775808
theorem Sane.write {s : DS} {N k : Nat} (h : Sane s N k) (x : Nat) (b : Nat → Int) : Sane (s.write x b).2 N (k + 1) := by
  obtain ⟨n, r0, r1, w0, w1, l0, l1⟩ := h
  unfold DS.write
  by_cases hc : s.ar = true ∧ s.lf = 0 ∨ s.de = true
  · rw [if_pos hc]
    exact ⟨n, r0, by show s.rd ≤ ((k + 1 : Nat) : Int); omega, w0, by show s.wr ≤ ((k + 1 : Nat) : Int); omega, l0, l1⟩
  · rw [if_neg hc]
    refine ⟨n, r0, by show s.rd ≤ ((k + 1 : Nat) : Int); omega, by show 0 ≤ s.wr + 1; omega, by show s.wr + 1 ≤ ((k + 1 : Nat) : Int); omega, fun ha => ?_, ?_⟩
    · have h1 : s.ar = true := ha
      have h2 := l0 h1
      have h3 : ¬ (s.lf = 0) := fun e => hc (.inl ⟨h1, e⟩)
      show 0 ≤ (if s.ar = true then s.lf - 1 else s.lf)
      rw [if_pos h1]
      omega
    · show (if s.ar = true then s.lf - 1 else s.lf) < _
      split <;> omega
/-- both disks, beside each other -/
structure Both (w : World) (d g m h : Nat) (s : DS) : Prop where
  dk : Dk w d g s
  rk : Rk w m h s
theorem Both.keep {w w' : World} {d g m h : Nat} {s : DS} (b : Both w d g m h s) (hb : Below w.heap.size w w') : Both w' d g m h s := ⟨b.dk.keep hb, b.rk.keep hb⟩

set_option maxHeartbeats 40000000 in
set_option maxRecDepth 100000 in
theorem plays_walk (M : Int) (hM0 : 0 ≤ M) (hM1 : M < 256) (v : Value) (ln : Nat) (w : World) (hv : Acts w v ln) :
    Calls Try.prog 3 #[.int .u8 M, v] w fun e w' => e = .returned (.bool true) ∧ Below w.heap.size w w' := by
  obtain ⟨p, cap, rfl, hm, hac⟩ := hv
  obtain ⟨N, hN⟩ := Int.eq_ofNat_of_zero_le (show 0 ≤ M % 20 by omega)
  have hN20 : N ≤ 20 := by omega
  have HAC := Lib.hid hac
  have HA := Lib.hid (awake_any w)
  have HN := Lib.hid (fun W => new_any N (by omega) W)
  unfold maxLen at hm
  clear hac
  go_enter Try.func3, Try.ntmps3
  go_wp2_with fail
  refine HA.out.mono ?_
  rintro e w1 ⟨rfl, hb1⟩
  have HB1 := Lib.hid hb1
  clear HA hb1
  go_wp2_with fail
  refine (HN.out w1).mono ?_
  rintro e w2 ⟨d, g, rfl, hd, hg, hD, hb2⟩
  have HD2 := Lib.hid hD
  have HB2 := Lib.hid hb2
  clear hD hb2 HN
  go_wp2_with (refine wpList_make36 rfl _ rfl N rfl (by omega) ?_; intro w3 F3 hb3 hz3; have HD3 := Lib.hid (HD2.out.keep hb3); have HB3 := Lib.hid (HB2.out.trans (hb3.mono HB2.out.size)); clear hb3)
  have HR4 := Lib.hid (Rk.new N F3.out)
  have HB4 := Lib.hid (HB3.out.alloc HB3.out.size (.cells #[.slice (some ⟨w2.heap.size, 0, none⟩) N N, .int .i64 (-1), .bool false, .int .i64 0, .int .i64 0] 31))
  have HD4 := Lib.hid (HD3.out.keep ((Below.refl _ _).alloc (Nat.le_refl _) (.cells #[.slice (some ⟨w2.heap.size, 0, none⟩) N N, .int .i64 (-1), .bool false, .int .i64 0, .int .i64 0] 31)))
  generalize w3.alloc (.cells #[.slice (some ⟨w2.heap.size, 0, none⟩) N N, .int .i64 (-1), .bool false, .int .i64 0, .int .i64 0] 31) = w4 at *
  rw [hz3] at HR4
  have hdl := HD2.out.lt
  have hgl := HD2.out.fl.lt
  have h12 := HB2.out.size
  have hgd := HD2.out.ne
  obtain ⟨h, hh⟩ : ∃ h, w2.heap.size = h := ⟨_, rfl⟩
  rw [hh] at HR4 hdl hgl h12 hz3 ⊢
  have HB4' : Hid (Both w4 d g (h + 1) h (DS.new N)) := ⟨HD4.out, HR4.out⟩
  clear HD2 HB2 HD3 HB3 F3 HD4 HR4 hz3 hh
  go_loopw [9, 10, 11, 12, 13, 14, 15, 16, 17, 34] (fun _ _ _ _ _ _ _ _ _ i wr => ∃ k : Nat, k ≤ ln ∧ i = .int .i64 k ∧ (∃ s, Both wr d g (h + 1) h s ∧ Sane s N k) ∧ Below w1.heap.size w1 wr) (fun _ _ _ _ _ _ _ _ _ i _ => ln - (intOf i).toNat)
  case atStart => exact ⟨0, by omega, rfl, ⟨_, HB4'.out, ⟨rfl, by simp [DS.new], by simp [DS.new], by simp [DS.new], by simp [DS.new], by simp [DS.new], by simp [DS.new]⟩⟩, HB4.out⟩
  case round =>
    obtain ⟨k, hk, rfl, ⟨s, hB, hS⟩, hbr⟩ := hrel
    have HBo := Lib.hid hB
    have HS := Lib.hid hS
    have HB := Lib.hid hbr
    have hzr := hbr.size
    have hdr := hB.dk.lt
    have hgr := hB.dk.fl.lt
    have hmr := hB.rk.lt
    have hhr := hB.rk.fl.lt
    have hsn := hS.n
    clear hB hS hbr HB4' HB4
    have HLEN : Hid (∀ W, Below wr.heap.size wr W → Calls Try.prog 20 #[.pointer (some ⟨d, 0, none⟩)] W fun e w' => e = .returned (.int .i64 N) ∧ w' = W) := by
      intro W hW
      have := len_any d g s (by omega) W (HBo.out.dk.keep hW)
      rwa [hsn] at this
    by_cases hlt : k < ln
    · have hk0 : (0 : Int) ≤ k := by omega
      have hkk : (k : Int) < ln := by omega
      obtain ⟨b, o, x, rfl, hx⟩ := HAC.out k hlt
      have hx' := hx.below (HB1.out.trans (HB.out.mono HB1.out.size)) hx.lt
      have e0 := hx'.c0
      have e1 := hx'.c1
      have e2 := hx'.c2
      have e3 := hx'.c3
      have HK0 := Lib.hid hx.k0
      have HK1 := Lib.hid hx.k1
      have HK2 := Lib.hid hx.k2
      obtain ⟨kind, xn, xb, raw⟩ := x
      simp only at e0 e1 e2 e3
      clear hx hx'
      by_cases h80 : 80 < k
      · have h80' : (80 : Int) < k := by omega
        go_wp2_with fail
        refine (HLEN.out _ ((Below.refl _ _).alloc (Nat.le_refl _) _)).mono ?_
        rintro e w5 ⟨rfl, rfl⟩
        go_wp2
        go_ret
        exact ⟨rfl, HB1.out.trans ((HB.out.alloc hzr _).mono HB1.out.size)⟩
      · have h80' : ¬ ((80 : Int) < k) := by omega
        go_upto_if 45 with fail
        have HBoA := Lib.hid (HBo.out.keep ((Below.refl _ _).alloc (Nat.le_refl _) (.cells #[.int .u8 kind, .int .i64 xn, .int .u8 xb, .bool raw] 33)))
        have HBA := Lib.hid (HB.out.alloc hzr (.cells #[.int .u8 kind, .int .i64 xn, .int .u8 xb, .bool raw] 33))
        have a0 : (wr.alloc (.cells #[.int .u8 kind, .int .i64 xn, .int .u8 xb, .bool raw] 33)).cell? ⟨wr.heap.size, 0, none⟩ = some (.int .u8 kind) := by rw [World.cell?_alloc_at _ _ _ _ rfl]; rfl
        have a2 : (wr.alloc (.cells #[.int .u8 kind, .int .i64 xn, .int .u8 xb, .bool raw] 33)).cell? ⟨wr.heap.size, 2, none⟩ = some (.int .u8 xb) := by rw [World.cell?_alloc_at _ _ _ _ rfl]; rfl
        have hqa : wr.heap.size < (wr.alloc (.cells #[.int .u8 kind, .int .i64 xn, .int .u8 xb, .bool raw] 33)).heap.size := by simp
        generalize wr.alloc (.cells #[.int .u8 kind, .int .i64 xn, .int .u8 xb, .bool raw] 33) = wa at *
        obtain ⟨q, hq⟩ : ∃ q, wr.heap.size = q := ⟨_, rfl⟩
        rw [hq] at a0 a2 hqa hdr hgr hmr hhr hzr ⊢
        clear HLEN HB HBo e0 e1 e2 e3 hq
        go_cut [11] (fun x wc => wc = wa ∧ ∃ X : Int, x = .int .i64 X ∧ -9223372036854775808 ≤ X ∧ X < 9223372036854775808)
        case first =>
          have hk1 := HK1.out
          simp only at hk1
          cases raw
          · go_wp2
            go_meet
            case rel =>
              have hr := wrap64_rng ((IntKind.u64.wrap xn).tmod 24)
              exact ⟨rfl, _, rfl, hr.1, hr.2⟩
          · go_wp2
            go_meet
            case rel => exact ⟨rfl, _, rfl, by omega, by omega⟩
        case rest =>
          obtain ⟨rfl, X, rfl, hX0, hX1⟩ := hcut
          obtain ⟨wa, rfl⟩ : ∃ x, x = wc := ⟨wc, rfl⟩
          have hkd := HK0.out
          simp only at hkd
          obtain ⟨hkd0, hkd1⟩ := hkd
          go_upto_block 2 with fail
          have hk81 : k ≤ 80 := by omega
          have hSr0 := HS.out.r0
          have hSr1 := HS.out.r1
          have hSw0 := HS.out.w0
          have hSw1 := HS.out.w1
          have hBAz := HBA.out.size
          have HL1 := Lib.hid HS.out.l1
          have HL0 := Lib.hid HS.out.l0
          have hqd : d < q := hdr
          go_cut [52] (fun _ wc => (∃ s', Both wc d g (h + 1) h s' ∧ Sane s' N (k + 1)) ∧ Below w1.heap.size w1 wc)
          case first =>
            have hk7 : kind % 7 = 0 ∨ kind % 7 = 1 ∨ kind % 7 = 2 ∨ kind % 7 = 3 ∨ kind % 7 = 4 ∨ kind % 7 = 5 ∨ kind % 7 = 6 := by omega
            rcases hk7 with hk7 | hk7 | hk7 | hk7 | hk7 | hk7 | hk7
            · skip
              by_cases hin : 0 ≤ X ∧ X < N
              · clear hX0 hX1
                obtain ⟨x, rfl⟩ := Int.eq_ofNat_of_zero_le hin.1
                have hxN : x < s.n := by have := hin.2; omega
                go_wp2_with fail
                refine wp_region_held (S := fun w' => w'.cell? ⟨q, 2, none⟩ = some (.int .u8 xb)) (by kernel_rfl) ?_
                change wpAnyH _ _ _ _ _ _ _ _ (World.drew _)
                have hS0 : (World.drew wa).cell? ⟨q, 2, none⟩ = some (.int .u8 xb) := a2
                refine wpAnyH_take (i := 0) (v := ?_) rfl (by kernel_rfl) (by kernel_rfl) (by kernel_rfl) (fun _ _ _ h => h) (Or.inl ⟨by rfl, ?_⟩) hS0 ?_
                rotate_left 1
                · intro W hW
                  go_simp
                  try with_reducible rfl
                simp only [Act.put, List.getElem_toArray, List.getElem_cons_zero, List.getElem_cons_succ, List.setIfInBounds_toArray, List.set_cons_zero, List.set_cons_succ]
                refine wpAnyH_take (i := 1) (v := ?_) rfl (by kernel_rfl) (by kernel_rfl) (by kernel_rfl) (fun _ _ _ h => h) (Or.inl ⟨by rfl, ?_⟩) hS0 ?_
                rotate_left 1
                · intro W hW
                  go_simp
                  try with_reducible rfl
                simp only [Act.put, List.getElem_toArray, List.getElem_cons_zero, List.getElem_cons_succ, List.setIfInBounds_toArray, List.set_cons_zero, List.set_cons_succ]
                refine wpAnyH_take (i := 2) (v := ?_) rfl (by kernel_rfl) (by kernel_rfl) (by kernel_rfl) (fun _ _ _ h => h) (Or.inl ⟨by rfl, ?_⟩) hS0 ?_
                rotate_left 1
                · intro W hW
                  go_simp
                  try with_reducible rfl
                simp only [Act.put, List.getElem_toArray, List.getElem_cons_zero, List.getElem_cons_succ, List.setIfInBounds_toArray, List.set_cons_zero, List.set_cons_succ]
                refine wpAnyH_take (i := 3) (v := ?_) rfl (by kernel_rfl) (by kernel_rfl) (by kernel_rfl) (fun _ _ _ h => h) (Or.inl ⟨by rfl, ?_⟩) hS0 ?_
                rotate_left 1
                · intro W hW
                  have e2 : W.cell? ⟨q, 2, none⟩ = some (.int .u8 xb) := hW
                  go_simp
                  try with_reducible rfl
                simp only [Act.put, List.getElem_toArray, List.getElem_cons_zero, List.getElem_cons_succ, List.setIfInBounds_toArray, List.set_cons_zero, List.set_cons_succ]
                refine wpAnyH_take (i := 6) (v := ?_) rfl (by kernel_rfl) (by kernel_rfl) (by kernel_rfl) (fun _ _ _ h => h) (Or.inl ⟨by rfl, ?_⟩) hS0 ?_
                rotate_left 1
                · intro W hW
                  go_simp
                  try with_reducible rfl
                simp only [Act.put, List.getElem_toArray, List.getElem_cons_zero, List.getElem_cons_succ, List.setIfInBounds_toArray, List.set_cons_zero, List.set_cons_succ]
                refine wpAnyH_take (i := 7) (v := ?_) rfl (by kernel_rfl) (by kernel_rfl) (by kernel_rfl) (fun _ _ _ h => h) (Or.inl ⟨by rfl, ?_⟩) hS0 ?_
                rotate_left 1
                · intro W hW
                  go_simp
                  try with_reducible rfl
                simp only [Act.put, List.getElem_toArray, List.getElem_cons_zero, List.getElem_cons_succ, List.setIfInBounds_toArray, List.set_cons_zero, List.set_cons_succ]
                refine wpAnyH_take (i := 8) (v := ?_) rfl (by kernel_rfl) (by kernel_rfl) (by kernel_rfl) (fun _ _ _ h => h) (Or.inl ⟨by rfl, ?_⟩) hS0 ?_
                rotate_left 1
                · intro W hW
                  go_simp
                  try with_reducible rfl
                simp only [Act.put, List.getElem_toArray, List.getElem_cons_zero, List.getElem_cons_succ, List.setIfInBounds_toArray, List.set_cons_zero, List.set_cons_succ]
                refine wpAnyH_take (i := 9) (v := ?_) rfl (by kernel_rfl) (by kernel_rfl) (by kernel_rfl) (fun _ _ _ h => h) (Or.inl ⟨by rfl, ?_⟩) hS0 ?_
                rotate_left 1
                · intro W hW
                  have e2 : W.cell? ⟨q, 2, none⟩ = some (.int .u8 xb) := hW
                  go_simp
                  try with_reducible rfl
                simp only [Act.put, List.getElem_toArray, List.getElem_cons_zero, List.getElem_cons_succ, List.setIfInBounds_toArray, List.set_cons_zero, List.set_cons_succ]
                clear hS0
                refine wpAnyH_ready (rs := [4]) (by kernel_rfl) (by simp) (AllReadyH.cons rfl (fun KK hKK => ?_) AllReadyH.nil)
                go_simp
                refine (block_any xb HK2.out.1 HK2.out.2 _).mono ?_
                rintro e w5 ⟨rfl, hb5⟩
                have HBo5 := Lib.hid ((HBoA.out.keep (Below.refl _ _).drew).keep hb5)
                have HB5 := Lib.hid (HBA.out.drew.trans (hb5.mono hBAz))
                have HQ5 : Hid (w5.cell? ⟨q, 2, none⟩ = some (.int .u8 xb)) := (hb5.cell (p := ⟨q, 2, none⟩) hqa).trans a2
                have h5z : wa.heap.size ≤ w5.heap.size := hb5.size
                refine hKK _ _ HQ5.out ?_
                intro _
                clear hKK KK hb5
                refine wpAnyH_ready (rs := [5]) (by kernel_rfl) (by simp) (AllReadyH.cons rfl (fun KK hKK => ?_) AllReadyH.nil)
                go_simp
                refine (write_in d g s (blk xb) x hxN (by omega) hSw0 (by omega) HL0.out HL1.out w5 HBo5.out.dk).mono ?_
                rintro e w6 ⟨rfl, hD6, hk6⟩
                have HD6 := Lib.hid hD6
                have HR6 := Lib.hid (HBo5.out.rk.kp hk6 (by omega) (by omega) (by omega) (by omega))
                have HB6 := Lib.hid (HB5.out.trans (hk6.below hd hg (by omega)))
                have HQ6 : Hid (w6.cell? ⟨q, 2, none⟩ = some (.int .u8 xb)) := (hk6.cell (p := ⟨q, 2, none⟩) (by show q < w5.heap.size; omega) (by show q ≠ d; omega) (by show q ≠ g; omega)).trans HQ5.out
                have h6z := hk6.size
                refine hKK _ _ HQ6.out ?_
                intro _
                clear hKK KK hD6 hk6 HBo5 HB5 HQ5
                refine wpAnyH_ready (rs := [10]) (by kernel_rfl) (by simp) (AllReadyH.cons rfl (fun KK hKK => ?_) AllReadyH.nil)
                go_simp
                refine (block_any xb HK2.out.1 HK2.out.2 _).mono ?_
                rintro e w7 ⟨rfl, hb7⟩
                have HD7 := Lib.hid (HD6.out.keep hb7)
                have HR7 := Lib.hid (HR6.out.keep hb7)
                have HB7 := Lib.hid (HB6.out.trans (hb7.mono (by omega)))
                have HQ7 : Hid (w7.cell? ⟨q, 2, none⟩ = some (.int .u8 xb)) := (hb7.cell (p := ⟨q, 2, none⟩) (by show q < w6.heap.size; omega)).trans HQ6.out
                have h7z := hb7.size
                refine hKK _ _ HQ7.out ?_
                intro _
                clear hKK KK hb7 HD6 HR6 HB6 HQ6
                refine wpAnyH_ready (rs := [11]) (by kernel_rfl) (by simp) (AllReadyH.cons rfl (fun KK hKK => ?_) AllReadyH.nil)
                go_simp
                refine (rwrite_in (h + 1) h s (blk xb) x hxN (by omega) hSw0 (by omega) HL0.out HL1.out w7 HR7.out).mono ?_
                rintro e w8 ⟨rfl, hR8, hk8⟩
                have HR8 := Lib.hid hR8
                have HD8 := Lib.hid (HD7.out.kp hk8 (by omega) (by omega) (by omega) (by omega))
                have HB8 := Lib.hid (HB7.out.trans (hk8.below (by omega) (by omega) (by omega)))
                have hS0 : w8.cell? ⟨q, 2, none⟩ = some (.int .u8 xb) := (hk8.cell (p := ⟨q, 2, none⟩) (by show q < w7.heap.size; omega) (by show q ≠ h + 1; omega) (by show q ≠ h; omega)).trans HQ7.out
                refine hKK _ _ hS0 ?_
                intro _
                clear hKK KK hR8 hk8 HD7 HR7 HB7 HQ7
                refine wpAnyH_take (i := 12) (v := ?_) rfl (by kernel_rfl) (by kernel_rfl) (by kernel_rfl) (fun _ _ _ h => h) (Or.inl ⟨by rfl, ?_⟩) hS0 ?_
                rotate_left 1
                · intro W hW
                  go_simp
                  try with_reducible rfl
                simp only [Act.put, List.getElem_toArray, List.getElem_cons_zero, List.getElem_cons_succ, List.setIfInBounds_toArray, List.set_cons_zero, List.set_cons_succ]
                refine wpAnyH_done (by kernel_rfl) ?_ _
                clear hS0
                go_wp2
                go_meet
                case rel => exact ⟨⟨(s.write x (blk xb)).2, ⟨HD8.out, HR8.out⟩, HS.out.write x (blk xb)⟩, HB8.out⟩
              · have hout : X < 0 ∨ (s.n : Int) ≤ X := by omega
                clear hX0 hX1
                go_wp2_with fail
                refine wp_region_held (S := fun w' => w'.cell? ⟨q, 2, none⟩ = some (.int .u8 xb)) (by kernel_rfl) ?_
                change wpAnyH _ _ _ _ _ _ _ _ (World.drew _)
                have hS0 : (World.drew wa).cell? ⟨q, 2, none⟩ = some (.int .u8 xb) := a2
                refine wpAnyH_take (i := 0) (v := ?_) rfl (by kernel_rfl) (by kernel_rfl) (by kernel_rfl) (fun _ _ _ h => h) (Or.inl ⟨by rfl, ?_⟩) hS0 ?_
                rotate_left 1
                · intro W hW
                  go_simp
                  try with_reducible rfl
                simp only [Act.put, List.getElem_toArray, List.getElem_cons_zero, List.getElem_cons_succ, List.setIfInBounds_toArray, List.set_cons_zero, List.set_cons_succ]
                refine wpAnyH_take (i := 1) (v := ?_) rfl (by kernel_rfl) (by kernel_rfl) (by kernel_rfl) (fun _ _ _ h => h) (Or.inl ⟨by rfl, ?_⟩) hS0 ?_
                rotate_left 1
                · intro W hW
                  go_simp
                  try with_reducible rfl
                simp only [Act.put, List.getElem_toArray, List.getElem_cons_zero, List.getElem_cons_succ, List.setIfInBounds_toArray, List.set_cons_zero, List.set_cons_succ]
                refine wpAnyH_take (i := 2) (v := ?_) rfl (by kernel_rfl) (by kernel_rfl) (by kernel_rfl) (fun _ _ _ h => h) (Or.inl ⟨by rfl, ?_⟩) hS0 ?_
                rotate_left 1
                · intro W hW
                  go_simp
                  try with_reducible rfl
                simp only [Act.put, List.getElem_toArray, List.getElem_cons_zero, List.getElem_cons_succ, List.setIfInBounds_toArray, List.set_cons_zero, List.set_cons_succ]
                refine wpAnyH_take (i := 3) (v := ?_) rfl (by kernel_rfl) (by kernel_rfl) (by kernel_rfl) (fun _ _ _ h => h) (Or.inl ⟨by rfl, ?_⟩) hS0 ?_
                rotate_left 1
                · intro W hW
                  have e2 : W.cell? ⟨q, 2, none⟩ = some (.int .u8 xb) := hW
                  go_simp
                  try with_reducible rfl
                simp only [Act.put, List.getElem_toArray, List.getElem_cons_zero, List.getElem_cons_succ, List.setIfInBounds_toArray, List.set_cons_zero, List.set_cons_succ]
                refine wpAnyH_take (i := 6) (v := ?_) rfl (by kernel_rfl) (by kernel_rfl) (by kernel_rfl) (fun _ _ _ h => h) (Or.inl ⟨by rfl, ?_⟩) hS0 ?_
                rotate_left 1
                · intro W hW
                  go_simp
                  try with_reducible rfl
                simp only [Act.put, List.getElem_toArray, List.getElem_cons_zero, List.getElem_cons_succ, List.setIfInBounds_toArray, List.set_cons_zero, List.set_cons_succ]
                refine wpAnyH_take (i := 7) (v := ?_) rfl (by kernel_rfl) (by kernel_rfl) (by kernel_rfl) (fun _ _ _ h => h) (Or.inl ⟨by rfl, ?_⟩) hS0 ?_
                rotate_left 1
                · intro W hW
                  go_simp
                  try with_reducible rfl
                simp only [Act.put, List.getElem_toArray, List.getElem_cons_zero, List.getElem_cons_succ, List.setIfInBounds_toArray, List.set_cons_zero, List.set_cons_succ]
                refine wpAnyH_take (i := 8) (v := ?_) rfl (by kernel_rfl) (by kernel_rfl) (by kernel_rfl) (fun _ _ _ h => h) (Or.inl ⟨by rfl, ?_⟩) hS0 ?_
                rotate_left 1
                · intro W hW
                  go_simp
                  try with_reducible rfl
                simp only [Act.put, List.getElem_toArray, List.getElem_cons_zero, List.getElem_cons_succ, List.setIfInBounds_toArray, List.set_cons_zero, List.set_cons_succ]
                refine wpAnyH_take (i := 9) (v := ?_) rfl (by kernel_rfl) (by kernel_rfl) (by kernel_rfl) (fun _ _ _ h => h) (Or.inl ⟨by rfl, ?_⟩) hS0 ?_
                rotate_left 1
                · intro W hW
                  have e2 : W.cell? ⟨q, 2, none⟩ = some (.int .u8 xb) := hW
                  go_simp
                  try with_reducible rfl
                simp only [Act.put, List.getElem_toArray, List.getElem_cons_zero, List.getElem_cons_succ, List.setIfInBounds_toArray, List.set_cons_zero, List.set_cons_succ]
                clear hS0
                refine wpAnyH_ready (rs := [4]) (by kernel_rfl) (by simp) (AllReadyH.cons rfl (fun KK hKK => ?_) AllReadyH.nil)
                go_simp
                refine (block_any xb HK2.out.1 HK2.out.2 _).mono ?_
                rintro e w5 ⟨rfl, hb5⟩
                have HBo5 := Lib.hid ((HBoA.out.keep (Below.refl _ _).drew).keep hb5)
                have HB5 := Lib.hid (HBA.out.drew.trans (hb5.mono hBAz))
                have HQ5 : Hid (w5.cell? ⟨q, 2, none⟩ = some (.int .u8 xb)) := (hb5.cell (p := ⟨q, 2, none⟩) hqa).trans a2
                have h5z : wa.heap.size ≤ w5.heap.size := hb5.size
                refine hKK _ _ HQ5.out ?_
                intro _
                clear hKK KK hb5
                refine wpAnyH_ready (rs := [5]) (by kernel_rfl) (by simp) (AllReadyH.cons rfl (fun KK hKK => ?_) AllReadyH.nil)
                go_simp
                refine (write_out d g s (blk xb) X hout (by omega) w5 HBo5.out.dk).mono ?_
                rintro e w6 ⟨rfl, hb6⟩
                have HD6 := Lib.hid (HBo5.out.dk.keep hb6)
                have HR6 := Lib.hid (HBo5.out.rk.keep hb6)
                have HB6 := Lib.hid (HB5.out.trans (hb6.mono (by omega)))
                have HQ6 : Hid (w6.cell? ⟨q, 2, none⟩ = some (.int .u8 xb)) := (hb6.cell (p := ⟨q, 2, none⟩) (by show q < w5.heap.size; omega)).trans HQ5.out
                have h6z := hb6.size
                refine hKK _ _ HQ6.out ?_
                intro _
                clear hKK KK hb6 HBo5 HB5 HQ5
                refine wpAnyH_ready (rs := [10]) (by kernel_rfl) (by simp) (AllReadyH.cons rfl (fun KK hKK => ?_) AllReadyH.nil)
                go_simp
                refine (block_any xb HK2.out.1 HK2.out.2 _).mono ?_
                rintro e w7 ⟨rfl, hb7⟩
                have HD7 := Lib.hid (HD6.out.keep hb7)
                have HR7 := Lib.hid (HR6.out.keep hb7)
                have HB7 := Lib.hid (HB6.out.trans (hb7.mono (by omega)))
                have HQ7 : Hid (w7.cell? ⟨q, 2, none⟩ = some (.int .u8 xb)) := (hb7.cell (p := ⟨q, 2, none⟩) (by show q < w6.heap.size; omega)).trans HQ6.out
                have h7z := hb7.size
                refine hKK _ _ HQ7.out ?_
                intro _
                clear hKK KK hb7 HD6 HR6 HB6 HQ6
                refine wpAnyH_ready (rs := [11]) (by kernel_rfl) (by simp) (AllReadyH.cons rfl (fun KK hKK => ?_) AllReadyH.nil)
                go_simp
                refine (rwrite_out (h + 1) h s (blk xb) X hout (by omega) w7 HR7.out).mono ?_
                rintro e w8 ⟨rfl, hb8⟩
                have HR8 := Lib.hid (HR7.out.keep hb8)
                have HD8 := Lib.hid (HD7.out.keep hb8)
                have HB8 := Lib.hid (HB7.out.trans (hb8.mono (by omega)))
                have hS0 : w8.cell? ⟨q, 2, none⟩ = some (.int .u8 xb) := (hb8.cell (p := ⟨q, 2, none⟩) (by show q < w7.heap.size; omega)).trans HQ7.out
                refine hKK _ _ hS0 ?_
                intro _
                clear hKK KK hb8 HD7 HR7 HB7 HQ7
                refine wpAnyH_take (i := 12) (v := ?_) rfl (by kernel_rfl) (by kernel_rfl) (by kernel_rfl) (fun _ _ _ h => h) (Or.inl ⟨by rfl, ?_⟩) hS0 ?_
                rotate_left 1
                · intro W hW
                  go_simp
                  try with_reducible rfl
                simp only [Act.put, List.getElem_toArray, List.getElem_cons_zero, List.getElem_cons_succ, List.setIfInBounds_toArray, List.set_cons_zero, List.set_cons_succ]
                refine wpAnyH_done (by kernel_rfl) ?_ _
                clear hS0
                go_wp2
                go_meet
                case rel => exact ⟨⟨s, ⟨HD8.out, HR8.out⟩, ⟨HS.out.n, hSr0, by show s.rd ≤ ((k + 1 : Nat) : Int); omega, hSw0, by show s.wr ≤ ((k + 1 : Nat) : Int); omega, HL0.out, HL1.out⟩⟩, HB8.out⟩
            · skip
              by_cases hin : 0 ≤ X ∧ X < N
              · clear hX0 hX1
                obtain ⟨x, rfl⟩ := Int.eq_ofNat_of_zero_le hin.1
                have hxN : x < s.n := by have := hin.2; omega
                go_wp2_with fail
                refine wp_region_held (S := fun w' => w'.cell? ⟨q, 2, none⟩ = some (.int .u8 xb)) (by kernel_rfl) ?_
                change wpAnyH _ _ _ _ _ _ _ _ (World.drew _)
                have hS0 : (World.drew wa).cell? ⟨q, 2, none⟩ = some (.int .u8 xb) := a2
                refine wpAnyH_take (i := 0) (v := ?_) rfl (by kernel_rfl) (by kernel_rfl) (by kernel_rfl) (fun _ _ _ h => h) (Or.inl ⟨by rfl, ?_⟩) hS0 ?_
                rotate_left 1
                · intro W hW
                  go_simp
                  try with_reducible rfl
                simp only [Act.put, List.getElem_toArray, List.getElem_cons_zero, List.getElem_cons_succ, List.setIfInBounds_toArray, List.set_cons_zero, List.set_cons_succ]
                refine wpAnyH_take (i := 1) (v := ?_) rfl (by kernel_rfl) (by kernel_rfl) (by kernel_rfl) (fun _ _ _ h => h) (Or.inl ⟨by rfl, ?_⟩) hS0 ?_
                rotate_left 1
                · intro W hW
                  go_simp
                  try with_reducible rfl
                simp only [Act.put, List.getElem_toArray, List.getElem_cons_zero, List.getElem_cons_succ, List.setIfInBounds_toArray, List.set_cons_zero, List.set_cons_succ]
                refine wpAnyH_take (i := 2) (v := ?_) rfl (by kernel_rfl) (by kernel_rfl) (by kernel_rfl) (fun _ _ _ h => h) (Or.inl ⟨by rfl, ?_⟩) hS0 ?_
                rotate_left 1
                · intro W hW
                  go_simp
                  try with_reducible rfl
                simp only [Act.put, List.getElem_toArray, List.getElem_cons_zero, List.getElem_cons_succ, List.setIfInBounds_toArray, List.set_cons_zero, List.set_cons_succ]
                refine wpAnyH_take (i := 3) (v := ?_) rfl (by kernel_rfl) (by kernel_rfl) (by kernel_rfl) (fun _ _ _ h => h) (Or.inl ⟨by rfl, ?_⟩) hS0 ?_
                rotate_left 1
                · intro W hW
                  have e2 : W.cell? ⟨q, 2, none⟩ = some (.int .u8 xb) := hW
                  go_simp
                  try with_reducible rfl
                simp only [Act.put, List.getElem_toArray, List.getElem_cons_zero, List.getElem_cons_succ, List.setIfInBounds_toArray, List.set_cons_zero, List.set_cons_succ]
                refine wpAnyH_take (i := 6) (v := ?_) rfl (by kernel_rfl) (by kernel_rfl) (by kernel_rfl) (fun _ _ _ h => h) (Or.inl ⟨by rfl, ?_⟩) hS0 ?_
                rotate_left 1
                · intro W hW
                  go_simp
                  try with_reducible rfl
                simp only [Act.put, List.getElem_toArray, List.getElem_cons_zero, List.getElem_cons_succ, List.setIfInBounds_toArray, List.set_cons_zero, List.set_cons_succ]
                refine wpAnyH_take (i := 7) (v := ?_) rfl (by kernel_rfl) (by kernel_rfl) (by kernel_rfl) (fun _ _ _ h => h) (Or.inl ⟨by rfl, ?_⟩) hS0 ?_
                rotate_left 1
                · intro W hW
                  go_simp
                  try with_reducible rfl
                simp only [Act.put, List.getElem_toArray, List.getElem_cons_zero, List.getElem_cons_succ, List.setIfInBounds_toArray, List.set_cons_zero, List.set_cons_succ]
                refine wpAnyH_take (i := 8) (v := ?_) rfl (by kernel_rfl) (by kernel_rfl) (by kernel_rfl) (fun _ _ _ h => h) (Or.inl ⟨by rfl, ?_⟩) hS0 ?_
                rotate_left 1
                · intro W hW
                  go_simp
                  try with_reducible rfl
                simp only [Act.put, List.getElem_toArray, List.getElem_cons_zero, List.getElem_cons_succ, List.setIfInBounds_toArray, List.set_cons_zero, List.set_cons_succ]
                refine wpAnyH_take (i := 9) (v := ?_) rfl (by kernel_rfl) (by kernel_rfl) (by kernel_rfl) (fun _ _ _ h => h) (Or.inl ⟨by rfl, ?_⟩) hS0 ?_
                rotate_left 1
                · intro W hW
                  have e2 : W.cell? ⟨q, 2, none⟩ = some (.int .u8 xb) := hW
                  go_simp
                  try with_reducible rfl
                simp only [Act.put, List.getElem_toArray, List.getElem_cons_zero, List.getElem_cons_succ, List.setIfInBounds_toArray, List.set_cons_zero, List.set_cons_succ]
                clear hS0
                refine wpAnyH_ready (rs := [4]) (by kernel_rfl) (by simp) (AllReadyH.cons rfl (fun KK hKK => ?_) AllReadyH.nil)
                go_simp
                refine (block_any xb HK2.out.1 HK2.out.2 _).mono ?_
                rintro e w5 ⟨rfl, hb5⟩
                have HBo5 := Lib.hid ((HBoA.out.keep (Below.refl _ _).drew).keep hb5)
                have HB5 := Lib.hid (HBA.out.drew.trans (hb5.mono hBAz))
                have HQ5 : Hid (w5.cell? ⟨q, 2, none⟩ = some (.int .u8 xb)) := (hb5.cell (p := ⟨q, 2, none⟩) hqa).trans a2
                have h5z : wa.heap.size ≤ w5.heap.size := hb5.size
                refine hKK _ _ HQ5.out ?_
                intro _
                clear hKK KK hb5
                refine wpAnyH_ready (rs := [5]) (by kernel_rfl) (by simp) (AllReadyH.cons rfl (fun KK hKK => ?_) AllReadyH.nil)
                go_simp
                refine (write_in d g s (blk xb) x hxN (by omega) hSw0 (by omega) HL0.out HL1.out w5 HBo5.out.dk).mono ?_
                rintro e w6 ⟨rfl, hD6, hk6⟩
                have HD6 := Lib.hid hD6
                have HR6 := Lib.hid (HBo5.out.rk.kp hk6 (by omega) (by omega) (by omega) (by omega))
                have HB6 := Lib.hid (HB5.out.trans (hk6.below hd hg (by omega)))
                have HQ6 : Hid (w6.cell? ⟨q, 2, none⟩ = some (.int .u8 xb)) := (hk6.cell (p := ⟨q, 2, none⟩) (by show q < w5.heap.size; omega) (by show q ≠ d; omega) (by show q ≠ g; omega)).trans HQ5.out
                have h6z := hk6.size
                refine hKK _ _ HQ6.out ?_
                intro _
                clear hKK KK hD6 hk6 HBo5 HB5 HQ5
                refine wpAnyH_ready (rs := [10]) (by kernel_rfl) (by simp) (AllReadyH.cons rfl (fun KK hKK => ?_) AllReadyH.nil)
                go_simp
                refine (block_any xb HK2.out.1 HK2.out.2 _).mono ?_
                rintro e w7 ⟨rfl, hb7⟩
                have HD7 := Lib.hid (HD6.out.keep hb7)
                have HR7 := Lib.hid (HR6.out.keep hb7)
                have HB7 := Lib.hid (HB6.out.trans (hb7.mono (by omega)))
                have HQ7 : Hid (w7.cell? ⟨q, 2, none⟩ = some (.int .u8 xb)) := (hb7.cell (p := ⟨q, 2, none⟩) (by show q < w6.heap.size; omega)).trans HQ6.out
                have h7z := hb7.size
                refine hKK _ _ HQ7.out ?_
                intro _
                clear hKK KK hb7 HD6 HR6 HB6 HQ6
                refine wpAnyH_ready (rs := [11]) (by kernel_rfl) (by simp) (AllReadyH.cons rfl (fun KK hKK => ?_) AllReadyH.nil)
                go_simp
                refine (rwrite_in (h + 1) h s (blk xb) x hxN (by omega) hSw0 (by omega) HL0.out HL1.out w7 HR7.out).mono ?_
                rintro e w8 ⟨rfl, hR8, hk8⟩
                have HR8 := Lib.hid hR8
                have HD8 := Lib.hid (HD7.out.kp hk8 (by omega) (by omega) (by omega) (by omega))
                have HB8 := Lib.hid (HB7.out.trans (hk8.below (by omega) (by omega) (by omega)))
                have hS0 : w8.cell? ⟨q, 2, none⟩ = some (.int .u8 xb) := (hk8.cell (p := ⟨q, 2, none⟩) (by show q < w7.heap.size; omega) (by show q ≠ h + 1; omega) (by show q ≠ h; omega)).trans HQ7.out
                refine hKK _ _ hS0 ?_
                intro _
                clear hKK KK hR8 hk8 HD7 HR7 HB7 HQ7
                refine wpAnyH_take (i := 12) (v := ?_) rfl (by kernel_rfl) (by kernel_rfl) (by kernel_rfl) (fun _ _ _ h => h) (Or.inl ⟨by rfl, ?_⟩) hS0 ?_
                rotate_left 1
                · intro W hW
                  go_simp
                  try with_reducible rfl
                simp only [Act.put, List.getElem_toArray, List.getElem_cons_zero, List.getElem_cons_succ, List.setIfInBounds_toArray, List.set_cons_zero, List.set_cons_succ]
                refine wpAnyH_done (by kernel_rfl) ?_ _
                clear hS0
                go_wp2
                go_meet
                case rel => exact ⟨⟨(s.write x (blk xb)).2, ⟨HD8.out, HR8.out⟩, HS.out.write x (blk xb)⟩, HB8.out⟩
              · have hout : X < 0 ∨ (s.n : Int) ≤ X := by omega
                clear hX0 hX1
                go_wp2_with fail
                refine wp_region_held (S := fun w' => w'.cell? ⟨q, 2, none⟩ = some (.int .u8 xb)) (by kernel_rfl) ?_
                change wpAnyH _ _ _ _ _ _ _ _ (World.drew _)
                have hS0 : (World.drew wa).cell? ⟨q, 2, none⟩ = some (.int .u8 xb) := a2
                refine wpAnyH_take (i := 0) (v := ?_) rfl (by kernel_rfl) (by kernel_rfl) (by kernel_rfl) (fun _ _ _ h => h) (Or.inl ⟨by rfl, ?_⟩) hS0 ?_
                rotate_left 1
                · intro W hW
                  go_simp
                  try with_reducible rfl
                simp only [Act.put, List.getElem_toArray, List.getElem_cons_zero, List.getElem_cons_succ, List.setIfInBounds_toArray, List.set_cons_zero, List.set_cons_succ]
                refine wpAnyH_take (i := 1) (v := ?_) rfl (by kernel_rfl) (by kernel_rfl) (by kernel_rfl) (fun _ _ _ h => h) (Or.inl ⟨by rfl, ?_⟩) hS0 ?_
                rotate_left 1
                · intro W hW
                  go_simp
                  try with_reducible rfl
                simp only [Act.put, List.getElem_toArray, List.getElem_cons_zero, List.getElem_cons_succ, List.setIfInBounds_toArray, List.set_cons_zero, List.set_cons_succ]
                refine wpAnyH_take (i := 2) (v := ?_) rfl (by kernel_rfl) (by kernel_rfl) (by kernel_rfl) (fun _ _ _ h => h) (Or.inl ⟨by rfl, ?_⟩) hS0 ?_
                rotate_left 1
                · intro W hW
                  go_simp
                  try with_reducible rfl
                simp only [Act.put, List.getElem_toArray, List.getElem_cons_zero, List.getElem_cons_succ, List.setIfInBounds_toArray, List.set_cons_zero, List.set_cons_succ]
                refine wpAnyH_take (i := 3) (v := ?_) rfl (by kernel_rfl) (by kernel_rfl) (by kernel_rfl) (fun _ _ _ h => h) (Or.inl ⟨by rfl, ?_⟩) hS0 ?_
                rotate_left 1
                · intro W hW
                  have e2 : W.cell? ⟨q, 2, none⟩ = some (.int .u8 xb) := hW
                  go_simp
                  try with_reducible rfl
                simp only [Act.put, List.getElem_toArray, List.getElem_cons_zero, List.getElem_cons_succ, List.setIfInBounds_toArray, List.set_cons_zero, List.set_cons_succ]
                refine wpAnyH_take (i := 6) (v := ?_) rfl (by kernel_rfl) (by kernel_rfl) (by kernel_rfl) (fun _ _ _ h => h) (Or.inl ⟨by rfl, ?_⟩) hS0 ?_
                rotate_left 1
                · intro W hW
                  go_simp
                  try with_reducible rfl
                simp only [Act.put, List.getElem_toArray, List.getElem_cons_zero, List.getElem_cons_succ, List.setIfInBounds_toArray, List.set_cons_zero, List.set_cons_succ]
                refine wpAnyH_take (i := 7) (v := ?_) rfl (by kernel_rfl) (by kernel_rfl) (by kernel_rfl) (fun _ _ _ h => h) (Or.inl ⟨by rfl, ?_⟩) hS0 ?_
                rotate_left 1
                · intro W hW
                  go_simp
                  try with_reducible rfl
                simp only [Act.put, List.getElem_toArray, List.getElem_cons_zero, List.getElem_cons_succ, List.setIfInBounds_toArray, List.set_cons_zero, List.set_cons_succ]
                refine wpAnyH_take (i := 8) (v := ?_) rfl (by kernel_rfl) (by kernel_rfl) (by kernel_rfl) (fun _ _ _ h => h) (Or.inl ⟨by rfl, ?_⟩) hS0 ?_
                rotate_left 1
                · intro W hW
                  go_simp
                  try with_reducible rfl
                simp only [Act.put, List.getElem_toArray, List.getElem_cons_zero, List.getElem_cons_succ, List.setIfInBounds_toArray, List.set_cons_zero, List.set_cons_succ]
                refine wpAnyH_take (i := 9) (v := ?_) rfl (by kernel_rfl) (by kernel_rfl) (by kernel_rfl) (fun _ _ _ h => h) (Or.inl ⟨by rfl, ?_⟩) hS0 ?_
                rotate_left 1
                · intro W hW
                  have e2 : W.cell? ⟨q, 2, none⟩ = some (.int .u8 xb) := hW
                  go_simp
                  try with_reducible rfl
                simp only [Act.put, List.getElem_toArray, List.getElem_cons_zero, List.getElem_cons_succ, List.setIfInBounds_toArray, List.set_cons_zero, List.set_cons_succ]
                clear hS0
                refine wpAnyH_ready (rs := [4]) (by kernel_rfl) (by simp) (AllReadyH.cons rfl (fun KK hKK => ?_) AllReadyH.nil)
                go_simp
                refine (block_any xb HK2.out.1 HK2.out.2 _).mono ?_
                rintro e w5 ⟨rfl, hb5⟩
                have HBo5 := Lib.hid ((HBoA.out.keep (Below.refl _ _).drew).keep hb5)
                have HB5 := Lib.hid (HBA.out.drew.trans (hb5.mono hBAz))
                have HQ5 : Hid (w5.cell? ⟨q, 2, none⟩ = some (.int .u8 xb)) := (hb5.cell (p := ⟨q, 2, none⟩) hqa).trans a2
                have h5z : wa.heap.size ≤ w5.heap.size := hb5.size
                refine hKK _ _ HQ5.out ?_
                intro _
                clear hKK KK hb5
                refine wpAnyH_ready (rs := [5]) (by kernel_rfl) (by simp) (AllReadyH.cons rfl (fun KK hKK => ?_) AllReadyH.nil)
                go_simp
                refine (write_out d g s (blk xb) X hout (by omega) w5 HBo5.out.dk).mono ?_
                rintro e w6 ⟨rfl, hb6⟩
                have HD6 := Lib.hid (HBo5.out.dk.keep hb6)
                have HR6 := Lib.hid (HBo5.out.rk.keep hb6)
                have HB6 := Lib.hid (HB5.out.trans (hb6.mono (by omega)))
                have HQ6 : Hid (w6.cell? ⟨q, 2, none⟩ = some (.int .u8 xb)) := (hb6.cell (p := ⟨q, 2, none⟩) (by show q < w5.heap.size; omega)).trans HQ5.out
                have h6z := hb6.size
                refine hKK _ _ HQ6.out ?_
                intro _
                clear hKK KK hb6 HBo5 HB5 HQ5
                refine wpAnyH_ready (rs := [10]) (by kernel_rfl) (by simp) (AllReadyH.cons rfl (fun KK hKK => ?_) AllReadyH.nil)
                go_simp
                refine (block_any xb HK2.out.1 HK2.out.2 _).mono ?_
                rintro e w7 ⟨rfl, hb7⟩
                have HD7 := Lib.hid (HD6.out.keep hb7)
                have HR7 := Lib.hid (HR6.out.keep hb7)
                have HB7 := Lib.hid (HB6.out.trans (hb7.mono (by omega)))
                have HQ7 : Hid (w7.cell? ⟨q, 2, none⟩ = some (.int .u8 xb)) := (hb7.cell (p := ⟨q, 2, none⟩) (by show q < w6.heap.size; omega)).trans HQ6.out
                have h7z := hb7.size
                refine hKK _ _ HQ7.out ?_
                intro _
                clear hKK KK hb7 HD6 HR6 HB6 HQ6
                refine wpAnyH_ready (rs := [11]) (by kernel_rfl) (by simp) (AllReadyH.cons rfl (fun KK hKK => ?_) AllReadyH.nil)
                go_simp
                refine (rwrite_out (h + 1) h s (blk xb) X hout (by omega) w7 HR7.out).mono ?_
                rintro e w8 ⟨rfl, hb8⟩
                have HR8 := Lib.hid (HR7.out.keep hb8)
                have HD8 := Lib.hid (HD7.out.keep hb8)
                have HB8 := Lib.hid (HB7.out.trans (hb8.mono (by omega)))
                have hS0 : w8.cell? ⟨q, 2, none⟩ = some (.int .u8 xb) := (hb8.cell (p := ⟨q, 2, none⟩) (by show q < w7.heap.size; omega)).trans HQ7.out
                refine hKK _ _ hS0 ?_
                intro _
                clear hKK KK hb8 HD7 HR7 HB7 HQ7
                refine wpAnyH_take (i := 12) (v := ?_) rfl (by kernel_rfl) (by kernel_rfl) (by kernel_rfl) (fun _ _ _ h => h) (Or.inl ⟨by rfl, ?_⟩) hS0 ?_
                rotate_left 1
                · intro W hW
                  go_simp
                  try with_reducible rfl
                simp only [Act.put, List.getElem_toArray, List.getElem_cons_zero, List.getElem_cons_succ, List.setIfInBounds_toArray, List.set_cons_zero, List.set_cons_succ]
                refine wpAnyH_done (by kernel_rfl) ?_ _
                clear hS0
                go_wp2
                go_meet
                case rel => exact ⟨⟨s, ⟨HD8.out, HR8.out⟩, ⟨HS.out.n, hSr0, by show s.rd ≤ ((k + 1 : Nat) : Int); omega, hSw0, by show s.wr ≤ ((k + 1 : Nat) : Int); omega, HL0.out, HL1.out⟩⟩, HB8.out⟩
            · skip
              by_cases hin : 0 ≤ X ∧ X < N
              · clear hX0 hX1
                obtain ⟨x, rfl⟩ := Int.eq_ofNat_of_zero_le hin.1
                have hxN : x < s.n := by have := hin.2; omega
                go_wp2_with fail
                refine wp_region_held (S := fun w' => w'.cell? ⟨q, 2, none⟩ = some (.int .u8 xb)) (by kernel_rfl) ?_
                change wpAnyH _ _ _ _ _ _ _ _ (World.drew _)
                have hS0 : (World.drew wa).cell? ⟨q, 2, none⟩ = some (.int .u8 xb) := a2
                refine wpAnyH_take (i := 0) (v := ?_) rfl (by kernel_rfl) (by kernel_rfl) (by kernel_rfl) (fun _ _ _ h => h) (Or.inl ⟨by rfl, ?_⟩) hS0 ?_
                rotate_left 1
                · intro W hW
                  go_simp
                  try with_reducible rfl
                simp only [Act.put, List.getElem_toArray, List.getElem_cons_zero, List.getElem_cons_succ, List.setIfInBounds_toArray, List.set_cons_zero, List.set_cons_succ]
                refine wpAnyH_take (i := 1) (v := ?_) rfl (by kernel_rfl) (by kernel_rfl) (by kernel_rfl) (fun _ _ _ h => h) (Or.inl ⟨by rfl, ?_⟩) hS0 ?_
                rotate_left 1
                · intro W hW
                  go_simp
                  try with_reducible rfl
                simp only [Act.put, List.getElem_toArray, List.getElem_cons_zero, List.getElem_cons_succ, List.setIfInBounds_toArray, List.set_cons_zero, List.set_cons_succ]
                refine wpAnyH_take (i := 2) (v := ?_) rfl (by kernel_rfl) (by kernel_rfl) (by kernel_rfl) (fun _ _ _ h => h) (Or.inl ⟨by rfl, ?_⟩) hS0 ?_
                rotate_left 1
                · intro W hW
                  go_simp
                  try with_reducible rfl
                simp only [Act.put, List.getElem_toArray, List.getElem_cons_zero, List.getElem_cons_succ, List.setIfInBounds_toArray, List.set_cons_zero, List.set_cons_succ]
                refine wpAnyH_take (i := 3) (v := ?_) rfl (by kernel_rfl) (by kernel_rfl) (by kernel_rfl) (fun _ _ _ h => h) (Or.inl ⟨by rfl, ?_⟩) hS0 ?_
                rotate_left 1
                · intro W hW
                  have e2 : W.cell? ⟨q, 2, none⟩ = some (.int .u8 xb) := hW
                  go_simp
                  try with_reducible rfl
                simp only [Act.put, List.getElem_toArray, List.getElem_cons_zero, List.getElem_cons_succ, List.setIfInBounds_toArray, List.set_cons_zero, List.set_cons_succ]
                refine wpAnyH_take (i := 6) (v := ?_) rfl (by kernel_rfl) (by kernel_rfl) (by kernel_rfl) (fun _ _ _ h => h) (Or.inl ⟨by rfl, ?_⟩) hS0 ?_
                rotate_left 1
                · intro W hW
                  go_simp
                  try with_reducible rfl
                simp only [Act.put, List.getElem_toArray, List.getElem_cons_zero, List.getElem_cons_succ, List.setIfInBounds_toArray, List.set_cons_zero, List.set_cons_succ]
                refine wpAnyH_take (i := 7) (v := ?_) rfl (by kernel_rfl) (by kernel_rfl) (by kernel_rfl) (fun _ _ _ h => h) (Or.inl ⟨by rfl, ?_⟩) hS0 ?_
                rotate_left 1
                · intro W hW
                  go_simp
                  try with_reducible rfl
                simp only [Act.put, List.getElem_toArray, List.getElem_cons_zero, List.getElem_cons_succ, List.setIfInBounds_toArray, List.set_cons_zero, List.set_cons_succ]
                refine wpAnyH_take (i := 8) (v := ?_) rfl (by kernel_rfl) (by kernel_rfl) (by kernel_rfl) (fun _ _ _ h => h) (Or.inl ⟨by rfl, ?_⟩) hS0 ?_
                rotate_left 1
                · intro W hW
                  go_simp
                  try with_reducible rfl
                simp only [Act.put, List.getElem_toArray, List.getElem_cons_zero, List.getElem_cons_succ, List.setIfInBounds_toArray, List.set_cons_zero, List.set_cons_succ]
                refine wpAnyH_take (i := 9) (v := ?_) rfl (by kernel_rfl) (by kernel_rfl) (by kernel_rfl) (fun _ _ _ h => h) (Or.inl ⟨by rfl, ?_⟩) hS0 ?_
                rotate_left 1
                · intro W hW
                  have e2 : W.cell? ⟨q, 2, none⟩ = some (.int .u8 xb) := hW
                  go_simp
                  try with_reducible rfl
                simp only [Act.put, List.getElem_toArray, List.getElem_cons_zero, List.getElem_cons_succ, List.setIfInBounds_toArray, List.set_cons_zero, List.set_cons_succ]
                clear hS0
                refine wpAnyH_ready (rs := [4]) (by kernel_rfl) (by simp) (AllReadyH.cons rfl (fun KK hKK => ?_) AllReadyH.nil)
                go_simp
                refine (block_any xb HK2.out.1 HK2.out.2 _).mono ?_
                rintro e w5 ⟨rfl, hb5⟩
                have HBo5 := Lib.hid ((HBoA.out.keep (Below.refl _ _).drew).keep hb5)
                have HB5 := Lib.hid (HBA.out.drew.trans (hb5.mono hBAz))
                have HQ5 : Hid (w5.cell? ⟨q, 2, none⟩ = some (.int .u8 xb)) := (hb5.cell (p := ⟨q, 2, none⟩) hqa).trans a2
                have h5z : wa.heap.size ≤ w5.heap.size := hb5.size
                refine hKK _ _ HQ5.out ?_
                intro _
                clear hKK KK hb5
                refine wpAnyH_ready (rs := [5]) (by kernel_rfl) (by simp) (AllReadyH.cons rfl (fun KK hKK => ?_) AllReadyH.nil)
                go_simp
                refine (write_in d g s (blk xb) x hxN (by omega) hSw0 (by omega) HL0.out HL1.out w5 HBo5.out.dk).mono ?_
                rintro e w6 ⟨rfl, hD6, hk6⟩
                have HD6 := Lib.hid hD6
                have HR6 := Lib.hid (HBo5.out.rk.kp hk6 (by omega) (by omega) (by omega) (by omega))
                have HB6 := Lib.hid (HB5.out.trans (hk6.below hd hg (by omega)))
                have HQ6 : Hid (w6.cell? ⟨q, 2, none⟩ = some (.int .u8 xb)) := (hk6.cell (p := ⟨q, 2, none⟩) (by show q < w5.heap.size; omega) (by show q ≠ d; omega) (by show q ≠ g; omega)).trans HQ5.out
                have h6z := hk6.size
                refine hKK _ _ HQ6.out ?_
                intro _
                clear hKK KK hD6 hk6 HBo5 HB5 HQ5
                refine wpAnyH_ready (rs := [10]) (by kernel_rfl) (by simp) (AllReadyH.cons rfl (fun KK hKK => ?_) AllReadyH.nil)
                go_simp
                refine (block_any xb HK2.out.1 HK2.out.2 _).mono ?_
                rintro e w7 ⟨rfl, hb7⟩
                have HD7 := Lib.hid (HD6.out.keep hb7)
                have HR7 := Lib.hid (HR6.out.keep hb7)
                have HB7 := Lib.hid (HB6.out.trans (hb7.mono (by omega)))
                have HQ7 : Hid (w7.cell? ⟨q, 2, none⟩ = some (.int .u8 xb)) := (hb7.cell (p := ⟨q, 2, none⟩) (by show q < w6.heap.size; omega)).trans HQ6.out
                have h7z := hb7.size
                refine hKK _ _ HQ7.out ?_
                intro _
                clear hKK KK hb7 HD6 HR6 HB6 HQ6
                refine wpAnyH_ready (rs := [11]) (by kernel_rfl) (by simp) (AllReadyH.cons rfl (fun KK hKK => ?_) AllReadyH.nil)
                go_simp
                refine (rwrite_in (h + 1) h s (blk xb) x hxN (by omega) hSw0 (by omega) HL0.out HL1.out w7 HR7.out).mono ?_
                rintro e w8 ⟨rfl, hR8, hk8⟩
                have HR8 := Lib.hid hR8
                have HD8 := Lib.hid (HD7.out.kp hk8 (by omega) (by omega) (by omega) (by omega))
                have HB8 := Lib.hid (HB7.out.trans (hk8.below (by omega) (by omega) (by omega)))
                have hS0 : w8.cell? ⟨q, 2, none⟩ = some (.int .u8 xb) := (hk8.cell (p := ⟨q, 2, none⟩) (by show q < w7.heap.size; omega) (by show q ≠ h + 1; omega) (by show q ≠ h; omega)).trans HQ7.out
                refine hKK _ _ hS0 ?_
                intro _
                clear hKK KK hR8 hk8 HD7 HR7 HB7 HQ7
                refine wpAnyH_take (i := 12) (v := ?_) rfl (by kernel_rfl) (by kernel_rfl) (by kernel_rfl) (fun _ _ _ h => h) (Or.inl ⟨by rfl, ?_⟩) hS0 ?_
                rotate_left 1
                · intro W hW
                  go_simp
                  try with_reducible rfl
                simp only [Act.put, List.getElem_toArray, List.getElem_cons_zero, List.getElem_cons_succ, List.setIfInBounds_toArray, List.set_cons_zero, List.set_cons_succ]
                refine wpAnyH_done (by kernel_rfl) ?_ _
                clear hS0
                go_wp2
                go_meet
                case rel => exact ⟨⟨(s.write x (blk xb)).2, ⟨HD8.out, HR8.out⟩, HS.out.write x (blk xb)⟩, HB8.out⟩
              · have hout : X < 0 ∨ (s.n : Int) ≤ X := by omega
                clear hX0 hX1
                go_wp2_with fail
                refine wp_region_held (S := fun w' => w'.cell? ⟨q, 2, none⟩ = some (.int .u8 xb)) (by kernel_rfl) ?_
                change wpAnyH _ _ _ _ _ _ _ _ (World.drew _)
                have hS0 : (World.drew wa).cell? ⟨q, 2, none⟩ = some (.int .u8 xb) := a2
                refine wpAnyH_take (i := 0) (v := ?_) rfl (by kernel_rfl) (by kernel_rfl) (by kernel_rfl) (fun _ _ _ h => h) (Or.inl ⟨by rfl, ?_⟩) hS0 ?_
                rotate_left 1
                · intro W hW
                  go_simp
                  try with_reducible rfl
                simp only [Act.put, List.getElem_toArray, List.getElem_cons_zero, List.getElem_cons_succ, List.setIfInBounds_toArray, List.set_cons_zero, List.set_cons_succ]
                refine wpAnyH_take (i := 1) (v := ?_) rfl (by kernel_rfl) (by kernel_rfl) (by kernel_rfl) (fun _ _ _ h => h) (Or.inl ⟨by rfl, ?_⟩) hS0 ?_
                rotate_left 1
                · intro W hW
                  go_simp
                  try with_reducible rfl
                simp only [Act.put, List.getElem_toArray, List.getElem_cons_zero, List.getElem_cons_succ, List.setIfInBounds_toArray, List.set_cons_zero, List.set_cons_succ]
                refine wpAnyH_take (i := 2) (v := ?_) rfl (by kernel_rfl) (by kernel_rfl) (by kernel_rfl) (fun _ _ _ h => h) (Or.inl ⟨by rfl, ?_⟩) hS0 ?_
                rotate_left 1
                · intro W hW
                  go_simp
                  try with_reducible rfl
                simp only [Act.put, List.getElem_toArray, List.getElem_cons_zero, List.getElem_cons_succ, List.setIfInBounds_toArray, List.set_cons_zero, List.set_cons_succ]
                refine wpAnyH_take (i := 3) (v := ?_) rfl (by kernel_rfl) (by kernel_rfl) (by kernel_rfl) (fun _ _ _ h => h) (Or.inl ⟨by rfl, ?_⟩) hS0 ?_
                rotate_left 1
                · intro W hW
                  have e2 : W.cell? ⟨q, 2, none⟩ = some (.int .u8 xb) := hW
                  go_simp
                  try with_reducible rfl
                simp only [Act.put, List.getElem_toArray, List.getElem_cons_zero, List.getElem_cons_succ, List.setIfInBounds_toArray, List.set_cons_zero, List.set_cons_succ]
                refine wpAnyH_take (i := 6) (v := ?_) rfl (by kernel_rfl) (by kernel_rfl) (by kernel_rfl) (fun _ _ _ h => h) (Or.inl ⟨by rfl, ?_⟩) hS0 ?_
                rotate_left 1
                · intro W hW
                  go_simp
                  try with_reducible rfl
                simp only [Act.put, List.getElem_toArray, List.getElem_cons_zero, List.getElem_cons_succ, List.setIfInBounds_toArray, List.set_cons_zero, List.set_cons_succ]
                refine wpAnyH_take (i := 7) (v := ?_) rfl (by kernel_rfl) (by kernel_rfl) (by kernel_rfl) (fun _ _ _ h => h) (Or.inl ⟨by rfl, ?_⟩) hS0 ?_
                rotate_left 1
                · intro W hW
                  go_simp
                  try with_reducible rfl
                simp only [Act.put, List.getElem_toArray, List.getElem_cons_zero, List.getElem_cons_succ, List.setIfInBounds_toArray, List.set_cons_zero, List.set_cons_succ]
                refine wpAnyH_take (i := 8) (v := ?_) rfl (by kernel_rfl) (by kernel_rfl) (by kernel_rfl) (fun _ _ _ h => h) (Or.inl ⟨by rfl, ?_⟩) hS0 ?_
                rotate_left 1
                · intro W hW
                  go_simp
                  try with_reducible rfl
                simp only [Act.put, List.getElem_toArray, List.getElem_cons_zero, List.getElem_cons_succ, List.setIfInBounds_toArray, List.set_cons_zero, List.set_cons_succ]
                refine wpAnyH_take (i := 9) (v := ?_) rfl (by kernel_rfl) (by kernel_rfl) (by kernel_rfl) (fun _ _ _ h => h) (Or.inl ⟨by rfl, ?_⟩) hS0 ?_
                rotate_left 1
                · intro W hW
                  have e2 : W.cell? ⟨q, 2, none⟩ = some (.int .u8 xb) := hW
                  go_simp
                  try with_reducible rfl
                simp only [Act.put, List.getElem_toArray, List.getElem_cons_zero, List.getElem_cons_succ, List.setIfInBounds_toArray, List.set_cons_zero, List.set_cons_succ]
                clear hS0
                refine wpAnyH_ready (rs := [4]) (by kernel_rfl) (by simp) (AllReadyH.cons rfl (fun KK hKK => ?_) AllReadyH.nil)
                go_simp
                refine (block_any xb HK2.out.1 HK2.out.2 _).mono ?_
                rintro e w5 ⟨rfl, hb5⟩
                have HBo5 := Lib.hid ((HBoA.out.keep (Below.refl _ _).drew).keep hb5)
                have HB5 := Lib.hid (HBA.out.drew.trans (hb5.mono hBAz))
                have HQ5 : Hid (w5.cell? ⟨q, 2, none⟩ = some (.int .u8 xb)) := (hb5.cell (p := ⟨q, 2, none⟩) hqa).trans a2
                have h5z : wa.heap.size ≤ w5.heap.size := hb5.size
                refine hKK _ _ HQ5.out ?_
                intro _
                clear hKK KK hb5
                refine wpAnyH_ready (rs := [5]) (by kernel_rfl) (by simp) (AllReadyH.cons rfl (fun KK hKK => ?_) AllReadyH.nil)
                go_simp
                refine (write_out d g s (blk xb) X hout (by omega) w5 HBo5.out.dk).mono ?_
                rintro e w6 ⟨rfl, hb6⟩
                have HD6 := Lib.hid (HBo5.out.dk.keep hb6)
                have HR6 := Lib.hid (HBo5.out.rk.keep hb6)
                have HB6 := Lib.hid (HB5.out.trans (hb6.mono (by omega)))
                have HQ6 : Hid (w6.cell? ⟨q, 2, none⟩ = some (.int .u8 xb)) := (hb6.cell (p := ⟨q, 2, none⟩) (by show q < w5.heap.size; omega)).trans HQ5.out
                have h6z := hb6.size
                refine hKK _ _ HQ6.out ?_
                intro _
                clear hKK KK hb6 HBo5 HB5 HQ5
                refine wpAnyH_ready (rs := [10]) (by kernel_rfl) (by simp) (AllReadyH.cons rfl (fun KK hKK => ?_) AllReadyH.nil)
                go_simp
                refine (block_any xb HK2.out.1 HK2.out.2 _).mono ?_
                rintro e w7 ⟨rfl, hb7⟩
                have HD7 := Lib.hid (HD6.out.keep hb7)
                have HR7 := Lib.hid (HR6.out.keep hb7)
                have HB7 := Lib.hid (HB6.out.trans (hb7.mono (by omega)))
                have HQ7 : Hid (w7.cell? ⟨q, 2, none⟩ = some (.int .u8 xb)) := (hb7.cell (p := ⟨q, 2, none⟩) (by show q < w6.heap.size; omega)).trans HQ6.out
                have h7z := hb7.size
                refine hKK _ _ HQ7.out ?_
                intro _
                clear hKK KK hb7 HD6 HR6 HB6 HQ6
                refine wpAnyH_ready (rs := [11]) (by kernel_rfl) (by simp) (AllReadyH.cons rfl (fun KK hKK => ?_) AllReadyH.nil)
                go_simp
                refine (rwrite_out (h + 1) h s (blk xb) X hout (by omega) w7 HR7.out).mono ?_
                rintro e w8 ⟨rfl, hb8⟩
                have HR8 := Lib.hid (HR7.out.keep hb8)
                have HD8 := Lib.hid (HD7.out.keep hb8)
                have HB8 := Lib.hid (HB7.out.trans (hb8.mono (by omega)))
                have hS0 : w8.cell? ⟨q, 2, none⟩ = some (.int .u8 xb) := (hb8.cell (p := ⟨q, 2, none⟩) (by show q < w7.heap.size; omega)).trans HQ7.out
                refine hKK _ _ hS0 ?_
                intro _
                clear hKK KK hb8 HD7 HR7 HB7 HQ7
                refine wpAnyH_take (i := 12) (v := ?_) rfl (by kernel_rfl) (by kernel_rfl) (by kernel_rfl) (fun _ _ _ h => h) (Or.inl ⟨by rfl, ?_⟩) hS0 ?_
                rotate_left 1
                · intro W hW
                  go_simp
                  try with_reducible rfl
                simp only [Act.put, List.getElem_toArray, List.getElem_cons_zero, List.getElem_cons_succ, List.setIfInBounds_toArray, List.set_cons_zero, List.set_cons_succ]
                refine wpAnyH_done (by kernel_rfl) ?_ _
                clear hS0
                go_wp2
                go_meet
                case rel => exact ⟨⟨s, ⟨HD8.out, HR8.out⟩, ⟨HS.out.n, hSr0, by show s.rd ≤ ((k + 1 : Nat) : Int); omega, hSw0, by show s.wr ≤ ((k + 1 : Nat) : Int); omega, HL0.out, HL1.out⟩⟩, HB8.out⟩
            · skip
              by_cases hin : 0 ≤ X ∧ X < N
              · clear hX0 hX1
                obtain ⟨x, rfl⟩ := Int.eq_ofNat_of_zero_le hin.1
                have hxN : x < s.n := by have := hin.2; omega
                go_wp2_with fail
                refine (read_in d g s x hxN (by omega) hSr0 (by omega) wa HBoA.out.dk).mono ?_
                rintro e w5 ⟨rfl, hD5, hk5⟩
                have HD5 := Lib.hid hD5
                have HR5 := Lib.hid (HBoA.out.rk.kp hk5 (by omega) (by omega) (by omega) (by omega))
                have HB5 := Lib.hid (HBA.out.trans (hk5.below hd hg hBAz))
                have h5z := hk5.size
                have h51 := HB5.out.size
                clear hD5 hk5
                obtain ⟨V, hV⟩ : ∃ V, (fun i => s.f (x * 64 + i)) = V := ⟨_, rfl⟩
                have HV := Lib.hid hV
                rw [hV]
                clear hV
                go_wp2_with (first | (refine wpList_alloc_byts (w := w5) rfl 36 64 rfl Try.zero36 ?_; intro w6 F6 hb6 hz6; have HD6 := Lib.hid (HD5.out.keep hb6); have HR6 := Lib.hid (HR5.out.keep hb6); have HB6 := Lib.hid (HB5.out.trans (hb6.mono (by omega))); clear hb6) | (refine wpList_store_blk rfl (.tmp 12) (.tmp 73) rfl w5.heap.size 0 64 (fun _ => 0) V F6.out (by omega) rfl rfl ?_; intro w7 F7 HK7))
                have hd5 := HD5.out.lt
                have hg5 := HD5.out.fl.lt
                have hm5 := HR5.out.lt
                have hh5 := HR5.out.fl.lt
                have HD7 := Lib.hid (HD6.out.kp HK7.out (by omega) (by omega) (by omega) (by omega))
                have HR7 := Lib.hid (HR6.out.kp HK7.out (by omega) (by omega) (by omega) (by omega))
                have HB7 := Lib.hid (HB6.out.trans (HK7.out.below (by omega) (by omega) (by omega)))
                have HP7 : Hid (Fl w7 w5.heap.size 64 V) := F7.out.congr fun j hj => by unfold upd; rw [if_pos (by omega), Nat.sub_zero]
                have h7z := HP7.out.lt
                clear F6 F7 HK7 HD6 HR6 HB6
                refine (rread_in (h + 1) h s x hxN (by omega) hSr0 (by omega) w7 HR7.out).mono ?_
                rintro e w8 ⟨rfl, hR8, hk8⟩
                have HR8 := Lib.hid hR8
                have HD8 := Lib.hid (HD7.out.kp hk8 (by omega) (by omega) (by omega) (by omega))
                have HB8 := Lib.hid (HB7.out.trans (hk8.below (by omega) (by omega) (by omega)))
                have HP8 := Lib.hid (HP7.out.kp hk8 (by omega) (by omega))
                have h8z := hk8.size
                clear hR8 hk8 HR7 HD7 HB7 HP7
                rw [HV.out]
                go_upto_region 20 with (first | (refine wpList_alloc_byts (w := w8) rfl 36 64 rfl Try.zero36 ?_; intro w9 F9 hb9 hz9; have HD9 := Lib.hid (HD8.out.keep hb9); have HR9 := Lib.hid (HR8.out.keep hb9); have HB9 := Lib.hid (HB8.out.trans (hb9.mono (by omega))); have HP9 := Lib.hid (HP8.out.below hb9 HP8.out.lt); clear hb9) | (refine wpList_store_blk rfl (.tmp 14) (.tmp 79) rfl w8.heap.size 0 64 (fun _ => 0) V F9.out (by omega) rfl rfl ?_; intro w10 F10 HK10; have HP10 := Lib.hid (HP9.out.kp HK10.out (by omega) (by omega)); have HQ10 : Hid (Fl w10 w8.heap.size 64 V) := F10.out.congr (fun j hj => (by unfold upd; rw [if_pos (by omega), Nat.sub_zero])); have e36 : ∀ W, (Op.equalIn 10000 36 (.agg (byts 64 V).toArray) (.agg (byts 64 V).toArray)).run Try.prog W = .ok true W := fun W => by rw [eq36, eqb_same fun _ _ => rfl]))
                have HEE := Lib.hid e36
                clear e36
                go_wp2_with (first | (refine wpList_yields _ (yieldsIf_load_mid rfl 36 (.tmp 12) rfl w5.heap.size 0 rfl (byts 64 V) (.array 64 5) (fun W hh => by subst hh; exact HP10.out.range0) Try.arr36 rfl (size36 _)) ?_) | (refine wpList_yields _ (yieldsIf_load_mid rfl 36 (.tmp 14) rfl w8.heap.size 0 rfl (byts 64 V) (.array 64 5) (fun W hh => by subst hh; exact HQ10.out.range0) Try.arr36 rfl (size36 _)) ?_))
                have HD10 := Lib.hid (HD9.out.kp HK10.out (by omega) (by omega) (by omega) (by omega))
                have HR10 := Lib.hid (HR9.out.kp HK10.out (by omega) (by omega) (by omega) (by omega))
                have HB10 := Lib.hid (HB9.out.trans (HK10.out.below (by omega) (by omega) (by omega)))
                clear HD5 HR5 HB5 HR8 HD8 HB8 HP8 HD9 HR9 HB9 HP9 HK10 F9 F10 HP10 HQ10 HV
                rw [HEE.out w10]
                go_simp
                go_wp2
                go_meet
                case rel =>
                  exact ⟨⟨{ s with rd := s.rd + 1 }, ⟨HD10.out, HR10.out⟩, ⟨HS.out.n, by show 0 ≤ s.rd + 1; omega, by show s.rd + 1 ≤ ((k + 1 : Nat) : Int); omega, hSw0, by show s.wr ≤ ((k + 1 : Nat) : Int); omega, HL0.out, HL1.out⟩⟩, HB10.out⟩
              · have hout : X < 0 ∨ (s.n : Int) ≤ X := by omega
                clear hX0 hX1
                go_wp2_with fail
                refine (read_out d g s X hout (by omega) wa HBoA.out.dk).mono ?_
                rintro e w5 ⟨rfl, hb5⟩
                have HD5 := Lib.hid (HBoA.out.dk.keep hb5)
                have HR5 := Lib.hid (HBoA.out.rk.keep hb5)
                have HB5 := Lib.hid (HBA.out.trans (hb5.mono hBAz))
                have h5z := hb5.size
                have h51 := HB5.out.size
                clear hb5
                obtain ⟨V, hV⟩ : ∃ V : Nat → Int, (fun _ => 0) = V := ⟨_, rfl⟩
                have HV := Lib.hid hV
                rw [show (byts 64 fun _ => 0) = byts 64 V by rw [← hV]]
                clear hV
                go_wp2_with (first | (refine wpList_alloc_byts (w := w5) rfl 36 64 rfl Try.zero36 ?_; intro w6 F6 hb6 hz6; have HD6 := Lib.hid (HD5.out.keep hb6); have HR6 := Lib.hid (HR5.out.keep hb6); have HB6 := Lib.hid (HB5.out.trans (hb6.mono (by omega))); clear hb6) | (refine wpList_store_blk rfl (.tmp 12) (.tmp 73) rfl w5.heap.size 0 64 (fun _ => 0) V F6.out (by omega) rfl rfl ?_; intro w7 F7 HK7))
                have hd5 := HD5.out.lt
                have hg5 := HD5.out.fl.lt
                have hm5 := HR5.out.lt
                have hh5 := HR5.out.fl.lt
                have HD7 := Lib.hid (HD6.out.kp HK7.out (by omega) (by omega) (by omega) (by omega))
                have HR7 := Lib.hid (HR6.out.kp HK7.out (by omega) (by omega) (by omega) (by omega))
                have HB7 := Lib.hid (HB6.out.trans (HK7.out.below (by omega) (by omega) (by omega)))
                have HP7 : Hid (Fl w7 w5.heap.size 64 V) := F7.out.congr fun j hj => by unfold upd; rw [if_pos (by omega), Nat.sub_zero]
                have h7z := HP7.out.lt
                clear F6 F7 HK7 HD6 HR6 HB6
                refine (rread_out (h + 1) h s X hout (by omega) w7 HR7.out).mono ?_
                rintro e w8 ⟨rfl, hb8⟩
                have HR8 := Lib.hid (HR7.out.keep hb8)
                have HD8 := Lib.hid (HD7.out.keep hb8)
                have HB8 := Lib.hid (HB7.out.trans (hb8.mono (by omega)))
                have HP8 := Lib.hid (HP7.out.below hb8 h7z)
                have h8z := hb8.size
                clear hb8 HR7 HD7 HB7 HP7
                rw [show (byts 64 fun _ => 0) = byts 64 V by rw [← HV.out]]
                go_upto_region 20 with (first | (refine wpList_alloc_byts (w := w8) rfl 36 64 rfl Try.zero36 ?_; intro w9 F9 hb9 hz9; have HD9 := Lib.hid (HD8.out.keep hb9); have HR9 := Lib.hid (HR8.out.keep hb9); have HB9 := Lib.hid (HB8.out.trans (hb9.mono (by omega))); have HP9 := Lib.hid (HP8.out.below hb9 HP8.out.lt); clear hb9) | (refine wpList_store_blk rfl (.tmp 14) (.tmp 79) rfl w8.heap.size 0 64 (fun _ => 0) V F9.out (by omega) rfl rfl ?_; intro w10 F10 HK10; have HP10 := Lib.hid (HP9.out.kp HK10.out (by omega) (by omega)); have HQ10 : Hid (Fl w10 w8.heap.size 64 V) := F10.out.congr (fun j hj => (by unfold upd; rw [if_pos (by omega), Nat.sub_zero])); have e36 : ∀ W, (Op.equalIn 10000 36 (.agg (byts 64 V).toArray) (.agg (byts 64 V).toArray)).run Try.prog W = .ok true W := fun W => by rw [eq36, eqb_same fun _ _ => rfl]))
                have HEE := Lib.hid e36
                clear e36
                go_wp2_with (first | (refine wpList_yields _ (yieldsIf_load_mid rfl 36 (.tmp 12) rfl w5.heap.size 0 rfl (byts 64 V) (.array 64 5) (fun W hh => by subst hh; exact HP10.out.range0) Try.arr36 rfl (size36 _)) ?_) | (refine wpList_yields _ (yieldsIf_load_mid rfl 36 (.tmp 14) rfl w8.heap.size 0 rfl (byts 64 V) (.array 64 5) (fun W hh => by subst hh; exact HQ10.out.range0) Try.arr36 rfl (size36 _)) ?_))
                have HD10 := Lib.hid (HD9.out.kp HK10.out (by omega) (by omega) (by omega) (by omega))
                have HR10 := Lib.hid (HR9.out.kp HK10.out (by omega) (by omega) (by omega) (by omega))
                have HB10 := Lib.hid (HB9.out.trans (HK10.out.below (by omega) (by omega) (by omega)))
                clear HD5 HR5 HB5 HR8 HD8 HB8 HP8 HD9 HR9 HB9 HP9 HK10 F9 F10 HP10 HQ10 HV
                rw [HEE.out w10]
                go_simp
                go_wp2
                go_meet
                case rel =>
                  exact ⟨⟨s, ⟨HD10.out, HR10.out⟩, ⟨HS.out.n, hSr0, by show s.rd ≤ ((k + 1 : Nat) : Int); omega, hSw0, by show s.wr ≤ ((k + 1 : Nat) : Int); omega, HL0.out, HL1.out⟩⟩, HB10.out⟩
            · skip
              by_cases hin : 0 ≤ X ∧ X < N
              · clear hX0 hX1
                obtain ⟨x, rfl⟩ := Int.eq_ofNat_of_zero_le hin.1
                have hxN : x < s.n := by have := hin.2; omega
                go_wp2_with fail
                refine (read_in d g s x hxN (by omega) hSr0 (by omega) wa HBoA.out.dk).mono ?_
                rintro e w5 ⟨rfl, hD5, hk5⟩
                have HD5 := Lib.hid hD5
                have HR5 := Lib.hid (HBoA.out.rk.kp hk5 (by omega) (by omega) (by omega) (by omega))
                have HB5 := Lib.hid (HBA.out.trans (hk5.below hd hg hBAz))
                have h5z := hk5.size
                have h51 := HB5.out.size
                clear hD5 hk5
                obtain ⟨V, hV⟩ : ∃ V, (fun i => s.f (x * 64 + i)) = V := ⟨_, rfl⟩
                have HV := Lib.hid hV
                rw [hV]
                clear hV
                go_wp2_with (first | (refine wpList_alloc_byts (w := w5) rfl 36 64 rfl Try.zero36 ?_; intro w6 F6 hb6 hz6; have HD6 := Lib.hid (HD5.out.keep hb6); have HR6 := Lib.hid (HR5.out.keep hb6); have HB6 := Lib.hid (HB5.out.trans (hb6.mono (by omega))); clear hb6) | (refine wpList_store_blk rfl (.tmp 12) (.tmp 73) rfl w5.heap.size 0 64 (fun _ => 0) V F6.out (by omega) rfl rfl ?_; intro w7 F7 HK7))
                have hd5 := HD5.out.lt
                have hg5 := HD5.out.fl.lt
                have hm5 := HR5.out.lt
                have hh5 := HR5.out.fl.lt
                have HD7 := Lib.hid (HD6.out.kp HK7.out (by omega) (by omega) (by omega) (by omega))
                have HR7 := Lib.hid (HR6.out.kp HK7.out (by omega) (by omega) (by omega) (by omega))
                have HB7 := Lib.hid (HB6.out.trans (HK7.out.below (by omega) (by omega) (by omega)))
                have HP7 : Hid (Fl w7 w5.heap.size 64 V) := F7.out.congr fun j hj => by unfold upd; rw [if_pos (by omega), Nat.sub_zero]
                have h7z := HP7.out.lt
                clear F6 F7 HK7 HD6 HR6 HB6
                refine (rread_in (h + 1) h s x hxN (by omega) hSr0 (by omega) w7 HR7.out).mono ?_
                rintro e w8 ⟨rfl, hR8, hk8⟩
                have HR8 := Lib.hid hR8
                have HD8 := Lib.hid (HD7.out.kp hk8 (by omega) (by omega) (by omega) (by omega))
                have HB8 := Lib.hid (HB7.out.trans (hk8.below (by omega) (by omega) (by omega)))
                have HP8 := Lib.hid (HP7.out.kp hk8 (by omega) (by omega))
                have h8z := hk8.size
                clear hR8 hk8 HR7 HD7 HB7 HP7
                rw [HV.out]
                go_upto_region 20 with (first | (refine wpList_alloc_byts (w := w8) rfl 36 64 rfl Try.zero36 ?_; intro w9 F9 hb9 hz9; have HD9 := Lib.hid (HD8.out.keep hb9); have HR9 := Lib.hid (HR8.out.keep hb9); have HB9 := Lib.hid (HB8.out.trans (hb9.mono (by omega))); have HP9 := Lib.hid (HP8.out.below hb9 HP8.out.lt); clear hb9) | (refine wpList_store_blk rfl (.tmp 14) (.tmp 79) rfl w8.heap.size 0 64 (fun _ => 0) V F9.out (by omega) rfl rfl ?_; intro w10 F10 HK10; have HP10 := Lib.hid (HP9.out.kp HK10.out (by omega) (by omega)); have HQ10 : Hid (Fl w10 w8.heap.size 64 V) := F10.out.congr (fun j hj => (by unfold upd; rw [if_pos (by omega), Nat.sub_zero])); have e36 : ∀ W, (Op.equalIn 10000 36 (.agg (byts 64 V).toArray) (.agg (byts 64 V).toArray)).run Try.prog W = .ok true W := fun W => by rw [eq36, eqb_same fun _ _ => rfl]))
                have HEE := Lib.hid e36
                clear e36
                go_wp2_with (first | (refine wpList_yields _ (yieldsIf_load_mid rfl 36 (.tmp 12) rfl w5.heap.size 0 rfl (byts 64 V) (.array 64 5) (fun W hh => by subst hh; exact HP10.out.range0) Try.arr36 rfl (size36 _)) ?_) | (refine wpList_yields _ (yieldsIf_load_mid rfl 36 (.tmp 14) rfl w8.heap.size 0 rfl (byts 64 V) (.array 64 5) (fun W hh => by subst hh; exact HQ10.out.range0) Try.arr36 rfl (size36 _)) ?_))
                have HD10 := Lib.hid (HD9.out.kp HK10.out (by omega) (by omega) (by omega) (by omega))
                have HR10 := Lib.hid (HR9.out.kp HK10.out (by omega) (by omega) (by omega) (by omega))
                have HB10 := Lib.hid (HB9.out.trans (HK10.out.below (by omega) (by omega) (by omega)))
                clear HD5 HR5 HB5 HR8 HD8 HB8 HP8 HD9 HR9 HB9 HP9 HK10 F9 F10 HP10 HQ10 HV
                rw [HEE.out w10]
                go_simp
                go_wp2
                go_meet
                case rel =>
                  exact ⟨⟨{ s with rd := s.rd + 1 }, ⟨HD10.out, HR10.out⟩, ⟨HS.out.n, by show 0 ≤ s.rd + 1; omega, by show s.rd + 1 ≤ ((k + 1 : Nat) : Int); omega, hSw0, by show s.wr ≤ ((k + 1 : Nat) : Int); omega, HL0.out, HL1.out⟩⟩, HB10.out⟩
              · have hout : X < 0 ∨ (s.n : Int) ≤ X := by omega
                clear hX0 hX1
                go_wp2_with fail
                refine (read_out d g s X hout (by omega) wa HBoA.out.dk).mono ?_
                rintro e w5 ⟨rfl, hb5⟩
                have HD5 := Lib.hid (HBoA.out.dk.keep hb5)
                have HR5 := Lib.hid (HBoA.out.rk.keep hb5)
                have HB5 := Lib.hid (HBA.out.trans (hb5.mono hBAz))
                have h5z := hb5.size
                have h51 := HB5.out.size
                clear hb5
                obtain ⟨V, hV⟩ : ∃ V : Nat → Int, (fun _ => 0) = V := ⟨_, rfl⟩
                have HV := Lib.hid hV
                rw [show (byts 64 fun _ => 0) = byts 64 V by rw [← hV]]
                clear hV
                go_wp2_with (first | (refine wpList_alloc_byts (w := w5) rfl 36 64 rfl Try.zero36 ?_; intro w6 F6 hb6 hz6; have HD6 := Lib.hid (HD5.out.keep hb6); have HR6 := Lib.hid (HR5.out.keep hb6); have HB6 := Lib.hid (HB5.out.trans (hb6.mono (by omega))); clear hb6) | (refine wpList_store_blk rfl (.tmp 12) (.tmp 73) rfl w5.heap.size 0 64 (fun _ => 0) V F6.out (by omega) rfl rfl ?_; intro w7 F7 HK7))
                have hd5 := HD5.out.lt
                have hg5 := HD5.out.fl.lt
                have hm5 := HR5.out.lt
                have hh5 := HR5.out.fl.lt
                have HD7 := Lib.hid (HD6.out.kp HK7.out (by omega) (by omega) (by omega) (by omega))
                have HR7 := Lib.hid (HR6.out.kp HK7.out (by omega) (by omega) (by omega) (by omega))
                have HB7 := Lib.hid (HB6.out.trans (HK7.out.below (by omega) (by omega) (by omega)))
                have HP7 : Hid (Fl w7 w5.heap.size 64 V) := F7.out.congr fun j hj => by unfold upd; rw [if_pos (by omega), Nat.sub_zero]
                have h7z := HP7.out.lt
                clear F6 F7 HK7 HD6 HR6 HB6
                refine (rread_out (h + 1) h s X hout (by omega) w7 HR7.out).mono ?_
                rintro e w8 ⟨rfl, hb8⟩
                have HR8 := Lib.hid (HR7.out.keep hb8)
                have HD8 := Lib.hid (HD7.out.keep hb8)
                have HB8 := Lib.hid (HB7.out.trans (hb8.mono (by omega)))
                have HP8 := Lib.hid (HP7.out.below hb8 h7z)
                have h8z := hb8.size
                clear hb8 HR7 HD7 HB7 HP7
                rw [show (byts 64 fun _ => 0) = byts 64 V by rw [← HV.out]]
                go_upto_region 20 with (first | (refine wpList_alloc_byts (w := w8) rfl 36 64 rfl Try.zero36 ?_; intro w9 F9 hb9 hz9; have HD9 := Lib.hid (HD8.out.keep hb9); have HR9 := Lib.hid (HR8.out.keep hb9); have HB9 := Lib.hid (HB8.out.trans (hb9.mono (by omega))); have HP9 := Lib.hid (HP8.out.below hb9 HP8.out.lt); clear hb9) | (refine wpList_store_blk rfl (.tmp 14) (.tmp 79) rfl w8.heap.size 0 64 (fun _ => 0) V F9.out (by omega) rfl rfl ?_; intro w10 F10 HK10; have HP10 := Lib.hid (HP9.out.kp HK10.out (by omega) (by omega)); have HQ10 : Hid (Fl w10 w8.heap.size 64 V) := F10.out.congr (fun j hj => (by unfold upd; rw [if_pos (by omega), Nat.sub_zero])); have e36 : ∀ W, (Op.equalIn 10000 36 (.agg (byts 64 V).toArray) (.agg (byts 64 V).toArray)).run Try.prog W = .ok true W := fun W => by rw [eq36, eqb_same fun _ _ => rfl]))
                have HEE := Lib.hid e36
                clear e36
                go_wp2_with (first | (refine wpList_yields _ (yieldsIf_load_mid rfl 36 (.tmp 12) rfl w5.heap.size 0 rfl (byts 64 V) (.array 64 5) (fun W hh => by subst hh; exact HP10.out.range0) Try.arr36 rfl (size36 _)) ?_) | (refine wpList_yields _ (yieldsIf_load_mid rfl 36 (.tmp 14) rfl w8.heap.size 0 rfl (byts 64 V) (.array 64 5) (fun W hh => by subst hh; exact HQ10.out.range0) Try.arr36 rfl (size36 _)) ?_))
                have HD10 := Lib.hid (HD9.out.kp HK10.out (by omega) (by omega) (by omega) (by omega))
                have HR10 := Lib.hid (HR9.out.kp HK10.out (by omega) (by omega) (by omega) (by omega))
                have HB10 := Lib.hid (HB9.out.trans (HK10.out.below (by omega) (by omega) (by omega)))
                clear HD5 HR5 HB5 HR8 HD8 HB8 HP8 HD9 HR9 HB9 HP9 HK10 F9 F10 HP10 HQ10 HV
                rw [HEE.out w10]
                go_simp
                go_wp2
                go_meet
                case rel =>
                  exact ⟨⟨s, ⟨HD10.out, HR10.out⟩, ⟨HS.out.n, hSr0, by show s.rd ≤ ((k + 1 : Nat) : Int); omega, hSw0, by show s.wr ≤ ((k + 1 : Nat) : Int); omega, HL0.out, HL1.out⟩⟩, HB10.out⟩
            · go_wp2_with fail
              refine (arm_any d g s X wa HBoA.out.dk).mono ?_
              rintro e w5 ⟨rfl, hD5, hk5⟩
              have HD5 := Lib.hid hD5
              have HR5 := Lib.hid (HBoA.out.rk.kp hk5 (by omega) (by omega) (by omega) (by omega))
              have HB5 := Lib.hid (HBA.out.trans (hk5.below hd hg hBAz))
              have r1 := HR5.out.c1
              have rz1 := HR5.out.z1
              clear hD5 hk5
              by_cases hXn : X < -1
              · go_wp2
                go_meet
                case rel =>
                  have hE : Both (w5.setCell ⟨h + 1, 1, none⟩ (.int .i64 (-1))) d g (h + 1) h { s with ar := decide (0 ≤ X), lf := X } :=
                    ⟨HD5.out.kp ((Kp.refl w5 (h + 1) (h + 1)).setCell ⟨h + 1, 1, none⟩ (.inl rfl) _) (by omega) (by omega) (by omega) (by omega), HR5.out.setL _ _ _ (by unfold lfR; simp only [decide_eq_true_eq]; split <;> omega)⟩
                  exact ⟨⟨_, hE, ⟨HS.out.n, hSr0, by show s.rd ≤ ((k + 1 : Nat) : Int); omega, hSw0, by show s.wr ≤ ((k + 1 : Nat) : Int); omega, fun hh => of_decide_eq_true hh, hX1⟩⟩, HB5.out.setCell (by show w1.heap.size ≤ h + 1; omega) _⟩
              · go_wp2
                go_meet
                case rel =>
                  have hE : Both (w5.setCell ⟨h + 1, 1, none⟩ (.int .i64 (X))) d g (h + 1) h { s with ar := decide (0 ≤ X), lf := X } :=
                    ⟨HD5.out.kp ((Kp.refl w5 (h + 1) (h + 1)).setCell ⟨h + 1, 1, none⟩ (.inl rfl) _) (by omega) (by omega) (by omega) (by omega), HR5.out.setL _ _ _ (by unfold lfR; simp only [decide_eq_true_eq]; split <;> omega)⟩
                  exact ⟨⟨_, hE, ⟨HS.out.n, hSr0, by show s.rd ≤ ((k + 1 : Nat) : Int); omega, hSw0, by show s.wr ≤ ((k + 1 : Nat) : Int); omega, fun hh => of_decide_eq_true hh, hX1⟩⟩, HB5.out.setCell (by show w1.heap.size ≤ h + 1; omega) _⟩
            · go_wp2_with fail
              refine (wake_any d g s wa HBoA.out.dk).mono ?_
              rintro e w5 ⟨rfl, hD5, hk5⟩
              have HD5 := Lib.hid hD5
              have HR5 := Lib.hid (HBoA.out.rk.kp hk5 (by omega) (by omega) (by omega) (by omega))
              have HB5 := Lib.hid (HBA.out.trans (hk5.below hd hg hBAz))
              have r1 := HR5.out.c1
              have rz1 := HR5.out.z1
              have r2 := HR5.out.c2
              have rz2 := HR5.out.z2
              clear hD5 hk5
              go_wp2
              go_meet
              case rel =>
                have hE : Both ((w5.setCell ⟨h + 1, 2, none⟩ (.bool false)).setCell ⟨h + 1, 1, none⟩ (.int .i64 (-1))) d g (h + 1) h { s with de := false, ar := false } :=
                  ⟨(HD5.out.kp ((Kp.refl w5 (h + 1) (h + 1)).setCell ⟨h + 1, 2, none⟩ (.inl rfl) _) (by omega) (by omega) (by omega) (by omega)).kp ((Kp.refl _ (h + 1) (h + 1)).setCell ⟨h + 1, 1, none⟩ (.inl rfl) _) (by omega) (by omega) (by omega) (by omega), (HR5.out.setD false).setL false s.lf (-1) rfl⟩
                exact ⟨⟨_, hE, ⟨HS.out.n, hSr0, by show s.rd ≤ ((k + 1 : Nat) : Int); omega, hSw0, by show s.wr ≤ ((k + 1 : Nat) : Int); omega, fun hh => (by cases hh), HL1.out⟩⟩, (HB5.out.setCell (by show w1.heap.size ≤ h + 1; omega) _).setCell (by show w1.heap.size ≤ h + 1; omega) _⟩
          case rest =>
            obtain ⟨⟨s', hBo', hS'⟩, hB'⟩ := hcut
            have HBo := Lib.hid hBo'
            have HS2 := Lib.hid hS'
            have HB := Lib.hid hB'
            clear hBo' hS' hB' HBoA HS HBA
            go_wp2_with fail
            refine (counts_any d g s' wc HBo.out.dk).mono ?_
            rintro e w5 ⟨rfl, hb5⟩
            have HBo5 := Lib.hid (HBo.out.keep hb5)
            have HB5 := Lib.hid (HB.out.trans (hb5.mono HB.out.size))
            have h51 := HB5.out.size
            clear hb5 HBo HB
            go_wp2_with fail
            refine wp_region_held (S := fun w' => Below w5.heap.size w5 w') (by kernel_rfl) ?_
            change wpAnyH _ _ _ _ _ _ _ _ (World.drew _)
            have hS0 : Below w5.heap.size w5 (World.drew w5) := (Below.refl _ _).drew
            refine wpAnyH_take (i := 0) (v := ?_) rfl (by kernel_rfl) (by kernel_rfl) (by kernel_rfl) (fun _ _ _ h => h) (Or.inl ⟨by rfl, ?_⟩) hS0 ?_
            rotate_left 1
            · intro W hW
              go_simp
              try with_reducible rfl
            simp only [Act.put, List.getElem_toArray, List.getElem_cons_zero, List.getElem_cons_succ, List.setIfInBounds_toArray, List.set_cons_zero, List.set_cons_succ]
            refine wpAnyH_take (i := 2) (v := ?_) rfl (by kernel_rfl) (by kernel_rfl) (by kernel_rfl) (fun _ _ _ h => h) (Or.inl ⟨by rfl, ?_⟩) hS0 ?_
            rotate_left 1
            · intro W hW
              go_simp
              try with_reducible rfl
            simp only [Act.put, List.getElem_toArray, List.getElem_cons_zero, List.getElem_cons_succ, List.setIfInBounds_toArray, List.set_cons_zero, List.set_cons_succ]
            refine wpAnyH_take (i := 3) (v := ?_) rfl (by kernel_rfl) (by kernel_rfl) (by kernel_rfl) (fun _ _ _ h => h) (Or.inl ⟨by rfl, ?_⟩) hS0 ?_
            rotate_left 1
            · intro W hW
              go_simp
              try with_reducible rfl
            simp only [Act.put, List.getElem_toArray, List.getElem_cons_zero, List.getElem_cons_succ, List.setIfInBounds_toArray, List.set_cons_zero, List.set_cons_succ]
            refine wpAnyH_take (i := 4) (v := ?_) rfl (by kernel_rfl) (by kernel_rfl) (by kernel_rfl) (fun _ _ _ h => h) (Or.inl ⟨by rfl, ?_⟩) hS0 ?_
            rotate_left 1
            · intro W hW
              go_simp
              try with_reducible rfl
            simp only [Act.put, List.getElem_toArray, List.getElem_cons_zero, List.getElem_cons_succ, List.setIfInBounds_toArray, List.set_cons_zero, List.set_cons_succ]
            refine wpAnyH_take (i := 5) (v := ?_) rfl (by kernel_rfl) (by kernel_rfl) (by kernel_rfl) (fun _ _ _ h => h) (Or.inl ⟨by rfl, ?_⟩) hS0 ?_
            rotate_left 1
            · intro W hW
              have e2 := (HBo5.out.rk.keep hW).c2
              go_simp
              try with_reducible rfl
            simp only [Act.put, List.getElem_toArray, List.getElem_cons_zero, List.getElem_cons_succ, List.setIfInBounds_toArray, List.set_cons_zero, List.set_cons_succ]
            clear hS0
            refine wpAnyH_ready (rs := [1]) (by kernel_rfl) (by simp) (AllReadyH.cons rfl (fun KK hKK => ?_) AllReadyH.nil)
            go_simp
            refine (dead_any d g s' _ (HBo5.out.dk.keep (Below.refl _ _).drew)).mono ?_
            rintro e w6 ⟨rfl, hw6⟩
            have hS0 : Below w5.heap.size w5 w6 := by rw [hw6]; exact (Below.refl _ _).drew
            clear hw6
            refine hKK _ _ hS0 ?_
            intro _
            clear hKK KK
            refine wpAnyH_take (i := 6) (v := ?_) rfl (by kernel_rfl) (by kernel_rfl) (by kernel_rfl) (fun _ _ _ h => h) (Or.inl ⟨by rfl, ?_⟩) hS0 ?_
            rotate_left 1
            · intro W hW
              go_simp
              try with_reducible rfl
            simp only [Act.put, List.getElem_toArray, List.getElem_cons_zero, List.getElem_cons_succ, List.setIfInBounds_toArray, List.set_cons_zero, List.set_cons_succ]
            refine wpAnyH_take (i := 7) (v := ?_) rfl (by kernel_rfl) (by kernel_rfl) (by kernel_rfl) (fun _ _ _ h => h) (Or.inl ⟨by rfl, ?_⟩) hS0 ?_
            rotate_left 1
            · intro W hW
              go_simp
              try with_reducible rfl
            simp only [Act.put, List.getElem_toArray, List.getElem_cons_zero, List.getElem_cons_succ, List.setIfInBounds_toArray, List.set_cons_zero, List.set_cons_succ]
            refine wpAnyH_take (i := 8) (v := ?_) rfl (by kernel_rfl) (by kernel_rfl) (by kernel_rfl) (fun _ _ _ h => h) (Or.inl ⟨by rfl, ?_⟩) hS0 ?_
            rotate_left 1
            · intro W hW
              go_simp
              try with_reducible rfl
            simp only [Act.put, List.getElem_toArray, List.getElem_cons_zero, List.getElem_cons_succ, List.setIfInBounds_toArray, List.set_cons_zero, List.set_cons_succ]
            refine wpAnyH_take (i := 9) (v := ?_) rfl (by kernel_rfl) (by kernel_rfl) (by kernel_rfl) (fun _ _ _ h => h) (Or.inl ⟨by rfl, ?_⟩) hS0 ?_
            rotate_left 1
            · intro W hW
              go_simp
              try with_reducible rfl
            simp only [Act.put, List.getElem_toArray, List.getElem_cons_zero, List.getElem_cons_succ, List.setIfInBounds_toArray, List.set_cons_zero, List.set_cons_succ]
            refine wpAnyH_take (i := 10) (v := ?_) rfl (by kernel_rfl) (by kernel_rfl) (by kernel_rfl) (fun _ _ _ h => h) (Or.inl ⟨by rfl, ?_⟩) hS0 ?_
            rotate_left 1
            · intro W hW
              go_simp
              try with_reducible rfl
            simp only [Act.put, List.getElem_toArray, List.getElem_cons_zero, List.getElem_cons_succ, List.setIfInBounds_toArray, List.set_cons_zero, List.set_cons_succ]
            refine wpAnyH_take (i := 11) (v := ?_) rfl (by kernel_rfl) (by kernel_rfl) (by kernel_rfl) (fun _ _ _ h => h) (Or.inl ⟨by rfl, ?_⟩) hS0 ?_
            rotate_left 1
            · intro W hW
              go_simp
              try with_reducible rfl
            simp only [Act.put, List.getElem_toArray, List.getElem_cons_zero, List.getElem_cons_succ, List.setIfInBounds_toArray, List.set_cons_zero, List.set_cons_succ]
            refine wpAnyH_take (i := 12) (v := ?_) rfl (by kernel_rfl) (by kernel_rfl) (by kernel_rfl) (fun _ _ _ h => h) (Or.inl ⟨by rfl, ?_⟩) hS0 ?_
            rotate_left 1
            · intro W hW
              have e3 := (HBo5.out.rk.keep hW).c3
              go_simp
              try with_reducible rfl
            simp only [Act.put, List.getElem_toArray, List.getElem_cons_zero, List.getElem_cons_succ, List.setIfInBounds_toArray, List.set_cons_zero, List.set_cons_succ]
            refine wpAnyH_take (i := 13) (v := ?_) rfl (by kernel_rfl) (by kernel_rfl) (by kernel_rfl) (fun _ _ _ h => h) (Or.inl ⟨by rfl, ?_⟩) hS0 ?_
            rotate_left 1
            · intro W hW
              go_simp
              try with_reducible rfl
            simp only [Act.put, List.getElem_toArray, List.getElem_cons_zero, List.getElem_cons_succ, List.setIfInBounds_toArray, List.set_cons_zero, List.set_cons_succ]
            refine wpAnyH_take (i := 14) (v := ?_) rfl (by kernel_rfl) (by kernel_rfl) (by kernel_rfl) (fun _ _ _ h => h) (Or.inl ⟨by rfl, ?_⟩) hS0 ?_
            rotate_left 1
            · intro W hW
              go_simp
              try with_reducible rfl
            simp only [Act.put, List.getElem_toArray, List.getElem_cons_zero, List.getElem_cons_succ, List.setIfInBounds_toArray, List.set_cons_zero, List.set_cons_succ]
            refine wpAnyH_take (i := 15) (v := ?_) rfl (by kernel_rfl) (by kernel_rfl) (by kernel_rfl) (fun _ _ _ h => h) (Or.inl ⟨by rfl, ?_⟩) hS0 ?_
            rotate_left 1
            · intro W hW
              go_simp
              try with_reducible rfl
            simp only [Act.put, List.getElem_toArray, List.getElem_cons_zero, List.getElem_cons_succ, List.setIfInBounds_toArray, List.set_cons_zero, List.set_cons_succ]
            refine wpAnyH_take (i := 16) (v := ?_) rfl (by kernel_rfl) (by kernel_rfl) (by kernel_rfl) (fun _ _ _ h => h) (Or.inl ⟨by rfl, ?_⟩) hS0 ?_
            rotate_left 1
            · intro W hW
              go_simp
              try with_reducible rfl
            simp only [Act.put, List.getElem_toArray, List.getElem_cons_zero, List.getElem_cons_succ, List.setIfInBounds_toArray, List.set_cons_zero, List.set_cons_succ]
            refine wpAnyH_take (i := 17) (v := ?_) rfl (by kernel_rfl) (by kernel_rfl) (by kernel_rfl) (fun _ _ _ h => h) (Or.inl ⟨by rfl, ?_⟩) hS0 ?_
            rotate_left 1
            · intro W hW
              go_simp
              try with_reducible rfl
            simp only [Act.put, List.getElem_toArray, List.getElem_cons_zero, List.getElem_cons_succ, List.setIfInBounds_toArray, List.set_cons_zero, List.set_cons_succ]
            refine wpAnyH_take (i := 18) (v := ?_) rfl (by kernel_rfl) (by kernel_rfl) (by kernel_rfl) (fun _ _ _ h => h) (Or.inl ⟨by rfl, ?_⟩) hS0 ?_
            rotate_left 1
            · intro W hW
              go_simp
              try with_reducible rfl
            simp only [Act.put, List.getElem_toArray, List.getElem_cons_zero, List.getElem_cons_succ, List.setIfInBounds_toArray, List.set_cons_zero, List.set_cons_succ]
            refine wpAnyH_take (i := 19) (v := ?_) rfl (by kernel_rfl) (by kernel_rfl) (by kernel_rfl) (fun _ _ _ h => h) (Or.inl ⟨by rfl, ?_⟩) hS0 ?_
            rotate_left 1
            · intro W hW
              go_simp
              try with_reducible rfl
            simp only [Act.put, List.getElem_toArray, List.getElem_cons_zero, List.getElem_cons_succ, List.setIfInBounds_toArray, List.set_cons_zero, List.set_cons_succ]
            refine wpAnyH_take (i := 20) (v := ?_) rfl (by kernel_rfl) (by kernel_rfl) (by kernel_rfl) (fun _ _ _ h => h) (Or.inl ⟨by rfl, ?_⟩) hS0 ?_
            rotate_left 1
            · intro W hW
              have e4 := (HBo5.out.rk.keep hW).c4
              go_simp
              try with_reducible rfl
            simp only [Act.put, List.getElem_toArray, List.getElem_cons_zero, List.getElem_cons_succ, List.setIfInBounds_toArray, List.set_cons_zero, List.set_cons_succ]
            refine wpAnyH_take (i := 21) (v := ?_) rfl (by kernel_rfl) (by kernel_rfl) (by kernel_rfl) (fun _ _ _ h => h) (Or.inl ⟨by rfl, ?_⟩) hS0 ?_
            rotate_left 1
            · intro W hW
              go_simp
              try with_reducible rfl
            simp only [Act.put, List.getElem_toArray, List.getElem_cons_zero, List.getElem_cons_succ, List.setIfInBounds_toArray, List.set_cons_zero, List.set_cons_succ]
            refine wpAnyH_take (i := 22) (v := ?_) rfl (by kernel_rfl) (by kernel_rfl) (by kernel_rfl) (fun _ _ _ h => h) (Or.inl ⟨by rfl, ?_⟩) hS0 ?_
            rotate_left 1
            · intro W hW
              go_simp
              try with_reducible rfl
            simp only [Act.put, List.getElem_toArray, List.getElem_cons_zero, List.getElem_cons_succ, List.setIfInBounds_toArray, List.set_cons_zero, List.set_cons_succ]
            refine wpAnyH_take (i := 23) (v := ?_) rfl (by kernel_rfl) (by kernel_rfl) (by kernel_rfl) (fun _ _ _ h => h) (Or.inl ⟨by rfl, ?_⟩) hS0 ?_
            rotate_left 1
            · intro W hW
              go_simp
              try with_reducible rfl
            simp only [Act.put, List.getElem_toArray, List.getElem_cons_zero, List.getElem_cons_succ, List.setIfInBounds_toArray, List.set_cons_zero, List.set_cons_succ]
            refine wpAnyH_take (i := 24) (v := ?_) rfl (by kernel_rfl) (by kernel_rfl) (by kernel_rfl) (fun _ _ _ h => h) (Or.inl ⟨by rfl, ?_⟩) hS0 ?_
            rotate_left 1
            · intro W hW
              go_simp
              try with_reducible rfl
            simp only [Act.put, List.getElem_toArray, List.getElem_cons_zero, List.getElem_cons_succ, List.setIfInBounds_toArray, List.set_cons_zero, List.set_cons_succ]
            refine wpAnyH_take (i := 26) (v := ?_) rfl (by kernel_rfl) (by kernel_rfl) (by kernel_rfl) (fun _ _ _ h => h) (Or.inl ⟨by rfl, ?_⟩) hS0 ?_
            rotate_left 1
            · intro W hW
              go_simp
              try with_reducible rfl
            simp only [Act.put, List.getElem_toArray, List.getElem_cons_zero, List.getElem_cons_succ, List.setIfInBounds_toArray, List.set_cons_zero, List.set_cons_succ]
            refine wpAnyH_take (i := 27) (v := ?_) rfl (by kernel_rfl) (by kernel_rfl) (by kernel_rfl) (fun _ _ _ h => h) (Or.inl ⟨by rfl, ?_⟩) hS0 ?_
            rotate_left 1
            · intro W hW
              go_simp
              try with_reducible rfl
            simp only [Act.put, List.getElem_toArray, List.getElem_cons_zero, List.getElem_cons_succ, List.setIfInBounds_toArray, List.set_cons_zero, List.set_cons_succ]
            refine wpAnyH_take (i := 28) (v := ?_) rfl (by kernel_rfl) (by kernel_rfl) (by kernel_rfl) (fun _ _ _ h => h) (Or.inl ⟨by rfl, ?_⟩) hS0 ?_
            rotate_left 1
            · intro W hW
              go_simp
              try with_reducible rfl
            simp only [Act.put, List.getElem_toArray, List.getElem_cons_zero, List.getElem_cons_succ, List.setIfInBounds_toArray, List.set_cons_zero, List.set_cons_succ]
            refine wpAnyH_take (i := 29) (v := ?_) rfl (by kernel_rfl) (by kernel_rfl) (by kernel_rfl) (fun _ _ _ h => h) (Or.inl ⟨by rfl, ?_⟩) hS0 ?_
            rotate_left 1
            · intro W hW
              have e0 := (HBo5.out.rk.keep hW).c0
              go_simp
              try with_reducible rfl
            simp only [Act.put, List.getElem_toArray, List.getElem_cons_zero, List.getElem_cons_succ, List.setIfInBounds_toArray, List.set_cons_zero, List.set_cons_succ]
            have HS6 := Lib.hid hS0
            clear hS0
            have hsn' : s'.n ≤ 65536 := by rw [HS2.out.n]; omega
            refine wpAnyH_ready (rs := [25]) (by kernel_rfl) (by simp) (AllReadyH.cons rfl (fun KK hKK => ?_) AllReadyH.nil)
            go_simp
            refine (image_any d g s' hsn' w6 (HBo5.out.dk.keep HS6.out)).mono ?_
            rintro e w7 ⟨v7, rfl, hB7, hb7⟩
            have HB7 := Lib.hid hB7
            have HS7 := Lib.hid (HS6.out.trans (hb7.mono HS6.out.size))
            clear hB7 hb7
            refine hKK _ _ HS7.out ?_
            intro _
            clear hKK KK
            refine wpAnyH_ready (rs := [30]) (by kernel_rfl) (by simp) (AllReadyH.cons rfl (fun KK hKK => ?_) AllReadyH.nil)
            go_simp
            have HSM := Lib.hid (same_any v7 (.slice (some ⟨h, 0, none⟩) s'.n s'.n) s'.n s'.n s'.f s'.f hsn' hsn' w7 HB7.out (Bs.of_fl (HBo5.out.rk.keep HS7.out).fl s'.n))
            refine HSM.out.mono ?_
            rintro e w8 ⟨rfl, hb8⟩
            rw [show (decide (s'.n = s'.n) && eqb (s'.n * 64) s'.f s'.f) = true by rw [eqb_same fun _ _ => rfl]; simp]
            have hS0 : Below w5.heap.size w5 w8 := HS7.out.trans (hb8.mono HS7.out.size)
            refine hKK _ _ hS0 ?_
            intro _
            clear hKK KK hb8 HSM HB7
            refine wpAnyH_take (i := 31) (v := ?_) rfl (by kernel_rfl) (by kernel_rfl) (by kernel_rfl) (fun _ _ _ h => h) (Or.inl ⟨by rfl, ?_⟩) hS0 ?_
            rotate_left 1
            · intro W hW
              go_simp
              try with_reducible rfl
            simp only [Act.put, List.getElem_toArray, List.getElem_cons_zero, List.getElem_cons_succ, List.setIfInBounds_toArray, List.set_cons_zero, List.set_cons_succ]
            refine wpAnyH_take (i := 32) (v := ?_) rfl (by kernel_rfl) (by kernel_rfl) (by kernel_rfl) (fun _ _ _ h => h) (Or.inl ⟨by rfl, ?_⟩) hS0 ?_
            rotate_left 1
            · intro W hW
              go_simp
              try with_reducible rfl
            simp only [Act.put, List.getElem_toArray, List.getElem_cons_zero, List.getElem_cons_succ, List.setIfInBounds_toArray, List.set_cons_zero, List.set_cons_succ]
            refine wpAnyH_done (by kernel_rfl) ?_ _
            have HS8 := Lib.hid hS0
            clear hS0
            go_wp2
            go_roundw
            case rel => exact ⟨k + 1, by omega, by go_num, ⟨s', HBo5.out.keep HS8.out, HS2.out⟩, HB5.out.trans (HS8.out.mono h51)⟩
            case measure => simp [intOf]; omega
    · obtain rfl : k = ln := by omega
      go_wp2_with fail
      refine (HLEN.out wr (Below.refl _ _)).mono ?_
      rintro e w5 ⟨rfl, rfl⟩
      go_wp2
      go_ret
      exact ⟨rfl, HB1.out.trans (HB.out.mono HB1.out.size)⟩
end Go.Proofs.Yticmdeioebbgaaa
