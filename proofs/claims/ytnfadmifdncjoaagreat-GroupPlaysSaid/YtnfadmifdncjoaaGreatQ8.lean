import Derived.Test.YtnfadmifdncjoaaGreatQ7
/- Fresh: the walk. -/
namespace Go.Proofs.YtnfadmifdncjoaaGreat
set_option linter.unusedSimpArgs false
set_option linter.unusedVariables false
open Go.RowKit Go.Maps

theorem VF_cell (j : Nat) (hj : j < 3) : ([.int .u8 2, .int .u8 1, .int .u8 1] : List Value)[j]? = some (.int .u8 (kd (j + 1))) := by
  have : j = 0 ∨ j = 1 ∨ j = 2 := by omega
  rcases this with rfl | rfl | rfl <;> rfl
set_option maxHeartbeats 40000000 in
set_option maxRecDepth 200000 in
theorem fresh_any (n : Nat) (vr vm vg : Value) (R : List Cf.Rg) (MS : List (Int × Int)) (hs : ∀ r ∈ R, Cf.Small r) (h0 : 0 < R.length) (h64 : R.length ≤ 64) (N : Nat) (hN : (Cf.layF R).2 = N) (hN0 : 32 ≤ N) (hN1 : N ≤ 65536) (w : World) (h : Cf.CF n w vr vm vg R MS) :
    Calls Tryz.prog 25 #[.pointer (some ⟨n + 3, 0, none⟩)] w fun e w' => ∃ t m d g l Y, e = .returned (.tuple #[.pointer (some ⟨d, 0, none⟩), .pointer (some ⟨l, 0, none⟩), .pointer (some ⟨t, 0, none⟩)]) ∧ From w.heap.size t m d g ∧ w.heap.size ≤ l ∧ l ∉ [t, m, d, g] ∧ Lg w' l d 1 ∧ Rd w' t m d g N ⟨[], Y⟩ Y 7000 ∧ FreshK R N R.length Y ∧ Below w.heap.size w w' := by
  obtain ⟨d53, hu53, hd53⟩ := Tryz.desc53
  have HU53 := Lib.hid hu53
  have HD53 := Lib.hid hd53
  have HB := Lib.hid (begun_any n vr vm vg R MS hs h0 h64 N hN hN0 hN1 w h)
  have HCF := Lib.hid h
  have HSM := Lib.hid hs
  have HN := Lib.hid hN
  have hR0 : (0 : Int) < R.length := by omega
  have hR64 : (R.length : Int) ≤ 64 := by omega
  clear h hs hu53 hd53 hN
  go_enter Tryz.func25, Tryz.ntmps25
  go_wp2_with fail
  refine HB.out.mono ?_
  rintro e w1 ⟨t0, m0, dd, gg, l, rfl, hFr, hll, hln, hLg, hRd, hb⟩
  have HFr := Lib.hid hFr
  have HLn := Lib.hid hln
  have HL1 := Lib.hid hLg
  have HR1 := Lib.hid hRd
  have HB1 := Lib.hid hb
  have HNl := Lib.hid (show l ∉ [dd, gg] from fun h => hln (by simp only [List.mem_cons, List.not_mem_nil, or_false] at h ⊢; omega))
  have hdd : w.heap.size ≤ dd := hFr.2.2.1
  have hgg : w.heap.size ≤ gg := hFr.2.2.2
  have hl1 := hLg.lt
  have hld : l ≠ dd := fun h => hln (by simp [h])
  have hlg : l ≠ gg := fun h => hln (by simp [h])
  have HCFx : Hid (∀ W, Kf w1 W [dd, gg] → Cf.CF n W vr vm vg R MS) := fun W hk => HCF.out.below (HB1.out.trans (hk.bel hdd hgg HB1.out.size))
  have HBx : Hid (∀ W, Kf w1 W [dd, gg] → Below w.heap.size w W) := fun W hk => HB1.out.trans (hk.bel hdd hgg HB1.out.size)
  clear hFr hln hLg hRd hb HB
  go_wp2_with fail
  refine (Cf.clen_any n vr vm vg R MS w1 (HCFx.out w1 (Kf.refl _ _)) h64).mono ?_
  rintro e wz ⟨rfl, hwz⟩
  rw [hwz]
  clear hwz
  go_wp2_with fail
  go_loopw [22] (fun y wr => ∃ k : Nat, k ≤ R.length ∧ y = .int .i64 k ∧ (∃ t' m' Y, Rd wr t' m' dd gg N ⟨[], Y⟩ Y (1 + 100 * k) ∧ FreshK R N k Y) ∧ Kf w1 wr [dd, gg]) (fun y _ => R.length - (Go.RowKit.intOf y).toNat)
  case atStart => exact ⟨0, Nat.zero_le _, rfl, ⟨t0, m0, _, HR1.out, FreshK.zero R N⟩, Kf.refl _ _⟩
  case round =>
    obtain ⟨k, hk, rfl, ⟨ta, ma, Y, hRd, hFk⟩, hkf⟩ := hrel
    obtain ⟨wX, rfl⟩ : ∃ x, x = wr := ⟨wr, rfl⟩
    have HRd := Lib.hid hRd
    have HFk := Lib.hid hFk
    have HKf := Lib.hid hkf
    have hsz := hkf.size
    clear hRd hFk hkf HR1
    have HBeg := Lib.hid (begin7 l ta ma dd gg (1 + 100 * k) Y wX HRd.out (HL1.out.kf HKf.out HNl.out))
    by_cases hlt : k < R.length
    · obtain ⟨g, hgi⟩ : ∃ g, (Cf.layF R).1[k]'(by rw [Cf.lay_len]; exact hlt) = g := ⟨_, rfl⟩
      obtain ⟨B0, P0, M, DA, NB, hg, -, -⟩ := geo_gg R HSM.out h64 N HN.out k hlt g hgi
      have HG := Lib.hid hg
      have HGI := Lib.hid hgi
      go_wp2_with fail
      refine HBeg.out.mono ?_
      rintro e v1 ⟨t', m', rfl, ht', hm', hRd', hb⟩
      have HRd1 := Lib.hid hRd'
      have HK1 := Lib.hid (HKf.out.more hb)
      have hle1 : w1.heap.size ≤ t' := Nat.le_trans hsz ht'
      have hle2 : w1.heap.size ≤ m' := Nat.le_trans hsz hm'
      have HGe := Lib.hid (Cf.geo_in n vr vm vg R MS k hlt v1 (HCFx.out v1 HK1.out))
      rw [hgi] at HGe
      have hval : g.val = .agg g.cells.toArray := rfl
      rw [hval] at HGe
      have HGl := Lib.hid (show g.cells.length = 6 from rfl)
      have HGO := Lib.hid (geo_one g)
      have HS53 := Lib.hid (size53 g)
      have HW : Hid (∀ (j : Nat), j < 3 → ∀ (Y' : Nat → Nat → Int) (W : World), Rd W t' m' dd gg N ⟨[P0, P0 + 1], Y⟩ Y' (1 + 100 * k + j) → Calls Tryz.prog 59 #[.pointer (some ⟨t', 0, none⟩), .agg g.cells.toArray, .int .i64 ((j : Int) + 1), .agg (ndc (own (kd (j + 1)))).toArray] W fun e w' => e = .returned (.int .i64 0) ∧ Rd w' t' m' dd gg N ⟨[P0, P0 + 1], Y⟩ (tabW P0 (j + 1) (own (kd (j + 1))) Y') (1 + 100 * k + j + 1) ∧ Kf W w' [t', m', dd, gg]) := fun j hj Y' W hW => by
        have hNN := hW.hN
        obtain ⟨g1, g2, g3, g4, g5, g6, g7, g8, g9, g10, g11, g12, g13, g14⟩ := HG.out
        have := write_any6 (ln := ⟨[P0, P0 + 1], Y⟩) g (j + 1) t' m' dd gg N (1 + 100 * k + j) P0 M Y' (own (kd (j + 1))) (own_ok _) (own_code _) (by omega) (by omega) g6 g2 (by omega) (by omega) g3 (by omega) (by omega) (by omega) (by omega) ⟨by simp only [List.mem_cons, List.not_mem_nil, or_false]; omega, by simp⟩ (by omega) W hW
        rwa [show ((j + 1 : Nat) : Int) = (j : Int) + 1 by omega] at this
      obtain ⟨gs, hgs⟩ : ∃ gs, g.cells = gs := ⟨_, rfl⟩
      rw [hgs] at HGe HGl HGO HS53 HW
      clear hval hgs hRd' hb HBeg HRd ht' hm' hgi hg
      go_wp2_with fail
      refine HGe.out.mono ?_
      rintro e v2 ⟨rfl, hb⟩
      have HR2 := Lib.hid (HRd1.out.keep hb)
      have HK2 := Lib.hid (HK1.out.more hb)
      clear hb HRd1 HK1 HGe
      go_upto_region 7 with (first | (refine wpList_alloc_list (w := v2) rfl 133 rfl _ Tryz.zero53 ?_; intro v3 F3 hb3 hz3; simp only [Act.put, List.getElem_toArray, List.getElem_cons_zero, List.getElem_cons_succ, List.setIfInBounds_toArray, List.set_cons_zero, List.set_cons_succ]; refine wpList_store_list rfl 133 (.tmp 10) (.tmp 31) rfl v2.heap.size _ gs rfl rfl F3.out (by rw [HGl.out]; rfl) HS53.out HGO.out ?_; intro v4 F4 HP4; have HQ3 := Lib.hid hb3; clear hb3 hz3 F3))
      obtain ⟨bG, hbG⟩ : ∃ b, v2.heap.size = b := ⟨_, rfl⟩
      have HK4 := Lib.hid ((HK2.out.more HQ3.out).new HP4.out HK2.out.size)
      have HR4 := Lib.hid ((HR2.out.keep HQ3.out).kp HP4.out (HR2.out.notin (Nat.le_refl _)) (HR2.out.notin (Nat.le_refl _)))
      have HNG := Lib.hid (HR2.out.notin (Nat.le_of_eq hbG))
      have hGlt := F4.out.lt
      rw [hbG] at F4 hGlt
      try rw [hbG]
      clear hbG HQ3 HP4 HK2 HR2
      go_wp2_with fail
      have F5 := Lib.hid (Vl.new v4 [.int .u8 2, .int .u8 1, .int .u8 1] 62)
      have hb5 : Below v4.heap.size v4 (v4.alloc (.cells [.int .u8 2, .int .u8 1, .int .u8 1].toArray 62)) := (Below.refl _ _).alloc (Nat.le_refl _) _
      have HR5 := Lib.hid (HR4.out.keep hb5)
      have HK5 := Lib.hid (HK4.out.more hb5)
      have FG5 := Lib.hid (F4.out.keep hb5)
      have HNK := Lib.hid (HR4.out.notin (p := v4.heap.size) (Nat.le_refl _))
      obtain ⟨v5, hv5⟩ : ∃ x, v4.alloc (.cells [.int .u8 2, .int .u8 1, .int .u8 1].toArray 62) = x := ⟨_, rfl⟩
      obtain ⟨bK, hbK⟩ : ∃ b, v4.heap.size = b := ⟨_, rfl⟩
      have hv5' : v4.alloc (.cells #[.int .u8 2, .int .u8 1, .int .u8 1] 62) = v5 := hv5
      rw [hv5] at F5 HR5 HK5 FG5
      rw [hbK] at F5 HNK
      try rw [hv5']
      try rw [hbK]
      have hKlt := F5.out.lt
      clear hv5 hv5' hb5 hbK HR4 HK4 F4
      go_loopw [35] (fun y wr => ∃ j : Nat, j ≤ 3 ∧ y = .int .i64 j ∧ (∃ Y', Rd wr t' m' dd gg N ⟨[P0, P0 + 1], Y⟩ Y' (1 + 100 * k + j) ∧ Tab P0 M Y' (VF j) ∧ ∀ x : Nat, x < P0 ∨ P0 + 2 ≤ x → Y' x = Y x) ∧ Kf v5 wr [t', m', dd, gg]) (fun y _ => 3 - (Go.RowKit.intOf y).toNat)
      case atStart =>
        refine ⟨0, by decide, rfl, ⟨Y, HR5.out.wide (Lm.nil_le _ _), ?_, fun _ _ => rfl⟩, Kf.refl _ _⟩
        rw [VF_zero]
        refine (Tab.new P0 M).congr fun x hx1 hx2 => ?_
        have h1 := Cf.lay_nth R k hlt
        have h2 := HG.out.base
        have h3 := HG.out.bp
        refine HFk.out.rest x ?_
        rw [HGI.out] at h1
        have : (Cf.layF (R.take k)).2 = B0 := by rw [← h2, h1]; rfl
        omega
      case round =>
        obtain ⟨j, hj, rfl, ⟨Y', hRj, hTj, hYj⟩, hkj⟩ := hrel
        have HRj := Lib.hid hRj
        have HTj := Lib.hid hTj
        have HYj := Lib.hid hYj
        have HKj := Lib.hid hkj
        clear hRj hTj hYj hkj
        by_cases hj3 : j < 3
        · have hj0 : (0 : Int) ≤ j := by omega
          have hj4 : (j : Int) < 3 := by omega
          have cK := (F5.out.kf HKj.out HNK.out).c j _ (VF_cell j hj3)
          have HWj := Lib.hid (HW.out j hj3 Y' wr HRj.out)
          obtain ⟨kv, hkv⟩ : ∃ z, kd (j + 1) = z := ⟨_, rfl⟩
          rw [hkv] at cK HWj
          have HKv := Lib.hid hkv
          clear hkv
          have FGj := Lib.hid (FG5.out.kf HKj.out HNG.out)
          go_wp2_with (first | (refine wpList_load_mid rfl 133 _ rfl bG 0 rfl gs d53 FGj.out.range0 HU53.out HD53.out HS53.out ?_) | (refine wpList_bld3 rfl 68 0 1 2 (.tmp 44) _ _ rfl (.int .u8 kv) (.int .u8 1) (.int .u16 1) rfl rfl rfl (.agg (ndc (own kv)).toArray) (Tryz.build27_own kv _) ?_))
          refine HWj.out.mono ?_
          rintro e v7 ⟨rfl, hR, hkk⟩
          have HR7 := Lib.hid hR
          have HK7 := Lib.hid (HKj.out.trans hkk)
          clear hR hkk HWj HRj cK
          go_wp2_with fail
          go_roundw
          case rel =>
            refine ⟨j + 1, by omega, by go_num, ⟨_, HR7.out, ?_, fun x hx => ?_⟩, HK7.out⟩
            · have := HTj.out.wr (j + 1) (by omega) (by have := HG.out.m4; omega) (own kv) (by rw [← HKv.out]; exact own_ok _) (by rw [← HKv.out]; exact own_code _)
              rw [← VF_put j, HKv.out]
              exact this
            · rw [tabW_ne _ _ _ _ _ (by omega)]
              exact HYj.out x hx
          case measure => simp [Go.RowKit.intOf]; omega
        · obtain rfl : j = 3 := by omega
          have HKr := Lib.hid (HK5.out.tx HKj.out hle1 hle2)
          have HCm := Lib.hid (commit7 t' m' dd gg (1 + 100 * k + 3) Y' (by simp) (by omega) wr HRj.out)
          go_wp2_with fail
          refine HCm.out.mono ?_
          rintro e v8 ⟨rfl, hR, hkk⟩
          have HR8 := Lib.hid hR
          have HK8 := Lib.hid (HKr.out.tx hkk hle1 hle2)
          clear hR hkk HCm HKr HRj
          have hgx : GG ((Cf.layF R).1[k]'(by rw [Cf.lay_len]; exact hlt)) B0 P0 M DA NB N := by rw [HGI.out]; exact HG.out
          have HNx := Lib.hid (HFk.out.next HSM.out h64 HN.out hlt B0 P0 M DA NB hgx HTj.out HYj.out)
          go_wp2_with fail
          go_roundw
          case rel => exact ⟨k + 1, by omega, by go_num, ⟨t', m', Y', HR8.out.mono (by omega), HNx.out⟩, HK8.out⟩
          case measure => simp [Go.RowKit.intOf]; omega
    · obtain rfl : k = R.length := by omega
      go_wp2_with fail
      refine HBeg.out.mono ?_
      rintro e v1 ⟨t', m', rfl, ht', hm', hRd', hb⟩
      have HRd1 := Lib.hid hRd'
      have HK1 := Lib.hid (HKf.out.more hb)
      have HL2 := Lib.hid ((HL1.out.kf HKf.out HNl.out).keep hb)
      have hlx := (HL1.out.kf HKf.out HNl.out).lt
      have hwl := HB1.out.size
      clear hRd' hb HBeg HRd HKf
      go_wp2_with fail
      exact bodyPost_ret (v := .tuple #[.pointer (some ⟨dd, 0, none⟩), .pointer (some ⟨l, 0, none⟩), .pointer (some ⟨t', 0, none⟩)]) (by simp [results, Tryz.results25, go_sem]) rfl ⟨t', m', dd, gg, l, Y, rfl, ⟨by omega, by omega, hdd, hgg⟩, hll, (by simp; omega), HL2.out, HRd1.out.mono (by omega), HFk.out, HBx.out v1 HK1.out⟩
end Go.Proofs.YtnfadmifdncjoaaGreat
