import Derived.Test.YtehldpnhdnlljaaDoorPD
/- A part: the answer's. -/
namespace Go.Proofs.YtehldpnhdnlljaaDoor.Pt
set_option linter.unusedSimpArgs false
set_option linter.unusedVariables false
open Go.RowKit Go.Maps

theorem ext_to (s : List UInt8) (n : Nat) : (⟨s.toArray⟩ : ByteArray).extract 0 n = ⟨(s.take n).toArray⟩ := by
  apply ByteArray.ext
  simp
theorem ext_from (s : List UInt8) (n : Nat) : (⟨s.toArray⟩ : ByteArray).extract n (⟨s.toArray⟩ : ByteArray).size = ⟨(s.drop n).toArray⟩ := by
  apply ByteArray.ext
  have : (⟨s.toArray⟩ : ByteArray).size = s.length := by show s.toArray.size = _; simp
  rw [this]
  simp
  exact List.take_of_length_le (by rw [List.length_drop]; exact Nat.le_refl _)
theorem bytes_inj {s t : List UInt8} (h : (⟨s.toArray⟩ : ByteArray) = ⟨t.toArray⟩) : s = t := by
  have := congrArg ByteArray.data h
  simpa using this
theorem notin_at (l : List UInt8) (c : UInt8) (h : ∀ j (hj : j < (baL l).size), ((baL l)[j]).toNat ≠ c.toNat) : splitC c l = (l, none) := by
  refine splitC_all c l fun x hx he => ?_
  obtain ⟨j, hj, rfl⟩ := List.mem_iff_getElem.1 hx
  exact h j (by show j < l.toArray.size; simpa using hj) (by show (l.toArray[j]).toNat = _; simp [he])
theorem first_at (l : List UInt8) (c : UInt8) (a : Nat) (ha : a < (baL l).size) (h : ((baL l)[a]).toNat = c.toNat) (hb : ∀ j (hj : j < (baL l).size), j < a → ((baL l)[j]).toNat ≠ c.toNat) : splitC c l = (l.take a, some (l.drop (a + 1))) := by
  have hl : a < l.length := by
    have : (baL l).size = l.length := by show l.toArray.size = _; simp
    omega
  have e : l = l.take a ++ c :: l.drop (a + 1) := by
    have hc : l[a] = c := by
      have : (l.toArray[a]'(by simpa using hl)).toNat = c.toNat := h
      simp at this
      exact UInt8.toNat_inj.1 this
    rw [← hc, List.getElem_cons_drop, List.take_append_drop]
  have h2 := splitC_app c (l.take a) (l.drop (a + 1)) (fun x hx he => by
    obtain ⟨j, hj, rfl⟩ := List.mem_iff_getElem.1 hx
    have hj2 : j < a := by rw [List.length_take] at hj; omega
    refine hb j (by show j < l.toArray.size; simp; omega) hj2 ?_
    show (l.toArray[j]'(by simp; omega)).toNat = _
    rw [List.getElem_take] at he
    simp [he])
  rw [← e] at h2
  exact h2
theorem baL_size (l : List UInt8) : (baL l).size = l.length := by show l.toArray.size = _; simp
set_option maxHeartbeats 20000000 in
set_option maxRecDepth 100000 in
theorem rpart_any (l : List UInt8) (w : World) (hs : l.length ≤ 100000) :
    Calls Tryd.prog 11 #[.string ⟨l.toArray⟩] w fun e w' => e = .returned (.tuple #[.agg (pc (partC l).1).toArray, .int .i64 (partC l).2]) ∧ Below w.heap.size w w' := by
  obtain ⟨d, hu, hd⟩ := Tryd.descPr
  have HU := Lib.hid hu
  have HD := Lib.hid hd
  have HNo := Lib.hid (fun h => congrArg (fun x => partO (baL x.1) (x.2.map baL)) (notin_at l 64 h))
  have HYes := Lib.hid (fun a ha h hb => (⟨congrArg (fun x => partO (baL x.1) (x.2.map baL)) (first_at l 64 a ha h hb), ext_to l a, ext_from l (a + 1)⟩ : _ ∧ _ ∧ _))
  change Hid (_ → partC l = partO (baL l) none) at HNo
  change Hid (∀ a (ha : a < (baL l).size), ((baL l)[a]).toNat = 64 → (∀ j (hj : j < (baL l).size), j < a → ((baL l)[j]).toNat ≠ 64) → partC l = partO (baL (l.take a)) (some (baL (l.drop (a + 1)))) ∧ (baL l).extract 0 a = baL (l.take a) ∧ (baL l).extract (a + 1) (baL l).size = baL (l.drop (a + 1))) at HYes
  change Hid ((∀ j (hj : j < (baL l).size), ((baL l)[j]).toNat ≠ 64) → partC l = partO (baL l) none) at HNo
  have hsz := baL_size l
  rw [show ByteArray.mk l.toArray = baL l from rfl]
  obtain ⟨S, hS⟩ : ∃ S, baL l = S := ⟨_, rfl⟩
  rw [hS] at HNo HYes hsz ⊢
  obtain ⟨PC, hPC⟩ : ∃ x, partC l = x := ⟨_, rfl⟩
  rw [hPC] at HNo HYes ⊢
  have HN := Lib.hid (fun W => rname_any S W)
  clear hu hd hS hPC
  obtain ⟨n, hn⟩ : ∃ n, S.size = n := ⟨_, rfl⟩
  have hn0 : (0 : Int) ≤ n := by omega
  have hn1 : (n : Int) ≤ 100000 := by omega
  have HSz := Lib.hid hn
  clear hsz hs
  go_enter Tryd.func11, Tryd.ntmps11
  go_wp2_with (first | (refine wpList_alloc_list (w := w) rfl 34 rfl (pc zP) Tryd.zeroPr ?_; intro w1 F1 hb1 hz1; have HB1 := Lib.hid hb1; clear hb1))
  obtain ⟨bz, hbz⟩ : ∃ x, w.heap.size = x := ⟨_, rfl⟩
  rw [hbz] at F1
  try rw [hbz]
  have HW := Lib.hid hbz
  have hq2 := F1.out.lt
  clear hz1 hbz
  go_loopw [4, 5] (fun av iv wr => ∃ (k : Nat) (z A : Int), k ≤ n ∧ z = (k : Int) - 1 ∧ iv = .int .i64 z ∧ av = .int .i64 A ∧ wr = w1 ∧ ((A = -1 ∧ ∀ j (hj : j < S.size), k ≤ j → (S[j]).toNat ≠ 64) ∨ ∃ (a : Nat) (ha : a < S.size), A = a ∧ k ≤ a ∧ (S[a]).toNat = 64 ∧ ∀ j (hj : j < S.size), k ≤ j → j < a → (S[j]).toNat ≠ 64)) (fun _ iv _ => (Go.RowKit.intOf iv + 1).toNat)
  case atStart => exact ⟨n, _, _, Nat.le_refl _, rfl, by go_num, by go_num, rfl, .inl ⟨rfl, fun j hj h => by omega⟩⟩
  case round =>
    obtain ⟨k, z, A, hk, hz, rfl, rfl, rfl, hA⟩ := hrel
    have HA := Lib.hid hA
    clear hA
    rcases k with _ | c
    · obtain rfl : z = -1 := by omega
      clear hz hk
      rcases HA.out with ⟨rfl, hall⟩ | ⟨a, ha, rfl, -, h64, hall⟩
      · have HR := Lib.hid (HNo.out (fun j hj => hall j hj (Nat.zero_le _)))
        clear HA HYes HNo hall

        cases h1 : (S.toList == [46])
        · cases h2 : (S.toList == [46, 46])
          · by_cases hn : nameC S = 0
            · rw [hn] at HN
              have HR2 : Hid (PC = ((S, ⟨#[]⟩), 0)) := Lib.hid (by rw [HR.out]; simp [partO, dotsB, h1, h2, hn])
              go_wp2_with (first | (refine (HN.out _).mono ?_; rintro e w5 ⟨rfl, hw5⟩; rw [hw5]; clear hw5) | (refine wpList_store_list rfl 34 _ _ rfl bz (pc zP) (pc (S, ⟨#[]⟩)) rfl rfl F1.out rfl (sizePr _) (pc_one _) ?_; intro w4 G HK))
              exact bodyPost_ret_by (results_mid_tmp rfl _ _ bz _ d rfl G.out.range0 HU.out HD.out (sizePr _)) rfl ⟨by rw [HR2.out]; rfl, HB1.out.trans (HK.out.below (by have := HW.out; have := HB1.out.size; omega) (by have := HW.out; have := HB1.out.size; omega) (by have := HW.out; have := HB1.out.size; omega))⟩
            · obtain ⟨c, hc⟩ : ∃ c, nameC S = c := ⟨_, rfl⟩
              rw [hc] at HN hn
              have HR2 : Hid (PC = (zP, c)) := Lib.hid (by rw [HR.out]; simp [partO, dotsB, h1, h2, hn, hc])
              go_wp2_with (first | (refine (HN.out _).mono ?_; rintro e w5 ⟨rfl, hw5⟩; rw [hw5]; clear hw5) | (refine wpList_store_list rfl 34 _ _ rfl bz (pc zP) (pc zP) rfl rfl F1.out rfl (sizePr _) (pc_one _) ?_; intro w4 G HK))
              exact bodyPost_ret_by (results_mid_tmp rfl _ _ bz _ d rfl G.out.range0 HU.out HD.out (sizePr _)) rfl ⟨by rw [HR2.out]; rfl, HB1.out.trans (HK.out.below (by have := HW.out; have := HB1.out.size; omega) (by have := HW.out; have := HB1.out.size; omega) (by have := HW.out; have := HB1.out.size; omega))⟩
          · have HR2 : Hid (PC = ((S, ⟨#[]⟩), 0)) := Lib.hid (by rw [HR.out]; simp [partO, dotsB, h1, h2])
            go_wp2_with (first | (refine wpList_store_list rfl 34 _ _ rfl bz (pc zP) (pc (S, ⟨#[]⟩)) rfl rfl F1.out rfl (sizePr _) (pc_one _) ?_; intro w4 G HK))
            exact bodyPost_ret_by (results_mid_tmp rfl _ _ bz _ d rfl G.out.range0 HU.out HD.out (sizePr _)) rfl ⟨by rw [HR2.out]; rfl, HB1.out.trans (HK.out.below (by have := HW.out; have := HB1.out.size; omega) (by have := HW.out; have := HB1.out.size; omega) (by have := HW.out; have := HB1.out.size; omega))⟩
        · have HR2 : Hid (PC = ((S, ⟨#[]⟩), 0)) := Lib.hid (by rw [HR.out]; simp [partO, dotsB, h1])
          go_wp2_with (first | (refine wpList_store_list rfl 34 _ _ rfl bz (pc zP) (pc (S, ⟨#[]⟩)) rfl rfl F1.out rfl (sizePr _) (pc_one _) ?_; intro w4 G HK))
          exact bodyPost_ret_by (results_mid_tmp rfl _ _ bz _ d rfl G.out.range0 HU.out HD.out (sizePr _)) rfl ⟨by rw [HR2.out]; rfl, HB1.out.trans (HK.out.below (by have := HW.out; have := HB1.out.size; omega) (by have := HW.out; have := HB1.out.size; omega) (by have := HW.out; have := HB1.out.size; omega))⟩
      · obtain ⟨hr, e1, e2⟩ := HYes.out a ha h64 (fun j hj hja => hall j hj (Nat.zero_le _) hja)
        rw [hn] at ha e2
        obtain ⟨H, hH⟩ : ∃ x, baL (l.take a) = x := ⟨_, rfl⟩
        obtain ⟨T, hT⟩ : ∃ x, baL (l.drop (a + 1)) = x := ⟨_, rfl⟩
        rw [hH] at hr e1
        rw [hT] at hr e2
        have HR := Lib.hid hr
        have ha0 : (0 : Int) ≤ a := by omega
        have ha1 : (a : Int) ≤ n := by omega
        have ha2 : (a : Int) + 1 ≤ n := by omega
        have hw1 : IntKind.i64.wrap ((a : Int) + 1) = ((a + 1 : Nat) : Int) := by rw [IntKind.wrap_i64]; omega
        have hnn : (((a + 1 : Nat) : Int)).toNat = a + 1 := by omega
        have HNH := Lib.hid (fun W => rname_any H W)
        have HL := Lib.hid (fun W => refname_any T W)
        clear HA HYes HNo hall h64 HN hr hH hT ha
        go_upto_region 14 with fail
        go_region
        have hb0 : Below wr.heap.size wr (wr.alloc (.cells #[.string H, .string T] 34)).drew := (below_alloc0 wr _ _).drew
        have G2 := Lib.hid ((Vl.new wr (pc (H, T)) 34).keep (Below.refl _ _).drew)
        have F2 := Lib.hid (F1.out.keep hb0)
        have HB2 := Lib.hid (HB1.out.trans (hb0.mono HB1.out.size))
        change Hid (Vl (wr.alloc (.cells #[.string H, .string T] 34)).drew wr.heap.size (pc (H, T))) at G2
        obtain ⟨w2, hw2⟩ : ∃ x, (wr.alloc (.cells #[.string H, .string T] 34)).drew = x := ⟨_, rfl⟩
        obtain ⟨bp, hbp⟩ : ∃ x, wr.heap.size = x := ⟨_, rfl⟩
        rw [hw2] at G2 F2 HB2
        try rw [hw2]
        rw [hbp] at G2
        try rw [hbp]
        clear hb0 hw2 hbp
        have hd0 : decide ((a : Int) < 0) = false := by simp
        have c0 := G2.out.c 0 _ rfl
        have c1 := G2.out.c 1 _ rfl
        cases hb : nameB T
        · rw [hb] at HL
          have HR2 : Hid (PC = (zP, 7)) := Lib.hid (by rw [HR.out]; simp [partO, hb])
          go_wp2_with (first | (refine (HL.out w2).mono ?_; rintro e w3 ⟨rfl, hb3⟩; have HB3 := Lib.hid (HB2.out.trans (hb3.mono HB2.out.size)); have F3 := Lib.hid (F2.out.keep hb3); have G3 := Lib.hid (G2.out.keep hb3); clear c0 c1; have c0 := G3.out.c 0 _ rfl; have c1 := G3.out.c 1 _ rfl; clear hb3) | (refine wpList_load_mid rfl 34 _ rfl bp 0 rfl (pc (H, T)) d G3.out.range0 HU.out HD.out (sizePr _) ?_) | (refine wpList_store_list rfl 34 _ _ rfl bz (pc zP) (pc zP) rfl rfl F3.out rfl (sizePr _) (pc_one _) ?_; intro w4 G HK))
          exact bodyPost_ret_by (results_mid_tmp rfl _ _ bz _ d rfl G.out.range0 HU.out HD.out (sizePr _)) rfl ⟨by rw [HR2.out]; rfl, HB3.out.trans (HK.out.below (by have := HW.out; have := HB3.out.size; have := F3.out.lt; omega) (by have := HW.out; have := HB3.out.size; have := F3.out.lt; omega) (by have := HW.out; have := HB3.out.size; have := F3.out.lt; omega))⟩
        · rw [hb] at HL
          cases he : H.toList.isEmpty
          · have he' : H.toList ≠ [] := fun hh => by rw [hh] at he; cases he
            by_cases hn0 : nameC H = 0
            · rw [hn0] at HNH
              have HR2 : Hid (PC = ((H, T), 0)) := Lib.hid (by rw [HR.out]; simp [partO, hb, he', hn0])
              go_wp2_with (first | (refine (HL.out w2).mono ?_; rintro e w3 ⟨rfl, hb3⟩; have HB3 := Lib.hid (HB2.out.trans (hb3.mono HB2.out.size)); have F3 := Lib.hid (F2.out.keep hb3); have G3 := Lib.hid (G2.out.keep hb3); clear c0 c1; have c0 := G3.out.c 0 _ rfl; have c1 := G3.out.c 1 _ rfl; clear hb3) | (refine (HNH.out _).mono ?_; rintro e w5 ⟨rfl, hw5⟩; rw [hw5]; clear hw5) | (refine wpList_load_mid rfl 34 _ rfl bp 0 rfl (pc (H, T)) d G3.out.range0 HU.out HD.out (sizePr _) ?_) | (refine wpList_store_list rfl 34 _ _ rfl bz (pc zP) (pc (H, T)) rfl rfl F3.out rfl (sizePr _) (pc_one _) ?_; intro w4 G HK))
              exact bodyPost_ret_by (results_mid_tmp rfl _ _ bz _ d rfl G.out.range0 HU.out HD.out (sizePr _)) rfl ⟨by rw [HR2.out]; rfl, HB3.out.trans (HK.out.below (by have := HW.out; have := HB3.out.size; have := F3.out.lt; omega) (by have := HW.out; have := HB3.out.size; have := F3.out.lt; omega) (by have := HW.out; have := HB3.out.size; have := F3.out.lt; omega))⟩
            · obtain ⟨c, hc⟩ : ∃ c, nameC H = c := ⟨_, rfl⟩
              rw [hc] at HNH hn0
              have HR2 : Hid (PC = (zP, c)) := Lib.hid (by rw [HR.out]; simp [partO, hb, he', hn0, hc])
              go_wp2_with (first | (refine (HL.out w2).mono ?_; rintro e w3 ⟨rfl, hb3⟩; have HB3 := Lib.hid (HB2.out.trans (hb3.mono HB2.out.size)); have F3 := Lib.hid (F2.out.keep hb3); have G3 := Lib.hid (G2.out.keep hb3); clear c0 c1; have c0 := G3.out.c 0 _ rfl; have c1 := G3.out.c 1 _ rfl; clear hb3) | (refine (HNH.out _).mono ?_; rintro e w5 ⟨rfl, hw5⟩; rw [hw5]; clear hw5) | (refine wpList_load_mid rfl 34 _ rfl bp 0 rfl (pc (H, T)) d G3.out.range0 HU.out HD.out (sizePr _) ?_) | (refine wpList_store_list rfl 34 _ _ rfl bz (pc zP) (pc zP) rfl rfl F3.out rfl (sizePr _) (pc_one _) ?_; intro w4 G HK))
              exact bodyPost_ret_by (results_mid_tmp rfl _ _ bz _ d rfl G.out.range0 HU.out HD.out (sizePr _)) rfl ⟨by rw [HR2.out]; rfl, HB3.out.trans (HK.out.below (by have := HW.out; have := HB3.out.size; have := F3.out.lt; omega) (by have := HW.out; have := HB3.out.size; have := F3.out.lt; omega) (by have := HW.out; have := HB3.out.size; have := F3.out.lt; omega))⟩
          · have he' : H.toList = [] := List.isEmpty_iff.1 he
            have HR2 : Hid (PC = ((H, T), 0)) := Lib.hid (by rw [HR.out]; simp [partO, hb, he'])
            go_wp2_with (first | (refine (HL.out w2).mono ?_; rintro e w3 ⟨rfl, hb3⟩; have HB3 := Lib.hid (HB2.out.trans (hb3.mono HB2.out.size)); have F3 := Lib.hid (F2.out.keep hb3); have G3 := Lib.hid (G2.out.keep hb3); clear c0 c1; have c0 := G3.out.c 0 _ rfl; have c1 := G3.out.c 1 _ rfl; clear hb3) | (refine wpList_load_mid rfl 34 _ rfl bp 0 rfl (pc (H, T)) d G3.out.range0 HU.out HD.out (sizePr _) ?_) | (refine wpList_store_list rfl 34 _ _ rfl bz (pc zP) (pc (H, T)) rfl rfl F3.out rfl (sizePr _) (pc_one _) ?_; intro w4 G HK))
            exact bodyPost_ret_by (results_mid_tmp rfl _ _ bz _ d rfl G.out.range0 HU.out HD.out (sizePr _)) rfl ⟨by rw [HR2.out]; rfl, HB3.out.trans (HK.out.below (by have := HW.out; have := HB3.out.size; have := F3.out.lt; omega) (by have := HW.out; have := HB3.out.size; have := F3.out.lt; omega) (by have := HW.out; have := HB3.out.size; have := F3.out.lt; omega))⟩
    · obtain rfl : z = (c : Int) := by omega
      have hc : c < S.size := by omega
      have hc0 : (0 : Int) ≤ c := by omega
      have hc1 : (c : Int) < n := by omega
      obtain ⟨b, hb⟩ : ∃ b, (S[c]).toNat = b := ⟨_, rfl⟩
      have HBb := Lib.hid hb
      clear hz
      by_cases h : b = 64
      · subst h
        go_wp2_with fail
        go_roundw
        case rel => exact ⟨c, _, c, by omega, rfl, by go_num, by go_num, trivial, .inr ⟨c, hc, rfl, Nat.le_refl _, HBb.out, fun j hj h1 h2 => by omega⟩⟩
        case measure => (simp [Go.RowKit.intOf]; try omega)
      · have hi : ¬ ((b : Int) = 64) := by omega
        have hi' : ((b : Int) == 64) = false := by simp; omega
        go_wp2_with fail
        go_roundw
        case rel =>
          refine ⟨c, _, A, by omega, rfl, by go_num, by go_num, trivial, ?_⟩
          have hne : ∀ j (hj : j < S.size), c ≤ j → j = c ∨ c + 1 ≤ j := fun j hj h => by omega
          rcases HA.out with ⟨rfl, hall⟩ | ⟨a, ha, rfl, hka, h64, hall⟩
          · refine .inl ⟨rfl, fun j hj hcj => ?_⟩
            rcases hne j hj hcj with rfl | h2
            · rw [HBb.out]; exact h
            · exact hall j hj h2
          · refine .inr ⟨a, ha, rfl, by omega, h64, fun j hj hcj hja => ?_⟩
            rcases hne j hj hcj with rfl | h2
            · rw [HBb.out]; exact h
            · exact hall j hj h2 hja
        case measure => (simp [Go.RowKit.intOf]; try omega)
end Go.Proofs.YtehldpnhdnlljaaDoor.Pt
