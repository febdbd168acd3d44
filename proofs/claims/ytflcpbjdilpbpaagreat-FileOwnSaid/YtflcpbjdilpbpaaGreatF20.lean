import Derived.Test.YtflcpbjdilpbpaaGreatF19
/- Files: what is written and read is the caller's own. -/
namespace Go.Proofs.YtflcpbjdilpbpaaGreat
set_option linter.unusedSimpArgs false
set_option linter.unusedVariables false
open Go.RowKit Go.Maps

theorem ownsRow_cap {w : World} {base : Nat} {e : TypeId} {size n g c : Nat} {xs : List Value} (h : w.ownsRow base e size (.slice (some ⟨g, 0, none⟩) n c) n xs) : n ≤ c ∧ c ≤ maxLen := by
  rcases h.2 with ⟨hv, -⟩ | ⟨g', cap, cur, hv, -, -, h1, h2, -⟩
  · cases hv
  · injection hv with e1 e2 e3
    subst e3
    exact ⟨h1, h2⟩
theorem ownsRow_zero (w : World) : (w.alloc (.cells #[] 5)).ownsRow w.heap.size 5 1 (.slice (some ⟨w.heap.size, 0, none⟩) 0 0) 0 [] :=
  World.ownsRow_made w _ 0 (Nat.le_refl _) (Nat.zero_le _) (by simp)
theorem b8_123 (w : World) : B8 (w.alloc (.cells #[.int .u8 1, .int .u8 2, .int .u8 3] 5)) (some ⟨w.heap.size, 0, none⟩) 3 3 (fun j => ((j : Nat) : Int) + 1) :=
  .inr (.inr ⟨w.heap.size, 0, rfl, by simp, fun j hj => by
    rw [World.cell?_alloc_at _ _ _ _ rfl]
    match j, hj with
    | 0, _ => rfl
    | 1, _ => rfl
    | 2, _ => rfl⟩)
set_option maxRecDepth 100000 in
theorem Tryz.info5z : ∃ i, Tryz.prog.info? 5 = some i ∧ i.zero = some (.int .u8 0) ∧ i.size = 1 ∧ i.bytes = 1 := Tryz.info5i
theorem str123 : strOf 3 (fun j => ((j : Nat) : Int) + 1) = ⟨#[1, 2, 3]⟩ := by rfl
set_option maxHeartbeats 40000000 in
set_option maxRecDepth 200000 in
theorem fileown_walk (pa : Option Addr) (n c : Nat) (s : Nat → Int) (hn : n ≤ maxLen) (hs : ∀ j, j < n → 0 ≤ s j ∧ s j < 256) (w : World) (hB : B8 w pa n c s) :
    Calls Tryz.prog 9 #[.slice pa n c] w fun e w' => e = .returned (.bool true) ∧ Below w.heap.size w w' := by
  obtain ⟨i5, hi5, hz5, hs5, hb5⟩ := Tryz.info5i
  have HI5 := Lib.hid hi5
  have HZ5 := Lib.hid hz5
  have HS5 := Lib.hid hs5
  have HY5 := Lib.hid hb5
  have HB := Lib.hid hB
  have HS := Lib.hid hs
  clear hi5 hz5 hs5 hb5 hB hs
  go_enter Tryz.func9, Tryz.ntmps9
  go_wp2_with fail
  refine (awake8 w).mono ?_
  rintro e w1 ⟨rfl, hb1⟩
  have HB1 := Lib.hid hb1
  clear hb1
  by_cases hlen : 500 < n
  · go_wp2_with fail
    go_ret
    exact ⟨rfl, HB1.out⟩
  have hn5 : (n : Int) ≤ 500 := by omega
  have hn0 : (0 : Int) ≤ n := by omega
  obtain ⟨N, g, B0, P0, DA, hc8⟩ := c8
  have HC8 := Lib.hid hc8
  have HG := Lib.hid hc8.gg
  clear hc8
  go_wp2_with fail
  refine (small_any w1).mono ?_
  rintro e w2 ⟨n', vr, vm, vg, rfl, -, hb2, hCF⟩
  have HB2 := Lib.hid (HB1.out.trans (hb2.mono HB1.out.size))
  have HCF := Lib.hid hCF
  clear hb2 hCF
  go_wp2_with fail
  refine (fresh8 HC8.out n' vr vm vg w2 HCF.out).mono ?_
  rintro e w3 ⟨t, mm, dd, gg, l, Y0, rfl, hFr, hll, hln, hLg, hRd, hTab, hbit, hb3⟩
  have HR3 := Lib.hid hRd
  have HL3 := Lib.hid hLg
  have HTab := Lib.hid hTab
  have HBit := Lib.hid hbit
  have HCF3 := Lib.hid (HCF.out.below hb3)
  have HB3 := Lib.hid (HB2.out.trans (hb3.mono HB2.out.size))
  have HNl := Lib.hid (show l ∉ [dd, gg] from fun h => hln (by simp only [List.mem_cons, List.not_mem_nil, or_false] at h ⊢; omega))
  have HNt := Lib.hid hln
  have hdd : w2.heap.size ≤ dd := hFr.2.2.1
  have hgg : w2.heap.size ≤ gg := hFr.2.2.2
  have hdt : w2.heap.size ≤ t := hFr.1
  have hdm : w2.heap.size ≤ mm := hFr.2.1
  have hw2 : w.heap.size ≤ w2.heap.size := HB2.out.size
  have hw3 := hb3.size
  have HCFx : Hid (∀ W, Below w2.heap.size w2 W → Cf.CF n' W vr vm vg R8 []) := Lib.hid (fun W hk => HCF.out.below hk)
  have HZ3 := Lib.hid hb3
  clear hFr hll hln hLg hRd hTab hbit hb3 HCF
  have HOp := Lib.hid (open8 HC8.out ⟨dl B0 (P0 + 1) DA (fun _ => 0) (ndS 0) L8, Y0⟩ t mm dd gg n' 7000 Y0 vr vm vg w3 HCF3.out (HR3.out.wide (Lm.nil_le _ _)))
  go_wp2_with fail
  refine HOp.out.mono ?_
  rintro e w4 ⟨q, p, rfl, hq, hp, hG, hb⟩
  have HG4 := Lib.hid hG
  have HB4 := Lib.hid (HB3.out.trans (hb.mono HB3.out.size))
  have hsz4 := HB4.out.size
  have HNt4 := Lib.hid (fun (x : Nat) (hx : w4.heap.size ≤ x) => HG4.out.notin hx)
  have hlt4 := Lib.hid HG4.out.lts
  clear hG hb HOp HR3 HCF3 HL3 HCFx HZ3 HB3 HB2 HB1
  have HO0 := Lib.hid (ownsRow_zero w4)
  have hb45 : Below w4.heap.size w4 (w4.alloc (.cells #[] 5)) := (Below.refl _ _).alloc (Nat.le_refl _) _
  have HBz := Lib.hid (HB4.out.trans (hb45.mono hsz4))
  have HBy := Lib.hid (HB.out.keep HBz.out)
  have HGz := Lib.hid (HG4.out.keep hb45)
  clear hb45
  go_upto_region 9 with (first | (at_builtin; refine wpList_append_b8 _ rfl _ _ 24 rfl w4.heap.size 5 i5 (.int .u8 0) Tryz.sl34 HI5.out HZ5.out HS5.out HY5.out rfl w4.heap.size 0 0 [] rfl HO0.out pa n c n (Nat.zero_add _) s rfl HBy.out (by omega) (by simp) ?_; intro g1 cap1 w5 hown5 hgr5; have HO5 := Lib.hid hown5; have HK5 := Lib.hid (Kp.of_grown hgr5); have hsz5 := HK5.out.size; clear hown5 hgr5; simp only [Act.put, List.getElem_toArray, List.getElem_cons_zero, List.getElem_cons_succ, List.setIfInBounds_toArray, List.set_cons_zero, List.set_cons_succ]) | (at_builtin; refine wpList_append_b8 _ rfl _ _ 24 rfl w4.heap.size 5 i5 (.int .u8 0) Tryz.sl34 HI5.out HZ5.out HS5.out HY5.out rfl g1 n cap1 _ rfl (HO5.out.alloc _) (some ⟨w5.heap.size, 0, none⟩) 3 3 (n + 3) rfl (fun j => ((j : Nat) : Int) + 1) rfl (b8_123 w5) (by omega) (by simp at hsz5 ⊢; omega) ?_; intro g2 cap2 w6 hown6 hgr6; have HO6 := Lib.hid hown6; have HK6 := Lib.hid (Kp.of_grown hgr6); have hcap2 := (ownsRow_cap hown6).1; have hcap3 := (ownsRow_cap hown6).2; clear hown6 hgr6; simp only [Act.put, List.getElem_toArray, List.getElem_cons_zero, List.getElem_cons_succ, List.setIfInBounds_toArray, List.set_cons_zero, List.set_cons_succ]))
  have hg1 := (ownsRow_lt HO5.out).1
  have hg2 := (ownsRow_lt HO6.out).1
  have HB5 := Lib.hid (HBz.out.trans (HK5.out.below hsz4 hsz4 HBz.out.size))
  have hba : Below w5.heap.size w5 (w5.alloc (.cells #[.int .u8 1, .int .u8 2, .int .u8 3] 5)) := (Below.refl _ _).alloc (Nat.le_refl _) _
  have HB5a := Lib.hid (HB5.out.trans (hba.mono HB5.out.size))
  have HB6 := Lib.hid (HB5a.out.trans (HK6.out.below (Nat.le_trans hsz4 hg1) (Nat.le_trans hsz4 hg1) HB5a.out.size))
  have HG6 := Lib.hid (((HGz.out.kp HK5.out (HNt4.out _ (Nat.le_refl _))).keep hba).kp HK6.out (HNt4.out _ hg1))
  have HN2 := Lib.hid (HNt4.out g2 hg2)
  have hF6 := fl_of_owns (F := fun i => if i < n then s i else ((i - n : Nat) : Int) + 1) (by
    have h := HO6.out
    rw [List.nil_append, show byts n s ++ (byts 3 fun j => ((j : Nat) : Int) + 1) = byts (n + 3) (fun i => if i < n then s i else ((i - n : Nat) : Int) + 1) from by
      rw [byts_append]
      congr 1
      · exact byts_congr (fun i hi => (if_pos hi).symm)
      · exact byts_congr (fun i hi => by rw [if_neg (by omega), show n + i - n = i from by omega])] at h
    exact h)
  have HF6 := Lib.hid hF6
  have hwg : w.heap.size ≤ g2 := Nat.le_trans hsz4 hg2
  clear hba HB5a HB5 HK6 HK5 HO6 HO5 HO0 HGz HBy HBz hF6 hg1 hsz5
  have HWr := Lib.hid (write8 HC8.out q p t mm dd gg 7000 Y0 Y0 (fun _ => 0) HTab.out HBit.out (by decide) w6 HG6.out n (by omega) (.slice (some ⟨g2, 0, none⟩) n cap2) s HS.out
    ⟨_, cap2, rfl, by omega, hcap3, fun _ => ⟨g2, 0, rfl, ⟨HF6.out.lt, fun j hj => by rw [Nat.zero_add, HF6.out.c j (by omega), if_pos hj]⟩, fun hh => HN2.out (by simp only [List.mem_cons, List.not_mem_nil, or_false] at hh ⊢; omega)⟩⟩)
  go_wp2_with fail
  refine HWr.out.mono ?_
  rintro e w7 ⟨Y1, f1, B1, rfl, hG7, hk7, hT7, hFu7, hf0, hf1, hf3, hct7, hbt7⟩
  have HG7 := Lib.hid hG7
  have HT7 := Lib.hid hT7
  have HFu7 := Lib.hid hFu7
  have Hf0 := Lib.hid hf0
  have Hf3 := Lib.hid hf3
  have HCt := Lib.hid hct7
  have hwt : w.heap.size ≤ w2.heap.size := hw2
  have hsz6 := HB6.out.size
  have HB7 : Hid (Below w.heap.size w w7) := Lib.hid (HB6.out.trans (hk7.below (B := w.heap.size) (fun a ha => by
    simp only [List.mem_cons, List.not_mem_nil, or_false] at ha
    omega) hsz6))
  have HF7 := Lib.hid (HF6.out.kf hk7 (fun hh => HN2.out (by simp only [List.mem_cons, List.not_mem_nil, or_false] at hh ⊢; omega)))
  clear hG7 hk7 hT7 hFu7 hf0 hf1 hf3 hct7 hbt7 HWr HG6 HB6 HF6 HTab HBit HNt HNl
  obtain ⟨S, hS⟩ : ∃ S, strOf n s = S := ⟨_, rfl⟩
  have HSs := Lib.hid hS
  have hst1 := str_cells (w := w7) (b := g2) (off := 0) (n := n) (c := cap2) (s := s) HS.out (fun j hj => by rw [Nat.zero_add, HF7.out.c j (by omega), if_pos hj])
  have hst2 := (HB.out.keep HB7.out).str HS.out
  rw [hS] at hst1 hst2
  have hst3 := str_cells (w := w7) (b := g2) (off := n) (n := 3) (c := cap2 - n) (s := fun j => ((j : Nat) : Int) + 1) (fun j hj => by omega) (fun j hj => by rw [HF7.out.c (n + j) (by omega), if_neg (by omega), show n + j - n = j from by omega])
  rw [str123] at hst3
  clear hS
  go_upto_region 11 with fail
  clear hst1 hst2 hst3
  have HB4x : Hid (w.heap.size ≤ q ∧ w.heap.size ≤ p) := Lib.hid (by omega)
  have HRD := Lib.hid (fun (K : Nat) (W : World) (hK : K < 190000) (hW : Gr W q p t mm dd gg 0 g B0 67 N ⟨dl B0 (P0 + 1) DA B1 (ndS ((n + 63) / 64)) L8, Y0⟩ Y1 K) => by
    have hv1 : vput 3 f1 (VF 3) 3 = f1 := vput_at _ _ _
    exact fread_in q p t mm dd gg 0 B0 P0 8 DA 67 N K g Y1 (vput 3 f1 (VF 3)) 3 (by decide) (by decide) (by rw [hv1, Hf0.out]; decide) n (by rw [hv1]; exact Hf3.out) (by omega) B1 (ndS ((n + 63) / 64)) (by rw [hv1]; exact HFu7.out.fi) (fun c hc => (ndS_iff _ _).2 (by omega)) HT7.out (by omega) HC8.out.gg W hW 0 (by decide) (n : Int) hn0 (by omega) n (by omega))
  have HCs := Lib.hid (fun (W : World) (b : Nat) (hW : Fl W b n (fun i => ctF DA Y1 B1 (0 + i))) => by
    have h := str_cells (w := W) (b := b) (off := 0) (n := n) (c := n) (s := s) HS.out (fun j hj => by
      rw [Nat.zero_add, hW.c j hj]
      have h := HCt.out j (by omega)
      rw [if_pos hj] at h
      simp only [Nat.zero_add]
      rw [h])
    rw [HSs.out] at h
    exact h)
  clear HCt Hf0 Hf3 HFu7 HT7
  go_wp2_with fail
  go_loopw [12, 67] (fun _ y wr => ∃ k : Nat, k ≤ n ∧ y = .int .i64 k ∧ Kp w7 wr g2 g2 ∧ ∃ f, Fl wr g2 (n + 3) f) (fun _ y _ => n - (Go.RowKit.intOf y).toNat)
  case atStart => exact ⟨0, Nat.zero_le _, rfl, Kp.refl _ _ _, _, HF7.out⟩
  case round =>
    obtain ⟨k, hk, rfl, hKp, f, hF⟩ := hrel
    have HKp := Lib.hid hKp
    have HFk := Lib.hid hF
    clear hKp hF
    by_cases hlt : k < n
    · have hk0 : (0 : Int) ≤ k := by omega
      have hk1 : (k : Int) < n := by omega
      have ck := HFk.out.c k (by omega)
      have zk := HFk.out.z k (by omega)
      go_wp2_with fail
      go_roundw
      case rel => exact ⟨k + 1, by omega, by go_num, HKp.out.setA k _, _, HFk.out.set k (by omega) _⟩
      case measure => simp [Go.RowKit.intOf]; omega
    obtain rfl : n = k := by omega
    have HG8 := Lib.hid (HG7.out.kp HKp.out HN2.out)
    have HB8 := Lib.hid (HB7.out.trans (HKp.out.below hwg hwg HB7.out.size))
    clear HG7 HB7 HKp HFk HF7
    have HR8 := Lib.hid (HRD.out _ wr (by decide) HG8.out)
    go_wp2_with fail
    refine HR8.out.mono ?_
    rintro e w9 ⟨bR, rfl, hbR, hF9, hG9, hk9⟩
    have hsz8 := HB8.out.size
    have HNR := Lib.hid (HG8.out.notin hbR)
    have HF9 := Lib.hid hF9
    have HG9 := Lib.hid hG9
    have HB9 : Hid (Below w.heap.size w w9) := Lib.hid (HB8.out.trans (hk9.below (B := w.heap.size) (fun a ha => by
    simp only [List.mem_cons, List.not_mem_nil, or_false] at ha
    omega) hsz8))
    have hwr : w.heap.size ≤ bR := Nat.le_trans hsz8 hbR
    clear hF9 hG9 hk9 HR8 HG8 HB8
    have hst4 := HCs.out w9 bR HF9.out
    go_upto_region 18 with fail
    clear hst4
    go_wp2_with fail
    go_loopw [16, 88] (fun _ y wr => ∃ k : Nat, k ≤ n ∧ y = .int .i64 k ∧ Kp w9 wr bR bR ∧ ∃ f, Fl wr bR n f) (fun _ y _ => n - (Go.RowKit.intOf y).toNat)
    case atStart => exact ⟨0, Nat.zero_le _, rfl, Kp.refl _ _ _, _, HF9.out⟩
    case round =>
      obtain ⟨k, hk, rfl, hKp, f, hF⟩ := hrel
      have HKp := Lib.hid hKp
      have HFk := Lib.hid hF
      clear hKp hF
      by_cases hlt : k < n
      · have hk0 : (0 : Int) ≤ k := by omega
        have hk1 : (k : Int) < n := by omega
        have ck := HFk.out.c k hlt
        have zk := HFk.out.z k hlt
        go_wp2_with fail
        go_roundw
        case rel => exact ⟨k + 1, by omega, by go_num, HKp.out.setA k _, _, HFk.out.set k hlt _⟩
        case measure => simp [Go.RowKit.intOf]; omega
      obtain rfl : n = k := by omega
      have HG10 := Lib.hid (HG9.out.kp HKp.out HNR.out)
      have HB10 := Lib.hid (HB9.out.trans (HKp.out.below hwr hwr HB9.out.size))
      clear HG9 HB9 HKp HFk HF9
      have HR10 := Lib.hid (HRD.out _ wr (by decide) HG10.out)
      have hsz10 := HB10.out.size
      go_wp2_with fail
      refine HR10.out.mono ?_
      rintro e w11 ⟨bY, rfl, hbY, hF11, hG11, hk11⟩
      have HB11 : Hid (Below w.heap.size w w11) := Lib.hid (HB10.out.trans (hk11.below (B := w.heap.size) (fun a ha => by
    simp only [List.mem_cons, List.not_mem_nil, or_false] at ha
    omega) hsz10))
      have hst5 := HCs.out w11 bY hF11
      have hst6 := (HB.out.keep HB11.out).str HS.out
      rw [HSs.out] at hst6
      clear hF11 hG11 hk11 HR10 HG10 HB10
      go_wp2_with fail
      go_ret
      exact ⟨rfl, HB11.out⟩
end Go.Proofs.YtflcpbjdilpbpaaGreat
