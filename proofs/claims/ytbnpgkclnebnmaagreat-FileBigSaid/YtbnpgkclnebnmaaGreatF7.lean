import Derived.Test.YtbnpgkclnebnmaaGreatF6
/- Files: point, by slots. -/
namespace Go.Proofs.YtbnpgkclnebnmaaGreat
set_option linter.unusedSimpArgs false
set_option linter.unusedVariables false
open Go.RowKit Go.Maps

variable {ln : Lm}
set_option maxHeartbeats 8000000 in
set_option maxRecDepth 100000 in
theorem point_root (b q p t m d gg lab B0 P0 M DA NB N K : Nat) (g : Cf.Ge) (Y : Nat → Nat → Int) (f : Nat → Int) (c x : Nat) (hr : isR c = true) (hx : x < 65536) (w : World) (h : Bo w w b q p t m d gg lab g B0 NB N ln Y K f) :
    Calls Tryz.prog 130 #[.pointer (some ⟨b, 0, none⟩), wyS c, .int .u16 x] w fun e w' => e = .returned (.int .i64 0) ∧ Bo w w' b q p t m d gg lab g B0 NB N ln Y K (addF f c x) := by
  obtain ⟨dW, hu, hd⟩ := Tryz.descWy
  have HU := Lib.hid hu
  have HD := Lib.hid hd
  have hl := rtI_lt c hr
  have hwr := wy_root c hr
  have HB := Lib.hid h
  have HO := Lib.hid (fun W => own_slot b c hr W)
  have HS := Lib.hid (fun W => steps1 (wy1 c) (by omega) W)
  have HC := Lib.hid (bdc_set q f (rtI c) x hl.1 hl.2)
  have HCc := Lib.hid (show (bdc q f)[1 + rtI c]? = some (.int .u16 (f (rtI c))) from by rw [Nat.add_comm]; exact ndc_ptr f _ hl.1 hl.2)
  have HFe : Hid (addF f c x = fun i => if i = rtI c then (x : Int) else f i) := Lib.hid (if_pos hr)
  have hl12 : rtI c < 12 := hl.2
  unfold wyS
  rw [hwr.2.1, hwr.2.2]
  obtain ⟨a, ha⟩ : ∃ a, wy1 c = a := ⟨_, rfl⟩
  obtain ⟨o, ho⟩ : ∃ o, rtI c = o := ⟨_, rfl⟩
  rw [ha] at HO HS ⊢
  rw [ho] at HO HC HCc HFe hl12
  obtain ⟨xi, hxi⟩ : ∃ y : Int, (x : Int) = y := ⟨_, rfl⟩
  rw [hxi] at HC HFe ⊢
  clear hu hd h hr hl hwr ha ho hxi hx
  go_enter Tryz.func130, Tryz.ntmps130
  go_upto_region 1 with (first | (refine wpList_box_list (w := w) rfl 181 _ rfl (wyc a 0 0) rfl ?_; intro w1 F1 hb1 hz1; have HQ1 := Lib.hid hb1; clear hb1))
  obtain ⟨bW, hbW⟩ : ∃ x, w.heap.size = x := ⟨_, rfl⟩
  have HB1 := Lib.hid (HB.out.keep HQ1.out)
  rw [hbW] at F1
  try rw [hbW]
  clear hz1 HQ1 HB hbW
  have HR1 := Lib.hid F1.out.range0
  go_wp2_with (refine wpList_load_mid rfl 181 _ rfl bW 0 rfl (wyc a 0 0) dW HR1.out HU.out HD.out (sizeWy _ _ _) ?_)
  refine (HS.out w1).mono ?_
  rintro e w2 ⟨rfl, hb⟩
  have HB2 := Lib.hid (HB1.out.keep hb)
  have F2 := Lib.hid (F1.out.keep hb)
  clear hb HS HR1 F1 HB1
  have c0 := F2.out.c 0 _ rfl
  go_wp2_with fail
  refine (HO.out w2).mono ?_
  rintro e wz ⟨rfl, hwz⟩
  rw [hwz]
  clear hwz c0 HO
  have cb := HB2.out.bd.c (1 + o) _ HCc.out
  have zb := HB2.out.bd.z (1 + o) (by show 1 + o < 13; omega)
  go_wp2_with fail
  go_ret
  refine ⟨rfl, ?_⟩
  rw [HFe.out]
  exact HB2.out.set o hl12 (.int .u16 xi) _ HC.out
set_option maxHeartbeats 20000000 in
set_option maxRecDepth 100000 in
theorem point_gen (b q p t m d gg lab B0 P0 M DA NB N K : Nat) (g : Cf.Ge) (Y : Nat → Nat → Int) (f : Nat → Int) (s0 s1 s2 : Int) (u : Array Value) (n k x qn : Nat) (hn : n = 1 ∨ n = 2) (hk : k < 32) (hx : x < 65536) (hq1 : 1 ≤ qn) (hq2 : qn ≤ NB) (hT : Has ln (DA + (qn - 1)))
    (HST : ∀ W, Calls Tryz.prog 118 #[.agg (wyc s0 s1 s2).toArray] W fun e w' => e = .returned (.int .i64 (n + 1)) ∧ Below W.heap.size W w')
    (HUP : ∀ W, Calls Tryz.prog 107 #[.agg (wyc s0 s1 s2).toArray] W fun e w' => e = .returned (.agg u) ∧ Below W.heap.size W w')
    (HAT : ∀ W, Bo W W b q p t m d gg lab g B0 NB N ln Y K f → Calls Tryz.prog 84 #[.pointer (some ⟨b, 0, none⟩), .agg u] W fun e w' => e = .returned (.tuple #[.int .u16 qn, .int .i64 0]) ∧ Bo W w' b q p t m d gg lab g B0 NB N ln Y (K + 2) f)
    (hcell : (wyc s0 s1 s2)[n]? = some (.int .i64 (k + 1))) (hK : K < 600000000) (hg : GG g B0 P0 M DA NB N) (w : World) (h : Bo w w b q p t m d gg lab g B0 NB N ln Y K f) :
    Calls Tryz.prog 130 #[.pointer (some ⟨b, 0, none⟩), .agg (wyc s0 s1 s2).toArray, .int .u16 x] w fun e w' => e = .returned (.int .i64 0) ∧ Bo w w' b q p t m d gg lab g B0 NB N ln (vput (DA + (qn - 1)) (putN (Y (DA + (qn - 1))) (2 * k) x) Y) (K + 3) f := by
  obtain ⟨dW, hu, hd⟩ := Tryz.descWy
  have HU := Lib.hid hu
  have HD := Lib.hid hd
  have HB := Lib.hid h
  have HS := Lib.hid HST
  have HP := Lib.hid HUP
  have HA := Lib.hid HAT
  have HC := Lib.hid hcell
  have HG := Lib.hid hg
  have hN5 := hg.n512
  have hby := h.gr.rd.vb (DA + (qn - 1))
  have HGt := Lib.hid (fun W hW => gget_in (ln := ln) q p t m d gg lab B0 P0 M DA NB N (K + 2) g Y qn hq1 hq2 (by omega) hg W hW)
  obtain ⟨V, hV⟩ : ∃ V, Y (DA + (qn - 1)) = V := ⟨_, rfl⟩
  rw [hV] at hby HGt ⊢
  have HPn := Lib.hid (fun gb W hW => putnum8 gb V k hk (k + 1) rfl x hx W hW)
  obtain ⟨V2, hV2⟩ : ∃ V2, putN V (2 * k) x = V2 := ⟨_, rfl⟩
  have hby2 : Byt V2 := by rw [← hV2]; exact putN_byt hby _ _
  rw [hV2] at HPn ⊢
  have HPu := Lib.hid (fun W hW => gput_in (ln := ln) q p t m d gg lab B0 P0 M DA NB N (K + 3) g Y qn hq1 hq2 V2 hby2 hT hg W hW)
  obtain ⟨xi, hxi⟩ : ∃ y : Int, (x : Int) = y := ⟨_, rfl⟩
  obtain ⟨qi, hqi⟩ : ∃ y : Int, (qn : Int) = y := ⟨_, rfl⟩
  rw [hxi] at HPn ⊢
  rw [hqi] at HA HGt HPu
  have hk0 : (0 : Int) ≤ k := by omega
  have hk1 : (k : Int) < 32 := by omega
  obtain ⟨ki, hki⟩ : ∃ y : Int, (k : Int) + 1 = y := ⟨_, rfl⟩
  rw [hki] at HPn HC
  have hn1 : ((n : Int) + 1 - 1) = n := by omega
  have hne : ¬ ((n : Int) = 0) := by omega
  have hnn : (n : Int) = 1 ∨ (n : Int) = 2 := by omega
  clear hu hd h HST HUP HAT hcell hg hby hV hV2 hxi hqi hki hT hby2 hq1 hq2
  rcases hn with rfl | rfl
  all_goals
    clear hnn hne hn1
    go_enter Tryz.func130, Tryz.ntmps130
    go_upto_region 1 with (first | (refine wpList_box_list (w := w) rfl 181 _ rfl (wyc s0 s1 s2) rfl ?_; intro w1 F1 hb1 hz1; have HQ1 := Lib.hid hb1; clear hb1))
    obtain ⟨bW, hbW⟩ : ∃ x, w.heap.size = x := ⟨_, rfl⟩
    have HB1 := Lib.hid (HB.out.keep HQ1.out)
    have hW0 : w.heap.size ≤ bW := Nat.le_of_eq hbW
    rw [hbW] at F1
    try rw [hbW]
    clear hz1 HQ1 HB hbW
    have HR1 := Lib.hid F1.out.range0
    go_wp2_with (refine wpList_load_mid rfl 181 _ rfl bW 0 rfl (wyc s0 s1 s2) dW HR1.out HU.out HD.out (sizeWy _ _ _) ?_)
    refine (HS.out w1).mono ?_
    rintro e w2 ⟨rfl, hb⟩
    have HB2 := Lib.hid (HB1.out.keep hb)
    have F2 := Lib.hid (F1.out.keep hb)
    clear hb HS HR1 F1 HB1
    have HR2 := Lib.hid F2.out.range0
    go_wp2_with (refine wpList_load_mid rfl 181 _ rfl bW 0 rfl (wyc s0 s1 s2) dW HR2.out HU.out HD.out (sizeWy _ _ _) ?_)
    refine (HP.out w2).mono ?_
    rintro e w3 ⟨rfl, hb⟩
    have HB3 := Lib.hid (HB2.out.keep hb)
    have F3 := Lib.hid (F2.out.keep hb)
    clear hb HP HR2 F2 HB2
    go_wp2_with fail
    refine (HA.out w3 HB3.out.self).mono ?_
    rintro e w4 ⟨rfl, hB4⟩
    have HB4 := Lib.hid (HB3.out.trans hB4)
    have F4 : Hid (Vl w4 bW (wyc s0 s1 s2)) := Lib.hid (F3.out.kf hB4.kf (fun ha => by have := HB3.out.nin hW0; simp only [List.mem_cons, List.not_mem_nil, or_false, not_or] at this ha; omega))
    clear hB4 HA HB3 F3
    have hqe := HB4.out.bd.c 0 _ rfl
    go_wp2_with fail
    refine (HGt.out w4 HB4.out.gr).mono ?_
    rintro e w5 ⟨rfl, hG, hkk⟩
    have HB5 := Lib.hid (HB4.out.call hG hkk)
    have F5 : Hid (Vl w5 bW (wyc s0 s1 s2)) := Lib.hid (F4.out.kf hkk (fun ha => by have := HB4.out.nin hW0; simp only [List.mem_cons, List.not_mem_nil, or_false, not_or] at this ha; omega))
    have hs5 : w.heap.size ≤ w5.heap.size := HB5.out.kf.size
    clear hG hkk HGt HB4 F4 hqe
    go_upto_region 9 with (first | (refine wpList_alloc_byts (w := w5) rfl 59 64 rfl Tryz.zero36 ?_; intro w6 F6 hb6 hz6; simp only [Act.put, List.getElem_toArray, List.getElem_cons_zero, List.getElem_cons_succ, List.setIfInBounds_toArray, List.set_cons_zero, List.set_cons_succ]; refine wpList_store_blk rfl (.tmp 10) (.tmp 39) rfl w5.heap.size 0 64 (fun _ => 0) V F6.out (by omega) rfl rfl ?_; intro w7 F7 HK7; have HB6 := Lib.hid hb6; clear hb6 F6))
    obtain ⟨bB, hbB⟩ : ∃ x, w5.heap.size = x := ⟨_, rfl⟩
    have hB0 : w.heap.size ≤ bB := by omega
    have hF5l := F5.out.lt
    have HB7 := Lib.hid ((HB5.out.keep HB6.out).new HK7.out (by omega))
    have G7 := Lib.hid ((F5.out.keep HB6.out).kp HK7.out (by omega) (by omega))
    have F7' := Lib.hid (F7.out.congr (fun j hj => upd_zero 64 V j hj _))
    rw [hbB] at F7' hF5l
    try rw [hbB]
    clear F7 HK7 HB6 HB5 F5 hbB hz6 hs5
    have ck := G7.out.c _ _ HC.out
    go_wp2_with fail
    refine (HPn.out bB w7 F7'.out).mono ?_
    rintro e w8 ⟨rfl, hF8, hk8⟩
    have HB8 := Lib.hid (HB7.out.new hk8 hB0)
    have F8 := Lib.hid hF8
    clear hF8 hk8 HPn HB7 F7' ck G7
    have hqe := HB8.out.bd.c 0 _ rfl
    go_upto_region 12 with fail
    refine wp_region_held (S := fun W => Fl W bB 64 V2 ∧ W.cell? ⟨b, 0, none⟩ = some (.pointer (some ⟨q, 0, none⟩))) (by kernel_rfl) ?_
    change wpAnyH _ _ _ _ _ _ _ _ (World.drew _)
    have hS0 : (fun W => Fl W bB 64 V2 ∧ W.cell? ⟨b, 0, none⟩ = some (.pointer (some ⟨q, 0, none⟩))) w8.drew := ⟨F8.out.below (Below.refl _ _).drew F8.out.lt, (HB8.out.keep (Below.refl _ _).drew).bd.c 0 _ rfl⟩
    have HB9 := Lib.hid (HB8.out.keep (Below.refl _ _).drew)
    obtain ⟨w9, hw9⟩ : ∃ x, World.drew w8 = x := ⟨_, rfl⟩
    rw [hw9] at hS0 HB9 ⊢
    clear hw9
    refine wpAnyH_take (i := 0) (v := ?_) rfl (by kernel_rfl) (by kernel_rfl) (by kernel_rfl) (fun _ _ _ h => h) (Or.inl ⟨by rfl, ?_⟩) hS0 ?_
    rotate_left 1
    · intro W hW
      go_simp
      try with_reducible rfl
    simp only [Act.put, List.getElem_toArray, List.getElem_cons_zero, List.getElem_cons_succ, List.setIfInBounds_toArray, List.set_cons_zero, List.set_cons_succ]
    refine wpAnyH_take (i := 1) (v := ?_) rfl (by kernel_rfl) (by kernel_rfl) (by kernel_rfl) (fun _ _ _ h => h) (Or.inl ⟨by rfl, ?_⟩) hS0 ?_
    rotate_left 1
    · intro W hW
      go_simp
      try with_reducible rfl
    simp only [Act.put, List.getElem_toArray, List.getElem_cons_zero, List.getElem_cons_succ, List.setIfInBounds_toArray, List.set_cons_zero, List.set_cons_succ]
    refine wpAnyH_take (i := 2) (v := ?_) rfl (by kernel_rfl) (by kernel_rfl) (by kernel_rfl) (fun _ _ _ h => h) (Or.inl ⟨by rfl, ?_⟩) hS0 ?_
    rotate_left 1
    · intro W hW
      go_simp
      try with_reducible rfl
    simp only [Act.put, List.getElem_toArray, List.getElem_cons_zero, List.getElem_cons_succ, List.setIfInBounds_toArray, List.set_cons_zero, List.set_cons_succ]
    refine wpAnyH_take (i := 3) (v := ?_) rfl (by kernel_rfl) (by kernel_rfl) (by kernel_rfl) (fun _ _ _ h => h) (Or.inl ⟨by rfl, ?_⟩) hS0 ?_
    rotate_left 1
    · intro W hW
      have c0 := hW.2
      go_simp
      try with_reducible rfl
    simp only [Act.put, List.getElem_toArray, List.getElem_cons_zero, List.getElem_cons_succ, List.setIfInBounds_toArray, List.set_cons_zero, List.set_cons_succ]
    refine wpAnyH_take (i := 4) (v := ?_) rfl (by kernel_rfl) (by kernel_rfl) (by kernel_rfl) (fun _ _ _ h => h) (Or.inl ⟨by rfl, ?_⟩) hS0 ?_
    rotate_left 1
    · intro W hW
      go_simp
      try with_reducible rfl
    simp only [Act.put, List.getElem_toArray, List.getElem_cons_zero, List.getElem_cons_succ, List.setIfInBounds_toArray, List.set_cons_zero, List.set_cons_succ]
    refine wpAnyH_take (i := 5) (v := .agg (byts 64 V2).toArray) rfl (by kernel_rfl) (by kernel_rfl) (by kernel_rfl) (fun _ _ _ h => h) ?_ hS0 ?_
    · exact yieldsIf_load_mid (by rfl) 59 (.tmp 10) rfl bB 0 rfl (byts 64 V2) (.array 64 5) (fun W hW => hW.1.range0) Tryz.arr36 rfl (size36 _)
    simp only [Act.put, List.getElem_toArray, List.getElem_cons_zero, List.getElem_cons_succ, List.setIfInBounds_toArray, List.set_cons_zero, List.set_cons_succ]
    refine wpAnyH_ready (rs := [6]) (by kernel_rfl) (by simp) (AllReadyH.cons rfl (fun KK hKK => ?_) AllReadyH.nil)
    go_simp
    refine (HPu.out w9 HB9.out.gr).mono ?_
    rintro e w10 ⟨rfl, hG, hkk⟩
    have HB10 := Lib.hid (HB9.out.call hG hkk)
    replace hS0 : (fun W => Fl W bB 64 V2 ∧ W.cell? ⟨b, 0, none⟩ = some (.pointer (some ⟨q, 0, none⟩))) w10 := ⟨hS0.1.kf hkk (fun ha => by have := HB9.out.nin hB0; simp only [List.mem_cons, List.not_mem_nil, or_false, not_or] at this ha; omega), HB10.out.bd.c 0 _ rfl⟩
    clear hG hkk
    refine hKK _ _ hS0 ?_
    intro _
    clear hKK KK
    try simp only [Act.put, List.getElem_toArray, List.getElem_cons_zero, List.getElem_cons_succ, List.setIfInBounds_toArray, List.set_cons_zero, List.set_cons_succ]
    refine wpAnyH_take (i := 7) (v := ?_) rfl (by kernel_rfl) (by kernel_rfl) (by kernel_rfl) (fun _ _ _ h => h) (Or.inl ⟨by rfl, ?_⟩) hS0 ?_
    rotate_left 1
    · intro W hW
      go_simp
      try with_reducible rfl
    simp only [Act.put, List.getElem_toArray, List.getElem_cons_zero, List.getElem_cons_succ, List.setIfInBounds_toArray, List.set_cons_zero, List.set_cons_succ]
    refine wpAnyH_done (by kernel_rfl) ?_ _
    clear hS0
    go_wp2_with fail
    go_ret
    exact ⟨rfl, HB10.out⟩
def lenS (c : Nat) : Nat := if 38 ≤ c ∧ c < 1062 then 2 else 1
theorem wy_three (c : Nat) (h : 38 ≤ c ∧ c < 1062) : wy1 c = 8 ∧ wy2 c = (c - 38) / 32 + 1 ∧ wy3 c = (c - 38) % 32 + 1 ∧ parS c = 2002 + (c - 38) / 32 ∧ idxS c = (c - 38) % 32 := by
  unfold wy1 wy2 wy3 parS idxS
  rw [if_neg (by omega), if_neg (by omega), if_neg (by omega), if_neg (by omega), if_pos (by omega), if_pos h, if_neg (by omega), if_pos (by omega), if_neg (by omega), if_pos (by omega)]
  exact ⟨rfl, rfl, rfl, rfl, rfl⟩
theorem wy_two (c : Nat) (hc : okS c = true) (hr : isR c = false) (h3 : ¬ (38 ≤ c ∧ c < 1062)) : wy1 c = wy1 (parS c) ∧ wy2 c = idxS c + 1 ∧ wy3 c = 0 ∧ isR (parS c) = true := by
  have hn := (isR_no c).1 hr
  have hoo := (okS_iff c).1 hc
  refine ⟨?_, ?_, by unfold wy3; rw [if_neg h3], (isR_iff _).2 ?_⟩
  · unfold wy1 parS
    by_cases e : c < 38
    · rw [if_neg (by omega), if_pos (.inl e), if_pos e]
      rfl
    · rw [if_neg (by omega), if_neg (by omega), if_neg e, if_neg (show ¬ c < 1062 by omega)]
      rfl
  · unfold wy2 idxS
    rw [if_neg hn]
    split
    · omega
    · rw [if_neg (by omega), if_neg (by omega)]
  · unfold parS
    split
    · omega
    · rw [if_neg (by omega)]
      omega
theorem wy_par3 (c : Nat) (h : 38 ≤ c ∧ c < 1062) : wyS (parS c) = .agg (wyc 8 (((c - 38) / 32 + 1 : Nat) : Int) 0).toArray := by
  have e := (wy_three c h).2.2.2.1
  unfold wyS
  rw [e]
  have e1 : wy1 (2002 + (c - 38) / 32) = 8 := by unfold wy1; rw [if_neg (by omega), if_neg (by omega)]
  have e2 : wy2 (2002 + (c - 38) / 32) = (c - 38) / 32 + 1 := by unfold wy2; rw [if_neg (by omega), if_neg (by omega), if_neg (by omega)]; omega
  have e3 : wy3 (2002 + (c - 38) / 32) = 0 := by unfold wy3; rw [if_neg (by omega)]
  rw [e1, e2, e3]
  rfl
/-- a slot whose block of pointers is there is pointed to -/
theorem point_in (b q p t m d gg lab B0 P0 M DA NB N K : Nat) (g : Cf.Ge) (Y : Nat → Nat → Int) (f : Nat → Int) (S : Nat → Bool) (B : Nat → Nat) (hF : Fi DA NB Y f S B) (c x : Nat) (hc : okS c = true) (hr : isR c = false) (hp : S (parS c) = true) (hx : x < 65536) (hT : Has ln (DA + (B (parS c) - 1)))
    (hK : K < 600000000) (hg : GG g B0 P0 M DA NB N) (w : World) (h : Bo w w b q p t m d gg lab g B0 NB N ln Y K f) :
    Calls Tryz.prog 130 #[.pointer (some ⟨b, 0, none⟩), wyS c, .int .u16 x] w fun e w' => e = .returned (.int .i64 0) ∧ Bo w w' b q p t m d gg lab g B0 NB N ln (addY DA Y B c x) (K + 3) f := by
  have hrg := hF.rng _ hp
  have hpo := (parS_ok c hc hr).1
  have hAt := fun W hW => at_slot (ln := ln) b q p t m d gg lab B0 P0 M DA NB N K g Y f S B hF (parS c) hpo hK hg W hW
  have hv : vS S B (parS c) = B (parS c) := if_pos hp
  rw [hv] at hAt
  have hY : addY DA Y B c x = vput (DA + (B (parS c) - 1)) (putN (Y (DA + (B (parS c) - 1))) (2 * idxS c) x) Y := by
    unfold addY
    rw [if_neg (by rw [hr]; decide)]
  rw [hY]
  have hi := idxS_lt c hc hr
  by_cases h3 : 38 ≤ c ∧ c < 1062
  · obtain ⟨e1, e2, e3, e4, e5⟩ := wy_three c h3
    have hpw := wy_par3 c h3
    rw [hpw] at hAt
    unfold wyS
    rw [e1, e2, e3]
    refine point_gen (ln := ln) b q p t m d gg lab B0 P0 M DA NB N K g Y f 8 (((c - 38) / 32 + 1 : Nat) : Int) (((c - 38) % 32 + 1 : Nat) : Int) _ 2 (idxS c) x (B (parS c)) (.inr rfl) hi hx hrg.1 hrg.2 hT
      (fun W => steps3 8 _ _ (by decide) (by omega) (by omega) W) (fun W => up3 8 _ _ (by decide) (by omega) (by omega) W) hAt ?_ hK hg w h
    rw [e5]
    rfl
  · obtain ⟨e1, e2, e3, hpr⟩ := wy_two c hc hr h3
    have hwr := wy_root (parS c) hpr
    have hpw : wyS (parS c) = .agg (wyc (wy1 c) 0 0).toArray := by
      unfold wyS
      rw [hwr.2.1, hwr.2.2, e1]
      rfl
    rw [hpw] at hAt
    have h1 : 1 ≤ wy1 c := by rw [e1]; exact hwr.1
    unfold wyS
    rw [e2, e3]
    refine point_gen (ln := ln) b q p t m d gg lab B0 P0 M DA NB N K g Y f (wy1 c) ((idxS c + 1 : Nat) : Int) 0 _ 1 (idxS c) x (B (parS c)) (.inl rfl) hi hx hrg.1 hrg.2 hT
      (fun W => steps2 _ _ (by omega) (by omega) W) (fun W => up2 _ _ (by omega) (by omega) W) hAt ?_ hK hg w h
    rfl
end Go.Proofs.YtbnpgkclnebnmaaGreat
