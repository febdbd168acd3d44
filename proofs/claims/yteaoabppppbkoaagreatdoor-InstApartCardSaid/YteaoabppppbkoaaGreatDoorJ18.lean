import Derived.Test.YteaoabppppbkoaaGreatDoorJ17
import Derived.Deep.CutBlock
import Derived.Deep.DeepCutAuto
import Derived.Test.YteaoabppppbkoaaGreatDoorJ10
import Derived.Test.YteaoabppppbkoaaGreatDoorJ16
/- Files: point, by slots. -/
/- A group: Make; Usage; a disk as an image. -/
/- A group: MakeLink; Fresh: a disk whose groups have their own nodes. -/
/- Fresh: the walk. -/
/- In which group a block lies. -/
/- The fixed fact; GroupNone: the walk. -/
/- What is done in a group, step by step; groups lie apart. -/
/- Files: what taking blocks leaves. -/

namespace Go.Proofs.YteaoabppppbkoaaGreatDoor
set_option linter.unusedSimpArgs false
set_option linter.unusedVariables false
open Go.RowKit Go.Maps

variable {ln : Lm}
set_option maxHeartbeats 8000000 in
set_option maxRecDepth 100000 in
theorem point_root (b q p t m d gg lab B0 P0 M DA NB N K : Nat) (g : Cf.Ge) (Y : Nat → Nat → Int) (f : Nat → Int) (c x : Nat) (hr : isR c = true) (hx : x < 65536) (w : World) (h : Bo w w b q p t m d gg lab g B0 NB N ln Y K f) :
    Calls Tryz.prog 164 #[.pointer (some ⟨b, 0, none⟩), wyS c, .int .u16 x] w fun e w' => e = .returned (.int .i64 0) ∧ Bo w w' b q p t m d gg lab g B0 NB N ln Y K (addF f c x) := by
  obtain ⟨dW, hu, hd⟩ := Tryz.descWy
  have HU := Lib.hid hu
  have HD := Lib.hid hd
  have hl := rtI_lt c hr
  have hwr := wy_root c hr
  have HB := Lib.hid h
  have HO := Lib.hid (fun W => own_slot b c hr W)
  have HS := Lib.hid (fun W => steps1 (wy1 c) (by omega) W)
  have HC := Lib.hid (bdc_set q f (rtI c) x hl.1 hl.2)
  have HCc := Lib.hid (show (bdc q f)[1 + rtI c]? = some (.int .u16 (f (rtI c))) from by rw [Nat.add_comm]; exact ndc_ptr f _ hl.1 hl.2)
  have HFe : Hid (addF f c x = fun i => if i = rtI c then (x : Int) else f i) := Lib.hid (if_pos hr)
  have hl12 : rtI c < 12 := hl.2
  unfold wyS
  rw [hwr.2.1, hwr.2.2]
  obtain ⟨a, ha⟩ : ∃ a, wy1 c = a := ⟨_, rfl⟩
  obtain ⟨o, ho⟩ : ∃ o, rtI c = o := ⟨_, rfl⟩
  rw [ha] at HO HS ⊢
  rw [ho] at HO HC HCc HFe hl12
  obtain ⟨xi, hxi⟩ : ∃ y : Int, (x : Int) = y := ⟨_, rfl⟩
  rw [hxi] at HC HFe ⊢
  clear hu hd h hr hl hwr ha ho hxi hx
  go_enter Tryz.func164, Tryz.ntmps164
  go_upto_region 1 with (first | (refine wpList_box_list (w := w) rfl 255 _ rfl (wyc a 0 0) rfl ?_; intro w1 F1 hb1 hz1; have HQ1 := Lib.hid hb1; clear hb1))
  obtain ⟨bW, hbW⟩ : ∃ x, w.heap.size = x := ⟨_, rfl⟩
  have HB1 := Lib.hid (HB.out.keep HQ1.out)
  rw [hbW] at F1
  try rw [hbW]
  clear hz1 HQ1 HB hbW
  have HR1 := Lib.hid F1.out.range0
  go_wp2_with (refine wpList_load_mid rfl 255 _ rfl bW 0 rfl (wyc a 0 0) dW HR1.out HU.out HD.out (sizeWy _ _ _) ?_)
  refine (HS.out w1).mono ?_
  rintro e w2 ⟨rfl, hb⟩
  have HB2 := Lib.hid (HB1.out.keep hb)
  have F2 := Lib.hid (F1.out.keep hb)
  clear hb HS HR1 F1 HB1
  have c0 := F2.out.c 0 _ rfl
  go_wp2_with fail
  refine (HO.out w2).mono ?_
  rintro e wz ⟨rfl, hwz⟩
  rw [hwz]
  clear hwz c0 HO
  have cb := HB2.out.bd.c (1 + o) _ HCc.out
  have zb := HB2.out.bd.z (1 + o) (by show 1 + o < 13; omega)
  go_wp2_with fail
  go_ret
  refine ⟨rfl, ?_⟩
  rw [HFe.out]
  exact HB2.out.set o hl12 (.int .u16 xi) _ HC.out
set_option maxHeartbeats 20000000 in
set_option maxRecDepth 100000 in
theorem point_gen (b q p t m d gg lab B0 P0 M DA NB N K : Nat) (g : Cf.Ge) (Y : Nat → Nat → Int) (f : Nat → Int) (s0 s1 s2 : Int) (u : Array Value) (n k x qn : Nat) (hn : n = 1 ∨ n = 2) (hk : k < 32) (hx : x < 65536) (hq1 : 1 ≤ qn) (hq2 : qn ≤ NB) (hT : Has ln (DA + (qn - 1)))
    (HST : ∀ W, Calls Tryz.prog 163 #[.agg (wyc s0 s1 s2).toArray] W fun e w' => e = .returned (.int .i64 (n + 1)) ∧ Below W.heap.size W w')
    (HUP : ∀ W, Calls Tryz.prog 140 #[.agg (wyc s0 s1 s2).toArray] W fun e w' => e = .returned (.agg u) ∧ Below W.heap.size W w')
    (HAT : ∀ W, Bo W W b q p t m d gg lab g B0 NB N ln Y K f → Calls Tryz.prog 155 #[.pointer (some ⟨b, 0, none⟩), .agg u] W fun e w' => e = .returned (.tuple #[.int .u16 qn, .int .i64 0]) ∧ Bo W w' b q p t m d gg lab g B0 NB N ln Y (K + 2) f)
    (hcell : (wyc s0 s1 s2)[n]? = some (.int .i64 (k + 1))) (hK : K < 600000000) (hg : GG g B0 P0 M DA NB N) (w : World) (h : Bo w w b q p t m d gg lab g B0 NB N ln Y K f) :
    Calls Tryz.prog 164 #[.pointer (some ⟨b, 0, none⟩), .agg (wyc s0 s1 s2).toArray, .int .u16 x] w fun e w' => e = .returned (.int .i64 0) ∧ Bo w w' b q p t m d gg lab g B0 NB N ln (vput (DA + (qn - 1)) (putN (Y (DA + (qn - 1))) (2 * k) x) Y) (K + 3) f := by
  obtain ⟨dW, hu, hd⟩ := Tryz.descWy
  have HU := Lib.hid hu
  have HD := Lib.hid hd
  have HB := Lib.hid h
  have HS := Lib.hid HST
  have HP := Lib.hid HUP
  have HA := Lib.hid HAT
  have HC := Lib.hid hcell
  have HG := Lib.hid hg
  have hN5 := hg.n512
  have hby := h.gr.rd.vb (DA + (qn - 1))
  have HGt := Lib.hid (fun W hW => gget_in (ln := ln) q p t m d gg lab B0 P0 M DA NB N (K + 2) g Y qn hq1 hq2 (by omega) hg W hW)
  obtain ⟨V, hV⟩ : ∃ V, Y (DA + (qn - 1)) = V := ⟨_, rfl⟩
  rw [hV] at hby HGt ⊢
  have HPn := Lib.hid (fun gb W hW => putnum8 gb V k hk (k + 1) rfl x hx W hW)
  obtain ⟨V2, hV2⟩ : ∃ V2, putN V (2 * k) x = V2 := ⟨_, rfl⟩
  have hby2 : Byt V2 := by rw [← hV2]; exact putN_byt hby _ _
  rw [hV2] at HPn ⊢
  have HPu := Lib.hid (fun W hW => gput_in (ln := ln) q p t m d gg lab B0 P0 M DA NB N (K + 3) g Y qn hq1 hq2 V2 hby2 hT hg W hW)
  obtain ⟨xi, hxi⟩ : ∃ y : Int, (x : Int) = y := ⟨_, rfl⟩
  obtain ⟨qi, hqi⟩ : ∃ y : Int, (qn : Int) = y := ⟨_, rfl⟩
  rw [hxi] at HPn ⊢
  rw [hqi] at HA HGt HPu
  have hk0 : (0 : Int) ≤ k := by omega
  have hk1 : (k : Int) < 32 := by omega
  obtain ⟨ki, hki⟩ : ∃ y : Int, (k : Int) + 1 = y := ⟨_, rfl⟩
  rw [hki] at HPn HC
  have hn1 : ((n : Int) + 1 - 1) = n := by omega
  have hne : ¬ ((n : Int) = 0) := by omega
  have hnn : (n : Int) = 1 ∨ (n : Int) = 2 := by omega
  clear hu hd h HST HUP HAT hcell hg hby hV hV2 hxi hqi hki hT hby2 hq1 hq2
  rcases hn with rfl | rfl
  all_goals
    clear hnn hne hn1
    go_enter Tryz.func164, Tryz.ntmps164
    go_upto_region 1 with (first | (refine wpList_box_list (w := w) rfl 255 _ rfl (wyc s0 s1 s2) rfl ?_; intro w1 F1 hb1 hz1; have HQ1 := Lib.hid hb1; clear hb1))
    obtain ⟨bW, hbW⟩ : ∃ x, w.heap.size = x := ⟨_, rfl⟩
    have HB1 := Lib.hid (HB.out.keep HQ1.out)
    have hW0 : w.heap.size ≤ bW := Nat.le_of_eq hbW
    rw [hbW] at F1
    try rw [hbW]
    clear hz1 HQ1 HB hbW
    have HR1 := Lib.hid F1.out.range0
    go_wp2_with (refine wpList_load_mid rfl 255 _ rfl bW 0 rfl (wyc s0 s1 s2) dW HR1.out HU.out HD.out (sizeWy _ _ _) ?_)
    refine (HS.out w1).mono ?_
    rintro e w2 ⟨rfl, hb⟩
    have HB2 := Lib.hid (HB1.out.keep hb)
    have F2 := Lib.hid (F1.out.keep hb)
    clear hb HS HR1 F1 HB1
    have HR2 := Lib.hid F2.out.range0
    go_wp2_with (refine wpList_load_mid rfl 255 _ rfl bW 0 rfl (wyc s0 s1 s2) dW HR2.out HU.out HD.out (sizeWy _ _ _) ?_)
    refine (HP.out w2).mono ?_
    rintro e w3 ⟨rfl, hb⟩
    have HB3 := Lib.hid (HB2.out.keep hb)
    have F3 := Lib.hid (F2.out.keep hb)
    clear hb HP HR2 F2 HB2
    go_wp2_with fail
    refine (HA.out w3 HB3.out.self).mono ?_
    rintro e w4 ⟨rfl, hB4⟩
    have HB4 := Lib.hid (HB3.out.trans hB4)
    have F4 : Hid (Vl w4 bW (wyc s0 s1 s2)) := Lib.hid (F3.out.kf hB4.kf (fun ha => by have := HB3.out.nin hW0; simp only [List.mem_cons, List.not_mem_nil, or_false, not_or] at this ha; omega))
    clear hB4 HA HB3 F3
    have hqe := HB4.out.bd.c 0 _ rfl
    go_wp2_with fail
    refine (HGt.out w4 HB4.out.gr).mono ?_
    rintro e w5 ⟨rfl, hG, hkk⟩
    have HB5 := Lib.hid (HB4.out.call hG hkk)
    have F5 : Hid (Vl w5 bW (wyc s0 s1 s2)) := Lib.hid (F4.out.kf hkk (fun ha => by have := HB4.out.nin hW0; simp only [List.mem_cons, List.not_mem_nil, or_false, not_or] at this ha; omega))
    have hs5 : w.heap.size ≤ w5.heap.size := HB5.out.kf.size
    clear hG hkk HGt HB4 F4 hqe
    go_upto_region 9 with (first | (refine wpList_alloc_byts (w := w5) rfl 116 64 rfl Tryz.zero36 ?_; intro w6 F6 hb6 hz6; simp only [Act.put, List.getElem_toArray, List.getElem_cons_zero, List.getElem_cons_succ, List.setIfInBounds_toArray, List.set_cons_zero, List.set_cons_succ]; refine wpList_store_blk rfl (.tmp 10) (.tmp 39) rfl w5.heap.size 0 64 (fun _ => 0) V F6.out (by omega) rfl rfl ?_; intro w7 F7 HK7; have HB6 := Lib.hid hb6; clear hb6 F6))
    obtain ⟨bB, hbB⟩ : ∃ x, w5.heap.size = x := ⟨_, rfl⟩
    have hB0 : w.heap.size ≤ bB := by omega
    have hF5l := F5.out.lt
    have HB7 := Lib.hid ((HB5.out.keep HB6.out).new HK7.out (by omega))
    have G7 := Lib.hid ((F5.out.keep HB6.out).kp HK7.out (by omega) (by omega))
    have F7' := Lib.hid (F7.out.congr (fun j hj => upd_zero 64 V j hj _))
    rw [hbB] at F7' hF5l
    try rw [hbB]
    clear F7 HK7 HB6 HB5 F5 hbB hz6 hs5
    have ck := G7.out.c _ _ HC.out
    go_wp2_with fail
    refine (HPn.out bB w7 F7'.out).mono ?_
    rintro e w8 ⟨rfl, hF8, hk8⟩
    have HB8 := Lib.hid (HB7.out.new hk8 hB0)
    have F8 := Lib.hid hF8
    clear hF8 hk8 HPn HB7 F7' ck G7
    have hqe := HB8.out.bd.c 0 _ rfl
    go_upto_region 12 with fail
    refine wp_region_held (S := fun W => Fl W bB 64 V2 ∧ W.cell? ⟨b, 0, none⟩ = some (.pointer (some ⟨q, 0, none⟩))) (by kernel_rfl) ?_
    change wpAnyH _ _ _ _ _ _ _ _ (World.drew _)
    have hS0 : (fun W => Fl W bB 64 V2 ∧ W.cell? ⟨b, 0, none⟩ = some (.pointer (some ⟨q, 0, none⟩))) w8.drew := ⟨F8.out.below (Below.refl _ _).drew F8.out.lt, (HB8.out.keep (Below.refl _ _).drew).bd.c 0 _ rfl⟩
    have HB9 := Lib.hid (HB8.out.keep (Below.refl _ _).drew)
    obtain ⟨w9, hw9⟩ : ∃ x, World.drew w8 = x := ⟨_, rfl⟩
    rw [hw9] at hS0 HB9 ⊢
    clear hw9
    refine wpAnyH_take (i := 0) (v := ?_) rfl (by kernel_rfl) (by kernel_rfl) (by kernel_rfl) (fun _ _ _ h => h) (Or.inl ⟨by rfl, ?_⟩) hS0 ?_
    rotate_left 1
    · intro W hW
      go_simp
      try with_reducible rfl
    simp only [Act.put, List.getElem_toArray, List.getElem_cons_zero, List.getElem_cons_succ, List.setIfInBounds_toArray, List.set_cons_zero, List.set_cons_succ]
    refine wpAnyH_take (i := 1) (v := ?_) rfl (by kernel_rfl) (by kernel_rfl) (by kernel_rfl) (fun _ _ _ h => h) (Or.inl ⟨by rfl, ?_⟩) hS0 ?_
    rotate_left 1
    · intro W hW
      go_simp
      try with_reducible rfl
    simp only [Act.put, List.getElem_toArray, List.getElem_cons_zero, List.getElem_cons_succ, List.setIfInBounds_toArray, List.set_cons_zero, List.set_cons_succ]
    refine wpAnyH_take (i := 2) (v := ?_) rfl (by kernel_rfl) (by kernel_rfl) (by kernel_rfl) (fun _ _ _ h => h) (Or.inl ⟨by rfl, ?_⟩) hS0 ?_
    rotate_left 1
    · intro W hW
      go_simp
      try with_reducible rfl
    simp only [Act.put, List.getElem_toArray, List.getElem_cons_zero, List.getElem_cons_succ, List.setIfInBounds_toArray, List.set_cons_zero, List.set_cons_succ]
    refine wpAnyH_take (i := 3) (v := ?_) rfl (by kernel_rfl) (by kernel_rfl) (by kernel_rfl) (fun _ _ _ h => h) (Or.inl ⟨by rfl, ?_⟩) hS0 ?_
    rotate_left 1
    · intro W hW
      have c0 := hW.2
      go_simp
      try with_reducible rfl
    simp only [Act.put, List.getElem_toArray, List.getElem_cons_zero, List.getElem_cons_succ, List.setIfInBounds_toArray, List.set_cons_zero, List.set_cons_succ]
    refine wpAnyH_take (i := 4) (v := ?_) rfl (by kernel_rfl) (by kernel_rfl) (by kernel_rfl) (fun _ _ _ h => h) (Or.inl ⟨by rfl, ?_⟩) hS0 ?_
    rotate_left 1
    · intro W hW
      go_simp
      try with_reducible rfl
    simp only [Act.put, List.getElem_toArray, List.getElem_cons_zero, List.getElem_cons_succ, List.setIfInBounds_toArray, List.set_cons_zero, List.set_cons_succ]
    refine wpAnyH_take (i := 5) (v := .agg (byts 64 V2).toArray) rfl (by kernel_rfl) (by kernel_rfl) (by kernel_rfl) (fun _ _ _ h => h) ?_ hS0 ?_
    · exact yieldsIf_load_mid (by rfl) 116 (.tmp 10) rfl bB 0 rfl (byts 64 V2) (.array 64 5) (fun W hW => hW.1.range0) Tryz.arr36 rfl (size36 _)
    simp only [Act.put, List.getElem_toArray, List.getElem_cons_zero, List.getElem_cons_succ, List.setIfInBounds_toArray, List.set_cons_zero, List.set_cons_succ]
    refine wpAnyH_ready (rs := [6]) (by kernel_rfl) (by simp) (AllReadyH.cons rfl (fun KK hKK => ?_) AllReadyH.nil)
    go_simp
    refine (HPu.out w9 HB9.out.gr).mono ?_
    rintro e w10 ⟨rfl, hG, hkk⟩
    have HB10 := Lib.hid (HB9.out.call hG hkk)
    replace hS0 : (fun W => Fl W bB 64 V2 ∧ W.cell? ⟨b, 0, none⟩ = some (.pointer (some ⟨q, 0, none⟩))) w10 := ⟨hS0.1.kf hkk (fun ha => by have := HB9.out.nin hB0; simp only [List.mem_cons, List.not_mem_nil, or_false, not_or] at this ha; omega), HB10.out.bd.c 0 _ rfl⟩
    clear hG hkk
    refine hKK _ _ hS0 ?_
    intro _
    clear hKK KK
    try simp only [Act.put, List.getElem_toArray, List.getElem_cons_zero, List.getElem_cons_succ, List.setIfInBounds_toArray, List.set_cons_zero, List.set_cons_succ]
    refine wpAnyH_take (i := 7) (v := ?_) rfl (by kernel_rfl) (by kernel_rfl) (by kernel_rfl) (fun _ _ _ h => h) (Or.inl ⟨by rfl, ?_⟩) hS0 ?_
    rotate_left 1
    · intro W hW
      go_simp
      try with_reducible rfl
    simp only [Act.put, List.getElem_toArray, List.getElem_cons_zero, List.getElem_cons_succ, List.setIfInBounds_toArray, List.set_cons_zero, List.set_cons_succ]
    refine wpAnyH_done (by kernel_rfl) ?_ _
    clear hS0
    go_wp2_with fail
    go_ret
    exact ⟨rfl, HB10.out⟩
theorem wy_three (c : Nat) (h : 38 ≤ c ∧ c < 1062) : wy1 c = 8 ∧ wy2 c = (c - 38) / 32 + 1 ∧ wy3 c = (c - 38) % 32 + 1 ∧ parS c = 2002 + (c - 38) / 32 ∧ idxS c = (c - 38) % 32 := by
  unfold wy1 wy2 wy3 parS idxS
  rw [if_neg (by omega), if_neg (by omega), if_neg (by omega), if_neg (by omega), if_pos (by omega), if_pos h, if_neg (by omega), if_pos (by omega), if_neg (by omega), if_pos (by omega)]
  exact ⟨rfl, rfl, rfl, rfl, rfl⟩
theorem wy_two (c : Nat) (hc : okS c = true) (hr : isR c = false) (h3 : ¬ (38 ≤ c ∧ c < 1062)) : wy1 c = wy1 (parS c) ∧ wy2 c = idxS c + 1 ∧ wy3 c = 0 ∧ isR (parS c) = true := by
  have hn := (isR_no c).1 hr
  have hoo := (okS_iff c).1 hc
  refine ⟨?_, ?_, by unfold wy3; rw [if_neg h3], (isR_iff _).2 ?_⟩
  · unfold wy1 parS
    by_cases e : c < 38
    · rw [if_neg (by omega), if_pos (.inl e), if_pos e]
      rfl
    · rw [if_neg (by omega), if_neg (by omega), if_neg e, if_neg (show ¬ c < 1062 by omega)]
      rfl
  · unfold wy2 idxS
    rw [if_neg hn]
    split
    · omega
    · rw [if_neg (by omega), if_neg (by omega)]
  · unfold parS
    split
    · omega
    · rw [if_neg (by omega)]
      omega
theorem wy_par3 (c : Nat) (h : 38 ≤ c ∧ c < 1062) : wyS (parS c) = .agg (wyc 8 (((c - 38) / 32 + 1 : Nat) : Int) 0).toArray := by
  have e := (wy_three c h).2.2.2.1
  unfold wyS
  rw [e]
  have e1 : wy1 (2002 + (c - 38) / 32) = 8 := by unfold wy1; rw [if_neg (by omega), if_neg (by omega)]
  have e2 : wy2 (2002 + (c - 38) / 32) = (c - 38) / 32 + 1 := by unfold wy2; rw [if_neg (by omega), if_neg (by omega), if_neg (by omega)]; omega
  have e3 : wy3 (2002 + (c - 38) / 32) = 0 := by unfold wy3; rw [if_neg (by omega)]
  rw [e1, e2, e3]
  rfl
/-- a slot whose block of pointers is there is pointed to -/
theorem point_in (b q p t m d gg lab B0 P0 M DA NB N K : Nat) (g : Cf.Ge) (Y : Nat → Nat → Int) (f : Nat → Int) (S : Nat → Bool) (B : Nat → Nat) (hF : Fi DA NB Y f S B) (c x : Nat) (hc : okS c = true) (hr : isR c = false) (hp : S (parS c) = true) (hx : x < 65536) (hT : Has ln (DA + (B (parS c) - 1)))
    (hK : K < 600000000) (hg : GG g B0 P0 M DA NB N) (w : World) (h : Bo w w b q p t m d gg lab g B0 NB N ln Y K f) :
    Calls Tryz.prog 164 #[.pointer (some ⟨b, 0, none⟩), wyS c, .int .u16 x] w fun e w' => e = .returned (.int .i64 0) ∧ Bo w w' b q p t m d gg lab g B0 NB N ln (addY DA Y B c x) (K + 3) f := by
  have hrg := hF.rng _ hp
  have hpo := (parS_ok c hc hr).1
  have hAt := fun W hW => at_slot (ln := ln) b q p t m d gg lab B0 P0 M DA NB N K g Y f S B hF (parS c) hpo hK hg W hW
  have hv : vS S B (parS c) = B (parS c) := if_pos hp
  rw [hv] at hAt
  have hY : addY DA Y B c x = vput (DA + (B (parS c) - 1)) (putN (Y (DA + (B (parS c) - 1))) (2 * idxS c) x) Y := by
    unfold addY
    rw [if_neg (by rw [hr]; decide)]
  rw [hY]
  have hi := idxS_lt c hc hr
  by_cases h3 : 38 ≤ c ∧ c < 1062
  · obtain ⟨e1, e2, e3, e4, e5⟩ := wy_three c h3
    have hpw := wy_par3 c h3
    rw [hpw] at hAt
    unfold wyS
    rw [e1, e2, e3]
    refine point_gen (ln := ln) b q p t m d gg lab B0 P0 M DA NB N K g Y f 8 (((c - 38) / 32 + 1 : Nat) : Int) (((c - 38) % 32 + 1 : Nat) : Int) _ 2 (idxS c) x (B (parS c)) (.inr rfl) hi hx hrg.1 hrg.2 hT
      (fun W => steps3 8 _ _ (by decide) (by omega) (by omega) W) (fun W => up3 8 _ _ (by decide) (by omega) (by omega) W) hAt ?_ hK hg w h
    rw [e5]
    rfl
  · obtain ⟨e1, e2, e3, hpr⟩ := wy_two c hc hr h3
    have hwr := wy_root (parS c) hpr
    have hpw : wyS (parS c) = .agg (wyc (wy1 c) 0 0).toArray := by
      unfold wyS
      rw [hwr.2.1, hwr.2.2, e1]
      rfl
    rw [hpw] at hAt
    have h1 : 1 ≤ wy1 c := by rw [e1]; exact hwr.1
    unfold wyS
    rw [e2, e3]
    refine point_gen (ln := ln) b q p t m d gg lab B0 P0 M DA NB N K g Y f (wy1 c) ((idxS c + 1 : Nat) : Int) 0 _ 1 (idxS c) x (B (parS c)) (.inl rfl) hi hx hrg.1 hrg.2 hT
      (fun W => steps2 _ _ (by omega) (by omega) W) (fun W => up2 _ _ (by omega) (by omega) W) hAt ?_ hK hg w h
    rfl
end Go.Proofs.YteaoabppppbkoaaGreatDoor

namespace Go.Proofs.YteaoabppppbkoaaGreatDoor
set_option linter.unusedSimpArgs false
set_option linter.unusedVariables false
open Go.RowKit Go.Maps

variable {ln : Lm}
theorem wpList_bld2 {P : Program} {ops : Array Oper} {rest : List Oper} {op : Oper} {a : Act} {w : World} {Q : Exit → Act → World → Prop} (hgd : op.guard = none) (ty : TypeId) (i0 i1 : Nat) (x0 x1 : Operand) (ho : op.op = .build ty #[(i0, x0), (i1, x1)]) (v0 v1 : Value) (h0 : a.eval x0 = v0) (h1 : a.eval x1 = v1) (v : Value)
    (hr : (Instr.build ty #[(i0, v0), (i1, v1)]).run P w = .ok v w) (h : wpList P ops Q rest (a.put op.dst v) w) : wpList P ops Q (op :: rest) a w := by
  refine wpList_plain hgd fun K' hK' => ?_
  unfold Oper.wp
  simp [execOp, ho, h0, h1, hr, Result.andThen]
  exact hK' _ _ h
/-! ### Make -/
def kOk (k : Int) : Bool := decide (k = 1) || decide (k = 2) || decide (k = 3) || decide (k = 5)
theorem begins_any (k : Int) (w : World) : Calls Tryz.prog 79 #[.int .u8 k] w fun e w' => e = .returned (.bool (kOk k)) ∧ w' = w := by
  by_cases h1 : k = 1
  · subst h1
    go_enter Tryz.func79, Tryz.ntmps79
    go_wp2
    go_ret
    exact ⟨rfl, rfl⟩
  · by_cases h2 : k = 2
    · subst h2
      go_enter Tryz.func79, Tryz.ntmps79
      go_wp2
      go_ret
      exact ⟨rfl, rfl⟩
    · by_cases h3 : k = 3
      · subst h3
        go_enter Tryz.func79, Tryz.ntmps79
        go_wp2
        go_ret
        exact ⟨rfl, rfl⟩
      · by_cases h5 : k = 5
        · subst h5
          go_enter Tryz.func79, Tryz.ntmps79
          go_wp2
          go_ret
          exact ⟨rfl, rfl⟩
        · have hk : kOk k = false := by simp [kOk, h1, h2, h3, h5]
          rw [hk]
          clear hk
          go_enter Tryz.func79, Tryz.ntmps79
          go_wp2
          go_ret
          exact ⟨rfl, rfl⟩
/-- a node as Make makes it -/
def mkN (k : Int) : Nat → Int := fun i => if i = 0 then k else if i = 1 then 1 else 0
theorem Tryz.build27_mk (k : Int) (w : World) : (Instr.build 77 #[(0, .int .u8 k), (1, .int .u8 1)]).run Tryz.prog w = .ok (.agg (ndc (mkN k)).toArray) w := by kernel_rfl
theorem mkN_ok (k : Int) (k0 : 0 ≤ k) (k1 : k < 256) : NdOk (mkN k) := ⟨⟨k0, k1⟩, (by show (0 : Int) ≤ 1 ∧ (1 : Int) < 256; decide), (by show (0 : Int) ≤ 0 ∧ (0 : Int) < 65536; decide), (by show (0 : Int) ≤ 0 ∧ (0 : Int) < 4294967296; decide), fun i h2 h3 => by
  unfold mkN
  rw [if_neg (by omega), if_neg (by omega)]
  exact ⟨Int.le_refl _, by decide⟩⟩
theorem mkN_mbl (k : Int) (h : kOk k = true) : mbl (mkN k 0) (mkN k 3) = true := by
  show mbl k 0 = true
  simp only [kOk, Bool.or_eq_true, decide_eq_true_eq] at h
  rcases h with ((rfl | rfl) | rfl) | rfl <;> decide
set_option maxHeartbeats 20000000 in
set_option maxRecDepth 100000 in
theorem gmake_in (q p t m d gg lab B0 P0 M DA NB N K : Nat) (g : Cf.Ge) (Y : Nat → Nat → Int) (V : Nat → Nat → Int) (k : Int) (kk0 : 0 ≤ k) (kk1 : k < 256) (hk : kOk k = true) (n0 : Nat) (k1 : 1 ≤ n0) (k2 : n0 ≤ M) (hz : V n0 0 = 0) (hnz : ∀ j, 1 ≤ j → j < n0 → V j 0 ≠ 0) (x : Int) (hx : IntKind.u16.wrap (V n0 2 + 1) = x) (x0 : 0 ≤ x) (x1 : x < 65536) (hT : Has ln (P0 + (n0 - 1) / 2)) (hK : K < 500000000) (hI : Tab P0 M Y V) (hg : GG g B0 P0 M DA NB N) (w : World) (h : Gr w q p t m d gg lab g B0 NB N ln Y K) :
    Calls Tryz.prog 42 #[.pointer (some ⟨q, 0, none⟩), .int .u8 k] w fun e w' => e = .returned (.tuple #[.int .i64 n0, .int .i64 0]) ∧ Gr w' q p t m d gg lab g B0 NB N ln (tabW P0 n0 (setG (mkN k) x) Y) (K + 200) ∧ Kf w w' [t, m, d, gg] := by
  have HBg := Lib.hid (begins_any k w)
  rw [hk] at HBg
  have HAd := Lib.hid (fun W hW => gadd_in (ln := ln) q p t m d gg lab B0 P0 M DA NB N K g Y V (mkN k) (mkN_ok k kk0 kk1) n0 k1 k2 hz hnz x hx x0 x1 (show (0 : Int) < 1 by decide) (mkN_mbl k hk) hT hK hI hg W hW)
  obtain ⟨Z, hZ⟩ : ∃ Z, tabW P0 n0 (setG (mkN k) x) Y = Z := ⟨_, rfl⟩
  rw [hZ] at HAd ⊢
  clear hZ hz hx
  have HG := Lib.hid h
  clear hnz hk hI hg h
  go_enter Tryz.func42, Tryz.ntmps42
  go_wp2_with fail
  refine HBg.out.mono ?_
  rintro e w' ⟨rfl, hww⟩
  rw [hww]
  clear hww HBg
  go_wp2_with (first | (refine wpList_bld2 rfl 77 0 1 (.tmp 12) _ rfl (.int .u8 k) (.int .u8 1) rfl rfl (.agg (ndc (mkN k)).toArray) (Tryz.build27_mk k _) ?_))
  refine (HAd.out w HG.out).mono ?_
  rintro e w5 ⟨rfl, hG, hk'⟩
  have HG5 := Lib.hid hG
  have HK5 := Lib.hid hk'
  clear hG hk' HAd HG
  go_wp2_with fail
  exact bodyPost_ret (v := .tuple #[.int .i64 n0, .int .i64 0]) (by simp [results, Tryz.results42, go_sem]) rfl ⟨rfl, HG5.out, HK5.out⟩
/-! ### how many nodes aren't free -/
/-! ### a disk as an image -/
/-- a slice of N blocks in block b, those behind the log as Y says -/
def Img (w : World) (b N : Nat) (Y : Nat → Nat → Int) : Prop := ∃ F, Fl w b (N * 64) F ∧ ∀ x, 32 ≤ x → x < N → ∀ j, j < 64 → F (x * 64 + j) = Y x j
theorem Img.kf {w w' : World} {b N : Nat} {Y : Nat → Nat → Int} {L : List Nat} (h : Img w b N Y) (hk : Kf w w' L) (hb : b ∉ L) : Img w' b N Y := by
  obtain ⟨F, h1, h2⟩ := h
  exact ⟨F, h1.kf hk hb, h2⟩
theorem Img.lt {w : World} {b N : Nat} {Y : Nat → Nat → Int} (h : Img w b N Y) : b < w.heap.size := by
  obtain ⟨F, h1, h2⟩ := h
  exact h1.lt
end Go.Proofs.YteaoabppppbkoaaGreatDoor

namespace Go.Proofs.YteaoabppppbkoaaGreatDoor
set_option linter.unusedSimpArgs false
set_option linter.unusedVariables false
open Go.RowKit Go.Maps

variable {ln : Lm}
theorem wpList_bld3 {P : Program} {ops : Array Oper} {rest : List Oper} {op : Oper} {a : Act} {w : World} {Q : Exit → Act → World → Prop} (hgd : op.guard = none) (ty : TypeId) (i0 i1 i2 : Nat) (x0 x1 x2 : Operand) (ho : op.op = .build ty #[(i0, x0), (i1, x1), (i2, x2)]) (v0 v1 v2 : Value) (h0 : a.eval x0 = v0) (h1 : a.eval x1 = v1) (h2 : a.eval x2 = v2) (v : Value)
    (hr : (Instr.build ty #[(i0, v0), (i1, v1), (i2, v2)]).run P w = .ok v w) (h : wpList P ops Q rest (a.put op.dst v) w) : wpList P ops Q (op :: rest) a w := by
  refine wpList_plain hgd fun K' hK' => ?_
  unfold Oper.wp
  simp [execOp, ho, h0, h1, h2, hr, Result.andThen]
  exact hK' _ _ h
/-! ### Fresh -/
/-- a group's own nodes: a directory, two files -/
def own (k : Int) : Nat → Int := fun i => if i = 0 then k else if i = 1 then 1 else if i = 2 then 1 else 0
def kd (n : Nat) : Int := if n = 1 then 2 else 1
def VF (j : Nat) : Nat → Nat → Int := fun n => if 1 ≤ n ∧ n ≤ j then own (kd n) else zpt
theorem kd_in (n : Nat) : kd n = 1 ∨ kd n = 2 := by unfold kd; split <;> simp
theorem own_ok (n : Nat) : NdOk (own (kd n)) := by
  rcases kd_in n with h | h <;> rw [h] <;> exact ⟨by decide, by decide, by decide, by decide, fun i h2 h3 => by unfold own; rw [if_neg (by omega), if_neg (by omega), if_neg (by omega)]; exact ⟨Int.le_refl _, by decide⟩⟩
theorem own_code (n : Nat) : codeN (own (kd n)) = 0 := by
  rcases kd_in n with h | h <;> rw [h] <;> decide
theorem VF_zero : VF 0 = fun _ => zpt := by
  funext n
  unfold VF
  rw [if_neg (by omega)]
theorem VF_put (j : Nat) : vput (j + 1) (own (kd (j + 1))) (VF j) = VF (j + 1) := by
  funext n
  unfold vput VF
  by_cases c : j + 1 = n
  · subst c
    rw [if_pos rfl, if_pos ⟨by omega, by omega⟩]
  · rw [if_neg c]
    by_cases c2 : 1 ≤ n ∧ n ≤ j
    · rw [if_pos c2, if_pos ⟨c2.1, by omega⟩]
    · rw [if_neg c2, if_neg (by omega)]
theorem Tryz.build27_own (k : Int) (w : World) : (Instr.build 77 #[(0, .int .u8 k), (1, .int .u8 1), (2, .int .u16 1)]).run Tryz.prog w = .ok (.agg (ndc (own k)).toArray) w := by kernel_rfl
/-- a group is fresh: its three nodes, no block taken -/
def FreshG (g : Cf.Ge) (N : Nat) (Y : Nat → Nat → Int) : Prop := ∀ B0 P0 M DA NB : Nat, GG g B0 P0 M DA NB N → Tab P0 M Y (VF 3) ∧ ∀ j, j < 512 → bt Y B0 j = false
/-- the first k groups are fresh, from the next one on all is nought -/
structure FreshK (R : List Cf.Rg) (N k : Nat) (Y : Nat → Nat → Int) : Prop where
  done : ∀ (i : Nat) (hi : i < R.length), i < k → FreshG ((Cf.layF R).1[i]'(by rw [Cf.lay_len]; exact hi)) N Y
  rest : ∀ x : Nat, (Cf.layF (R.take k)).2 ≤ x → Y x = fun _ => 0
theorem FreshK.zero (R : List Cf.Rg) (N : Nat) : FreshK R N 0 (fun _ _ => 0) := ⟨fun i hi h => absurd h (by omega), fun _ _ => rfl⟩
/-- writing its nodes makes the next group fresh -/
theorem FreshK.next {R : List Cf.Rg} {N k : Nat} {Y Y' : Nat → Nat → Int} (h : FreshK R N k Y) (hs : ∀ r ∈ R, Cf.Small r) (h64 : R.length ≤ 64) (hN : (Cf.layF R).2 = N) (hk : k < R.length) (B0 P0 M DA NB : Nat)
    (hg : GG ((Cf.layF R).1[k]'(by rw [Cf.lay_len]; exact hk)) B0 P0 M DA NB N) (hT : Tab P0 M Y' (VF 3)) (hY : ∀ x : Nat, x < P0 ∨ P0 + 2 ≤ x → Y' x = Y x) : FreshK R N (k + 1) Y' := by
  have h1 := Cf.lay_nth R k hk
  have h2 := Cf.lay_fin R k hk
  obtain ⟨g, hgk⟩ : ∃ g, (Cf.layF R).1[k]'(by rw [Cf.lay_len]; exact hk) = g := ⟨_, rfl⟩
  rw [hgk] at h1 h2 hg
  have hb : (Cf.layF (R.take k)).2 = B0 := by
    rw [← hg.base, h1]
    rfl
  have hf : (Cf.layF (R.take (k + 1))).2 = ((DA + NB : Nat) : Int) := by
    rw [← h2]
    have := hg.da
    have := hg.bl
    unfold Cf.Ge.fin
    omega
  have hbp := hg.bp
  have hpd := hg.pd
  have hm4 := hg.m4
  refine ⟨fun i hi hik => ?_, fun x hx => ?_⟩
  · by_cases e : i = k
    · subst e
      rw [hgk]
      intro B1 P1 M1 DA1 NB1 hg1
      have e1 : B1 = B0 := by have := hg.base; have := hg1.base; omega
      have e2 : P1 = P0 := by have := hg.tab; have := hg1.tab; omega
      have e3 : M1 = M := by have := hg.nd; have := hg1.nd; omega
      subst e1 e2 e3
      refine ⟨hT, fun j hj => ?_⟩
      unfold bt
      rw [hY _ (by omega), h.rest _ (by rw [hb]; omega)]
      exact bitOf_zero _
    · intro B1 P1 M1 DA1 NB1 hg1
      have hlt : i < k := by omega
      obtain ⟨g1, g2⟩ := h.done i hi hlt B1 P1 M1 DA1 NB1 hg1
      have q1 := Cf.lay_fin R i hi
      have q2 := layF_le R hs (i + 1) k (by omega) (by omega)
      have q3 : ((Cf.layF R).1[i]'(by rw [Cf.lay_len]; exact hi)).fin = ((DA1 + NB1 : Nat) : Int) := by
        have := hg1.da
        have := hg1.bl
        unfold Cf.Ge.fin
        omega
      have q4 : DA1 + NB1 ≤ B0 := by rw [← q1, q3, hb] at q2; omega
      have p1 := hg1.bp
      have p2 := hg1.pd
      have p4 := hg1.n4
      refine ⟨g1.congr fun x hx1 hx2 => hY x (by omega), fun j hj => ?_⟩
      have := g2 j hj
      unfold bt at this ⊢
      rwa [hY _ (by omega)]
  · rw [hf] at hx
    rw [hY x (by omega), h.rest x (by rw [hb]; omega)]
end Go.Proofs.YteaoabppppbkoaaGreatDoor

namespace Go.Proofs.YteaoabppppbkoaaGreatDoor
set_option linter.unusedSimpArgs false
set_option linter.unusedVariables false
open Go.RowKit Go.Maps

theorem VF_cell (j : Nat) (hj : j < 3) : ([.int .u8 2, .int .u8 1, .int .u8 1] : List Value)[j]? = some (.int .u8 (kd (j + 1))) := by
  have : j = 0 ∨ j = 1 ∨ j = 2 := by omega
  rcases this with rfl | rfl | rfl <;> rfl
set_option maxHeartbeats 40000000 in
set_option maxRecDepth 200000 in
theorem fresh_any (n : Nat) (vr vm vg : Value) (R : List Cf.Rg) (MS : List (Int × Int)) (hs : ∀ r ∈ R, Cf.Small r) (h0 : 0 < R.length) (h64 : R.length ≤ 64) (N : Nat) (hN : (Cf.layF R).2 = N) (hN0 : 32 ≤ N) (hN1 : N ≤ 65536) (w : World) (h : Cf.CF n w vr vm vg R MS) :
    Calls Tryz.prog 9 #[.pointer (some ⟨n + 3, 0, none⟩)] w fun e w' => ∃ t m d g l Y, e = .returned (.tuple #[.pointer (some ⟨d, 0, none⟩), .pointer (some ⟨l, 0, none⟩), .pointer (some ⟨t, 0, none⟩)]) ∧ From w.heap.size t m d g ∧ w.heap.size ≤ l ∧ l ∉ [t, m, d, g] ∧ Lg w' l d 1 ∧ Rd w' t m d g N ⟨[], Y⟩ Y 7000 ∧ FreshK R N R.length Y ∧ Below w.heap.size w w' := by
  obtain ⟨d53, hu53, hd53⟩ := Tryz.desc53
  have HU53 := Lib.hid hu53
  have HD53 := Lib.hid hd53
  have HB := Lib.hid (begun_any n vr vm vg R MS hs h0 h64 N hN hN0 hN1 w h)
  have HCF := Lib.hid h
  have HSM := Lib.hid hs
  have HN := Lib.hid hN
  have hR0 : (0 : Int) < R.length := by omega
  have hR64 : (R.length : Int) ≤ 64 := by omega
  clear h hs hu53 hd53 hN
  go_enter Tryz.func9, Tryz.ntmps9
  go_wp2_with fail
  refine HB.out.mono ?_
  rintro e w1 ⟨t0, m0, dd, gg, l, rfl, hFr, hll, hln, hLg, hRd, hb⟩
  have HFr := Lib.hid hFr
  have HLn := Lib.hid hln
  have HL1 := Lib.hid hLg
  have HR1 := Lib.hid hRd
  have HB1 := Lib.hid hb
  have HNl := Lib.hid (show l ∉ [dd, gg] from fun h => hln (by simp only [List.mem_cons, List.not_mem_nil, or_false] at h ⊢; omega))
  have hdd : w.heap.size ≤ dd := hFr.2.2.1
  have hgg : w.heap.size ≤ gg := hFr.2.2.2
  have hl1 := hLg.lt
  have hld : l ≠ dd := fun h => hln (by simp [h])
  have hlg : l ≠ gg := fun h => hln (by simp [h])
  have HCFx : Hid (∀ W, Kf w1 W [dd, gg] → Cf.CF n W vr vm vg R MS) := fun W hk => HCF.out.below (HB1.out.trans (hk.bel hdd hgg HB1.out.size))
  have HBx : Hid (∀ W, Kf w1 W [dd, gg] → Below w.heap.size w W) := fun W hk => HB1.out.trans (hk.bel hdd hgg HB1.out.size)
  clear hFr hln hLg hRd hb HB
  go_wp2_with fail
  refine (Cf.clen_any n vr vm vg R MS w1 (HCFx.out w1 (Kf.refl _ _)) h64).mono ?_
  rintro e wz ⟨rfl, hwz⟩
  rw [hwz]
  clear hwz
  go_wp2_with fail
  go_loopw [22] (fun y wr => ∃ k : Nat, k ≤ R.length ∧ y = .int .i64 k ∧ (∃ t' m' Y, Rd wr t' m' dd gg N ⟨[], Y⟩ Y (1 + 100 * k) ∧ FreshK R N k Y) ∧ Kf w1 wr [dd, gg]) (fun y _ => R.length - (Go.RowKit.intOf y).toNat)
  case atStart => exact ⟨0, Nat.zero_le _, rfl, ⟨t0, m0, _, HR1.out, FreshK.zero R N⟩, Kf.refl _ _⟩
  case round =>
    obtain ⟨k, hk, rfl, ⟨ta, ma, Y, hRd, hFk⟩, hkf⟩ := hrel
    obtain ⟨wX, rfl⟩ : ∃ x, x = wr := ⟨wr, rfl⟩
    have HRd := Lib.hid hRd
    have HFk := Lib.hid hFk
    have HKf := Lib.hid hkf
    have hsz := hkf.size
    clear hRd hFk hkf HR1
    have HBeg := Lib.hid (begin7 l ta ma dd gg (1 + 100 * k) Y wX HRd.out (HL1.out.kf HKf.out HNl.out))
    by_cases hlt : k < R.length
    · obtain ⟨g, hgi⟩ : ∃ g, (Cf.layF R).1[k]'(by rw [Cf.lay_len]; exact hlt) = g := ⟨_, rfl⟩
      obtain ⟨B0, P0, M, DA, NB, hg, -, -⟩ := geo_gg R HSM.out h64 N HN.out k hlt g hgi
      have HG := Lib.hid hg
      have HGI := Lib.hid hgi
      go_wp2_with fail
      refine HBeg.out.mono ?_
      rintro e v1 ⟨t', m', rfl, ht', hm', hRd', hb⟩
      have HRd1 := Lib.hid hRd'
      have HK1 := Lib.hid (HKf.out.more hb)
      have hle1 : w1.heap.size ≤ t' := Nat.le_trans hsz ht'
      have hle2 : w1.heap.size ≤ m' := Nat.le_trans hsz hm'
      have HGe := Lib.hid (Cf.geo_in n vr vm vg R MS k hlt v1 (HCFx.out v1 HK1.out))
      rw [hgi] at HGe
      have hval : g.val = .agg g.cells.toArray := rfl
      rw [hval] at HGe
      have HGl := Lib.hid (show g.cells.length = 6 from rfl)
      have HGO := Lib.hid (geo_one g)
      have HS53 := Lib.hid (size53 g)
      have HW : Hid (∀ (j : Nat), j < 3 → ∀ (Y' : Nat → Nat → Int) (W : World), Rd W t' m' dd gg N ⟨[P0, P0 + 1], Y⟩ Y' (1 + 100 * k + j) → Calls Tryz.prog 55 #[.pointer (some ⟨t', 0, none⟩), .agg g.cells.toArray, .int .i64 ((j : Int) + 1), .agg (ndc (own (kd (j + 1)))).toArray] W fun e w' => e = .returned (.int .i64 0) ∧ Rd w' t' m' dd gg N ⟨[P0, P0 + 1], Y⟩ (tabW P0 (j + 1) (own (kd (j + 1))) Y') (1 + 100 * k + j + 1) ∧ Kf W w' [t', m', dd, gg]) := fun j hj Y' W hW => by
        have hNN := hW.hN
        obtain ⟨g1, g2, g3, g4, g5, g6, g7, g8, g9, g10, g11, g12, g13, g14⟩ := HG.out
        have := write_any6 (ln := ⟨[P0, P0 + 1], Y⟩) g (j + 1) t' m' dd gg N (1 + 100 * k + j) P0 M Y' (own (kd (j + 1))) (own_ok _) (own_code _) (by omega) (by omega) g6 g2 (by omega) (by omega) g3 (by omega) (by omega) (by omega) (by omega) ⟨by simp only [List.mem_cons, List.not_mem_nil, or_false]; omega, by simp⟩ (by omega) W hW
        rwa [show ((j + 1 : Nat) : Int) = (j : Int) + 1 by omega] at this
      obtain ⟨gs, hgs⟩ : ∃ gs, g.cells = gs := ⟨_, rfl⟩
      rw [hgs] at HGe HGl HGO HS53 HW
      clear hval hgs hRd' hb HBeg HRd ht' hm' hgi hg
      go_wp2_with fail
      refine HGe.out.mono ?_
      rintro e v2 ⟨rfl, hb⟩
      have HR2 := Lib.hid (HRd1.out.keep hb)
      have HK2 := Lib.hid (HK1.out.more hb)
      clear hb HRd1 HK1 HGe
      go_upto_region 7 with (first | (refine wpList_alloc_list (w := v2) rfl 130 rfl _ Tryz.zero53 ?_; intro v3 F3 hb3 hz3; simp only [Act.put, List.getElem_toArray, List.getElem_cons_zero, List.getElem_cons_succ, List.setIfInBounds_toArray, List.set_cons_zero, List.set_cons_succ]; refine wpList_store_list rfl 130 (.tmp 10) (.tmp 31) rfl v2.heap.size _ gs rfl rfl F3.out (by rw [HGl.out]; rfl) HS53.out HGO.out ?_; intro v4 F4 HP4; have HQ3 := Lib.hid hb3; clear hb3 hz3 F3))
      obtain ⟨bG, hbG⟩ : ∃ b, v2.heap.size = b := ⟨_, rfl⟩
      have HK4 := Lib.hid ((HK2.out.more HQ3.out).new HP4.out HK2.out.size)
      have HR4 := Lib.hid ((HR2.out.keep HQ3.out).kp HP4.out (HR2.out.notin (Nat.le_refl _)) (HR2.out.notin (Nat.le_refl _)))
      have HNG := Lib.hid (HR2.out.notin (Nat.le_of_eq hbG))
      have hGlt := F4.out.lt
      rw [hbG] at F4 hGlt
      try rw [hbG]
      clear hbG HQ3 HP4 HK2 HR2
      go_wp2_with fail
      have F5 := Lib.hid (Vl.new v4 [.int .u8 2, .int .u8 1, .int .u8 1] 73)
      have hb5 : Below v4.heap.size v4 (v4.alloc (.cells [.int .u8 2, .int .u8 1, .int .u8 1].toArray 73)) := (Below.refl _ _).alloc (Nat.le_refl _) _
      have HR5 := Lib.hid (HR4.out.keep hb5)
      have HK5 := Lib.hid (HK4.out.more hb5)
      have FG5 := Lib.hid (F4.out.keep hb5)
      have HNK := Lib.hid (HR4.out.notin (p := v4.heap.size) (Nat.le_refl _))
      obtain ⟨v5, hv5⟩ : ∃ x, v4.alloc (.cells [.int .u8 2, .int .u8 1, .int .u8 1].toArray 73) = x := ⟨_, rfl⟩
      obtain ⟨bK, hbK⟩ : ∃ b, v4.heap.size = b := ⟨_, rfl⟩
      have hv5' : v4.alloc (.cells #[.int .u8 2, .int .u8 1, .int .u8 1] 73) = v5 := hv5
      rw [hv5] at F5 HR5 HK5 FG5
      rw [hbK] at F5 HNK
      try rw [hv5']
      try rw [hbK]
      have hKlt := F5.out.lt
      clear hv5 hv5' hb5 hbK HR4 HK4 F4
      go_loopw [35] (fun y wr => ∃ j : Nat, j ≤ 3 ∧ y = .int .i64 j ∧ (∃ Y', Rd wr t' m' dd gg N ⟨[P0, P0 + 1], Y⟩ Y' (1 + 100 * k + j) ∧ Tab P0 M Y' (VF j) ∧ ∀ x : Nat, x < P0 ∨ P0 + 2 ≤ x → Y' x = Y x) ∧ Kf v5 wr [t', m', dd, gg]) (fun y _ => 3 - (Go.RowKit.intOf y).toNat)
      case atStart =>
        refine ⟨0, by decide, rfl, ⟨Y, HR5.out.wide (Lm.nil_le _ _), ?_, fun _ _ => rfl⟩, Kf.refl _ _⟩
        rw [VF_zero]
        refine (Tab.new P0 M).congr fun x hx1 hx2 => ?_
        have h1 := Cf.lay_nth R k hlt
        have h2 := HG.out.base
        have h3 := HG.out.bp
        refine HFk.out.rest x ?_
        rw [HGI.out] at h1
        have : (Cf.layF (R.take k)).2 = B0 := by rw [← h2, h1]; rfl
        omega
      case round =>
        obtain ⟨j, hj, rfl, ⟨Y', hRj, hTj, hYj⟩, hkj⟩ := hrel
        have HRj := Lib.hid hRj
        have HTj := Lib.hid hTj
        have HYj := Lib.hid hYj
        have HKj := Lib.hid hkj
        clear hRj hTj hYj hkj
        by_cases hj3 : j < 3
        · have hj0 : (0 : Int) ≤ j := by omega
          have hj4 : (j : Int) < 3 := by omega
          have cK := (F5.out.kf HKj.out HNK.out).c j _ (VF_cell j hj3)
          have HWj := Lib.hid (HW.out j hj3 Y' wr HRj.out)
          obtain ⟨kv, hkv⟩ : ∃ z, kd (j + 1) = z := ⟨_, rfl⟩
          rw [hkv] at cK HWj
          have HKv := Lib.hid hkv
          clear hkv
          have FGj := Lib.hid (FG5.out.kf HKj.out HNG.out)
          go_wp2_with (first | (refine wpList_load_mid rfl 130 _ rfl bG 0 rfl gs d53 FGj.out.range0 HU53.out HD53.out HS53.out ?_) | (refine wpList_bld3 rfl 77 0 1 2 (.tmp 44) _ _ rfl (.int .u8 kv) (.int .u8 1) (.int .u16 1) rfl rfl rfl (.agg (ndc (own kv)).toArray) (Tryz.build27_own kv _) ?_))
          refine HWj.out.mono ?_
          rintro e v7 ⟨rfl, hR, hkk⟩
          have HR7 := Lib.hid hR
          have HK7 := Lib.hid (HKj.out.trans hkk)
          clear hR hkk HWj HRj cK
          go_wp2_with fail
          go_roundw
          case rel =>
            refine ⟨j + 1, by omega, by go_num, ⟨_, HR7.out, ?_, fun x hx => ?_⟩, HK7.out⟩
            · have := HTj.out.wr (j + 1) (by omega) (by have := HG.out.m4; omega) (own kv) (by rw [← HKv.out]; exact own_ok _) (by rw [← HKv.out]; exact own_code _)
              rw [← VF_put j, HKv.out]
              exact this
            · rw [tabW_ne _ _ _ _ _ (by omega)]
              exact HYj.out x hx
          case measure => simp [Go.RowKit.intOf]; omega
        · obtain rfl : j = 3 := by omega
          have HKr := Lib.hid (HK5.out.tx HKj.out hle1 hle2)
          have HCm := Lib.hid (commit7 t' m' dd gg (1 + 100 * k + 3) Y' (by simp) (by omega) wr HRj.out)
          go_wp2_with fail
          refine HCm.out.mono ?_
          rintro e v8 ⟨rfl, hR, hkk⟩
          have HR8 := Lib.hid hR
          have HK8 := Lib.hid (HKr.out.tx hkk hle1 hle2)
          clear hR hkk HCm HKr HRj
          have hgx : GG ((Cf.layF R).1[k]'(by rw [Cf.lay_len]; exact hlt)) B0 P0 M DA NB N := by rw [HGI.out]; exact HG.out
          have HNx := Lib.hid (HFk.out.next HSM.out h64 HN.out hlt B0 P0 M DA NB hgx HTj.out HYj.out)
          go_wp2_with fail
          go_roundw
          case rel => exact ⟨k + 1, by omega, by go_num, ⟨t', m', Y', HR8.out.mono (by omega), HNx.out⟩, HK8.out⟩
          case measure => simp [Go.RowKit.intOf]; omega
    · obtain rfl : k = R.length := by omega
      go_wp2_with fail
      refine HBeg.out.mono ?_
      rintro e v1 ⟨t', m', rfl, ht', hm', hRd', hb⟩
      have HRd1 := Lib.hid hRd'
      have HK1 := Lib.hid (HKf.out.more hb)
      have HL2 := Lib.hid ((HL1.out.kf HKf.out HNl.out).keep hb)
      have hlx := (HL1.out.kf HKf.out HNl.out).lt
      have hwl := HB1.out.size
      clear hRd' hb HBeg HRd HKf
      go_wp2_with fail
      exact bodyPost_ret (v := .tuple #[.pointer (some ⟨dd, 0, none⟩), .pointer (some ⟨l, 0, none⟩), .pointer (some ⟨t', 0, none⟩)]) (by simp [results, Tryz.results9, go_sem]) rfl ⟨t', m', dd, gg, l, Y, rfl, ⟨by omega, by omega, hdd, hgg⟩, hll, (by simp; omega), HL2.out, HRd1.out.mono (by omega), HFk.out, HBx.out v1 HK1.out⟩
end Go.Proofs.YteaoabppppbkoaaGreatDoor

namespace Go.Proofs.YteaoabppppbkoaaGreatDoor.Cf
set_option linter.unusedSimpArgs false
set_option linter.unusedVariables false
open Go.RowKit Go.Maps

end Go.Proofs.YteaoabppppbkoaaGreatDoor.Cf

namespace Go.Proofs.YteaoabppppbkoaaGreatDoor
set_option linter.unusedSimpArgs false
set_option linter.unusedVariables false
open Go.RowKit Go.Maps

variable {ln : Lm}
theorem u8s_none (w : World) : Cf.U8s w (.slice none 0 0) [] := .inl ⟨none, 0, rfl, rfl⟩
theorem fr_of {b : Nat → Bool} {n i : Nat} (hi : i < n) (h0 : b i = false) (h1 : ∀ j, j < i → b j = true) : Fr b n i := .inr ⟨i, hi, rfl, h0, h1⟩
end Go.Proofs.YteaoabppppbkoaaGreatDoor

namespace Go.Proofs.YteaoabppppbkoaaGreatDoor
set_option linter.unusedSimpArgs false
set_option linter.unusedVariables false
open Go.RowKit Go.Maps

variable {ln : Lm}
end Go.Proofs.YteaoabppppbkoaaGreatDoor

namespace Go.Proofs.YteaoabppppbkoaaGreatDoor
set_option linter.unusedSimpArgs false
set_option linter.unusedVariables false
open Go.RowKit Go.Maps

/-- the blocks that a file's writes touch: its map's, its node's, its slots'; numbers from 3000 on say blocks of others -/
def dl (B0 TB DA : Nat) (b : Nat → Nat) (S : Nat → Bool) (L : List Nat) : List Nat := B0 :: TB :: L.filterMap fun c => if 3000 ≤ c then some (c - 3000) else if S c = true then some (DA + (b c - 1)) else none
theorem dl_len (B0 TB DA : Nat) (b : Nat → Nat) (S : Nat → Bool) (L : List Nat) : (dl B0 TB DA b S L).length ≤ L.length + 2 := by
  unfold dl
  have := List.length_filterMap_le (fun c => if 3000 ≤ c then some (c - 3000) else if S c = true then some (DA + (b c - 1)) else none) L
  simp only [List.length_cons]
  omega
theorem dl_mem (B0 TB DA : Nat) (b : Nat → Nat) (S : Nat → Bool) (L : List Nat) (c : Nat) (h3 : c < 3000) (hc : c ∈ L) (hs : S c = true) : DA + (b c - 1) ∈ dl B0 TB DA b S L := by
  unfold dl
  refine List.mem_cons_of_mem _ (List.mem_cons_of_mem _ (List.mem_filterMap.2 ⟨c, hc, ?_⟩))
  rw [if_neg (by omega), if_pos hs]
theorem dl_ext (B0 TB DA : Nat) (b : Nat → Nat) (S : Nat → Bool) (L : List Nat) (x : Nat) (hc : 3000 + x ∈ L) : x ∈ dl B0 TB DA b S L := by
  unfold dl
  refine List.mem_cons_of_mem _ (List.mem_cons_of_mem _ (List.mem_filterMap.2 ⟨3000 + x, hc, ?_⟩))
  rw [if_pos (by omega), show 3000 + x - 3000 = x by omega]
theorem dl_le {B0 TB DA : Nat} {b b' : Nat → Nat} {S S' : Nat → Bool} (L : List Nat) (D : Nat → Nat → Int) (hn : ∀ c, S c = true → S' c = true) (hb : ∀ c, S c = true → b' c = b c) : Lm.Le ⟨dl B0 TB DA b S L, D⟩ ⟨dl B0 TB DA b' S' L, D⟩ := by
  refine ⟨fun z hz => ?_, rfl⟩
  unfold dl at hz ⊢
  simp only [List.mem_cons, List.mem_filterMap] at hz ⊢
  rcases hz with h | h | ⟨c, h1, h2⟩
  · exact .inl h
  · exact .inr (.inl h)
  · refine .inr (.inr ⟨c, h1, ?_⟩)
    by_cases h3 : 3000 ≤ c
    · rw [if_pos h3] at h2 ⊢
      exact h2
    · rw [if_neg h3] at h2 ⊢
      by_cases hs : S c = true
      · rw [if_pos hs] at h2
        rw [if_pos (hn c hs), hb c hs]
        exact h2
      · rw [if_neg hs] at h2
        cases h2
theorem okS_lt {c : Nat} (h : okS c = true) : c < 3000 := by
  rw [okS_iff] at h
  omega
theorem least_free (b : Nat → Bool) : ∀ n, (∀ j, j < n → b j = true) ∨ ∃ i, i < n ∧ b i = false ∧ ∀ j, j < i → b j = true
  | 0 => .inl fun j hj => absurd hj (Nat.not_lt_zero j)
  | n + 1 => by
    rcases least_free b n with h | ⟨i, h1, h2, h3⟩
    · cases hb : b n
      · exact .inr ⟨n, Nat.lt_succ_self n, hb, h⟩
      · refine .inl fun j hj => ?_
        by_cases e : j = n
        · rw [e]
          exact hb
        · exact h j (by omega)
    · exact .inr ⟨i, by omega, h2, h3⟩
/-- from one state of a node's blocks to a later one: more slots; nothing else has turned but their blocks, and the bits -/
structure Ex (B0 DA NB : Nat) (Y : Nat → Nat → Int) (S : Nat → Bool) (b : Nat → Nat) (Y' : Nat → Nat → Int) (S' : Nat → Bool) (b' : Nat → Nat) : Prop where
  n : ∀ c, S c = true → S' c = true
  b : ∀ c, S c = true → b' c = b c
  y : ∀ z, z ≠ B0 → (∀ c, S' c = true → 2000 ≤ c ∨ S c = false → z ≠ DA + (b' c - 1)) → Y' z = Y z
  z : ∀ c, S' c = true → S c = false → c < 2000 → Y' (DA + (b' c - 1)) = fun _ => 0
  u : ∀ j, j < NB → (bt Y' B0 j = true ↔ bt Y B0 j = true ∨ ∃ c, S' c = true ∧ S c = false ∧ b' c = j + 1)
  fr : ∀ c, S' c = true → S c = false → bt Y B0 (b' c - 1) = false
theorem Ex.refl (B0 DA NB : Nat) (Y : Nat → Nat → Int) (S : Nat → Bool) (b : Nat → Nat) : Ex B0 DA NB Y S b Y S b :=
  ⟨fun _ h => h, fun _ _ => rfl, fun _ _ _ => rfl, fun c h h' => by (rw [h] at h'; cases h'), fun j _ => ⟨fun h => .inl h, fun h => h.elim id fun ⟨c, h1, h2, _⟩ => by (rw [h1] at h2; cases h2)⟩, fun c h h' => by (rw [h] at h'; cases h')⟩
theorem Ex.trans {B0 DA NB : Nat} {Y Y1 Y2 : Nat → Nat → Int} {S S1 S2 : Nat → Bool} {b b1 b2 : Nat → Nat} (hB : B0 < DA) (h : Ex B0 DA NB Y S b Y1 S1 b1) (k : Ex B0 DA NB Y1 S1 b1 Y2 S2 b2)
    (rng : ∀ c, S2 c = true → 1 ≤ b2 c ∧ b2 c ≤ NB) (inj : ∀ c c', S2 c = true → S2 c' = true → b2 c = b2 c' → c = c') : Ex B0 DA NB Y S b Y2 S2 b2 := by
  refine ⟨fun c hc => k.n c (h.n c hc), fun c hc => (k.b c (h.n c hc)).trans (h.b c hc), fun z hz hf => ?_, fun c hc hn h2 => ?_, fun j hj => ?_, fun c hc hn => ?_⟩
  · rw [k.y z hz fun c hc ho => hf c hc (ho.imp id fun hs => ?_), h.y z hz fun c hc ho => ?_]
    · have := hf c (k.n c hc) ho
      rwa [k.b c hc] at this
    · cases hh : S c
      · rfl
      · rw [h.n c hh] at hs
        cases hs
  · cases h1 : S1 c
    · exact k.z c hc h1 h2
    · rw [k.y _ (by omega) fun c' hc' ho he => ?_, k.b c h1]
      · exact h.z c h1 hn h2
      · have r1 := rng c hc
        have r2 := rng c' hc'
        obtain rfl := inj c c' hc hc' (by omega)
        rcases ho with ho | ho
        · omega
        · rw [h1] at ho
          cases ho
  · rw [k.u j hj, h.u j hj]
    constructor
    · rintro ((h1 | ⟨c, h1, h2, h3⟩) | ⟨c, h1, h2, h3⟩)
      · exact .inl h1
      · exact .inr ⟨c, k.n c h1, h2, (k.b c h1).trans h3⟩
      · refine .inr ⟨c, h1, ?_, h3⟩
        cases hh : S c
        · rfl
        · rw [h.n c hh] at h2
          cases h2
    · rintro (h1 | ⟨c, h1, h2, h3⟩)
      · exact .inl (.inl h1)
      · cases hh : S1 c
        · exact .inr ⟨c, h1, hh, h3⟩
        · exact .inl (.inr ⟨c, hh, h2, (k.b c hh).symm.trans h3⟩)
  · cases h1 : S1 c
    · have hf := k.fr c hc h1
      have r := rng c hc
      cases hh : bt Y B0 (b2 c - 1)
      · rfl
      · rw [(h.u (b2 c - 1) (by omega)).2 (.inl hh)] at hf
        cases hf
    · rw [k.b c h1]
      exact h.fr c h1 hn
/-- one slot more -/
theorem add_ex {DA NB B0 : Nat} {Y : Nat → Nat → Int} {f : Nat → Int} {S : Nat → Bool} {b : Nat → Nat} (h : Fi DA NB Y f S b) (hv : ∀ x, Byt (Y x)) (hB : B0 < DA) (c : Nat) (hok : okS c = true) (hN : S c = false) (hp : isR c = true ∨ S (parS c) = true) (i : Nat) (hi : i < NB) (hNB : NB ≤ 512)
    (hfree : bt Y B0 i = false) (hus : ∀ c, S c = true → bt Y B0 (b c - 1) = true) (Y1 : Nat → Nat → Int) (hY1 : vput (DA + i) (fun _ => 0) (setV Y B0 i true) = Y1) :
    Fi DA NB (addY DA Y1 b c (i + 1)) (addF f c (i + 1)) (addN S c) (addB b c (i + 1)) ∧ Ex B0 DA NB Y S b (addY DA Y1 b c (i + 1)) (addN S c) (addB b c (i + 1)) ∧ (∀ c', addN S c c' = true → bt (addY DA Y1 b c (i + 1)) B0 (addB b c (i + 1) c' - 1) = true) := by
  have hfr : ∀ c', S c' = true → b c' ≠ i + 1 := fun c' hc he => by
    have := hus c' hc
    rw [he, show i + 1 - 1 = i by omega, hfree] at this
    cases this
  have e1 : ∀ z, z ≠ B0 → z ≠ DA + (i + 1 - 1) → Y1 z = Y z := fun z h1 h2 => by
    rw [← hY1, vput_ne _ _ (by omega), setV_ne _ _ _ _ h1]
  have e2 : Y1 (DA + (i + 1 - 1)) = fun _ => 0 := by
    rw [← hY1, show i + 1 - 1 = i by omega, vput_at]
  have hF := h.add hB c hok hN hp (i + 1) (by omega) (by omega) hNB hfr e1 e2
  have hbit : ∀ j, j < NB → bt (addY DA Y1 b c (i + 1)) B0 j = if i = j then true else bt Y B0 j := fun j hj => by
    have hb1 : bt Y1 B0 j = if i = j then true else bt Y B0 j := by
      rw [← hY1]
      exact bt_take hv B0 DA i j _ hB (by omega) (by omega)
    unfold addY
    split
    · exact hb1
    · rw [bt_put _ _ _ _ _ (by omega)]
      exact hb1
  have hY : ∀ z, z ≠ B0 → z ≠ DA + i → (isR c = false → z ≠ DA + (b (parS c) - 1)) → addY DA Y1 b c (i + 1) z = Y z := fun z h1 h2 h3 => by
    unfold addY
    split
    · exact e1 z h1 (by omega)
    · rename_i hcr
      rw [vput_ne _ _ (fun e => h3 (by simpa using hcr) e.symm)]
      exact e1 z h1 (by omega)
  refine ⟨hF, ⟨fun c' hc => addN_old S c hc, fun c' hc => addB_ne b _ (fun e => by rw [e, hN] at hc; cases hc), fun z h1 h2 => ?_, fun c' hc hn h2 => ?_, fun j hj => ?_, fun c' hc hn => ?_⟩, fun c' hc => ?_⟩
  · refine hY z h1 ?_ fun hr => ?_
    · have := h2 c (addN_self S c) (.inr hN)
      rwa [addB_self] at this
    · have hpc : S (parS c) = true := hp.resolve_left (by rw [hr]; decide)
      have hne : parS c ≠ c := (parS_ok c hok hr).2.2
      have := h2 (parS c) (addN_old S c hpc) (.inl (parS_ok c hok hr).2.1)
      rwa [addB_ne b _ hne] at this
  · rcases addN_of S hc with rfl | hc'
    · rw [addB_self, show i + 1 - 1 = i by omega]
      unfold addY
      split
      · exact e2
      · rename_i hcr
        have hpc : S (parS c') = true := hp.resolve_left hcr
        have r := h.rng _ hpc
        have := hfr _ hpc
        rw [vput_ne _ _ (by omega)]
        exact e2
    · rw [hc'] at hn
      cases hn
  · rw [hbit j hj]
    constructor
    · intro hh
      by_cases e : i = j
      · exact .inr ⟨c, addN_self S c, hN, by rw [addB_self, e]⟩
      · rw [if_neg e] at hh
        exact .inl hh
    · rintro (hh | ⟨c', h1, h2, h3⟩)
      · rw [hh]
        split <;> rfl
      · rcases addN_of S h1 with rfl | h1
        · rw [addB_self] at h3
          rw [if_pos (by omega)]
        · rw [h1] at h2
          cases h2
  · rcases addN_of S hc with rfl | hc'
    · rw [addB_self, show i + 1 - 1 = i by omega]
      exact hfree
    · rw [hc'] at hn
      cases hn
  · have r := hF.rng c' hc
    rw [hbit _ (by omega)]
    rcases addN_of S hc with rfl | hc'
    · rw [addB_self, if_pos (by omega)]
    · have hne : c' ≠ c := fun e => by rw [e, hN] at hc'; cases hc'
      rw [addB_ne b _ hne, hus c' hc']
      split <;> rfl
end Go.Proofs.YteaoabppppbkoaaGreatDoor
