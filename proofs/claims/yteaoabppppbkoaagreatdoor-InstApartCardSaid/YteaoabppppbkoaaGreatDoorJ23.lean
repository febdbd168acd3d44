import Derived.Test.YteaoabppppbkoaaGreatDoorJ22
/- Own directories: a record is put, added. -/
/- Own directories: Find, Alive; nil ones. -/
/- Own directories: Reap where nothing is reaped, Need. -/
/- Directories: Add. -/
/- Directories: Find, Turn, Empty. -/
/- Directories: Drop. -/
/- Directories: List. -/

namespace Go.Proofs.YteaoabppppbkoaaGreatDoor
set_option linter.unusedSimpArgs false
set_option linter.unusedVariables false
open Go.RowKit Go.Maps

/-- a place has another record; the one behind all is a new one -/
def setR (E : List Rc) (i : Nat) (e : Rc) : List Rc := if i < E.length then E.set i e else E ++ [e]
theorem setR_len (E : List Rc) (i : Nat) (e : Rc) (hi : i ≤ E.length) : (setR E i e).length = max E.length (i + 1) := by
  unfold setR
  split
  · rw [List.length_set]
    omega
  · rw [List.length_append, List.length_cons, List.length_nil]
    omega
theorem setR_get (E : List Rc) (i : Nat) (e : Rc) (hi : i ≤ E.length) (k : Nat) : (setR E i e)[k]? = if k = i then some e else E[k]? := by
  unfold setR
  split
  · rename_i h
    rw [List.getElem?_set]
    by_cases hk : i = k
    · subst hk
      rw [if_pos rfl, if_pos h, if_pos rfl]
    · rw [if_neg hk, if_neg (Ne.symm hk)]
  · have : i = E.length := by omega
    subst this
    by_cases hk : k = E.length
    · subst hk
      rw [if_pos rfl, List.getElem?_append_right (Nat.le_refl _), Nat.sub_self]
      rfl
    · rw [if_neg hk]
      by_cases hl : k < E.length
      · rw [List.getElem?_append_left hl]
      · rw [List.getElem?_eq_none (by simp; omega), List.getElem?_eq_none (by omega)]
theorem setR_mem {E : List Rc} {i : Nat} {e x : Rc} (hi : i ≤ E.length) (hx : x ∈ setR E i e) : x = e ∨ x ∈ E := by
  obtain ⟨k, hk⟩ := List.mem_iff_getElem?.1 hx
  rw [setR_get E i e hi k] at hk
  by_cases h : k = i
  · rw [if_pos h] at hk
    injection hk with hk
    exact .inl hk.symm
  · rw [if_neg h] at hk
    exact .inr (List.mem_of_getElem? hk)
/-- how many blocks so many records take -/
def nbT (k : Nat) : Nat := (8 * k + 63) / 64
variable {ln : Lm}
theorem iwrite_in (q p t m d gg lab B0 P0 M DA NB N K TB : Nat) (g : Cf.Ge) (Y0 V : Nat → Nat → Int) (b0 : Nat → Nat) (L : List Nat) (D : Nat → Nat → Int) (hL : L.length ≤ 28) (hTB : TB = P0 + (2 - 1) / 2) (h2 : 2 ≤ M) (E : List Rc) (hD : It B0 DA NB Y0 (V 2) b0 E) (hI : Tab P0 M Y0 V)
    (hK : K < 250000000) (hg : GG g B0 P0 M DA NB N) (w : World) (h : Gr w q p t m d gg lab g B0 NB N ⟨dl B0 TB DA b0 (ndS (nbT E.length)) L, D⟩ Y0 K) (i : Nat) (hi : i ≤ E.length) (hi2 : i < 1024) (e : Rc) (he : e = zR ∨ okR e) (hcL : ∀ j, j ≤ lenC (i / 8) → chS (i / 8) j ∈ L) (sb : Nat) (hF : Fl w sb 8 (rcF e)) (hsb : sb ∉ [t, m, d, gg]) :
    Calls Tryz.prog 102 #[.pointer (some ⟨q, 0, none⟩), .int .i64 2, .int .i64 ((8 * i : Nat) : Int), .slice (some ⟨sb, 0, none⟩) 8 8] w fun x w' =>
      (∃ (Y : Nat → Nat → Int) (f : Nat → Int) (B : Nat → Nat), x = .returned (.int .i64 0) ∧ Gr w' q p t m d gg lab g B0 NB N ⟨dl B0 TB DA B (ndS (nbT (setR E i e).length)) L, D⟩ Y (K + 25000) ∧ Kf w w' [t, m, d, gg] ∧ Tab P0 M Y (vput 2 f V) ∧ It B0 DA NB Y f B (setR E i e) ∧ Mv B0 TB DA NB Y0 (nbT E.length) b0 Y (nbT (setR E i e).length) B) ∨
      (∃ (Y : Nat → Nat → Int) (ln : Lm) (B : Nat → Nat) (n : Nat → Bool), x = .returned (.int .i64 10) ∧ ln.D = D ∧ Gr w' q p t m d gg lab g B0 NB N ln Y (K + 25000) ∧ Kf w w' [t, m, d, gg] ∧ (∀ j, j < NB → bt Y B0 j = true) ∧ (∀ c, n c = true → ndS (nbT (setR E i e).length) c = true) ∧ (∃ c, n c = false ∧ ndS (nbT (setR E i e).length) c = true)
        ∧ (∀ c, ndS (nbT E.length) c = true → n c = true ∧ B c = b0 c) ∧ (∀ j, j < NB → (bt Y B0 j = true ↔ bt Y0 B0 j = true ∨ ∃ c, n c = true ∧ ndS (nbT E.length) c = false ∧ B c = j + 1))) := by
  have hn := hD.n
  have hk := hD.k
  have hl := setR_len E i e hi
  have hm : max (8 * E.length) (8 * i + 8) = 8 * (setR E i e).length := by rw [hl]; omega
  have he2 : bdR e := by
    rcases he with rfl | h
    · exact zR_bd
    · exact h.1
  have hfu : Fu B0 DA NB Y0 (V 2) (ndS ((8 * E.length + 63) / 64)) b0 := hD.fu
  have := fwrite_in q p t m d gg lab B0 P0 M DA NB N K TB g Y0 V b0 L D hL 2 hTB (by decide) h2 (by rw [hk]; decide) hD.l (8 * E.length) hD.s hfu hI (by omega) hg w h (8 * i) 8 (by omega) (by omega) (by omega) (by omega) (by
    rw [hm, hk]
    show mbl 1 ((8 * (setR E i e).length : Nat) : Int) = true
    unfold mbl
    simp
    omega) (fun c hc1 hc2 j hj => by
    have : c = i / 8 := by omega
    rw [this] at hj ⊢
    exact hcL j hj) (.slice (some ⟨sb, 0, none⟩) 8 8) (rcF e) (fun j _ => rcF_bd e he2 j) (Src.made w sb 8 (rcF e) [t, m, d, gg] hF (by decide) hsb)
  rw [hm] at this
  refine this.mono ?_
  rintro x w' (⟨Y, f, B, rfl, hG, hkf, hT, hFu, hf0, hf1, -, hf3, hB, hy, hu, hfr, hct⟩ | ⟨Y, ln, B, n, rfl, hD', hG, hkf, hall, hn1, hn2, hB, -, -, hu, -⟩)
  · refine .inl ⟨Y, f, B, rfl, hG, hkf, hT, ⟨by rw [hf0, hk], by rw [hf1]; exact hD.l, hf3, by rw [hl]; omega, hFu, fun x hx => ?_, fun j hj => ?_⟩, ⟨fun c h1 h2 => hB c h1, fun z z1 z2 _ z3 => hy z z1 z2 z3, fun j hj => ?_, hfr⟩⟩
    · rcases setR_mem hi hx with rfl | hx
      · exact he
      · exact hD.ok x hx
    · rw [hct j hj]
      unfold itC
      rw [setR_get E i e hi]
      by_cases hji : 8 * i ≤ j ∧ j < 8 * i + 8
      · rw [if_pos hji, if_pos (show j / 8 = i by omega), show j - 8 * i = j % 8 by omega]
      · rw [if_neg hji, if_neg (show ¬ j / 8 = i by omega)]
        by_cases hjn : j < 64 * ((8 * E.length + 63) / 64)
        · rw [if_pos hjn]
          exact hD.ct j hjn
        · rw [if_neg hjn, List.getElem?_eq_none (by omega)]
    · have hle : ∀ c, ndS (nbT E.length) c = true → ndS (nbT (setR E i e).length) c = true := fun c hc => ndS_mono (by unfold nbT; rw [hl]; omega) c hc
      rw [hu j hj]
      constructor
      · rintro (h | h)
        · exact .inl ⟨h, fun ⟨c, k1, k2, _⟩ => by rw [hle c k1] at k2; cases k2⟩
        · exact .inr h
      · rintro (⟨h, -⟩ | h)
        · exact .inl h
        · exact .inr h
  · exact .inr ⟨Y, ln, B, n, rfl, hD', hG, hkf, hall, hn1, hn2, hB, hu⟩
set_option maxHeartbeats 20000000 in
set_option maxRecDepth 100000 in
theorem iput_any (q bd : Nat) (v : Value) (e : Rc) (he : bdR e) (i : Nat) (hi : i ≤ 1024) (Q : Int → World → Prop) (w : World) (hV : Vl w bd (tcl q v))
    (hQ : ∀ W sb, Below w.heap.size w W → w.heap.size ≤ sb → Fl W sb 8 (rcF e) → Calls Tryz.prog 102 #[.pointer (some ⟨q, 0, none⟩), .int .i64 2, .int .i64 ((8 * i : Nat) : Int), .slice (some ⟨sb, 0, none⟩) 8 8] W fun x w' => ∃ c, x = .returned (.int .i64 c) ∧ Vl w' bd (tcl q v) ∧ Q c w') :
    Calls Tryz.prog 116 #[.pointer (some ⟨bd, 0, none⟩), .int .i64 i, .agg (rcc e).toArray] w fun x w' => ∃ c, x = .returned (.int .i64 c) ∧ Q c w' := by
  obtain ⟨dE, hu, hd⟩ := Tryz.descRc
  have HU := Lib.hid hu
  have HD := Lib.hid hd
  have HP := Lib.hid (fun W => ipack_any e he W)
  have HQ := Lib.hid hQ
  have HV := Lib.hid hV
  obtain ⟨P, hP⟩ : ∃ P, rcF e = P := ⟨_, rfl⟩
  rw [hP] at HP HQ
  obtain ⟨oi, hoi⟩ : ∃ z : Int, (i : Int) * 8 = z := ⟨_, rfl⟩
  rw [show ((8 * i : Nat) : Int) = oi by omega] at HQ
  have hi0 : (0 : Int) ≤ i := by omega
  have hi1 : (i : Int) ≤ 1024 := by omega
  have ho0 : 0 ≤ oi := by omega
  have ho1 : oi ≤ 8192 := by omega
  have hwr : IntKind.i64.wrap oi = oi := IntWalk.i64_in _ (by omega)
  clear hu hd he hQ hV hP hi
  go_enter Tryz.func116, Tryz.ntmps116
  go_upto_region 1 with (first | (refine wpList_box_list (w := w) rfl 172 _ rfl (rcc e) rfl ?_; intro w1 F1 hb1 hz1; have HB1 := Lib.hid hb1; clear hb1 hz1))
  have HRx := Lib.hid F1.out.range0
  go_wp2_with (refine wpList_load_mid rfl 172 _ rfl w.heap.size 0 rfl (rcc e) dE HRx.out HU.out HD.out (sizeRc _) ?_)
  refine (HP.out w1).mono ?_
  rintro x w2 ⟨rfl, hb⟩
  have HB2 := Lib.hid (HB1.out.trans (hb.mono HB1.out.size))
  clear hb HP HRx HB1 F1
  go_upto_region 2 with (first | (refine wpList_alloc_byts (w := w2) rfl 267 8 rfl Tryz.zeroA8 ?_; intro w5 F5 hb5 hz5; simp only [Act.put, List.getElem_toArray, List.getElem_cons_zero, List.getElem_cons_succ, List.setIfInBounds_toArray, List.set_cons_zero, List.set_cons_succ]; refine wpList_store_mid rfl 267 _ _ rfl w2.heap.size 0 (byts 8 P).toArray rfl rfl (by rw [byts_size]; exact F5.out.there 0 8 (Nat.le_refl _)) (sizeA8' _) (byts_all _ _) ?_; have HQ5 := Lib.hid hb5; clear hb5))
  obtain ⟨bT, hbT⟩ : ∃ x, w2.heap.size = x := ⟨_, rfl⟩
  have hTw : w.heap.size ≤ bT := by have := HB2.out.size; omega
  rw [hbT] at F5
  try rw [hbT]
  have F6 := Lib.hid (F5.out.stored P)
  have hk6 : Kp w5 (w5.setCells bT 0 (byts 8 P)) bT bT := (Kp.refl w5 bT bT).setCells bT 0 (.inl rfl) _
  have HB6 := Lib.hid ((HB2.out.trans (HQ5.out.mono HB2.out.size)).trans (hk6.below hTw hTw (Nat.le_trans HB2.out.size HQ5.out.size)))
  obtain ⟨w6, hw6⟩ : ∃ x, w5.setCells bT 0 (byts 8 P) = x := ⟨_, rfl⟩
  rw [hw6] at F6 HB6
  try rw [hw6]
  try (change wp _ _ _ _ (w5.setCells bT 0 (byts 8 P)); rw [hw6])
  clear hw6 hk6 F5 HQ5 HB2 hbT hz5
  refine wp_region_held (S := fun W => Vl W bd (tcl q v)) (by kernel_rfl) ?_
  change wpAnyH _ _ _ _ _ _ _ _ (World.drew _)
  have hS0 : (fun W => Vl W bd (tcl q v)) w6.drew := (HV.out.below HB6.out HV.out.lt).keep (Below.refl _ _).drew
  have F7 := Lib.hid (F6.out.below (Below.refl _ _).drew F6.out.lt)
  have HB7 := Lib.hid HB6.out.drew
  obtain ⟨w7, hw7⟩ : ∃ x, World.drew w6 = x := ⟨_, rfl⟩
  rw [hw7] at hS0 F7 HB7 ⊢
  clear hw7 F6 HB6 HV
  refine wpAnyH_take (i := 0) (v := ?_) rfl (by kernel_rfl) (by kernel_rfl) (by kernel_rfl) (fun _ _ _ h => h) (Or.inl ⟨by rfl, ?_⟩) hS0 ?_
  rotate_left 1
  · intro W hW
    go_simp
    try with_reducible rfl
  simp only [Act.put, List.getElem_toArray, List.getElem_cons_zero, List.getElem_cons_succ, List.setIfInBounds_toArray, List.set_cons_zero, List.set_cons_succ]
  refine wpAnyH_take (i := 1) (v := ?_) rfl (by kernel_rfl) (by kernel_rfl) (by kernel_rfl) (fun _ _ _ h => h) (Or.inl ⟨by rfl, ?_⟩) hS0 ?_
  rotate_left 1
  · intro W hW
    go_simp
    try with_reducible rfl
  simp only [Act.put, List.getElem_toArray, List.getElem_cons_zero, List.getElem_cons_succ, List.setIfInBounds_toArray, List.set_cons_zero, List.set_cons_succ]
  refine wpAnyH_take (i := 2) (v := ?_) rfl (by kernel_rfl) (by kernel_rfl) (by kernel_rfl) (fun _ _ _ h => h) (Or.inl ⟨by rfl, ?_⟩) hS0 ?_
  rotate_left 1
  · intro W hW
    go_simp
    try with_reducible rfl
  simp only [Act.put, List.getElem_toArray, List.getElem_cons_zero, List.getElem_cons_succ, List.setIfInBounds_toArray, List.set_cons_zero, List.set_cons_succ]
  refine wpAnyH_take (i := 3) (v := ?_) rfl (by kernel_rfl) (by kernel_rfl) (by kernel_rfl) (fun _ _ _ h => h) (Or.inl ⟨by rfl, ?_⟩) hS0 ?_
  rotate_left 1
  · intro W hW
    have c0 : W.cell? ⟨bd, 0, none⟩ = some (.pointer (some ⟨q, 0, none⟩)) := hW.c 0 _ rfl
    go_simp
    try with_reducible rfl
  simp only [Act.put, List.getElem_toArray, List.getElem_cons_zero, List.getElem_cons_succ, List.setIfInBounds_toArray, List.set_cons_zero, List.set_cons_succ]
  refine wpAnyH_take (i := 4) (v := ?_) rfl (by kernel_rfl) (by kernel_rfl) (by kernel_rfl) (fun _ _ _ h => h) (Or.inl ⟨by rfl, ?_⟩) hS0 ?_
  rotate_left 1
  · intro W hW
    go_simp
    try with_reducible rfl
  simp only [Act.put, List.getElem_toArray, List.getElem_cons_zero, List.getElem_cons_succ, List.setIfInBounds_toArray, List.set_cons_zero, List.set_cons_succ]
  refine wpAnyH_take (i := 5) (v := ?_) rfl (by kernel_rfl) (by kernel_rfl) (by kernel_rfl) (fun _ _ _ h => h) (Or.inl ⟨by rfl, ?_⟩) hS0 ?_
  rotate_left 1
  · intro W hW
    go_simp
    try with_reducible rfl
  simp only [Act.put, List.getElem_toArray, List.getElem_cons_zero, List.getElem_cons_succ, List.setIfInBounds_toArray, List.set_cons_zero, List.set_cons_succ]
  refine wpAnyH_take (i := 6) (v := ?_) rfl (by kernel_rfl) (by kernel_rfl) (by kernel_rfl) (fun _ _ _ h => h) (Or.inl ⟨by rfl, ?_⟩) hS0 ?_
  rotate_left 1
  · intro W hW
    go_simp
    try with_reducible rfl
  simp only [Act.put, List.getElem_toArray, List.getElem_cons_zero, List.getElem_cons_succ, List.setIfInBounds_toArray, List.set_cons_zero, List.set_cons_succ]
  refine wpAnyH_ready (rs := [7]) (by kernel_rfl) (by simp) (AllReadyH.cons rfl (fun KK hKK => ?_) AllReadyH.nil)
  go_simp
  refine (HQ.out w7 bT HB7.out hTw F7.out).mono ?_
  rintro x w9 ⟨c, rfl, hv9, hq⟩
  have HQq := Lib.hid hq
  replace hS0 : (fun W => Vl W bd (tcl q v)) w9 := hv9
  clear hq hv9
  refine hKK _ _ hS0 ?_
  intro _
  clear hKK KK
  try simp only [Act.put, List.getElem_toArray, List.getElem_cons_zero, List.getElem_cons_succ, List.setIfInBounds_toArray, List.set_cons_zero, List.set_cons_succ]
  refine wpAnyH_take (i := 8) (v := ?_) rfl (by kernel_rfl) (by kernel_rfl) (by kernel_rfl) (fun _ _ _ h => h) (Or.inl ⟨by rfl, ?_⟩) hS0 ?_
  rotate_left 1
  · intro W hW
    go_simp
    try with_reducible rfl
  simp only [Act.put, List.getElem_toArray, List.getElem_cons_zero, List.getElem_cons_succ, List.setIfInBounds_toArray, List.set_cons_zero, List.set_cons_succ]
  refine wpAnyH_done (by kernel_rfl) ?_ _
  clear hS0
  go_wp2_with fail
  go_ret
  exact ⟨c, rfl, HQq.out⟩
set_option maxHeartbeats 40000000 in
set_option maxRecDepth 2000000 in
theorem iadd_any (q p t m d gg lab B0 P0 M DA NB N K : Nat) (g : Cf.Ge) (Y V : Nat → Nat → Int) (h2 : 2 ≤ M) (b0 : Nat → Nat) (E : List Rc) (hD : It B0 DA NB Y (V 2) b0 E) (hI : Tab P0 M Y V) (hK : K < 190000000) (hg : GG g B0 P0 M DA NB N) (w : World) (h : Gr w q p t m d gg lab g B0 NB N ln Y K) (r : Rc) (hr : okR r) (Q : Int → World → Prop)
    (hW : ∀ i, isRoomR E i → ∀ W sb, Gr W q p t m d gg lab g B0 NB N ln Y (K + 1001) → Kf w W [t, m, d, gg] → w.heap.size ≤ sb → Fl W sb 8 (rcF r) → Calls Tryz.prog 102 #[.pointer (some ⟨q, 0, none⟩), .int .i64 2, .int .i64 ((8 * i : Nat) : Int), .slice (some ⟨sb, 0, none⟩) 8 8] W fun r w' => ∃ c, r = .returned (.int .i64 c) ∧ Kf W w' [t, m, d, gg] ∧ Q c w') :
    Calls Tryz.prog 73 #[.pointer (some ⟨q, 0, none⟩), .agg (rcc r).toArray] w fun r w' => ∃ c, r = .returned (.int .i64 c) ∧ Q c w' := by
  obtain ⟨dE, hu, hd⟩ := Tryz.descRc
  have HU := Lib.hid hu
  have HDd := Lib.hid hd
  have HOp := Lib.hid (fun W hW => iopen_in (ln := ln) q p t m d gg lab B0 P0 M DA NB N K g Y V h2 b0 E hD hI hK hg W hW)
  have HG0 := Lib.hid h
  have hsm := smR_of hD.ok
  have hl := hD.n
  have h0lt : ∀ a ∈ [q, p, t, m, d, gg], a < w.heap.size := fun a ha => by
    obtain ⟨l1, l2, l3, l4, l5, l6⟩ := h.lts
    simp only [List.mem_cons, List.not_mem_nil, or_false] at ha
    rcases ha with rfl | rfl | rfl | rfl | rfl | rfl <;> assumption
  have H0 := Lib.hid h0lt
  have HRg := Lib.hid (fun W => iright_any r hr.1 W)
  have hv : rgtR r = true := by unfold rgtR; rw [decide_eq_true hr.2.1, decide_eq_true hr.2.2]; rfl
  rw [hv] at HRg
  have HRo := Lib.hid (fun bd base v W hV hO => iroom_any q bd base v E hsm hl W hV hO)
  have HWr := Lib.hid hW
  have HL := Lib.hid hl
  have HBd := Lib.hid hr.1
  clear hu hd h2 hD hI hK hg h hsm hl h0lt hW hr hv
  go_enter Tryz.func73, Tryz.ntmps73
  go_wp2_with (first | (refine wpList_box_list (w := w) rfl 172 _ rfl (rcc r) rfl ?_; intro w0 F0 hb0 hz0; have HQ0 := Lib.hid hb0; clear hb0 hz0))
  refine (HOp.out w0 (HG0.out.keep HQ0.out)).mono ?_
  rintro e w1 ⟨bd, v, base, rfl, hbd, hbb, hV, hO, hG, hk⟩
  have HV1 := Lib.hid hV
  have HO1 := Lib.hid hO
  have HG1 := Lib.hid hG
  have HK1 := Lib.hid ((Kf.of_below HQ0.out [t, m, d, gg]).trans hk)
  have hbw : w.heap.size ≤ bd := Nat.le_trans HQ0.out.size hbd
  have HND : Hid (bd ∉ [t, m, d, gg]) := Lib.hid (fun ha => by
    have := H0.out bd (by simp only [List.mem_cons, List.not_mem_nil, or_false] at ha ⊢; omega)
    omega)
  have hk0 := hk
  clear hV hO hG hk HOp hbd
  have F1 := Lib.hid (F0.out.kf hk0 (fun ha => by
    have := H0.out w.heap.size (by simp only [List.mem_cons, List.not_mem_nil, or_false] at ha ⊢; omega)
    omega))
  clear hk0
  have HRx := Lib.hid F1.out.range0
  go_wp2_with (refine wpList_load_mid rfl 172 _ rfl w.heap.size 0 rfl (rcc r) dE HRx.out HU.out HDd.out (sizeRc _) ?_)
  refine (HRg.out w1).mono ?_
  rintro e w2 ⟨rfl, hb⟩
  have HG2 := Lib.hid (HG1.out.keep hb)
  have HK2 := Lib.hid (HK1.out.more hb)
  have HV2 := Lib.hid (HV1.out.keep hb)
  have HO2 := Lib.hid (ownsRow_below HO1.out hb)
  have F2 := Lib.hid (F1.out.keep hb)
  clear hb HRx HRg HG1 HK1 HV1 HO1 F1
  go_upto_region 6 with fail
  refine wp_region_held (S := fun W => Vl W w.heap.size (rcc r)) (by kernel_rfl) ?_
  change wpAnyH _ _ _ _ _ _ _ _ (World.drew _)
  have hS0 : (fun W => Vl W w.heap.size (rcc r)) w2.drew := F2.out.keep (Below.refl _ _).drew
  have hbd3 : Below w2.heap.size w2 w2.drew := (Below.refl _ _).drew
  have HG3 := Lib.hid (HG2.out.keep hbd3)
  have HK3 := Lib.hid (HK2.out.more hbd3)
  have HV3 := Lib.hid (HV2.out.keep hbd3)
  have HO3 := Lib.hid (ownsRow_below HO2.out hbd3)
  obtain ⟨w3, hw3⟩ : ∃ x, World.drew w2 = x := ⟨_, rfl⟩
  rw [hw3] at hS0 HG3 HK3 HV3 HO3 ⊢
  clear hw3 hbd3 HG2 HK2 HV2 HO2 F2
  refine wpAnyH_take (i := 0) (v := ?_) rfl (by kernel_rfl) (by kernel_rfl) (by kernel_rfl) (fun _ _ _ h => h) (Or.inl ⟨by rfl, ?_⟩) hS0 ?_
  rotate_left 1
  · intro W hW
    go_simp
    try with_reducible rfl
  simp only [Act.put, List.getElem_toArray, List.getElem_cons_zero, List.getElem_cons_succ, List.setIfInBounds_toArray, List.set_cons_zero, List.set_cons_succ]
  refine wpAnyH_take (i := 1) (v := ?_) rfl (by kernel_rfl) (by kernel_rfl) (by kernel_rfl) (fun _ _ _ h => h) (Or.inl ⟨by rfl, ?_⟩) hS0 ?_
  rotate_left 1
  · intro W hW
    go_simp
    try with_reducible rfl
  simp only [Act.put, List.getElem_toArray, List.getElem_cons_zero, List.getElem_cons_succ, List.setIfInBounds_toArray, List.set_cons_zero, List.set_cons_succ]
  refine wpAnyH_take (i := 3) (v := .agg (rcc r).toArray) rfl (by kernel_rfl) (by kernel_rfl) (by kernel_rfl) (fun _ _ _ h => h) ?_ hS0 ?_
  · exact yieldsIf_load_mid (by rfl) 172 (.tmp 3) rfl w.heap.size 0 rfl (rcc r) dE (fun W hW => hW.range0) HU.out HDd.out (sizeRc _)
  simp only [Act.put, List.getElem_toArray, List.getElem_cons_zero, List.getElem_cons_succ, List.setIfInBounds_toArray, List.set_cons_zero, List.set_cons_succ]
  refine wpAnyH_ready (rs := [2]) (by kernel_rfl) (by simp) (AllReadyH.cons rfl (fun KK hKK => ?_) AllReadyH.nil)
  go_simp
  refine (HRo.out bd base v w3 HV3.out HO3.out).mono ?_
  rintro x w4 ⟨hb, i, hi, rfl⟩
  have HG4 := Lib.hid (HG3.out.keep hb)
  have HK4 := Lib.hid (HK3.out.more hb)
  have HV4 := Lib.hid (HV3.out.keep hb)
  have HRi := Lib.hid hi
  have hi1 : i ≤ 1024 := Nat.le_trans hi.1 HL.out
  replace hS0 : (fun W => Vl W w.heap.size (rcc r)) w4 := hS0.keep hb
  clear hb hi HG3 HK3 HV3 HO3 HRo
  refine hKK _ _ hS0 ?_
  intro _
  clear hKK KK
  try simp only [Act.put, List.getElem_toArray, List.getElem_cons_zero, List.getElem_cons_succ, List.setIfInBounds_toArray, List.set_cons_zero, List.set_cons_succ]
  refine wpAnyH_ready (rs := [4]) (by kernel_rfl) (by simp) (AllReadyH.cons rfl (fun KK hKK => ?_) AllReadyH.nil)
  go_simp
  refine (iput_any q bd v r HBd.out i hi1 (fun c w' => Kf w4 w' [t, m, d, gg] ∧ Q c w') w4 HV4.out (fun W sb hbW hsb hF => ?_)).mono ?_
  · refine (HWr.out i HRi.out W sb (HG4.out.keep hbW) (HK4.out.more hbW) (Nat.le_trans HK4.out.size hsb) hF).mono ?_
    rintro x w' ⟨c, rfl, hk, hq⟩
    exact ⟨c, rfl, (HV4.out.keep hbW).kf hk HND.out, (Kf.of_below hbW _).trans hk, hq⟩
  rintro x w5 ⟨c, rfl, hk, hq⟩
  have HQq := Lib.hid hq
  replace hS0 : (fun W => Vl W w.heap.size (rcc r)) w5 := hS0.kf hk (fun ha => by
    have := H0.out w.heap.size (by simp only [List.mem_cons, List.not_mem_nil, or_false] at ha ⊢; omega)
    omega)
  clear hk hq
  refine hKK _ _ hS0 ?_
  intro _
  clear hKK KK
  try simp only [Act.put, List.getElem_toArray, List.getElem_cons_zero, List.getElem_cons_succ, List.setIfInBounds_toArray, List.set_cons_zero, List.set_cons_succ]
  refine wpAnyH_take (i := 5) (v := ?_) rfl (by kernel_rfl) (by kernel_rfl) (by kernel_rfl) (fun _ _ _ h => h) (Or.inl ⟨by rfl, ?_⟩) hS0 ?_
  rotate_left 1
  · intro W hW
    go_simp
    try with_reducible rfl
  simp only [Act.put, List.getElem_toArray, List.getElem_cons_zero, List.getElem_cons_succ, List.setIfInBounds_toArray, List.set_cons_zero, List.set_cons_succ]
  refine wpAnyH_done (by kernel_rfl) ?_ _
  clear hS0
  go_wp2_with fail
  go_ret
  exact ⟨c, rfl, HQq.out⟩
end Go.Proofs.YteaoabppppbkoaaGreatDoor

namespace Go.Proofs.YteaoabppppbkoaaGreatDoor
set_option linter.unusedSimpArgs false
set_option linter.unusedVariables false
open Go.RowKit Go.Maps

variable {ln : Lm}
set_option maxHeartbeats 20000000 in
set_option maxRecDepth 200000 in
theorem iopen_nil (w : World) : Calls Tryz.prog 75 #[.pointer none] w fun e w' => e = .returned (.tuple #[.pointer none, .int .i64 1]) ∧ Below w.heap.size w w' := by
  have HN := Lib.hid (gnode_nil 2 w)
  go_enter Tryz.func75, Tryz.ntmps75
  go_wp2_with fail
  refine HN.out.mono ?_
  rintro e w1 ⟨rfl, hb⟩
  have HB1 := Lib.hid hb
  clear hb HN
  go_upto_region 2 with (first | (refine wpList_alloc_list (w := w1) rfl 77 rfl (ndc zpt) Tryz.zero27 ?_; intro w2 F2 hb2 hz2; simp only [Act.put, List.getElem_toArray, List.getElem_cons_zero, List.getElem_cons_succ, List.setIfInBounds_toArray, List.set_cons_zero, List.set_cons_succ]; refine wpList_store_list rfl 77 (.tmp 4) (.tmp 14) rfl w1.heap.size (ndc zpt) (ndc zpt) rfl rfl F2.out rfl (size27 _) (ndc_one _) ?_; intro w3 F3 HK3; have HQ2 := Lib.hid hb2; clear hb2 F2))
  have HB3 := Lib.hid ((HB1.out.trans (HQ2.out.mono HB1.out.size)).trans (HK3.out.below HB1.out.size HB1.out.size (Nat.le_trans HB1.out.size HQ2.out.size)))
  clear HQ2 HK3 HB1 hz2
  go_wp2_with fail
  go_ret2
  exact ⟨rfl, HB3.out⟩
set_option maxRecDepth 200000 in
theorem iFind_nil (x : In) (w : World) : Calls Tryz.prog 48 #[.pointer none, .agg (ink x).toArray] w fun e w' => e = .returned (.tuple #[.int .i64 0, .int .i64 1]) ∧ Below w.heap.size w w' := by
  go_enter Tryz.func48, Tryz.ntmps48
  go_wp2_with (first | (refine wpList_box_list (w := w) rfl 92 _ rfl (ink x) rfl ?_; intro w0 F0 hb0 hz0; have HQ0 := Lib.hid hb0; clear hb0 hz0))
  refine (iopen_nil w0).mono ?_
  rintro e w1 ⟨rfl, hb⟩
  have HB1 := Lib.hid (HQ0.out.trans (hb.mono HQ0.out.size))
  clear hb HQ0
  go_wp2_with fail
  go_ret2
  exact ⟨rfl, HB1.out⟩
set_option maxRecDepth 200000 in
theorem iDrop_nil (x : In) (w : World) : Calls Tryz.prog 37 #[.pointer none, .agg (ink x).toArray] w fun e w' => e = .returned (.int .i64 1) ∧ Below w.heap.size w w' := by
  go_enter Tryz.func37, Tryz.ntmps37
  go_wp2_with (first | (refine wpList_box_list (w := w) rfl 92 _ rfl (ink x) rfl ?_; intro w0 F0 hb0 hz0; have HQ0 := Lib.hid hb0; clear hb0 hz0))
  refine (iopen_nil w0).mono ?_
  rintro e w1 ⟨rfl, hb⟩
  have HB1 := Lib.hid (HQ0.out.trans (hb.mono HQ0.out.size))
  clear hb HQ0
  go_wp2_with fail
  go_ret
  exact ⟨rfl, HB1.out⟩
set_option maxRecDepth 200000 in
theorem iReap_nil (t n : Nat) (w : World) : Calls Tryz.prog 40 #[.pointer (some ⟨t, 0, none⟩), .pointer (some ⟨n, 0, none⟩), .pointer none] w fun e w' => e = .returned (.tuple #[.int .i64 0, .int .i64 1]) ∧ Below w.heap.size w w' := by
  go_enter Tryz.func40, Tryz.ntmps40
  go_wp2_with fail
  refine (iopen_nil w).mono ?_
  rintro e w1 ⟨rfl, hb⟩
  have HB1 := Lib.hid hb
  clear hb
  go_wp2_with fail
  go_ret2
  exact ⟨rfl, HB1.out⟩
set_option maxRecDepth 200000 in
theorem iNeed_nil (t n : Nat) (x : In) (w : World) : Calls Tryz.prog 35 #[.pointer (some ⟨t, 0, none⟩), .pointer (some ⟨n, 0, none⟩), .pointer none, .agg (ink x).toArray] w fun e w' => e = .returned (.tuple #[.int .i64 0, .int .i64 1]) ∧ Below w.heap.size w w' := by
  obtain ⟨dI, huI, hdI⟩ := Tryz.descIno
  have HUI := Lib.hid huI
  have HDI := Lib.hid hdI
  clear huI hdI
  go_enter Tryz.func35, Tryz.ntmps35
  go_upto_region 1 with (first | (refine wpList_box_list (w := w) rfl 92 _ rfl (ink x) rfl ?_; intro w0 F0 hb0 hz0; have HQ0 := Lib.hid hb0; clear hb0 hz0))
  have HRx := Lib.hid F0.out.range0
  go_wp2_with (refine wpList_load_mid rfl 92 _ rfl w.heap.size 0 rfl (ink x) dI HRx.out HUI.out HDI.out (sizeIk _) ?_)
  refine (iFind_nil x w0).mono ?_
  rintro e w1 ⟨rfl, hb⟩
  have HB1 := Lib.hid (HQ0.out.trans (hb.mono HQ0.out.size))
  clear hb HQ0
  go_wp2_with fail
  go_ret2
  exact ⟨rfl, HB1.out⟩
set_option maxHeartbeats 20000000 in
set_option maxRecDepth 2000000 in
theorem iFind_any (q p t m d gg lab B0 P0 M DA NB N K : Nat) (g : Cf.Ge) (Y V : Nat → Nat → Int) (h2 : 2 ≤ M) (b0 : Nat → Nat) (E : List Rc) (hD : It B0 DA NB Y (V 2) b0 E) (hI : Tab P0 M Y V) (hK : K < 190000000) (hg : GG g B0 P0 M DA NB N) (w : World) (h : Gr w q p t m d gg lab g B0 NB N ln Y K) (x : In) (hx : bdI x) :
    Calls Tryz.prog 48 #[.pointer (some ⟨q, 0, none⟩), .agg (ink x).toArray] w fun r w' => (Gr w' q p t m d gg lab g B0 NB N ln Y (K + 1001) ∧ Kf w w' [t, m, d, gg]) ∧ ((∃ (i : Nat) (e : Rc), E[i]? = some e ∧ mtI x e = true ∧ (∀ (j : Nat) (e' : Rc), j < i → E[j]? = some e' → mtI x e' = false) ∧ r = .returned (.tuple #[.int .i64 e.2, .int .i64 0])) ∨ ((∀ e ∈ E, mtI x e = false) ∧ r = .returned (.tuple #[.int .i64 0, .int .i64 0]))) := by
  obtain ⟨dI, huI, hdI⟩ := Tryz.descIno
  have HUI := Lib.hid huI
  have HDI := Lib.hid hdI
  have HOp := Lib.hid (fun W hW => iopen_in (ln := ln) q p t m d gg lab B0 P0 M DA NB N K g Y V h2 b0 E hD hI hK hg W hW)
  have HG0 := Lib.hid h
  have hsm := smR_of hD.ok
  have hl := hD.n
  have h0lt : ∀ a ∈ [q, p, t, m, d, gg], a < w.heap.size := fun a ha => by
    obtain ⟨l1, l2, l3, l4, l5, l6⟩ := h.lts
    simp only [List.mem_cons, List.not_mem_nil, or_false] at ha
    rcases ha with rfl | rfl | rfl | rfl | rfl | rfl <;> assumption
  have H0 := Lib.hid h0lt
  have HFi := Lib.hid (fun bd base v W hV hO => ifind_any q bd base v E hsm x hx hl W hV hO)
  have HSm := Lib.hid hsm
  have HL := Lib.hid hl
  clear h2 hD hI hK hg h hsm hl h0lt hx huI hdI
  go_enter Tryz.func48, Tryz.ntmps48
  go_wp2_with (first | (refine wpList_box_list (w := w) rfl 92 _ rfl (ink x) rfl ?_; intro w0 F0 hb0 hz0; have HQ0 := Lib.hid hb0; clear hb0 hz0))
  refine (HOp.out w0 (HG0.out.keep HQ0.out)).mono ?_
  rintro e w1 ⟨bd, v, base, rfl, hbd, hbb, hV, hO, hG, hk⟩
  have HV1 := Lib.hid hV
  have HO1 := Lib.hid hO
  have HG1 := Lib.hid hG
  have HK1 := Lib.hid ((Kf.of_below HQ0.out [t, m, d, gg]).trans hk)
  have hk0 := hk
  have hbw : w.heap.size ≤ bd := Nat.le_trans HQ0.out.size hbd
  clear hV hO hG hk HOp hbd
  have F1 := Lib.hid (F0.out.kf hk0 (fun ha => by
    have := H0.out w.heap.size (by simp only [List.mem_cons, List.not_mem_nil, or_false] at ha ⊢; omega)
    omega))
  clear hk0
  have HRx := Lib.hid F1.out.range0
  go_wp2_with (refine wpList_load_mid rfl 92 _ rfl w.heap.size 0 rfl (ink x) dI HRx.out HUI.out HDI.out (sizeIk _) ?_)
  refine (HFi.out bd base v w1 HV1.out HO1.out).mono ?_
  rintro r w2 ⟨hb, (⟨i, e, hie, hme, hfi, rfl⟩ | ⟨hno, rfl⟩)⟩
  · have HG2 := Lib.hid (HG1.out.keep hb)
    have HK2 := Lib.hid (HK1.out.more hb)
    have HV2 := Lib.hid (HV1.out.keep hb)
    have HO2 := Lib.hid (ownsRow_below HO1.out hb)
    obtain ⟨pa, cap, hv⟩ := Cf.ownsRow_form HO2.out
    subst hv
    have hin : i < E.length := (List.getElem?_eq_some_iff.1 hie).1
    obtain ⟨g0, rfl, -, -⟩ := ownR_some HO2.out (by omega)
    have hra := ownR_at HO2.out rfl hie
    have he2 := (HSm.out e (List.mem_of_getElem? hie)).2
    have HIe := Lib.hid hie
    have HMe := Lib.hid hme
    have HFf := Lib.hid hfi
    obtain ⟨⟨ea, eb, ec⟩, en⟩ := e
    have cB : w2.cell? ⟨g0, i * 4 + 3, none⟩ = some (.int .u16 en) := hra 3 _ rfl
    have c2 : w2.cell? ⟨bd, 1, none⟩ = some (.slice (some ⟨g0, 0, none⟩) E.length cap) := HV2.out.c 1 _ rfl
    have hwr : IntKind.i64.wrap (en : Int) = en := IntWalk.i64_in _ (by have : en < 65536 := he2; omega)
    have hi0 : (0 : Int) ≤ i := by omega
    have hi1 : (i : Int) < E.length := by omega
    clear hb hie hme hfi hra he2 hin HFi HG1 HK1 HV1 HO1 HRx
    go_wp2_with fail
    go_ret2
    exact ⟨⟨HG2.out, HK2.out⟩, .inl ⟨i, ((ea, eb, ec), en), HIe.out, HMe.out, HFf.out, rfl⟩⟩
  · have HG2 := Lib.hid (HG1.out.keep hb)
    have HK2 := Lib.hid (HK1.out.more hb)
    have HNo := Lib.hid hno
    clear hb hno
    go_wp2_with fail
    go_ret2
    exact ⟨⟨HG2.out, HK2.out⟩, .inr ⟨HNo.out, rfl⟩⟩
/-- is a node still there? -/
def alB (V : Nat → Nat → Int) (M : Nat) (x : In) : Bool := decide (1 ≤ x.2.1 ∧ x.2.1 ≤ M) && (decide (V x.2.1 0 = 3) && decide (V x.2.1 2 = x.2.2))
set_option maxHeartbeats 40000000 in
set_option maxRecDepth 2000000 in
theorem ialive_in (t m d gg n B0 P0 M DA NB N K : Nat) (Y V : Nat → Nat → Int) (vr vm vg : Value) (R : List Cf.Rg) (MS : List (Int × Int)) (i : Nat) (hi : i < R.length) (g : Cf.Ge) (hgi : (Cf.layF R).1[i]'(by rw [Cf.lay_len]; exact hi) = g) (hg : GG g B0 P0 M DA NB N) (hI : Tab P0 M Y V) (hK : K < 190000000) (x : In) (hx : bdI x) (hxi : x.1 = i) (w : World) (hCF : Cf.CF n w vr vm vg R MS) (hR : Rd w t m d gg N ln Y K) :
    Calls Tryz.prog 49 #[.pointer (some ⟨t, 0, none⟩), .pointer (some ⟨n + 3, 0, none⟩), .agg (ink x).toArray] w fun r w' => r = .returned (.tuple #[.bool (alB V M x), .int .i64 0]) ∧ Rd w' t m d gg N ln Y (K + 1) ∧ Kf w w' [t, m, d, gg] := by
  obtain ⟨lb, nm, gn⟩ := x
  obtain ⟨h1, h2, h3⟩ := hx
  simp only at h1 h2 h3 hxi
  subst hxi
  have hal : alB V M (lb, nm, gn) = (decide (1 ≤ nm ∧ nm ≤ M) && (decide (V nm 0 = 3) && decide (V nm 2 = gn))) := rfl
  obtain ⟨A, hA⟩ : ∃ A, alB V M (lb, nm, gn) = A := ⟨_, rfl⟩
  rw [hA] at hal ⊢
  have HA := Lib.hid hal
  have HOp := Lib.hid (fun W hC hR => gopen_in (ln := ln) t m d gg n B0 P0 M DA NB N K Y vr vm vg R MS lb hi g hgi hg W hC hR)
  have HGe := Lib.hid (fun W hC => Cf.geo_in n vr vm vg R MS lb hi W hC)
  rw [hgi] at HGe
  have HNd := Lib.hid (fun (h1 : 1 ≤ nm) (h2 : nm ≤ M) q p W hW => gnode_in (ln := ln) q p t m d gg lb B0 P0 M DA NB N K g Y V nm h1 h2 (by omega) hI hg W hW)
  have HM : Hid (g.nd = M) := Lib.hid hg.nd
  have HCF := Lib.hid hCF
  have HR := Lib.hid hR
  have hwl : IntKind.i64.wrap (lb : Int) = lb := IntWalk.i64_in _ (by omega)
  have hwn : IntKind.i64.wrap (nm : Int) = nm := IntWalk.i64_in _ (by omega)
  have hl0 : (0 : Int) ≤ lb := by omega
  have hn0 : (0 : Int) ≤ nm := by omega
  obtain ⟨gd, hgd⟩ : ∃ y, g.nd = y := ⟨_, rfl⟩
  have hgc : g.cells[5]? = some (.int .i64 gd) := by rw [← hgd]; rfl
  have HGC := Lib.hid hgc
  rw [hgd] at HM
  have HMx := Lib.hid hg.m128
  clear hi hgi hg hI hK hCF hR hA hal h1 h2 h3 hgd hgc
  have HLt := Lib.hid HR.out.lts
  go_enter Tryz.func49, Tryz.ntmps49
  go_upto_region 1 with (first | (refine wpList_box_list (w := w) rfl 92 _ rfl (ink (lb, nm, gn)) rfl ?_; intro w0 F0 hb0 hz0; have HQ0 := Lib.hid hb0; have hlt0 := F0.out.lt; clear hb0 hz0))
  have c0 := F0.out.c 0 _ rfl
  go_wp2_with fail
  clear c0
  refine (HOp.out w0 (HCF.out.below HQ0.out) (HR.out.keep HQ0.out)).mono ?_
  rintro e w1 ⟨q, p, rfl, hq, hp, hG, hb⟩
  have HG1 := Lib.hid hG
  have F1 := Lib.hid (F0.out.keep hb)
  have HB1 := Lib.hid (HQ0.out.trans (hb.mono HQ0.out.size))
  have hwq : w.heap.size ≤ q := Nat.le_trans HQ0.out.size hq
  clear hG hb HOp F0 HQ0 hp hq
  go_wp2_with fail
  refine (HGe.out w1 (HCF.out.below HB1.out)).mono ?_
  rintro e w2 ⟨rfl, hb⟩
  have HG2 := Lib.hid (HG1.out.keep hb)
  have F2 := Lib.hid (F1.out.keep hb)
  have HB2 := Lib.hid (HB1.out.trans (hb.mono HB1.out.size))
  clear hb HGe HG1 F1 HB1
  go_upto_region 6 with (first | (refine wpList_alloc_list (w := w2) rfl 130 rfl zgeo.cells Tryz.zero53 ?_; intro w3 F3 hb3 hz3; have HQ3 := Lib.hid hb3; clear hb3) | (refine wpList_store_list rfl 130 (.tmp 11) (.tmp 31) rfl w2.heap.size zgeo.cells g.cells rfl rfl F3.out rfl (size53 _) (geo_one _) ?_; intro w4 F4 HK4; clear F3))
  obtain ⟨bG, hbG⟩ : ∃ y, w2.heap.size = y := ⟨_, rfl⟩
  have hGw : w.heap.size ≤ bG := hbG ▸ HB2.out.size
  have hXG : w.heap.size < bG := by have := F2.out.lt; omega
  have HG4 := Lib.hid ((HG2.out.keep HQ3.out).kp HK4.out (HG2.out.notin (Nat.le_refl _)))
  have hX4 := F2.out.lt
  have F24 := Lib.hid ((F2.out.keep HQ3.out).kp HK4.out (by omega) (by omega))
  have HB4 := Lib.hid ((HB2.out.trans (HQ3.out.mono HB2.out.size)).trans (HK4.out.below HB2.out.size HB2.out.size (Nat.le_trans HB2.out.size HQ3.out.size)))
  rw [hbG] at F4
  try rw [hbG]
  clear HQ3 HK4 HG2 F2 HB2 hbG hz3 hX4
  have c1 := F24.out.c 1 _ rfl
  have c5 := F4.out.c 5 _ HGC.out
  by_cases hn1 : (nm : Int) < 1
  · have hf : ¬ (1 ≤ nm ∧ nm ≤ M) := by omega
    have HAf : Hid (A = false) := Lib.hid (by rw [HA.out, decide_eq_false hf]; rfl)
    clear hf
    go_wp2_with fail
    go_ret2
    exact ⟨by rw [HAf.out]; rfl, HG4.out.rd.mono (by omega), Kf.of_below HB4.out _⟩
  · by_cases hn2 : gd < (nm : Int)
    · have hf : ¬ (1 ≤ nm ∧ nm ≤ M) := by have := HM.out; omega
      have HAf : Hid (A = false) := Lib.hid (by rw [HA.out, decide_eq_false hf]; rfl)
      clear hf
      go_wp2_with fail
      go_ret2
      exact ⟨by rw [HAf.out]; rfl, HG4.out.rd.mono (by omega), Kf.of_below HB4.out _⟩
    · have hy : 1 ≤ nm ∧ nm ≤ M := by have := HM.out; omega
      have HY : Hid (A = (decide (V nm 0 = 3) && decide (V nm 2 = gn))) := Lib.hid (by rw [HA.out, decide_eq_true hy]; rfl)
      have HN1 := Lib.hid (HNd.out hy.1 hy.2 q p w4 HG4.out)
      clear hy HNd
      go_wp2_with fail
      clear c1 c5
      refine HN1.out.mono ?_
      rintro e w5 ⟨rfl, hG, hk⟩
      have HG5 := Lib.hid hG
      have HK5 := Lib.hid ((Kf.of_below HB4.out [t, m, d, gg]).trans hk)
      have F5 := Lib.hid (F24.out.kf hk (fun ha => by
        obtain ⟨l1, l2, l3, l4⟩ := HLt.out
        simp only [List.mem_cons, List.not_mem_nil, or_false] at ha
        omega))
      clear hG hk HN1 HG4 HB4 F4 F24
      obtain ⟨f, hf⟩ : ∃ f, V nm = f := ⟨_, rfl⟩
      rw [hf] at HY
      rw [hf]
      clear hf
      go_upto_region 9 with (first | (refine wpList_alloc_list (w := w5) rfl 77 rfl (ndc zpt) Tryz.zero27 ?_; intro w6 F6 hb6 hz6; have HQ6 := Lib.hid hb6; clear hb6) | (refine wpList_store_list rfl 77 (.tmp 13) (.tmp 50) rfl w5.heap.size (ndc zpt) (ndc f) rfl rfl F6.out rfl (size27 _) (ndc_one _) ?_; intro w7 F7 HK7; clear F6))
      obtain ⟨bN, hbN⟩ : ∃ y, w5.heap.size = y := ⟨_, rfl⟩
      have hX5 := F5.out.lt
      have HR7 := Lib.hid (((HG5.out.keep HQ6.out).kp HK7.out (HG5.out.notin (Nat.le_refl _))).rd)
      have HKK := Lib.hid ((HK5.out.more HQ6.out).new HK7.out HK5.out.size)
      have F57 := Lib.hid ((F5.out.keep HQ6.out).kp HK7.out (by omega) (by omega))
      rw [hbN] at F7
      try rw [hbN]
      clear HQ6 HK7 HG5 HK5 F5 hbN hz6 hX5
      obtain ⟨k0, hk0⟩ : ∃ z, f 0 = z := ⟨_, rfl⟩
      obtain ⟨k2, hk2⟩ : ∃ z, f 2 = z := ⟨_, rfl⟩
      have d0 : w7.cell? ⟨bN, 0, none⟩ = some (.int .u8 k0) := hk0 ▸ F7.out.c 0 _ rfl
      have d2 : w7.cell? ⟨bN, 2, none⟩ = some (.int .u16 k2) := hk2 ▸ F7.out.c 2 _ rfl
      have c2 := F57.out.c 2 _ rfl
      rw [hk0, hk2] at HY
      clear hk0 hk2
      by_cases e0 : k0 = 3
      · subst e0
        by_cases e2 : k2 = (gn : Int)
        · subst e2
          have HAt : Hid (A = true) := Lib.hid (by rw [HY.out, decide_eq_true rfl, decide_eq_true rfl]; rfl)
          go_wp2_with fail
          go_ret2
          exact ⟨by rw [HAt.out]; rfl, HR7.out, HKK.out⟩
        · have HAf : Hid (A = false) := Lib.hid (by rw [HY.out, decide_eq_false e2, Bool.and_false])
          have e2' : (k2 == (gn : Int)) = false := beq_eq_false_iff_ne.2 e2
          clear e2
          go_wp2_with fail
          go_ret2
          exact ⟨by rw [HAf.out]; rfl, HR7.out, HKK.out⟩
      · have HAf : Hid (A = false) := Lib.hid (by rw [HY.out, decide_eq_false e0]; rfl)
        have e0' : (k0 == 3) = false := beq_eq_false_iff_ne.2 e0
        clear e0
        go_wp2_with fail
        go_ret2
        exact ⟨by rw [HAf.out]; rfl, HR7.out, HKK.out⟩
set_option maxHeartbeats 20000000 in
theorem ialive_out (t n : Nat) (vr vm vg : Value) (R : List Cf.Rg) (MS : List (Int × Int)) (h64 : R.length ≤ 64) (x : In) (hx : bdI x) (hxi : R.length ≤ x.1) (w : World) (hCF : Cf.CF n w vr vm vg R MS) :
    Calls Tryz.prog 49 #[.pointer (some ⟨t, 0, none⟩), .pointer (some ⟨n + 3, 0, none⟩), .agg (ink x).toArray] w fun r w' => r = .returned (.tuple #[.bool false, .int .i64 27]) ∧ Below w.heap.size w w' := by
  obtain ⟨lb, nm, gn⟩ := x
  obtain ⟨h1, h2, h3⟩ := hx
  simp only at h1 h2 h3 hxi
  have HOp := Lib.hid (fun W hC => gopen_out t n vr vm vg R MS lb (.inr (by omega)) h64 W hC)
  have HCF := Lib.hid hCF
  have hwl : IntKind.i64.wrap (lb : Int) = lb := IntWalk.i64_in _ (by omega)
  have hl0 : (0 : Int) ≤ lb := by omega
  clear hCF h1 h2 h3 h64 hxi
  go_enter Tryz.func49, Tryz.ntmps49
  go_upto_region 1 with (first | (refine wpList_box_list (w := w) rfl 92 _ rfl (ink (lb, nm, gn)) rfl ?_; intro w0 F0 hb0 hz0; have HQ0 := Lib.hid hb0; clear hb0 hz0))
  have c0 := F0.out.c 0 _ rfl
  go_wp2_with fail
  refine (HOp.out w0 (HCF.out.below HQ0.out)).mono ?_
  rintro e w1 ⟨rfl, hb⟩
  have HB1 := Lib.hid (HQ0.out.trans (hb.mono HQ0.out.size))
  clear hb HQ0 c0
  go_wp2_with fail
  go_ret2
  exact ⟨rfl, HB1.out⟩
set_option maxHeartbeats 20000000 in
theorem ialive_nil (n : Nat) (x : In) (hx : bdI x) (w : World) :
    Calls Tryz.prog 49 #[.pointer none, .pointer (some ⟨n, 0, none⟩), .agg (ink x).toArray] w fun r w' => r = .returned (.tuple #[.bool false, .int .i64 1]) ∧ Below w.heap.size w w' := by
  obtain ⟨lb, nm, gn⟩ := x
  obtain ⟨h1, h2, h3⟩ := hx
  simp only at h1 h2 h3
  have HOp := Lib.hid (fun W => gopen_nilt (some ⟨n, 0, none⟩) lb W)
  have hwl : IntKind.i64.wrap (lb : Int) = lb := IntWalk.i64_in _ (by omega)
  have hl0 : (0 : Int) ≤ lb := by omega
  clear h1 h2 h3
  go_enter Tryz.func49, Tryz.ntmps49
  go_upto_region 1 with (first | (refine wpList_box_list (w := w) rfl 92 _ rfl (ink (lb, nm, gn)) rfl ?_; intro w0 F0 hb0 hz0; have HQ0 := Lib.hid hb0; clear hb0 hz0))
  have c0 := F0.out.c 0 _ rfl
  go_wp2_with fail
  refine (HOp.out w0).mono ?_
  rintro e wz ⟨rfl, hwz⟩
  rw [hwz]
  clear hwz c0
  go_wp2_with fail
  go_ret2
  exact ⟨rfl, HQ0.out⟩
end Go.Proofs.YteaoabppppbkoaaGreatDoor

namespace Go.Proofs.YteaoabppppbkoaaGreatDoor
set_option linter.unusedSimpArgs false
set_option linter.unusedVariables false
open Go.RowKit Go.Maps

variable {ln : Lm}
set_option maxHeartbeats 40000000 in
set_option maxRecDepth 2000000 in
/-- where all whose records stand are alive nothing is removed -/
theorem ireap_none (q p t m d gg lab B0 P0 M DA NB N K n : Nat) (g : Cf.Ge) (Y V : Nat → Nat → Int) (h2 : 2 ≤ M) (b0 : Nat → Nat) (E : List Rc) (hD : It B0 DA NB Y (V 2) b0 E) (hI : Tab P0 M Y V) (hK : K < 180000000) (hg : GG g B0 P0 M DA NB N) (w : World) (h : Gr w q p t m d gg lab g B0 NB N ln Y K)
    (hal : ∀ e ∈ E, vacR e = false → ∀ W K', K' ≤ K + 3000 → Kf w W [t, m, d, gg] → Rd W t m d gg N ln Y K' → Calls Tryz.prog 49 #[.pointer (some ⟨t, 0, none⟩), .pointer (some ⟨n, 0, none⟩), .agg (ink e.1).toArray] W fun r w' => r = .returned (.tuple #[.bool true, .int .i64 0]) ∧ Rd w' t m d gg N ln Y (K' + 1) ∧ Kf W w' [t, m, d, gg]) :
    Calls Tryz.prog 40 #[.pointer (some ⟨t, 0, none⟩), .pointer (some ⟨n, 0, none⟩), .pointer (some ⟨q, 0, none⟩)] w fun r w' => r = .returned (.tuple #[.int .i64 0, .int .i64 0]) ∧ Gr w' q p t m d gg lab g B0 NB N ln Y (K + 3000) ∧ Kf w w' [t, m, d, gg] := by
  obtain ⟨dE, hu, hd⟩ := Tryz.descRc
  have HU := Lib.hid hu
  have HDd := Lib.hid hd
  obtain ⟨dI, huI, hdI⟩ := Tryz.descIno
  have HUI := Lib.hid huI
  have HDI := Lib.hid hdI
  have HOp := Lib.hid (fun W hW => iopen_in (ln := ln) q p t m d gg lab B0 P0 M DA NB N K g Y V h2 b0 E hD hI (by omega) hg W hW)
  have HG0 := Lib.hid h
  have hsm := smR_of hD.ok
  have hl := hD.n
  have h0lt : ∀ a ∈ [q, p, t, m, d, gg], a < w.heap.size := fun a ha => by
    obtain ⟨l1, l2, l3, l4, l5, l6⟩ := h.lts
    simp only [List.mem_cons, List.not_mem_nil, or_false] at ha
    rcases ha with rfl | rfl | rfl | rfl | rfl | rfl <;> assumption
  have H0 := Lib.hid h0lt
  have HE := Lib.hid hsm
  have HAl := Lib.hid hal
  obtain ⟨n0, hn⟩ : ∃ n, E.length = n := ⟨_, rfl⟩
  rw [hn] at hl HOp
  have HN := Lib.hid hn
  have hn0 : (0 : Int) ≤ n0 := by omega
  have hn1 : (n0 : Int) ≤ 1024 := by omega
  clear hu hd huI hdI h2 hD hI hK hg h hsm h0lt hal hn
  go_enter Tryz.func40, Tryz.ntmps40
  go_wp2_with fail
  refine (HOp.out w HG0.out).mono ?_
  rintro e w1 ⟨bd, v, base, rfl, hbd, hbb, hV, hO, hG, hk⟩
  obtain ⟨pa, cap, hv⟩ := Cf.ownsRow_form hO
  subst hv
  have HV1 := Lib.hid hV
  have HO1 := Lib.hid hO
  have HG1 := Lib.hid hG
  have HK1 := Lib.hid hk
  have hbw : w.heap.size ≤ bd := hbd
  have HNs : Hid (∀ x, w.heap.size ≤ x → x ∉ [t, m, d, gg]) := Lib.hid (fun x hx ha => by
    have := H0.out x (by simp only [List.mem_cons, List.not_mem_nil, or_false] at ha ⊢; omega)
    omega)
  have c1 : w1.cell? ⟨bd, 1, none⟩ = some (.slice pa n0 cap) := HV1.out.c 1 _ rfl
  clear hV hO hG hk HOp hbd
  go_wp2_with fail
  clear c1
  go_loopw [10, 11, 12, 13, 14, 15, 35, 61, 65] (fun mv _ _ _ _ _ iv _ _ wr => ∃ k : Nat, k ≤ n0 ∧ iv = .int .i64 k ∧ mv = .int .i64 0 ∧ Kf w1 wr [t, m, d, gg] ∧ Gr wr q p t m d gg lab g B0 NB N ln Y (K + 1001 + k)) (fun _ _ _ _ _ _ iv _ _ _ => n0 - (Go.RowKit.intOf iv).toNat)
  case atStart => exact ⟨0, Nat.zero_le _, rfl, rfl, Kf.refl _ _, HG1.out⟩
  case round =>
    obtain ⟨k, hk, rfl, rfl, hkf, hG⟩ := hrel
    have HKr := Lib.hid hkf
    have HGr := Lib.hid hG
    have hsz := hkf.size
    clear hkf hG
    by_cases hlt : k < n0
    · obtain ⟨g0, rfl, hg1, hg2⟩ := ownR_some HO1.out (by omega)
      have hke : k < E.length := by have := HN.out; omega
      obtain ⟨e, he⟩ : ∃ e, E[k]? = some e := ⟨E[k], List.getElem?_eq_getElem hke⟩
      have heE := List.mem_of_getElem? he
      have hbe := HE.out e heE
      have hg0n : g0 ∉ [t, m, d, gg] := HNs.out g0 (by omega)
      have HRg := Lib.hid (ownR_at (ownsRow_kf HO1.out HKr.out hg0n) HN.out.symm he)
      have HVc := Lib.hid (fun W => ivacant_any e hbe W)
      have HA := Lib.hid (HAl.out e heE)
      have hki : (k : Int) < n0 := by omega
      have hk0 : (0 : Int) ≤ k := by omega
      have HKl : Hid (K + 1001 + k ≤ K + 3000) := Lib.hid (by omega)
      obtain ⟨vc, hvc⟩ : ∃ x, vacR e = x := ⟨_, rfl⟩
      rw [hvc] at HVc HA
      clear he hke heE hbe hvc hlt hg0n
      go_upto_region 10 with (first | (refine wpList_load_mid rfl 172 _ rfl g0 (k * 4) rfl (rcc e) dE HRg.out HU.out HDd.out (sizeRc _) ?_) | (refine wpList_alloc_list (w := wr) rfl 172 rfl (rcc zR) Tryz.zeroRc ?_; intro w2 F2 hb2 hz2; simp only [Act.put, List.getElem_toArray, List.getElem_cons_zero, List.getElem_cons_succ, List.setIfInBounds_toArray, List.set_cons_zero, List.set_cons_succ]) | (refine wpList_store_list rfl 172 (.tmp 12) (.tmp 39) rfl wr.heap.size (rcc zR) (rcc e) rfl rfl F2.out rfl (sizeRc _) (rcc_one _) ?_; intro w3 F3 HK3; have HQ2 := Lib.hid hb2; clear hb2 F2))
      obtain ⟨bx, hbx⟩ : ∃ x, wr.heap.size = x := ⟨_, rfl⟩
      have HG3 := Lib.hid ((HGr.out.keep HQ2.out).kp HK3.out (HGr.out.notin (Nat.le_refl _)))
      have HKc := Lib.hid ((HKr.out.more HQ2.out).new HK3.out hsz)
      have HNx : Hid (bx ∉ [t, m, d, gg]) := Lib.hid (hbx ▸ HNs.out _ (Nat.le_trans HK1.out.size hsz))
      rw [hbx] at F3
      try rw [hbx]
      clear HQ2 HK3 hbx hz2 HRg HGr HKr
      have HRx := Lib.hid F3.out.range0
      go_wp2_with (refine wpList_load_mid rfl 172 _ rfl bx 0 rfl (rcc e) dE HRx.out HU.out HDd.out (sizeRc _) ?_)
      refine (HVc.out w3).mono ?_
      rintro x w4 ⟨rfl, hb⟩
      have HG4 := Lib.hid (HG3.out.keep hb)
      have HK4 := Lib.hid (HKc.out.more hb)
      have F4 := Lib.hid (F3.out.keep hb)
      clear hb HVc HG3 HKc F3 HRx
      cases vc
      · have HRe := Lib.hid (rcc_ink F4.out)
        go_wp2_with (refine wpList_load_mid rfl 92 _ rfl bx 0 rfl (ink e.1) dI HRe.out HUI.out HDI.out (sizeIk _) ?_)
        refine (HA.out trivial w4 (K + 1001 + k) HKl.out (HK1.out.trans HK4.out) HG4.out.rd).mono ?_
        rintro x w5 ⟨rfl, hR, hk5⟩
        have HG5 := Lib.hid (HG4.out.call hR hk5)
        have HK5 := Lib.hid (HK4.out.trans hk5)
        clear hR hk5 HG4 HK4 F4 HA HRe
        go_wp2_with fail
        go_roundw
        case rel => exact ⟨k + 1, by omega, by go_num, rfl, HK5.out, HG5.out.mono (Lm.le_refl _) (by omega)⟩
        case measure => (simp [Go.RowKit.intOf]; try omega)
      · go_wp2_with fail
        go_roundw
        case rel => exact ⟨k + 1, by omega, by go_num, rfl, HK4.out, HG4.out.mono (Lm.le_refl _) (by omega)⟩
        case measure => (simp [Go.RowKit.intOf]; try omega)
    · obtain rfl : k = n0 := by omega
      go_wp2_with fail
      go_ret2
      exact ⟨rfl, HGr.out.mono (Lm.le_refl _) (by omega), HK1.out.trans HKr.out⟩
theorem mtI_of {x : In} {r : Rc} (h : mtI x r = true) : r.1 = x ∧ ¬ r = zR := by
  unfold mtI vacR at h
  rw [Bool.and_eq_true, decide_eq_true_iff] at h
  exact ⟨h.2, by simpa using h.1⟩
set_option maxHeartbeats 20000000 in
set_option maxRecDepth 2000000 in
/-- a node of which there is an own directory -/
theorem ineed_old (q p t m d gg lab B0 P0 M DA NB N K n : Nat) (g : Cf.Ge) (Y V : Nat → Nat → Int) (h2 : 2 ≤ M) (b0 : Nat → Nat) (E : List Rc) (hD : It B0 DA NB Y (V 2) b0 E) (hI : Tab P0 M Y V) (hK : K < 180000000) (hg : GG g B0 P0 M DA NB N) (w : World) (h : Gr w q p t m d gg lab g B0 NB N ln Y K) (x : In) (hx : bdI x) (e0 : Rc) (he0 : e0 ∈ E) (hm0 : mtI x e0 = true) :
    Calls Tryz.prog 35 #[.pointer (some ⟨t, 0, none⟩), .pointer (some ⟨n, 0, none⟩), .pointer (some ⟨q, 0, none⟩), .agg (ink x).toArray] w fun r w' => (∃ (i : Nat) (e : Rc), E[i]? = some e ∧ mtI x e = true ∧ (∀ (j : Nat) (e' : Rc), j < i → E[j]? = some e' → mtI x e' = false) ∧ r = .returned (.tuple #[.int .i64 e.2, .int .i64 0])) ∧ Gr w' q p t m d gg lab g B0 NB N ln Y (K + 1001) ∧ Kf w w' [t, m, d, gg] := by
  obtain ⟨dI, huI, hdI⟩ := Tryz.descIno
  have HUI := Lib.hid huI
  have HDI := Lib.hid hdI
  have HFi := Lib.hid (fun W hW => iFind_any (ln := ln) q p t m d gg lab B0 P0 M DA NB N K g Y V h2 b0 E hD hI (by omega) hg W hW x hx)
  have HG0 := Lib.hid h
  have HOk := Lib.hid hD.ok
  have HE0 := Lib.hid he0
  have HM0 := Lib.hid hm0
  clear huI hdI h2 hD hI hK hg h hx he0 hm0
  go_enter Tryz.func35, Tryz.ntmps35
  go_upto_region 1 with (first | (refine wpList_box_list (w := w) rfl 92 _ rfl (ink x) rfl ?_; intro w0 F0 hb0 hz0; have HQ0 := Lib.hid hb0; clear hb0 hz0))
  have HRx := Lib.hid F0.out.range0
  go_wp2_with (refine wpList_load_mid rfl 92 _ rfl w.heap.size 0 rfl (ink x) dI HRx.out HUI.out HDI.out (sizeIk _) ?_)
  refine (HFi.out w0 (HG0.out.keep HQ0.out)).mono ?_
  rintro r w1 ⟨⟨hG, hk⟩, (⟨i, e, hie, hme, hfi, rfl⟩ | ⟨hno, rfl⟩)⟩
  · have HG1 := Lib.hid hG
    have HK1 := Lib.hid ((Kf.of_below HQ0.out [t, m, d, gg]).trans hk)
    have HIe := Lib.hid hie
    have HMe := Lib.hid hme
    have HFf := Lib.hid hfi
    have ho := (HOk.out e (List.mem_of_getElem? hie)).resolve_left (mtI_of hme).2
    have ho1 : (0 : Int) < (e.2 : Int) := by have := ho.2.2; omega
    clear hG hk hie hme hfi HFi HRx ho
    go_wp2_with fail
    go_ret2
    exact ⟨⟨i, e, HIe.out, HMe.out, HFf.out, rfl⟩, HG1.out, HK1.out⟩
  · exact absurd (hno e0 HE0.out) (by rw [HM0.out]; decide)
set_option maxHeartbeats 40000000 in
set_option maxRecDepth 2000000 in
/-- a node of which there is none: one is made, at node n0, and a record of it is put -/
theorem ineed_new (q p t m d gg lab B0 P0 M DA NB N K n : Nat) (g : Cf.Ge) (Y V : Nat → Nat → Int) (h2 : 2 ≤ M) (b0 : Nat → Nat) (E : List Rc) (hD : It B0 DA NB Y (V 2) b0 E) (hI : Tab P0 M Y V) (hK : K < 170000000) (hg : GG g B0 P0 M DA NB N) (w : World) (h : Gr w q p t m d gg lab g B0 NB N ln Y K) (x : In) (hx : bdI x) (hx0 : 0 < x.2.1) (hno : ∀ e ∈ E, mtI x e = false)
    (hal : ∀ e ∈ E, vacR e = false → ∀ W K', K' ≤ K + 5000 → Kf w W [t, m, d, gg] → Rd W t m d gg N ln Y K' → Calls Tryz.prog 49 #[.pointer (some ⟨t, 0, none⟩), .pointer (some ⟨n, 0, none⟩), .agg (ink e.1).toArray] W fun r w' => r = .returned (.tuple #[.bool true, .int .i64 0]) ∧ Rd w' t m d gg N ln Y (K' + 1) ∧ Kf W w' [t, m, d, gg])
    (n0 : Nat) (k1 : 4 ≤ n0) (k2 : n0 ≤ M) (hz : V n0 0 = 0) (hnz : ∀ j, 1 ≤ j → j < n0 → V j 0 ≠ 0) (gn : Int) (hgn : IntKind.u16.wrap (V n0 2 + 1) = gn) (g0 : 0 ≤ gn) (g1 : gn < 65536) (hT : Has ln (P0 + (n0 - 1) / 2)) (Q : Int → World → Prop)
    (hW : ∀ Y1, tabW P0 n0 (setG (mkN 2) gn) Y = Y1 → ∀ i, isRoomR E i → ∀ W sb, Gr W q p t m d gg lab g B0 NB N ln Y1 (K + 6000) → Kf w W [t, m, d, gg] → w.heap.size ≤ sb → Fl W sb 8 (rcF (x, n0)) → Calls Tryz.prog 102 #[.pointer (some ⟨q, 0, none⟩), .int .i64 2, .int .i64 ((8 * i : Nat) : Int), .slice (some ⟨sb, 0, none⟩) 8 8] W fun r w' => ∃ c, r = .returned (.int .i64 c) ∧ Kf W w' [t, m, d, gg] ∧ Q c w') :
    Calls Tryz.prog 35 #[.pointer (some ⟨t, 0, none⟩), .pointer (some ⟨n, 0, none⟩), .pointer (some ⟨q, 0, none⟩), .agg (ink x).toArray] w fun r w' => ∃ c, Q c w' ∧ r = .returned (.tuple #[.int .i64 (if c = 0 then (n0 : Int) else 0), .int .i64 c]) := by
  obtain ⟨dI, huI, hdI⟩ := Tryz.descIno
  have HUI := Lib.hid huI
  have HDI := Lib.hid hdI
  have hm128 := hg.m128
  have HFi := Lib.hid (fun W hW => iFind_any (ln := ln) q p t m d gg lab B0 P0 M DA NB N K g Y V h2 b0 E hD hI (by omega) hg W hW x hx)
  have HRe := Lib.hid (fun W hW hal => ireap_none (ln := ln) q p t m d gg lab B0 P0 M DA NB N (K + 1001) n g Y V h2 b0 E hD hI (by omega) hg W hW hal)
  have HMk := Lib.hid (fun W hW => gmake_in (ln := ln) q p t m d gg lab B0 P0 M DA NB N (K + 4001) g Y V 2 (by decide) (by decide) rfl n0 (by omega) k2 hz hnz gn hgn g0 g1 hT (by omega) hI hg W hW)
  obtain ⟨Y1, hY1⟩ : ∃ Y1, tabW P0 n0 (setG (mkN 2) gn) Y = Y1 := ⟨_, rfl⟩
  have HWr := Lib.hid (hW Y1 hY1)
  rw [hY1] at HMk
  have hI1 : Tab P0 M Y1 (vput n0 (setG (mkN 2) gn) V) := by
    rw [← hY1]
    exact hI.wr n0 (by omega) k2 _ (setG_ok (mkN_ok 2 (by decide) (by decide)) g0 g1) (setG_code gn (by decide) (mkN_mbl 2 rfl))
  have hD1 : It B0 DA NB Y1 (vput n0 (setG (mkN 2) gn) V 2) b0 E := by
    have hpd := hg.pd
    have hbp := hg.bp
    have hne : ∀ z, z < P0 ∨ DA ≤ z → Y1 z = Y z := fun z hzz => by
      rw [← hY1]
      exact tabW_ne _ _ _ _ _ (by omega)
    rw [vput_ne _ _ (by omega)]
    refine ⟨hD.k, hD.l, hD.s, hD.n, ⟨hD.fu.fi.congr (fun c hc _ => hne _ (.inr (by omega))), fun c hc => ?_⟩, hD.ok, fun i hi => ?_⟩
    · rw [← hD.fu.us c hc]
      have h512 := hg.n512
      have hr := hD.fu.fi.rng c hc
      unfold bt
      rw [hne _ (.inl (by omega))]
    · rw [← hD.ct i hi]
      unfold ctF
      rw [hne _ (.inr (by omega))]
  have HAd := Lib.hid (fun W hW Q' hQ' => iadd_any (ln := ln) q p t m d gg lab B0 P0 M DA NB N (K + 4201) g Y1 (vput n0 (setG (mkN 2) gn) V) h2 b0 E hD1 hI1 (by omega) hg W hW (x, n0) ⟨⟨hx, by show n0 < 65536; omega⟩, hx0, by show 3 < n0; omega⟩ Q' hQ')
  have HG0 := Lib.hid h
  have h0lt : ∀ a ∈ [q, p, t, m, d, gg], a < w.heap.size := fun a ha => by
    obtain ⟨l1, l2, l3, l4, l5, l6⟩ := h.lts
    simp only [List.mem_cons, List.not_mem_nil, or_false] at ha
    rcases ha with rfl | rfl | rfl | rfl | rfl | rfl <;> assumption
  have H0 := Lib.hid h0lt
  have HOk := Lib.hid hD.ok
  have HNo := Lib.hid hno
  have HAl := Lib.hid hal
  have hwr : IntKind.u16.wrap (n0 : Int) = n0 := u16_in _ (by omega) (by omega)
  have hn0 : (0 : Int) ≤ n0 := by omega
  clear huI hdI h2 hD hI hK hg h hx hno hal hW hI1 hD1 hz hnz hgn g0 g1 hT hY1 hx0 hm128
  go_enter Tryz.func35, Tryz.ntmps35
  go_upto_region 1 with (first | (refine wpList_box_list (w := w) rfl 92 _ rfl (ink x) rfl ?_; intro w0 F0 hb0 hz0; have HQ0 := Lib.hid hb0; clear hb0 hz0))
  have HNX : Hid (w.heap.size ∉ [t, m, d, gg]) := Lib.hid (fun ha => by
    have := H0.out w.heap.size (by simp only [List.mem_cons, List.not_mem_nil, or_false] at ha ⊢; omega)
    omega)
  have HRx := Lib.hid F0.out.range0
  go_wp2_with (refine wpList_load_mid rfl 92 _ rfl w.heap.size 0 rfl (ink x) dI HRx.out HUI.out HDI.out (sizeIk _) ?_)
  refine (HFi.out w0 (HG0.out.keep HQ0.out)).mono ?_
  rintro r w1 ⟨⟨hG, hk⟩, (⟨i, e, hie, hme, hfi, rfl⟩ | ⟨hno, rfl⟩)⟩
  · exact absurd (HNo.out e (List.mem_of_getElem? hie)) (by rw [hme]; decide)
  have HG1 := Lib.hid hG
  have HK1 := Lib.hid ((Kf.of_below HQ0.out [t, m, d, gg]).trans hk)
  have F1 := Lib.hid (F0.out.kf hk HNX.out)
  clear hG hk hno HFi HRx HQ0 F0
  go_wp2_with fail
  refine (HRe.out w1 HG1.out (fun e he hv W K' hK' hkW hR => HAl.out e he hv W K' (by omega) (HK1.out.trans hkW) hR)).mono ?_
  rintro r w2 ⟨rfl, hG, hk⟩
  have HG2 := Lib.hid hG
  have HK2 := Lib.hid (HK1.out.trans hk)
  have F2 := Lib.hid (F1.out.kf hk HNX.out)
  clear hG hk HG1 HK1 F1 HRe HAl
  go_wp2_with fail
  refine (HMk.out w2 (HG2.out.mono (Lm.le_refl _) (by omega))).mono ?_
  rintro r w3 ⟨rfl, hG, hk⟩
  have HG3 := Lib.hid hG
  have HK3 := Lib.hid (HK2.out.trans hk)
  have F3 := Lib.hid (F2.out.kf hk HNX.out)
  have hk3s := HK3.out.size
  clear hG hk HG2 HK2 F2 HMk
  have HRy := Lib.hid F3.out.range0
  have HAx := Lib.hid (HAd.out w3 (HG3.out.mono (Lm.le_refl _) (by omega)) Q (fun i hi W sb hW hkW hsb hF => HWr.out i hi W sb (hW.mono (Lm.le_refl _) (by omega)) (HK3.out.trans hkW) (by omega) hF))
  have hrc : rcc (x, n0) = [.int .u8 x.1, .int .u16 x.2.1, .int .u16 x.2.2, .int .u16 n0] := rfl
  rw [hrc] at HAx
  clear hrc HAd HWr
  go_wp2_with (first | (refine wpList_load_mid rfl 92 _ rfl w.heap.size 0 rfl (ink x) dI HRy.out HUI.out HDI.out (sizeIk _) ?_) | (refine wpList_yields (.agg #[.int .u8 x.1, .int .u16 x.2.1, .int .u16 x.2.2, .int .u16 n0]) (yields_bld2 (by rfl) 172 0 1 _ _ rfl (.agg (ink x).toArray) (.int .u16 n0) rfl rfl _ (Tryz.buildRc2 x.1 x.2.1 x.2.2 n0)) ?_))
  refine HAx.out.mono ?_
  rintro r w4 ⟨c, rfl, hq⟩
  have HQq := Lib.hid hq
  clear hq HAx HRy
  by_cases hc : c = 0
  · subst hc
    go_wp2_with fail
    go_ret2
    exact ⟨0, HQq.out, rfl⟩
  · have hcb : (c == 0) = false := beq_eq_false_iff_ne.2 hc
    have HC := Lib.hid hc
    clear hc
    go_wp2_with fail
    go_ret2
    exact ⟨c, HQq.out, by rw [if_neg HC.out]; rfl⟩
end Go.Proofs.YteaoabppppbkoaaGreatDoor

namespace Go.Proofs.YteaoabppppbkoaaGreatDoor
set_option linter.unusedSimpArgs false
set_option linter.unusedVariables false
open Go.RowKit Go.Maps

variable {ln : Lm}
end Go.Proofs.YteaoabppppbkoaaGreatDoor

namespace Go.Proofs.YteaoabppppbkoaaGreatDoor
set_option linter.unusedSimpArgs false
set_option linter.unusedVariables false
open Go.RowKit Go.Maps

variable {ln : Lm}
end Go.Proofs.YteaoabppppbkoaaGreatDoor

namespace Go.Proofs.YteaoabppppbkoaaGreatDoor
set_option linter.unusedSimpArgs false
set_option linter.unusedVariables false
open Go.RowKit Go.Maps

/-- a place within, then a cut -/
theorem Mv.cut {B0 TB DA NB : Nat} {Y0 Y1 Y2 : Nat → Nat → Int} {n0 n : Nat} {b0 b : Nat → Nat} (h : Mv B0 TB DA NB Y0 n0 b0 Y1 n0 b) (k : Mv B0 TB DA NB Y1 n0 b Y2 n b) (hn : n ≤ n0) : Mv B0 TB DA NB Y0 n0 b0 Y2 n b := by
  have hbb : ∀ c, ndS n0 c = true → b c = b0 c := fun c hc => h.bb c hc hc
  refine ⟨fun c h1 _ => hbb c h1, fun z z1 z2 z3 z4 => ?_, fun j hj => ?_, fun c h1 h2 => ?_⟩
  · rw [k.y z z1 z2 (fun c hc => by rw [hbb c hc]; exact z3 c hc) z4]
    exact h.y z z1 z2 z3 (fun c hc => by rw [hbb c hc]; exact z3 c hc)
  · rw [k.u j hj, h.u j hj]
    constructor
    · rintro (⟨(⟨h1, -⟩ | ⟨c, k1, k2, -⟩), h2⟩ | ⟨c, k1, k2, -⟩)
      · exact .inl ⟨h1, fun ⟨c, c1, c2, c3⟩ => h2 ⟨c, c1, c2, by rw [hbb c c1]; exact c3⟩⟩
      · rw [k1] at k2
        cases k2
      · rw [ndS_mono hn c k1] at k2
        cases k2
    · rintro (⟨h1, h2⟩ | ⟨c, k1, k2, -⟩)
      · exact .inl ⟨.inl ⟨h1, fun ⟨c, c1, c2, _⟩ => by rw [c1] at c2; cases c2⟩, fun ⟨c, c1, c2, c3⟩ => h2 ⟨c, c1, c2, by rw [← hbb c c1]; exact c3⟩⟩
      · rw [ndS_mono hn c k1] at k2
        cases k2
  · rw [ndS_mono hn c h1] at h2
    cases h2
end Go.Proofs.YteaoabppppbkoaaGreatDoor

namespace Go.Proofs.YteaoabppppbkoaaGreatDoor
set_option linter.unusedSimpArgs false
set_option linter.unusedVariables false
open Go.RowKit Go.Maps

variable {ln : Lm}
end Go.Proofs.YteaoabppppbkoaaGreatDoor
