import Derived.Test.YtgfgdfcedmcjeaaGreatDoorM23
import Derived.Test.YtgfgdfcedmcjeaaGreatDoorM20
/- Directories: a place written; places cut. -/
/- Directories: Add. -/
/- Directories: Find, Turn, Empty. -/
/- Directories: Drop. -/
/- Directories: List. -/

namespace Go.Proofs.YtgfgdfcedmcjeaaGreatDoor
set_option linter.unusedSimpArgs false
set_option linter.unusedVariables false
open Go.RowKit Go.Maps

/-- a place has another entry; the one behind all is a new one -/
def setE (E : List En) (i : Nat) (e : En) : List En := if i < E.length then E.set i e else E ++ [e]
theorem setE_len (E : List En) (i : Nat) (e : En) (hi : i ≤ E.length) : (setE E i e).length = max E.length (i + 1) := by
  unfold setE
  split
  · rw [List.length_set]
    omega
  · rw [List.length_append, List.length_cons, List.length_nil]
    omega
theorem setE_get (E : List En) (i : Nat) (e : En) (hi : i ≤ E.length) (k : Nat) : (setE E i e)[k]? = if k = i then some e else E[k]? := by
  unfold setE
  split
  · rename_i h
    rw [List.getElem?_set]
    by_cases hk : i = k
    · subst hk
      rw [if_pos rfl, if_pos h, if_pos rfl]
    · rw [if_neg hk, if_neg (Ne.symm hk)]
  · have : i = E.length := by omega
    subst this
    by_cases hk : k = E.length
    · subst hk
      rw [if_pos rfl, List.getElem?_append_right (Nat.le_refl _), Nat.sub_self]
      rfl
    · rw [if_neg hk]
      by_cases hl : k < E.length
      · rw [List.getElem?_append_left hl]
      · rw [List.getElem?_eq_none (by simp; omega), List.getElem?_eq_none (by omega)]
theorem setE_mem {E : List En} {i : Nat} {e x : En} (hi : i ≤ E.length) (hx : x ∈ setE E i e) : x = e ∨ x ∈ E := by
  obtain ⟨k, hk⟩ := List.mem_iff_getElem?.1 hx
  rw [setE_get E i e hi k] at hk
  by_cases h : k = i
  · rw [if_pos h] at hk
    injection hk with hk
    exact .inl hk.symm
  · rw [if_neg h] at hk
    exact .inr (List.mem_of_getElem? hk)
/-- from one state of a node's blocks to a later one -/
structure Mv (B0 TB DA NB : Nat) (Y0 : Nat → Nat → Int) (n0 : Nat) (b0 : Nat → Nat) (Y : Nat → Nat → Int) (n : Nat) (b : Nat → Nat) : Prop where
  bb : ∀ c, ndS n0 c = true → ndS n c = true → b c = b0 c
  y : ∀ z, z ≠ B0 → z ≠ TB → (∀ c, ndS n0 c = true → z ≠ DA + (b0 c - 1)) → (∀ c, ndS n c = true → z ≠ DA + (b c - 1)) → Y z = Y0 z
  u : ∀ j, j < NB → (bt Y B0 j = true ↔ (bt Y0 B0 j = true ∧ ¬ ∃ c, ndS n0 c = true ∧ ndS n c = false ∧ b0 c = j + 1) ∨ ∃ c, ndS n c = true ∧ ndS n0 c = false ∧ b c = j + 1)
  fr : ∀ c, ndS n c = true → ndS n0 c = false → bt Y0 B0 (b c - 1) = false
/-- how many blocks so many places take -/
def nbE (k : Nat) : Nat := (16 * k + 63) / 64
variable {ln : Lm}
theorem dwrite_in (q p t m d gg lab B0 P0 M DA NB N K TB : Nat) (g : Cf.Ge) (Y0 V : Nat → Nat → Int) (b0 : Nat → Nat) (L : List Nat) (D : Nat → Nat → Int) (hL : L.length ≤ 28) (num : Nat) (hTB : TB = P0 + (num - 1) / 2) (h1 : 1 ≤ num) (h2 : num ≤ M) (E : List En) (hD : Dir B0 DA NB Y0 (V num) b0 E) (hI : Tab P0 M Y0 V)
    (hK : K < 250000000) (hg : GG g B0 P0 M DA NB N) (w : World) (h : Gr w q p t m d gg lab g B0 NB N ⟨dl B0 TB DA b0 (ndS (nbE E.length)) L, D⟩ Y0 K) (i : Nat) (hi : i ≤ E.length) (hi2 : i < 1024) (e : En) (he : e = zE ∨ okE e) (hcL : ∀ j, j ≤ lenC (i / 4) → chS (i / 4) j ∈ L) (sb : Nat) (hF : Fl w sb 16 (pkF e)) (hsb : sb ∉ [t, m, d, gg]) :
    Calls Tryz.prog 74 #[.pointer (some ⟨q, 0, none⟩), .int .i64 num, .int .i64 ((16 * i : Nat) : Int), .slice (some ⟨sb, 0, none⟩) 16 16] w fun x w' =>
      (∃ (Y : Nat → Nat → Int) (f : Nat → Int) (B : Nat → Nat), x = .returned (.int .i64 0) ∧ Gr w' q p t m d gg lab g B0 NB N ⟨dl B0 TB DA B (ndS (nbE (setE E i e).length)) L, D⟩ Y (K + 25000) ∧ Kf w w' [t, m, d, gg] ∧ Tab P0 M Y (vput num f V) ∧ Dir B0 DA NB Y f B (setE E i e) ∧ Mv B0 TB DA NB Y0 (nbE E.length) b0 Y (nbE (setE E i e).length) B) ∨
      (∃ (Y : Nat → Nat → Int) (ln : Lm) (B : Nat → Nat) (n : Nat → Bool), x = .returned (.int .i64 10) ∧ ln.D = D ∧ Gr w' q p t m d gg lab g B0 NB N ln Y (K + 25000) ∧ Kf w w' [t, m, d, gg] ∧ (∀ j, j < NB → bt Y B0 j = true) ∧ (∀ c, n c = true → ndS (nbE (setE E i e).length) c = true) ∧ (∃ c, n c = false ∧ ndS (nbE (setE E i e).length) c = true)
        ∧ (∀ c, ndS (nbE E.length) c = true → n c = true ∧ B c = b0 c) ∧ (∀ j, j < NB → (bt Y B0 j = true ↔ bt Y0 B0 j = true ∨ ∃ c, n c = true ∧ ndS (nbE E.length) c = false ∧ B c = j + 1))) := by
  have hn := hD.n
  have hk := hD.k
  have hl := setE_len E i e hi
  have hm : max (16 * E.length) (16 * i + 16) = 16 * (setE E i e).length := by rw [hl]; omega
  have he2 : e.2 < 65536 := by
    rcases he with rfl | h
    · decide
    · exact h.2.1
  have hfu : Fu B0 DA NB Y0 (V num) (ndS ((16 * E.length + 63) / 64)) b0 := hD.fu
  have := fwrite_in q p t m d gg lab B0 P0 M DA NB N K TB g Y0 V b0 L D hL num hTB h1 h2 (by rw [hk]; decide) hD.l (16 * E.length) hD.s hfu hI (by omega) hg w h (16 * i) 16 (by omega) (by omega) (by omega) (by omega) (by
    rw [hm, hk]
    show mbl 2 ((16 * (setE E i e).length : Nat) : Int) = true
    unfold mbl
    rw [if_neg (by decide), if_pos rfl, decide_eq_true (by omega), decide_eq_true (by omega)]
    rfl) (fun c hc1 hc2 j hj => by
    have : c = i / 4 := by omega
    rw [this] at hj ⊢
    exact hcL j hj) (.slice (some ⟨sb, 0, none⟩) 16 16) (pkF e) (fun j _ => pkF_bd e he2 j) (Src.made w sb 16 (pkF e) [t, m, d, gg] hF (by decide) hsb)
  rw [hm] at this
  refine this.mono ?_
  rintro x w' (⟨Y, f, B, rfl, hG, hkf, hT, hFu, hf0, hf1, -, hf3, hB, hy, hu, hfr, hct⟩ | ⟨Y, ln, B, n, rfl, hD', hG, hkf, hall, hn1, hn2, hB, -, -, hu, -⟩)
  · refine .inl ⟨Y, f, B, rfl, hG, hkf, hT, ⟨by rw [hf0, hk], by rw [hf1]; exact hD.l, hf3, by rw [hl]; omega, hFu, fun x hx => ?_, fun j hj => ?_⟩, ⟨fun c h1 h2 => hB c h1, fun z z1 z2 _ z3 => hy z z1 z2 z3, fun j hj => ?_, hfr⟩⟩
    · rcases setE_mem hi hx with rfl | hx
      · exact he
      · exact hD.ok x hx
    · rw [hct j hj]
      unfold dirC
      rw [setE_get E i e hi]
      by_cases hji : 16 * i ≤ j ∧ j < 16 * i + 16
      · rw [if_pos hji, if_pos (show j / 16 = i by omega), show j - 16 * i = j % 16 by omega]
      · rw [if_neg hji, if_neg (show ¬ j / 16 = i by omega)]
        by_cases hjn : j < 64 * ((16 * E.length + 63) / 64)
        · rw [if_pos hjn]
          exact hD.ct j hjn
        · rw [if_neg hjn, List.getElem?_eq_none (by omega)]
    · have hle : ∀ c, ndS (nbE E.length) c = true → ndS (nbE (setE E i e).length) c = true := fun c hc => ndS_mono (by unfold nbE; rw [hl]; omega) c hc
      rw [hu j hj]
      constructor
      · rintro (h | h)
        · exact .inl ⟨h, fun ⟨c, k1, k2, _⟩ => by rw [hle c k1] at k2; cases k2⟩
        · exact .inr h
      · rintro (⟨h, -⟩ | h)
        · exact .inl h
        · exact .inr h
  · exact .inr ⟨Y, ln, B, n, rfl, hD', hG, hkf, hall, hn1, hn2, hB, hu⟩
theorem dcut_in (q p t m d gg lab B0 P0 M DA NB N K : Nat) (g : Cf.Ge) (Y0 V : Nat → Nat → Int) (b0 : Nat → Nat) (num : Nat) (h1 : 1 ≤ num) (h2 : num ≤ M) (E : List En) (hD : Dir B0 DA NB Y0 (V num) b0 E) (hI : Tab P0 M Y0 V) (hT0 : Has ln B0) (hTB : Has ln (P0 + (num - 1) / 2)) (hK : K < 200000000) (hg : GG g B0 P0 M DA NB N) (w : World) (h : Gr w q p t m d gg lab g B0 NB N ln Y0 K)
    (u : Nat) (hu : u ≤ E.length) (hT : 0 < u → ∀ i, i ≤ lenC (nbE u - 1) → Has ln (DA + (b0 (chS (nbE u - 1) i) - 1))) :
    Calls Tryz.prog 43 #[.pointer (some ⟨q, 0, none⟩), .int .i64 num, .int .i64 ((16 * u : Nat) : Int)] w fun x w' => ∃ (Y : Nat → Nat → Int) (f : Nat → Int), x = .returned (.int .i64 0) ∧ Gr w' q p t m d gg lab g B0 NB N ln Y (K + 11000) ∧ Kf w w' [t, m, d, gg] ∧ Tab P0 M Y (vput num f V) ∧ Dir B0 DA NB Y f b0 (E.take u) ∧ Mv B0 (P0 + (num - 1) / 2) DA NB Y0 (nbE E.length) b0 Y (nbE u) b0 := by
  have hn := hD.n
  have hk := hD.k
  have hfu : Fu B0 DA NB Y0 (V num) (ndS ((16 * E.length + 63) / 64)) b0 := hD.fu
  have hlen : (E.take u).length = u := by rw [List.length_take]; omega
  refine (fcut_in (ln := ln) q p t m d gg lab B0 P0 M DA NB N K g Y0 V b0 num h1 h2 (by rw [hk]; decide) hD.l (16 * E.length) hD.s (by omega) hfu hI hT0 hTB hK hg w h (16 * u) (by omega) (by
    rw [hk]
    unfold mbl
    rw [if_neg (by decide), if_pos rfl, decide_eq_true (by omega), decide_eq_true (by omega)]
    rfl) (fun hh => hT (by omega)) (fun i hi1 hi2 => ?_)).mono ?_
  · rw [hD.ct i hi2]
    unfold dirC
    rw [List.getElem?_eq_none (by omega)]
  · rintro x w' ⟨Y, f, rfl, hG, hkf, hTb, hFu, hf0, hf1, -, hf3, hy, hu2, hct⟩
    refine ⟨Y, f, rfl, hG, hkf, hTb, ⟨by rw [hf0, hk], by rw [hf1]; exact hD.l, by rw [hlen]; exact hf3, by omega, by rw [hlen]; exact hFu, fun x hx => hD.ok x (List.mem_of_mem_take hx), fun i hi => ?_⟩, ⟨fun _ _ _ => rfl, fun z z1 z2 _ z3 => hy z z1 z2 z3, fun j hj => ?_, fun c k1 k2 => ?_⟩⟩
    · rw [hlen] at hi
      rw [hct i hi]
      unfold dirC
      by_cases hh : i < 16 * u
      · rw [if_pos hh, List.getElem?_take_of_lt (by omega)]
        exact hD.ct i (by omega)
      · rw [if_neg hh, List.getElem?_eq_none (by omega)]
    · have hle : ∀ c, ndS (nbE u) c = true → ndS (nbE E.length) c = true := fun c hc => ndS_mono (by unfold nbE; omega) c hc
      rw [hu2 j hj]
      constructor
      · exact fun h => .inl h
      · rintro (h | ⟨c, k1, k2, -⟩)
        · exact h
        · rw [hle c k1] at k2
          cases k2
    · have := ndS_mono (n := nbE u) (n' := nbE E.length) (by unfold nbE; omega) c k1
      rw [this] at k2
      cases k2
theorem Mv.refl (B0 TB DA NB : Nat) (Y : Nat → Nat → Int) (n : Nat) (b : Nat → Nat) : Mv B0 TB DA NB Y n b Y n b :=
  ⟨fun _ _ _ => rfl, fun _ _ _ _ _ => rfl, fun j _ => ⟨fun h => .inl ⟨h, fun ⟨c, k1, k2, _⟩ => by (rw [k1] at k2; cases k2)⟩, fun h => h.elim (fun h => h.1) fun ⟨c, k1, k2, _⟩ => by (rw [k1] at k2; cases k2)⟩, fun c k1 k2 => by (rw [k1] at k2; cases k2)⟩
end Go.Proofs.YtgfgdfcedmcjeaaGreatDoor

namespace Go.Proofs.YtgfgdfcedmcjeaaGreatDoor
set_option linter.unusedSimpArgs false
set_option linter.unusedVariables false
open Go.RowKit Go.Maps

/-- what Add tells ahead of writing -/
def addC (E : List En) (x : En) : Int := if ¬ nameC x.1 = 0 then nameC x.1 else if x.2 = 0 then 27 else if E.any (mtE x.1) = true then 4 else 0
theorem addC_bad {E : List En} {x : En} (h : ¬ nameC x.1 = 0) : addC E x = nameC x.1 := if_pos h
theorem addC_num {E : List En} {x : En} (h : nameC x.1 = 0) (h2 : x.2 = 0) : addC E x = 27 := by unfold addC; rw [if_neg (by simpa using h), if_pos h2]
theorem addC_old {E : List En} {x : En} (h : nameC x.1 = 0) (h2 : ¬ x.2 = 0) (h3 : E.any (mtE x.1) = true) : addC E x = 4 := by unfold addC; rw [if_neg (by simpa using h), if_neg h2, if_pos h3]
theorem addC_ok {E : List En} {x : En} (h : nameC x.1 = 0) (h2 : ¬ x.2 = 0) (h3 : ∀ e ∈ E, mtE x.1 e = false) : addC E x = 0 := by
  unfold addC
  rw [if_neg (by simpa using h), if_neg h2, if_neg]
  rw [List.any_eq_true]
  rintro ⟨e, he, hm⟩
  rw [h3 e he] at hm
  cases hm
theorem nameC_size {s : ByteArray} (h : nameC s = 0) : s.size ≤ 14 := (nameC_ok h).2.1
variable {ln : Lm}
set_option maxHeartbeats 40000000 in
set_option maxRecDepth 2000000 in
theorem dadd_any (q p t m d gg lab B0 P0 M DA NB N K : Nat) (g : Cf.Ge) (Y V : Nat → Nat → Int) (num : Nat) (h1 : 1 ≤ num) (h2 : num ≤ M) (b0 : Nat → Nat) (E : List En) (hD : Dir B0 DA NB Y (V num) b0 E) (hI : Tab P0 M Y V) (hK : K < 190000000) (hg : GG g B0 P0 M DA NB N) (w : World) (h : Gr w q p t m d gg lab g B0 NB N ln Y K) (x : En) (hx : x.2 < 65536) (Q : Int → World → Prop)
    (hW : nameC x.1 = 0 → ¬ x.2 = 0 → (∀ e ∈ E, mtE x.1 e = false) → ∀ i, isRoom E i → ∀ W sb, Gr W q p t m d gg lab g B0 NB N ln Y (K + 1001) → Kf w W [t, m, d, gg] → w.heap.size ≤ sb → Fl W sb 16 (pkF x) → Calls Tryz.prog 74 #[.pointer (some ⟨q, 0, none⟩), .int .i64 num, .int .i64 ((16 * i : Nat) : Int), .slice (some ⟨sb, 0, none⟩) 16 16] W fun r w' => ∃ c, r = .returned (.int .i64 c) ∧ Kf W w' [t, m, d, gg] ∧ Q c w') :
    Calls Tryz.prog 22 #[.pointer (some ⟨q, 0, none⟩), .int .i64 num, .agg (enc x).toArray] w fun r w' => ∃ c, r = .returned (.int .i64 c) ∧ ((¬ addC E x = 0 ∧ c = addC E x ∧ Gr w' q p t m d gg lab g B0 NB N ln Y (K + 1001) ∧ Kf w w' [t, m, d, gg]) ∨ (addC E x = 0 ∧ Q c w')) := by
  obtain ⟨xs, xn⟩ := x
  obtain ⟨dE, hu, hd⟩ := Tryz.descEn
  have HU := Lib.hid hu
  have HDd := Lib.hid hd
  have HOp := Lib.hid (fun W hW => dopen_in (ln := ln) q p t m d gg lab B0 P0 M DA NB N K g Y V num h1 h2 b0 E hD hI hK hg W hW)
  have HG0 := Lib.hid h
  have hsm := smE_of hD.ok
  have hl := hD.n
  have h0lt : ∀ a ∈ [q, p, t, m, d, gg], a < w.heap.size := fun a ha => by
    obtain ⟨l1, l2, l3, l4, l5, l6⟩ := h.lts
    simp only [List.mem_cons, List.not_mem_nil, or_false] at ha
    rcases ha with rfl | rfl | rfl | rfl | rfl | rfl <;> assumption
  have H0 := Lib.hid h0lt
  have HNm := Lib.hid (fun W => name_any xs W)
  have HFi := Lib.hid (fun bd base v W hV hO => find_any q num bd base v E hsm xs hl W hV hO)
  have HRo := Lib.hid (fun bd base v W hV hO => room_any q num bd base v E hsm hl W hV hO)
  have HWr := Lib.hid hW
  have hxn : xn < 65536 := hx
  have HL := Lib.hid hl
  obtain ⟨nc, hnc⟩ : ∃ z, nameC xs = z := ⟨_, rfl⟩
  rw [hnc] at HNm
  have HNC := Lib.hid hnc
  have HXn := Lib.hid hxn
  clear hu hd h1 h2 hD hI hK hg h hsm hl h0lt hW hx hnc hxn
  go_enter Tryz.func22, Tryz.ntmps22
  go_wp2_with (first | (refine wpList_box_list (w := w) rfl 58 _ rfl (enc (xs, xn)) rfl ?_; intro w0 F0 hb0 hz0; have HQ0 := Lib.hid hb0; clear hb0 hz0))
  refine (HOp.out w0 (HG0.out.keep HQ0.out)).mono ?_
  rintro e w1 ⟨bd, v, base, rfl, hbd, hbb, hV, hO, hG, hk⟩
  have HV1 := Lib.hid hV
  have HO1 := Lib.hid hO
  have HG1 := Lib.hid hG
  have HK1 := Lib.hid ((Kf.of_below HQ0.out [t, m, d, gg]).trans hk)
  have hbw : w.heap.size ≤ bd := Nat.le_trans HQ0.out.size hbd
  have HND : Hid (bd ∉ [t, m, d, gg]) := Lib.hid (fun ha => by
    have := H0.out bd (by simp only [List.mem_cons, List.not_mem_nil, or_false] at ha ⊢; omega)
    omega)
  have hk0 := hk
  clear hV hO hG hk HOp hbd
  have F1 := Lib.hid (F0.out.kf hk0 (fun ha => by
    have := H0.out w.heap.size (by simp only [List.mem_cons, List.not_mem_nil, or_false] at ha ⊢; omega)
    omega))
  clear hk0
  have c0 := F1.out.c 0 _ rfl
  go_wp2_with fail
  refine (HNm.out w1).mono ?_
  rintro e wz ⟨rfl, hwz⟩
  rw [hwz]
  clear hwz HNm
  by_cases hn0 : nc = 0
  · subst hn0
    have c1 := F1.out.c 1 _ rfl
    by_cases hx0 : (xn : Int) = 0
    · have HA : Hid (addC E (xs, xn) = 27) := Lib.hid (addC_num HNC.out (by show xn = 0; omega))
      go_wp2_with fail
      go_ret
      exact ⟨27, rfl, .inl ⟨by rw [HA.out]; decide, HA.out.symm, HG1.out, HK1.out⟩⟩
    · have HX0 : Hid (¬ xn = 0) := Lib.hid (by omega)
      go_wp2_with fail
      refine (HFi.out bd base v w1 HV1.out HO1.out).mono ?_
      rintro r w2 ⟨hb, (⟨i, e, hie, hme, -, rfl⟩ | ⟨hno, rfl⟩)⟩
      · have HA : Hid (addC E (xs, xn) = 4) := Lib.hid (addC_old HNC.out HX0.out (List.any_eq_true.2 ⟨e, List.mem_of_getElem? hie, hme⟩))
        have HG2 := Lib.hid (HG1.out.keep hb)
        have HK2 := Lib.hid (HK1.out.more hb)
        clear hb hie hme
        go_wp2_with fail
        go_ret
        exact ⟨4, rfl, .inl ⟨by rw [HA.out]; decide, HA.out.symm, HG2.out, HK2.out⟩⟩
      · have HA : Hid (addC E (xs, xn) = 0) := Lib.hid (addC_ok HNC.out HX0.out hno)
        have HNo := Lib.hid hno
        have HG2 := Lib.hid (HG1.out.keep hb)
        have HK2 := Lib.hid (HK1.out.more hb)
        have HV2 := Lib.hid (HV1.out.keep hb)
        have HO2 := Lib.hid (ownsRow_below HO1.out hb)
        have F2 := Lib.hid (F1.out.keep hb)
        clear hb hno c0 c1 HFi HG1 HK1 HV1 HO1 F1
        go_upto_region 12 with fail
        refine wp_region_held (S := fun W => Vl W w.heap.size (enc (xs, xn))) (by kernel_rfl) ?_
        change wpAnyH _ _ _ _ _ _ _ _ (World.drew _)
        have hS0 : (fun W => Vl W w.heap.size (enc (xs, xn))) w2.drew := F2.out.keep (Below.refl _ _).drew
        have hbd3 : Below w2.heap.size w2 w2.drew := (Below.refl _ _).drew
        have HG3 := Lib.hid (HG2.out.keep hbd3)
        have HK3 := Lib.hid (HK2.out.more hbd3)
        have HV3 := Lib.hid (HV2.out.keep hbd3)
        have HO3 := Lib.hid (ownsRow_below HO2.out hbd3)
        obtain ⟨w3, hw3⟩ : ∃ x, World.drew w2 = x := ⟨_, rfl⟩
        rw [hw3] at hS0 HG3 HK3 HV3 HO3 ⊢
        clear hw3 hbd3 HG2 HK2 HV2 HO2 F2
        refine wpAnyH_take (i := 0) (v := ?_) rfl (by kernel_rfl) (by kernel_rfl) (by kernel_rfl) (fun _ _ _ h => h) (Or.inl ⟨by rfl, ?_⟩) hS0 ?_
        rotate_left 1
        · intro W hW
          go_simp
          try with_reducible rfl
        simp only [Act.put, List.getElem_toArray, List.getElem_cons_zero, List.getElem_cons_succ, List.setIfInBounds_toArray, List.set_cons_zero, List.set_cons_succ]
        refine wpAnyH_take (i := 1) (v := ?_) rfl (by kernel_rfl) (by kernel_rfl) (by kernel_rfl) (fun _ _ _ h => h) (Or.inl ⟨by rfl, ?_⟩) hS0 ?_
        rotate_left 1
        · intro W hW
          go_simp
          try with_reducible rfl
        simp only [Act.put, List.getElem_toArray, List.getElem_cons_zero, List.getElem_cons_succ, List.setIfInBounds_toArray, List.set_cons_zero, List.set_cons_succ]
        refine wpAnyH_take (i := 3) (v := .agg (enc (xs, xn)).toArray) rfl (by kernel_rfl) (by kernel_rfl) (by kernel_rfl) (fun _ _ _ h => h) ?_ hS0 ?_
        · exact yieldsIf_load_mid (by rfl) 58 (.tmp 5) rfl w.heap.size 0 rfl (enc (xs, xn)) dE (fun W hW => hW.range0) HU.out HDd.out (sizeEn _)
        simp only [Act.put, List.getElem_toArray, List.getElem_cons_zero, List.getElem_cons_succ, List.setIfInBounds_toArray, List.set_cons_zero, List.set_cons_succ]
        refine wpAnyH_ready (rs := [2]) (by kernel_rfl) (by simp) (AllReadyH.cons rfl (fun KK hKK => ?_) AllReadyH.nil)
        go_simp
        refine (HRo.out bd base v w3 HV3.out HO3.out).mono ?_
        rintro r w4 ⟨hb, i, hi, rfl⟩
        have HG4 := Lib.hid (HG3.out.keep hb)
        have HK4 := Lib.hid (HK3.out.more hb)
        have HV4 := Lib.hid (HV3.out.keep hb)
        have HRi := Lib.hid hi
        have hi1 : i ≤ 1024 := Nat.le_trans hi.1 HL.out
        replace hS0 : (fun W => Vl W w.heap.size (enc (xs, xn))) w4 := hS0.keep hb
        clear hb hi HG3 HK3 HV3 HO3 HRo
        refine hKK _ _ hS0 ?_
        intro _
        clear hKK KK
        try simp only [Act.put, List.getElem_toArray, List.getElem_cons_zero, List.getElem_cons_succ, List.setIfInBounds_toArray, List.set_cons_zero, List.set_cons_succ]
        refine wpAnyH_ready (rs := [4]) (by kernel_rfl) (by simp) (AllReadyH.cons rfl (fun KK hKK => ?_) AllReadyH.nil)
        go_simp
        refine (put_any9 q num bd v (xs, xn) (nameC_size HNC.out) HXn.out i hi1 (fun c w' => Kf w4 w' [t, m, d, gg] ∧ Q c w') w4 HV4.out (fun W sb hbW hsb hF => ?_)).mono ?_
        · refine (HWr.out HNC.out HX0.out HNo.out i HRi.out W sb (HG4.out.keep hbW) (HK4.out.more hbW) (Nat.le_trans HK4.out.size hsb) hF).mono ?_
          rintro r w' ⟨c, rfl, hk, hq⟩
          exact ⟨c, rfl, (HV4.out.keep hbW).kf hk HND.out, (Kf.of_below hbW _).trans hk, hq⟩
        rintro r w5 ⟨c, rfl, hk, hq⟩
        have HQq := Lib.hid hq
        replace hS0 : (fun W => Vl W w.heap.size (enc (xs, xn))) w5 := hS0.kf hk (fun ha => by
          have := H0.out w.heap.size (by simp only [List.mem_cons, List.not_mem_nil, or_false] at ha ⊢; omega)
          omega)
        clear hk hq
        refine hKK _ _ hS0 ?_
        intro _
        clear hKK KK
        try simp only [Act.put, List.getElem_toArray, List.getElem_cons_zero, List.getElem_cons_succ, List.setIfInBounds_toArray, List.set_cons_zero, List.set_cons_succ]
        refine wpAnyH_take (i := 5) (v := ?_) rfl (by kernel_rfl) (by kernel_rfl) (by kernel_rfl) (fun _ _ _ h => h) (Or.inl ⟨by rfl, ?_⟩) hS0 ?_
        rotate_left 1
        · intro W hW
          go_simp
          try with_reducible rfl
        simp only [Act.put, List.getElem_toArray, List.getElem_cons_zero, List.getElem_cons_succ, List.setIfInBounds_toArray, List.set_cons_zero, List.set_cons_succ]
        refine wpAnyH_done (by kernel_rfl) ?_ _
        clear hS0
        go_wp2_with fail
        go_ret
        exact ⟨c, rfl, .inr ⟨HA.out, HQq.out⟩⟩
  · have HA : Hid (addC E (xs, xn) = nc) := Lib.hid (by rw [addC_bad (by show ¬ nameC xs = 0; rw [HNC.out]; exact hn0)]; exact HNC.out)
    have HN0 := Lib.hid hn0
    go_wp2_with fail
    go_ret
    exact ⟨nc, rfl, .inl ⟨by rw [HA.out]; exact HN0.out, HA.out.symm, HG1.out, HK1.out⟩⟩
end Go.Proofs.YtgfgdfcedmcjeaaGreatDoor

namespace Go.Proofs.YtgfgdfcedmcjeaaGreatDoor
set_option linter.unusedSimpArgs false
set_option linter.unusedVariables false
open Go.RowKit Go.Maps

variable {ln : Lm}
set_option maxHeartbeats 20000000 in
set_option maxRecDepth 2000000 in
theorem dfind_any (q p t m d gg lab B0 P0 M DA NB N K : Nat) (g : Cf.Ge) (Y V : Nat → Nat → Int) (num : Nat) (h1 : 1 ≤ num) (h2 : num ≤ M) (b0 : Nat → Nat) (E : List En) (hD : Dir B0 DA NB Y (V num) b0 E) (hI : Tab P0 M Y V) (hK : K < 190000000) (hg : GG g B0 P0 M DA NB N) (w : World) (h : Gr w q p t m d gg lab g B0 NB N ln Y K) (s : ByteArray) :
    Calls Tryz.prog 20 #[.pointer (some ⟨q, 0, none⟩), .int .i64 num, .string s] w fun r w' => (Gr w' q p t m d gg lab g B0 NB N ln Y (K + 1001) ∧ Kf w w' [t, m, d, gg]) ∧ ((∃ (i : Nat) (e : En), E[i]? = some e ∧ mtE s e = true ∧ (∀ (j : Nat) (e' : En), j < i → E[j]? = some e' → mtE s e' = false) ∧ r = .returned (.tuple #[.int .i64 e.2, .int .i64 0])) ∨ ((∀ e ∈ E, mtE s e = false) ∧ r = .returned (.tuple #[.int .i64 0, .int .i64 3]))) := by
  have HOp := Lib.hid (fun W hW => dopen_in (ln := ln) q p t m d gg lab B0 P0 M DA NB N K g Y V num h1 h2 b0 E hD hI hK hg W hW)
  have HG0 := Lib.hid h
  have hsm := smE_of hD.ok
  have hl := hD.n
  have h0lt : ∀ a ∈ [q, p, t, m, d, gg], a < w.heap.size := fun a ha => by
    obtain ⟨l1, l2, l3, l4, l5, l6⟩ := h.lts
    simp only [List.mem_cons, List.not_mem_nil, or_false] at ha
    rcases ha with rfl | rfl | rfl | rfl | rfl | rfl <;> assumption
  have H0 := Lib.hid h0lt
  have HFi := Lib.hid (fun bd base v W hV hO => find_any q num bd base v E hsm s hl W hV hO)
  have HSm := Lib.hid hsm
  have HL := Lib.hid hl
  clear h1 h2 hD hI hK hg h hsm hl h0lt
  go_enter Tryz.func20, Tryz.ntmps20
  go_wp2_with fail
  refine (HOp.out w HG0.out).mono ?_
  rintro e w1 ⟨bd, v, base, rfl, hbd, hbb, hV, hO, hG, hk⟩
  have HV1 := Lib.hid hV
  have HO1 := Lib.hid hO
  have HG1 := Lib.hid hG
  have HK1 := Lib.hid hk
  have hbw : w.heap.size ≤ bd := hbd
  have HND : Hid (bd ∉ [t, m, d, gg]) := Lib.hid (fun ha => by
    have := H0.out bd (by simp only [List.mem_cons, List.not_mem_nil, or_false] at ha ⊢; omega)
    omega)
  clear hV hO hG hk HOp hbd
  go_wp2_with fail
  refine (HFi.out bd base v w1 HV1.out HO1.out).mono ?_
  rintro r w2 ⟨hb, (⟨i, e, hie, hme, hfi, rfl⟩ | ⟨hno, rfl⟩)⟩
  · have HG2 := Lib.hid (HG1.out.keep hb)
    have HK2 := Lib.hid (HK1.out.more hb)
    have HV2 := Lib.hid (HV1.out.keep hb)
    have HO2 := Lib.hid (ownsRow_below HO1.out hb)
    obtain ⟨pa, cap, hv⟩ := Cf.ownsRow_form HO2.out
    subst hv
    have hin : i < E.length := (List.getElem?_eq_some_iff.1 hie).1
    obtain ⟨g0, rfl, -, -⟩ := own_some HO2.out (by omega)
    have hra := own_at HO2.out rfl hie
    have he2 := (HSm.out e (List.mem_of_getElem? hie)).2
    have HLa := Lib.hid (show (∃ (i : Nat) (e : En), E[i]? = some e ∧ mtE s e = true ∧ (∀ (j : Nat) (e' : En), j < i → E[j]? = some e' → mtE s e' = false) ∧ Ending.returned (.tuple #[.int .i64 e.2, .int .i64 0]) = .returned (.tuple #[.int .i64 e.2, .int .i64 0])) from ⟨i, e, hie, hme, hfi, rfl⟩)
    have HIe := Lib.hid hie
    have HMe := Lib.hid hme
    have HFf := Lib.hid hfi
    obtain ⟨es, en⟩ := e
    have cB : w2.cell? ⟨g0, i * 2 + 1, none⟩ = some (.int .u16 en) := hra 1 _ rfl
    have c2 : w2.cell? ⟨bd, 2, none⟩ = some (.slice (some ⟨g0, 0, none⟩) E.length cap) := HV2.out.c 2 _ rfl
    have hwr : IntKind.i64.wrap (en : Int) = en := IntWalk.i64_in _ (by have : en < 65536 := he2; omega)
    have hi0 : (0 : Int) ≤ i := by omega
    have hi1 : (i : Int) < E.length := by omega
    clear hb hie hme hfi hra he2 hin HLa HFi HG1 HK1 HV1 HO1
    go_wp2_with fail
    go_ret2
    exact ⟨⟨HG2.out, HK2.out⟩, .inl ⟨i, (es, en), HIe.out, HMe.out, HFf.out, rfl⟩⟩
  · have HG2 := Lib.hid (HG1.out.keep hb)
    have HK2 := Lib.hid (HK1.out.more hb)
    have HNo := Lib.hid hno
    clear hb hno
    go_wp2_with fail
    go_ret2
    exact ⟨⟨HG2.out, HK2.out⟩, .inr ⟨HNo.out, rfl⟩⟩
end Go.Proofs.YtgfgdfcedmcjeaaGreatDoor

namespace Go.Proofs.YtgfgdfcedmcjeaaGreatDoor
set_option linter.unusedSimpArgs false
set_option linter.unusedVariables false
open Go.RowKit Go.Maps

theorem vput_vput (k : Nat) (f g : Nat → Int) (V : Nat → Nat → Int) : vput k f (vput k g V) = vput k f V := by
  funext x
  unfold vput
  split <;> rfl
/-- a place within, then a cut -/
theorem Mv.cut {B0 TB DA NB : Nat} {Y0 Y1 Y2 : Nat → Nat → Int} {n0 n : Nat} {b0 b : Nat → Nat} (h : Mv B0 TB DA NB Y0 n0 b0 Y1 n0 b) (k : Mv B0 TB DA NB Y1 n0 b Y2 n b) (hn : n ≤ n0) : Mv B0 TB DA NB Y0 n0 b0 Y2 n b := by
  have hbb : ∀ c, ndS n0 c = true → b c = b0 c := fun c hc => h.bb c hc hc
  refine ⟨fun c h1 _ => hbb c h1, fun z z1 z2 z3 z4 => ?_, fun j hj => ?_, fun c h1 h2 => ?_⟩
  · rw [k.y z z1 z2 (fun c hc => by rw [hbb c hc]; exact z3 c hc) z4]
    exact h.y z z1 z2 z3 (fun c hc => by rw [hbb c hc]; exact z3 c hc)
  · rw [k.u j hj, h.u j hj]
    constructor
    · rintro (⟨(⟨h1, -⟩ | ⟨c, k1, k2, -⟩), h2⟩ | ⟨c, k1, k2, -⟩)
      · exact .inl ⟨h1, fun ⟨c, c1, c2, c3⟩ => h2 ⟨c, c1, c2, by rw [hbb c c1]; exact c3⟩⟩
      · rw [k1] at k2
        cases k2
      · rw [ndS_mono hn c k1] at k2
        cases k2
    · rintro (⟨h1, h2⟩ | ⟨c, k1, k2, -⟩)
      · exact .inl ⟨.inl ⟨h1, fun ⟨c, c1, c2, _⟩ => by rw [c1] at c2; cases c2⟩, fun ⟨c, c1, c2, c3⟩ => h2 ⟨c, c1, c2, by rw [← hbb c c1]; exact c3⟩⟩
      · rw [ndS_mono hn c k1] at k2
        cases k2
  · rw [ndS_mono hn c h1] at h2
    cases h2
theorem flatE_set (E : List En) (i : Nat) (e : En) : ((flatE E).set (i * 2) (.string e.1)).set (i * 2 + 1) (.int .u16 e.2) = if i < E.length then flatE (E.set i e) else flatE E := by
  induction E generalizing i with
  | nil => simp [flatE]
  | cons a E ih =>
    have hf : ∀ (a : En) (E : List En), flatE (a :: E) = .string a.1 :: .int .u16 a.2 :: flatE E := fun _ _ => rfl
    cases i with
    | zero => rw [if_pos (by simp), List.set_cons_zero, hf, hf]; rfl
    | succ i =>
      rw [hf, show (i + 1) * 2 = i * 2 + 1 + 1 by omega]
      simp only [List.set_cons_succ]
      rw [ih i]
      by_cases h : i < E.length
      · rw [if_pos h, if_pos (by simp; omega)]
        exact (hf _ _).symm
      · rw [if_neg h, if_neg (by simp; omega)]
theorem own_set {w : World} {base g cap : Nat} {E : List En} (h : w.ownsRow base 58 2 (.slice (some ⟨g, 0, none⟩) E.length cap) E.length (flatE E)) (i : Nat) (hi : i < E.length) (e : En) : (w.setCells g (i * 2) (enc e)).ownsRow base 58 2 (.slice (some ⟨g, 0, none⟩) E.length cap) E.length (flatE (E.set i e)) := by
  have h1 := (World.ownsRow.stored h (i * 2) (.string e.1)).1
  have h2 := (World.ownsRow.stored h1 (i * 2 + 1) (.int .u16 e.2)).1
  rw [flatE_set E i e, if_pos hi] at h2
  exact h2
theorem own_there {w : World} {base g cap : Nat} {E : List En} (h : w.ownsRow base 58 2 (.slice (some ⟨g, 0, none⟩) E.length cap) E.length (flatE E)) (i : Nat) (hi : i < E.length) : w.there g (i * 2) 2 := fun j hj => by
  have hl : i * 2 + j < (flatE E).length := by rw [flatE_len]; omega
  refine ⟨?_, World.ownsRow.frozenAt h _⟩
  rw [World.ownsRow.cellAt h (i * 2 + j) (by omega), List.getElem?_eq_getElem hl]
  rfl
set_option maxHeartbeats 80000000 in
set_option maxRecDepth 2000000 in
theorem ddrop_in (q p t m d gg lab B0 P0 M DA NB N K TB : Nat) (g : Cf.Ge) (Y V : Nat → Nat → Int) (b0 : Nat → Nat) (L : List Nat) (D : Nat → Nat → Int) (hL : L.length ≤ 28) (num : Nat) (hTB : TB = P0 + (num - 1) / 2) (h1 : 1 ≤ num) (h2 : num ≤ M) (E : List En) (hD : Dir B0 DA NB Y (V num) b0 E) (hI : Tab P0 M Y V) (hK : K < 150000000) (hg : GG g B0 P0 M DA NB N) (hcL : ∀ c, c ≤ E.length / 4 → ∀ j, j ≤ lenC c → chS c j ∈ L)
    (w : World) (h : Gr w q p t m d gg lab g B0 NB N ⟨dl B0 TB DA b0 (ndS (nbE E.length)) L, D⟩ Y K) (s : ByteArray) :
    Calls Tryz.prog 16 #[.pointer (some ⟨q, 0, none⟩), .int .i64 num, .string s] w fun r w' => Kf w w' [t, m, d, gg] ∧ (((∀ e ∈ E, mtE s e = false) ∧ r = .returned (.int .i64 3) ∧ Gr w' q p t m d gg lab g B0 NB N ⟨dl B0 TB DA b0 (ndS (nbE E.length)) L, D⟩ Y (K + 1001)) ∨
      (∃ (i : Nat) (e : En) (u : Nat) (Y' : Nat → Nat → Int) (f : Nat → Int) (B : Nat → Nat), E[i]? = some e ∧ mtE s e = true ∧ (∀ (j : Nat) (e' : En), j < i → E[j]? = some e' → mtE s e' = false) ∧ isUsed (E.set i zE) u ∧ r = .returned (.int .i64 0) ∧ Gr w' q p t m d gg lab g B0 NB N ⟨dl B0 TB DA B (ndS (nbE E.length)) L, D⟩ Y' (K + 40000) ∧ Tab P0 M Y' (vput num f V) ∧ Dir B0 DA NB Y' f B ((E.set i zE).take u) ∧ Mv B0 TB DA NB Y (nbE E.length) b0 Y' (nbE u) B)) := by
  obtain ⟨dE, hu, hd⟩ := Tryz.descEn
  have HU := Lib.hid hu
  have HDd := Lib.hid hd
  have HOp := Lib.hid (fun W hW => dopen_in (ln := ⟨dl B0 TB DA b0 (ndS (nbE E.length)) L, D⟩) q p t m d gg lab B0 P0 M DA NB N K g Y V num h1 h2 b0 E hD hI (by omega) hg W hW)
  have HG0 := Lib.hid h
  have hsm := smE_of hD.ok
  have hl := hD.n
  have h0lt : ∀ a ∈ [q, p, t, m, d, gg], a < w.heap.size := fun a ha => by
    obtain ⟨l1, l2, l3, l4, l5, l6⟩ := h.lts
    simp only [List.mem_cons, List.not_mem_nil, or_false] at ha
    rcases ha with rfl | rfl | rfl | rfl | rfl | rfl <;> assumption
  have H0 := Lib.hid h0lt
  have HFi := Lib.hid (fun bd base v W hV hO => find_any q num bd base v E hsm s hl W hV hO)
  have HL := Lib.hid hl
  have HDr := Lib.hid hD
  have HI := Lib.hid hI
  have HGg := Lib.hid hg
  have HCL := Lib.hid hcL
  have HTB := Lib.hid hTB
  have HNum := Lib.hid (show 1 ≤ num ∧ num ≤ M from ⟨h1, h2⟩)
  have HSm := Lib.hid hsm
  clear hu hd hD hI hg h hsm h0lt hcL h1 h2 hTB hl
  go_enter Tryz.func16, Tryz.ntmps16
  go_wp2_with fail
  refine (HOp.out w HG0.out).mono ?_
  rintro e w1 ⟨bd, v, base, rfl, hbd, hbb, hV, hO, hG, hk⟩
  have HV1 := Lib.hid hV
  have HO1 := Lib.hid hO
  have HG1 := Lib.hid hG
  have HK1 := Lib.hid hk
  have hbw : w.heap.size ≤ bd := hbd
  have HND : Hid (bd ∉ [t, m, d, gg]) := Lib.hid (fun ha => by
    have := H0.out bd (by simp only [List.mem_cons, List.not_mem_nil, or_false] at ha ⊢; omega)
    omega)
  clear hV hO hG hk HOp hbd
  go_wp2_with fail
  refine (HFi.out bd base v w1 HV1.out HO1.out).mono ?_
  rintro r w2 ⟨hb, (⟨i, e, hie, hme, hfi, rfl⟩ | ⟨hno, rfl⟩)⟩
  · have HG2 := Lib.hid (HG1.out.keep hb)
    have HK2 := Lib.hid (HK1.out.more hb)
    have HV2 := Lib.hid (HV1.out.keep hb)
    have HO2 := Lib.hid (ownsRow_below HO1.out hb)
    obtain ⟨pa, cap, hv⟩ := Cf.ownsRow_form HO2.out
    subst hv
    have hin : i < E.length := (List.getElem?_eq_some_iff.1 hie).1
    obtain ⟨g0, rfl, hg1, hg2⟩ := own_some HO2.out (by omega)
    have HTh := Lib.hid (own_there HO2.out i hin)
    have HIe := Lib.hid hie
    have HMe := Lib.hid hme
    have HFf := Lib.hid hfi
    have HIn := Lib.hid hin
    have hg0w : w.heap.size ≤ g0 := by omega
    have c2 : w2.cell? ⟨bd, 2, none⟩ = some (.slice (some ⟨g0, 0, none⟩) E.length cap) := HV2.out.c 2 _ rfl
    have hi0 : (0 : Int) ≤ i := by omega
    have hi1 : (i : Int) < E.length := by omega
    have hi24 : (i : Int) < 1024 := by have := HL.out; omega
    clear hb hie hme hfi hin HFi HG1 HK1 HV1 HO1
    go_wp2_with (first | (refine wpList_yields (.agg (enc zE).toArray) (yields_bld0 (by rfl) 58 rfl _ Tryz.buildEn0) ?_) | (refine wpList_store_mid rfl 58 _ _ rfl g0 (i * 2) (enc zE).toArray rfl rfl HTh.out (sizeEn _) (all_oneCell_toArray (enc_one _)) ?_))
    have hk3 : Kp w2 (w2.setCells g0 (i * 2) (enc zE)) g0 g0 := (Kp.refl w2 g0 g0).setCells g0 (i * 2) (.inl rfl) _
    have HO3 := Lib.hid (own_set HO2.out i HIn.out zE)
    have HV3 := Lib.hid (HV2.out.kp hk3 (by omega) (by omega))
    have HG3 := Lib.hid (HG2.out.kp hk3 (fun ha => by have := H0.out g0 ha; omega))
    have HK3 := Lib.hid (HK2.out.new hk3 hg0w)
    obtain ⟨w3, hw3⟩ : ∃ y, w2.setCells g0 (i * 2) (enc zE) = y := ⟨_, rfl⟩
    rw [hw3] at HO3 HV3 HG3 HK3
    try rw [hw3]
    try (change Calls _ _ _ (w2.setCells g0 (i * 2) (enc zE)) _; rw [hw3])
    have hE1l : (E.set i zE).length = E.length := List.length_set
    have hsm1 : smE (E.set i zE) := fun x hx => by
      rcases List.mem_or_eq_of_mem_set hx with hx | rfl
      · exact HSm.out x hx
      · exact ⟨by decide, by decide⟩
    have HE1l := Lib.hid hE1l
    rw [← hE1l] at HO3
    have hus := used_any q num bd base _ (E.set i zE) hsm1 (by rw [hE1l]; exact HL.out) w3 (by rw [hE1l]; exact HV3.out) HO3.out
    rw [hE1l] at HO3
    have HUs := Lib.hid hus
    clear hw3 hk3 c2 HO2 HV2 HG2 HK2 HTh hE1l hsm1 hus
    refine HUs.out.mono ?_
    rintro r w4 ⟨hb, u, hu, rfl⟩
    have HG4 := Lib.hid (HG3.out.keep hb)
    have HK4 := Lib.hid (HK3.out.more hb)
    have HV4 := Lib.hid (HV3.out.keep hb)
    have HUu := Lib.hid hu
    have hul : u ≤ E.length := by have := hu.1; rw [HE1l.out] at this; exact this
    have HUl := Lib.hid hul
    have hu24 : (u : Int) ≤ 1024 := by have := HL.out; omega
    have hu0 : (0 : Int) ≤ u := by omega
    have hLn : ∀ b' : Nat → Nat, ∀ c ∈ L, ndS (nbE E.length) c = true → Has ⟨dl B0 TB DA b' (ndS (nbE E.length)) L, D⟩ (DA + (b' c - 1)) := fun b' c hc hs => ⟨dl_mem B0 TB DA b' (ndS (nbE E.length)) L c hc hs, Ly.len L hL B0 TB DA b' _⟩
    have HLn := Lib.hid hLn
    have hCut : ∀ (Y1 V1 : Nat → Nat → Int) (b1 : Nat → Nat) (E1 : List En) (K1 : Nat), K1 < 190000000 → E1.length = E.length → Dir B0 DA NB Y1 (V1 num) b1 E1 → Tab P0 M Y1 V1 → ∀ W, Gr W q p t m d gg lab g B0 NB N ⟨dl B0 TB DA b1 (ndS (nbE E.length)) L, D⟩ Y1 K1 →
        Calls Tryz.prog 43 #[.pointer (some ⟨q, 0, none⟩), .int .i64 num, .int .i64 ((u : Int) * 16)] W fun x w' => ∃ (Y : Nat → Nat → Int) (f : Nat → Int), x = .returned (.int .i64 0) ∧ Gr w' q p t m d gg lab g B0 NB N ⟨dl B0 TB DA b1 (ndS (nbE E.length)) L, D⟩ Y (K1 + 11000) ∧ Kf W w' [t, m, d, gg] ∧ Tab P0 M Y (vput num f V1) ∧ Dir B0 DA NB Y f b1 (E1.take u) ∧ Mv B0 TB DA NB Y1 (nbE E.length) b1 Y (nbE u) b1 := fun Y1 V1 b1 E1 K1 hK1 hE1 hD1 hI1 W hW => by
      have hb0 : Has ⟨dl B0 TB DA b1 (ndS (nbE E.length)) L, D⟩ B0 := ⟨List.mem_cons_self .., Ly.len L hL B0 TB DA b1 _⟩
      have htb : Has ⟨dl B0 TB DA b1 (ndS (nbE E.length)) L, D⟩ (P0 + (num - 1) / 2) := ⟨by rw [← HTB.out]; exact List.mem_cons_of_mem _ (List.mem_cons_self ..), Ly.len L hL B0 TB DA b1 _⟩
      have hm := HNum.out
      have := dcut_in (ln := ⟨dl B0 TB DA b1 (ndS (nbE E.length)) L, D⟩) q p t m d gg lab B0 P0 M DA NB N K1 g Y1 V1 b1 num hm.1 hm.2 E1 hD1 hI1 hb0 htb (by omega) HGg.out W hW u (by rw [hE1]; exact HUl.out) (fun h0 j hj => by
        have hlt := HUl.out
        have hnb : nbE u - 1 ≤ E.length / 4 := by unfold nbE; omega
        refine HLn.out b1 _ (HCL.out (nbE u - 1) hnb j hj) ?_
        have h256 := HL.out
        have hcc := (chS_cases (nbE u - 1) (by unfold nbE; omega) (chS (nbE u - 1) j)).1 ⟨j, hj, rfl⟩
        have h1 : 1 ≤ nbE u ∧ nbE u ≤ nbE E.length := by unfold nbE; omega
        rw [ndS_iff]
        omega)
      rw [hE1, show ((16 * u : Nat) : Int) = (u : Int) * 16 by omega, ← HTB.out] at this
      exact this
    have HCut := Lib.hid hCut
    clear hb hu hLn hCut HUs HV3 HG3 HK3 HO3 hul
    obtain ⟨ou, hou⟩ : ∃ z : Int, (u : Int) * 16 = z := ⟨_, rfl⟩
    rw [hou] at HCut
    have ho0 : 0 ≤ ou := by omega
    have ho1 : ou ≤ 16384 := by omega
    have hwr : IntKind.i64.wrap ou = ou := IntWalk.i64_in _ (by omega)
    by_cases hiu : i < u
    · have hiui : (i : Int) < u := by omega
      have hi24' : i < 1024 := by omega
      have HPut := Lib.hid (put_any9 q num bd (.slice (some ⟨g0, 0, none⟩) E.length cap) zE (by decide) (by decide) i (by omega) (fun c w' => c = 0 ∧ Kf w4 w' [t, m, d, gg] ∧ ∃ (Y1 : Nat → Nat → Int) (f : Nat → Int) (B : Nat → Nat), Gr w' q p t m d gg lab g B0 NB N ⟨dl B0 TB DA B (ndS (nbE E.length)) L, D⟩ Y1 (K + 1001 + 25000) ∧ Tab P0 M Y1 (vput num f V) ∧ Dir B0 DA NB Y1 f B (E.set i zE) ∧ Mv B0 TB DA NB Y (nbE E.length) b0 Y1 (nbE E.length) B) w4 HV4.out (fun W sb hbW hsb hF => by
        have hin := HIn.out
        have hsE : setE E i zE = E.set i zE := if_pos hin
        have hm := HNum.out
        have := dwrite_in q p t m d gg lab B0 P0 M DA NB N (K + 1001) TB g Y V b0 L D hL num HTB.out hm.1 hm.2 E HDr.out HI.out (by omega) HGg.out W (HG4.out.keep hbW) i (by omega) (by omega) zE (.inl rfl) (HCL.out (i / 4) (by omega)) sb hF (fun ha => by
          have := H0.out sb (by simp only [List.mem_cons, List.not_mem_nil, or_false] at ha ⊢; omega)
          have := HK4.out.size
          omega)
        rw [hsE, HE1l.out] at this
        refine this.mono ?_
        rintro x w' (⟨Y1, f, B, rfl, hG, hk, hT, hDd, hMv⟩ | ⟨Y1, ln, B, n, -, -, -, -, -, -, ⟨c, hc1, hc2⟩, hB, -⟩)
        · exact ⟨0, rfl, (HV4.out.keep hbW).kf hk HND.out, rfl, (Kf.of_below hbW _).trans hk, Y1, f, B, hG, hT, hDd, hMv⟩
        · rw [(hB c hc2).1] at hc1
          cases hc1))
      go_wp2_with (refine wpList_yields (.agg (enc zE).toArray) (yields_bld0 (by rfl) 58 rfl _ Tryz.buildEn0) ?_)
      refine HPut.out.mono ?_
      rintro r w5 ⟨c, rfl, rfl, hk5, Y1, f1, B, hG5, hT5, hD5, hM5⟩
      have HG5 := Lib.hid hG5
      have HK5 := Lib.hid (HK4.out.trans hk5)
      have HT5 := Lib.hid hT5
      have HM5 := Lib.hid hM5
      have HC5 := Lib.hid (HCut.out Y1 (vput num f1 V) B (E.set i zE) (K + 1001 + 25000) (by omega) HE1l.out (by rw [vput_at]; exact hD5) hT5 w5 hG5)
      clear hG5 hk5 hT5 hD5 hM5 HPut HG4 HCut
      go_wp2_with fail
      refine HC5.out.mono ?_
      rintro r w6 ⟨Y2, f2, rfl, hG6, hk6, hT6, hD6, hM6⟩
      have HG6 := Lib.hid hG6
      have HK6 := Lib.hid (HK5.out.trans hk6)
      rw [vput_vput] at hT6
      have HT6 := Lib.hid hT6
      have HD6 := Lib.hid hD6
      have HM6 := Lib.hid (HM5.out.cut hM6 (by have := HUl.out; unfold nbE; omega))
      clear hG6 hk6 hT6 hD6 hM6 HC5
      go_wp2_with fail
      go_ret
      exact ⟨HK6.out, .inr ⟨i, e, u, Y2, f2, B, HIe.out, HMe.out, HFf.out, HUu.out, rfl, HG6.out.mono (Lm.le_refl _) (by omega), HT6.out, HD6.out, HM6.out⟩⟩
    · have hiui : ¬ (i : Int) < u := by omega
      have HC5 := Lib.hid (HCut.out Y V b0 E (K + 1001) (by omega) rfl HDr.out HI.out w4 HG4.out)
      have HNu := Lib.hid hiu
      clear HCut HG4
      go_wp2_with fail
      refine HC5.out.mono ?_
      rintro r w6 ⟨Y2, f2, rfl, hG6, hk6, hT6, hD6, hM6⟩
      have HG6 := Lib.hid hG6
      have HK6 := Lib.hid (HK4.out.trans hk6)
      have HT6 := Lib.hid hT6
      have hts : (E.set i zE).take u = E.take u := List.take_set_of_le (by omega)
      rw [← hts] at hD6
      have HD6 := Lib.hid hD6
      have HM6 := Lib.hid hM6
      clear hG6 hk6 hT6 hD6 hM6 HC5 hts
      go_wp2_with fail
      go_ret
      exact ⟨HK6.out, .inr ⟨i, e, u, Y2, f2, b0, HIe.out, HMe.out, HFf.out, HUu.out, rfl, HG6.out.mono (Lm.le_refl _) (by omega), HT6.out, HD6.out, HM6.out⟩⟩
  · have HG2 := Lib.hid (HG1.out.keep hb)
    have HK2 := Lib.hid (HK1.out.more hb)
    have HNo := Lib.hid hno
    clear hb hno
    go_wp2_with fail
    go_ret
    exact ⟨HK2.out, .inl ⟨HNo.out, rfl, HG2.out⟩⟩
end Go.Proofs.YtgfgdfcedmcjeaaGreatDoor

namespace Go.Proofs.YtgfgdfcedmcjeaaGreatDoor
set_option linter.unusedSimpArgs false
set_option linter.unusedVariables false
open Go.RowKit Go.Maps

variable {ln : Lm}
def liveE (E : List En) : List En := E.filter fun e => !vacE e
theorem liveE_snoc (E : List En) (k : Nat) (e : En) (h : E[k]? = some e) : liveE (E.take (k + 1)) = if vacE e = true then liveE (E.take k) else liveE (E.take k) ++ [e] := by
  unfold liveE
  rw [List.take_add_one, h, List.filter_append]
  cases hv : vacE e
  · rw [if_neg (by decide)]
    simp [hv]
  · rw [if_pos rfl]
    simp [hv]
theorem liveE_len (E : List En) (k : Nat) : (liveE (E.take k)).length ≤ k := by
  unfold liveE
  exact Nat.le_trans (List.length_filter_le _ _) (by rw [List.length_take]; omega)
set_option maxHeartbeats 40000000 in
set_option maxRecDepth 2000000 in
theorem dlist_any (q p t m d gg lab B0 P0 M DA NB N K : Nat) (g : Cf.Ge) (Y V : Nat → Nat → Int) (num : Nat) (h1 : 1 ≤ num) (h2 : num ≤ M) (b0 : Nat → Nat) (E : List En) (hD : Dir B0 DA NB Y (V num) b0 E) (hI : Tab P0 M Y V) (hK : K < 190000000) (hg : GG g B0 P0 M DA NB N) (w : World) (h : Gr w q p t m d gg lab g B0 NB N ln Y K) :
    Calls Tryz.prog 25 #[.pointer (some ⟨q, 0, none⟩), .int .i64 num] w fun r w' => ∃ v' base, r = .returned (.tuple #[v', .int .i64 0]) ∧ w.heap.size ≤ base ∧ w'.ownsRow base 58 2 v' (liveE E).length (flatE (liveE E)) ∧ Gr w' q p t m d gg lab g B0 NB N ln Y (K + 1001) ∧ Kf w w' [t, m, d, gg] := by
  obtain ⟨iE, hi, hz, hs, hbE⟩ := Tryz.infoEn
  have HI := Lib.hid hi
  have HZ := Lib.hid hz
  have HS := Lib.hid hs
  have HBE := Lib.hid hbE
  obtain ⟨dE, hu, hd⟩ := Tryz.descEn
  have HU := Lib.hid hu
  have HDd := Lib.hid hd
  have HOp := Lib.hid (fun W hW => dopen_in (ln := ln) q p t m d gg lab B0 P0 M DA NB N K g Y V num h1 h2 b0 E hD hI hK hg W hW)
  have HG0 := Lib.hid h
  have hsm := smE_of hD.ok
  have hl := hD.n
  have h0lt : ∀ a ∈ [q, p, t, m, d, gg], a < w.heap.size := fun a ha => by
    obtain ⟨l1, l2, l3, l4, l5, l6⟩ := h.lts
    simp only [List.mem_cons, List.not_mem_nil, or_false] at ha
    rcases ha with rfl | rfl | rfl | rfl | rfl | rfl <;> assumption
  have H0 := Lib.hid h0lt
  have HE := Lib.hid hsm
  obtain ⟨n, hn⟩ : ∃ n, E.length = n := ⟨_, rfl⟩
  rw [hn] at HOp hl
  have HN := Lib.hid hn
  have hn0 : (0 : Int) ≤ n := by omega
  have hn1 : (n : Int) ≤ 1024 := by omega
  clear h1 h2 hD hI hK hg h hsm h0lt hi hz hs hbE hu hd hn
  go_enter Tryz.func25, Tryz.ntmps25
  go_wp2_with fail
  refine (HOp.out w HG0.out).mono ?_
  rintro e w1 ⟨bd, v, base, rfl, hbd, hbb, hV, hO, hG, hk⟩
  have HV1 := Lib.hid hV
  have HO1 := Lib.hid hO
  have HG1 := Lib.hid hG
  have HK1 := Lib.hid hk
  have hbw : w.heap.size ≤ bd := hbd
  have HND : Hid (bd ∉ [t, m, d, gg]) := Lib.hid (fun ha => by
    have := H0.out bd (by simp only [List.mem_cons, List.not_mem_nil, or_false] at ha ⊢; omega)
    omega)
  clear hV hO hG hk HOp hbd
  obtain ⟨pa, cap, hv⟩ := Cf.ownsRow_form HO1.out
  subst hv
  have c2 : w1.cell? ⟨bd, 2, none⟩ = some (.slice pa n cap) := HV1.out.c 2 _ rfl
  go_wp2_with fail
  clear c2
  go_loopw [8, 10, 25] (fun lv _ iv wr => ∃ k : Nat, k ≤ n ∧ iv = .int .i64 k ∧ Below w1.heap.size w1 wr ∧ ∃ m : Nat, m = (liveE (E.take k)).length ∧ wr.ownsRow w1.heap.size 58 2 lv m (flatE (liveE (E.take k)))) (fun _ _ iv _ => n - (Go.RowKit.intOf iv).toNat)
  case atStart => exact ⟨0, Nat.zero_le _, rfl, Below.refl _ _, 0, rfl, World.ownsRow_nil _ _ _ _⟩
  case round =>
    obtain ⟨k, hk, rfl, hb, m, hm, hO⟩ := hrel
    obtain ⟨lp, lc, hlv⟩ := Cf.ownsRow_form hO
    subst hlv
    have HB := Lib.hid hb
    have HL := Lib.hid hO
    have HM := Lib.hid hm
    have hsz := hb.size
    have hmk : m ≤ 1024 := by have := liveE_len E k; omega
    clear hb hO hm
    by_cases hlt : k < n
    · obtain ⟨g0, rfl, hg1, hg2⟩ := own_some HO1.out (by omega)
      have hke : k < E.length := by have := HN.out; omega
      obtain ⟨e, he⟩ : ∃ e, E[k]? = some e := ⟨E[k], List.getElem?_eq_getElem hke⟩
      obtain ⟨he1, he2⟩ := HE.out e (List.mem_of_getElem? he)
      have HRg := Lib.hid (own_at (ownsRow_belowB HO1.out HB.out hg2) HN.out.symm he)
      have HVc := Lib.hid (fun W => vacant_any e (by unfold maxLen; omega) he2 W)
      have hki : (k : Int) < n := by omega
      have hk0 : (0 : Int) ≤ k := by omega
      have hsn := liveE_snoc E k e he
      obtain ⟨vc, hvc⟩ : ∃ x, vacE e = x := ⟨_, rfl⟩
      rw [hvc] at HVc hsn
      have HSn := Lib.hid hsn
      have HKn := Lib.hid hlt
      obtain ⟨es, en⟩ := e
      clear he hke he1 he2 hvc hlt hsn
      go_upto_region 8 with (first | (refine wpList_load_mid rfl 58 _ rfl g0 (k * 2) rfl (enc (es, en)) dE HRg.out HU.out HDd.out (sizeEn _) ?_) | (refine wpList_alloc_list (w := wr) rfl 58 rfl (enc zE) Tryz.zeroEn ?_; intro w2 F2 hb2 hz2; simp only [Act.put, List.getElem_toArray, List.getElem_cons_zero, List.getElem_cons_succ, List.setIfInBounds_toArray, List.set_cons_zero, List.set_cons_succ]; refine wpList_store_list rfl 58 (.tmp 10) (.tmp 28) rfl wr.heap.size (enc zE) (enc (es, en)) rfl rfl F2.out rfl (sizeEn _) (enc_one _) ?_; intro w3 F3 HK3; have HQ2 := Lib.hid hb2; clear hb2 F2))
      obtain ⟨bx, hbx⟩ : ∃ x, wr.heap.size = x := ⟨_, rfl⟩
      have HB3 := Lib.hid ((HB.out.trans (HQ2.out.mono hsz)).trans (HK3.out.below hsz hsz (Nat.le_trans hsz HQ2.out.size)))
      have hnx : ∀ kk, (Value.slice lp m lc).ownBlock = some kk → kk < bx := fun kk hkk => by
        have := World.ownsRow.lt HL.out kk hkk
        omega
      have HL3 := Lib.hid (ownsRow_kpo (ownsRow_below HL.out HQ2.out) HK3.out (fun kk hkk => by have := hnx kk hkk; omega))
      rw [hbx] at F3
      try rw [hbx]
      clear HQ2 HK3 HB HL hbx hz2 HRg hnx
      have HRx := Lib.hid F3.out.range0
      go_wp2_with (refine wpList_load_mid rfl 58 _ rfl bx 0 rfl (enc (es, en)) dE HRx.out HU.out HDd.out (sizeEn _) ?_)
      refine (HVc.out w3).mono ?_
      rintro x w4 ⟨rfl, hb⟩
      have HB4 := Lib.hid (HB3.out.trans (hb.mono HB3.out.size))
      have HL4 := Lib.hid (ownsRow_below HL3.out hb)
      have F4 := Lib.hid (F3.out.keep hb)
      have hsz4 := HB4.out.size
      clear hb HVc HB3 HL3 F3 HRx
      cases vc
      · have HRx : Hid (w4.rangeAt bx 0 [.string es, .int .u16 en]) := Lib.hid F4.out.range0
        go_wp2_with (first | (refine wpList_load_mid rfl 58 _ rfl bx 0 rfl [.string es, .int .u16 en] dE HRx.out HU.out HDd.out Tryz.isizeEn ?_) | (at_builtin; refine wpList_append_own _ rfl _ _ 68 rfl w1.heap.size 58 iE _ 2 24 Tryz.underlying68 HI.out HZ.out HS.out HBE.out rfl (by decide) _ _ _ rfl (HL4.out.alloc _) ⟨w4.heap.size, 0, none⟩ 1 1 [.string es, .int .u16 en] rfl rfl (Cf.cells_new w4 _ 58) (by simp [Value.oneCell']) (by unfold maxLen; omega) (by omega) (by simp; omega) ?_; intro v' wB hown' hgrow _; have hob := ownsRow_block HL4.out; have HLB := Lib.hid hown'; have HBB := Lib.hid ((HB4.out.alloc hsz4 (.cells #[.string es, .int .u16 en] 58)).grown hgrow (by simp; omega) hob); clear hown' hgrow hob))
        try simp only [Act.put]
        go_roundw
        case rel =>
          have hs := HSn.out
          rw [if_neg (by decide)] at hs
          refine ⟨k + 1, HKn.out, by go_num, HBB.out, m + 1, by rw [hs, List.length_append, HM.out]; rfl, ?_⟩
          rw [hs, flatE_snoc]
          exact HLB.out
        case measure => (simp [Go.RowKit.intOf]; try omega)
      · go_wp2_with fail
        go_roundw
        case rel =>
          have hs := HSn.out
          rw [if_pos trivial] at hs
          exact ⟨k + 1, HKn.out, by go_num, HB4.out, m, by rw [hs, HM.out], by rw [hs]; exact HL4.out⟩
        case measure => (simp [Go.RowKit.intOf]; try omega)
    · obtain rfl : k = n := by omega
      have hl2 := HL.out
      have hm2 := HM.out
      rw [List.take_of_length_le (Nat.le_of_eq HN.out)] at hl2 hm2
      have HL2 := Lib.hid hl2
      have HM2 := Lib.hid hm2
      clear hl2 hm2
      go_wp2_with fail
      go_ret2
      exact ⟨.slice lp m lc, w1.heap.size, rfl, HK1.out.size, by rw [← HM2.out]; exact HL2.out, HG1.out.keep HB.out, HK1.out.more HB.out⟩
end Go.Proofs.YtgfgdfcedmcjeaaGreatDoor
