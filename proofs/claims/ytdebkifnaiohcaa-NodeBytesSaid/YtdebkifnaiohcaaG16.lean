import Derived.Test.YtdebkifnaiohcaaG15
/- NodeBytes: the walk. -/
namespace Go.Proofs.Ytdebkifnaiohcaa
set_option linter.unusedSimpArgs false
set_option linter.unusedVariables false
open Go.RowKit Go.Maps


theorem yields_bld1 {P : Program} {ops : Array Oper} {S : World → Prop} {op : Oper} {a : Act} (hw : Region.wanted op (yielded ops a.tmps) = true) (ty : TypeId) (i0 : Nat) (x0 : Operand) (ho : op.op = .build ty #[(i0, x0)]) (v0 : Value) (h0 : a.eval x0 = v0) (v : Value)
    (hr : ∀ w, (Instr.build ty #[(i0, v0)]).run P w = .ok v w) : YieldsIf P ops S op v a :=
  .inl ⟨hw, fun w _ => by
    have hr := hr w
    unfold execOp
    simp [ho, h0, hr, Result.andThen]⟩
theorem ndset0 (f : Nat → Int) (x : Int) : (ndc f).set 0 (.int .u8 x) = ndc (fun i => if i = 0 then x else f i) := rfl
theorem ndset1 (f : Nat → Int) (x : Int) : (ndc f).set 1 (.int .u8 x) = ndc (fun i => if i = 1 then x else f i) := rfl
theorem ndset3 (f : Nat → Int) (x : Int) : (ndc f).set 3 (.int .u32 x) = ndc (fun i => if i = 3 then x else f i) := rfl
theorem ok_set0 {f : Nat → Int} (h : NdOk f) (x : Int) (hx : 0 ≤ x ∧ x < 256) : NdOk (fun i => if i = 0 then x else f i) := ⟨hx, h.l, h.g, h.s, fun i h1 h2 => by rw [if_neg (by omega)]; exact h.p i h1 h2⟩
theorem ok_set1 {f : Nat → Int} (h : NdOk f) (x : Int) (hx : 0 ≤ x ∧ x < 256) : NdOk (fun i => if i = 1 then x else f i) := ⟨h.k, hx, h.g, h.s, fun i h1 h2 => by rw [if_neg (by omega)]; exact h.p i h1 h2⟩
theorem ok_set3 {f : Nat → Int} (h : NdOk f) (x : Int) (hx : 0 ≤ x ∧ x < 4294967296) : NdOk (fun i => if i = 3 then x else f i) := ⟨h.k, h.l, h.g, hx, fun i h1 h2 => by rw [if_neg (by omega)]; exact h.p i h1 h2⟩
theorem Fl.vl {w : World} {g N : Nat} {f : Nat → Int} (h : Fl w g N f) : Vl w g (byts N f) := ⟨h.lt, fun j v hj => by obtain ⟨h1, rfl⟩ := byts_of hj; exact h.c j h1, fun j hj => h.z j (by rwa [byts_len] at hj)⟩
theorem wpList_store_list {P : Program} {ops : Array Oper} {rest : List Oper} {op : Oper} {a : Act} {w : World} {Q : Exit → Act → World → Prop} (hgd : op.guard = none) (ty : TypeId) (x y : Operand) (ho : op.op = .store ty x y) (g : Nat) (cs ds : List Value)
    (hx : a.eval x = .pointer (some ⟨g, 0, none⟩)) (hy : a.eval y = .agg ds.toArray) (hV : Vl w g cs) (hl : ds.length = cs.length) (hi : (P.info? ty).map (·.size) = some ds.length) (h1 : ∀ v ∈ ds, v.oneCell' = true)
    (h : ∀ w', Hid (Vl w' g ds) → Hid (Kp w w' g g) → wpList P ops Q rest (a.put op.dst undef) w') : wpList P ops Q (op :: rest) a w := by
  refine wpList_store_mid hgd ty x y ho g 0 ds.toArray hx hy (hV.there0 _ (by simp [hl])) (by simpa using hi) (all_oneCell_toArray h1) ?_
  exact h _ (hV.stored ds hl) ((Kp.refl w g g).setCells g 0 (.inl rfl) _)
set_option maxHeartbeats 80000000 in
set_option maxRecDepth 100000 in
theorem bytes_walk (f b : Nat → Int) (hf : NdOk f) (hb : Byt32 b) (right : Bool) (w : World) : Calls Try.prog 3 #[.agg (ndc f).toArray, .agg (byts 32 b).toArray, .bool right] w fun e w' => e = .returned (.bool true) ∧ Below w.heap.size w w' := by
  obtain ⟨d27, hu27, hd27⟩ := Try.desc27
  have HU27 := Lib.hid hu27
  have HD27 := Lib.hid hd27
  have Hf := Lib.hid hf
  have Hb := Lib.hid hb
  have HA := Lib.hid (fun W => awake_any W)
  clear hu27 hd27 hf hb
  go_enter Try.func3, Try.ntmps3
  go_wp2_with (first | (refine wpList_box_list (w := w) rfl 27 _ rfl (ndc f) rfl ?_; intro w1 F1 hb1 hz1; have HB1 := Lib.hid hb1; have hq1 : w.heap.size < w1.heap.size := (by omega); clear hb1 hz1) | (refine wpList_box_byts (w := w1) rfl 28 _ 32 rfl b rfl ?_; intro w2 F2 hb2 hz2; have HB2 := Lib.hid hb2; have hq2 : w1.heap.size < w2.heap.size := (by omega); clear hb2 hz2))
  obtain ⟨b3, hb3⟩ : ∃ b, w.heap.size = b := ⟨_, rfl⟩
  obtain ⟨b4, hb4⟩ : ∃ b, w1.heap.size = b := ⟨_, rfl⟩
  have G3 := Lib.hid (F1.out.keep HB2.out)
  have G4 := F2
  have GB := Lib.hid (HB1.out.trans (HB2.out.mono HB1.out.size))
  rw [hb3, hb4] at hq1
  rw [hb4] at hq2 G4
  rw [hb3] at G3 GB
  have HW := Lib.hid hb3
  try rw [hb3]
  try rw [hb4]
  clear hb3 hb4 HB1 HB2 F1 F2
  have hbw : b3 ≤ w.heap.size := Nat.le_of_eq HW.out.symm
  refine (HA.out w2).mono ?_
  rintro e w3 ⟨rfl, hbb⟩
  have A3 := Lib.hid (G3.out.keep hbb)
  have A4 := Lib.hid (G4.out.below hbb G4.out.lt)
  have AB := Lib.hid (GB.out.trans (hbb.mono (by omega)))
  have hq3 : b4 < w3.heap.size := A4.out.lt
  clear hbb G3 G4 GB HA hq2
  go_upto_if 18 with fail
  go_cut [] (fun wc => ∃ f', NdOk f' ∧ Vl wc b3 (ndc f') ∧ Fl wc b4 32 b ∧ Below b3 w wc)
  case first =>
    cases right
    · go_wp2_with fail
      go_meet
      case rel => exact ⟨f, Hf.out, A3.out, A4.out, AB.out⟩
    · have k0 := Hf.out.k
      have l0 := Hf.out.l
      have s0 := Hf.out.s
      have c0 := A3.out.c 0 _ rfl
      have c1 := A3.out.c 1 _ rfl
      have c3 := A3.out.c 3 _ rfl
      have z0 := A3.out.z 0 (by show 0 < 12; decide)
      have z1 := A3.out.z 1 (by show 1 < 12; decide)
      have z3 := A3.out.z 3 (by show 3 < 12; decide)
      have x0b : 0 ≤ f 0 % 6 ∧ f 0 % 6 < 256 := by omega
      have x3b : 0 ≤ f 3 % 17000 ∧ f 3 % 17000 < 4294967296 := by omega
      have x1b : 0 ≤ Go.bits .or .u8 (f 1) 1 ∧ Go.bits .or .u8 (f 1) 1 < 256 := ⟨(u8_or_bd (f 1) 1 l0.1 l0.2 (by decide) (by decide)).1, (u8_or_bd (f 1) 1 l0.1 l0.2 (by decide) (by decide)).2.1⟩
      have x4b : 0 ≤ f 3 % 17000 - f 3 % 17000 % 16 ∧ f 3 % 17000 - f 3 % 17000 % 16 < 4294967296 := by omega
      have N1 := ((A3.out.set 0 (by show 0 < 12; decide) (.int .u8 (f 0 % 6))))
      rw [ndset0] at N1
      have N2 := (N1.set 3 (by show 3 < 12; decide) (.int .u32 (f 3 % 17000)))
      rw [ndset3] at N2
      have N3 := (N2.set 1 (by show 1 < 12; decide) (.int .u8 (Go.bits .or .u8 (f 1) 1)))
      rw [ndset1] at N3
      have O3 := ok_set1 (ok_set3 (ok_set0 Hf.out _ x0b) _ x3b) _ x1b
      have N4 := (N3.set 3 (by show 3 < 12; decide) (.int .u32 (f 3 % 17000 - f 3 % 17000 % 16)))
      rw [ndset3] at N4
      have O4 := ok_set3 O3 _ x4b
      have K3 : Kp w3 _ b3 b3 := (((Kp.refl w3 b3 b3).setA 0 (.int .u8 (f 0 % 6))).setA 3 (.int .u32 (f 3 % 17000))).setA 1 (.int .u8 (Go.bits .or .u8 (f 1) 1))
      have K4 : Kp w3 _ b3 b3 := K3.setA 3 (.int .u32 (f 3 % 17000 - f 3 % 17000 % 16))
      have HN3 := Lib.hid (And.intro O3 (And.intro N3 (And.intro (A4.out.kp K3 (by omega) (by omega)) (AB.out.trans (K3.below (by omega) (by omega) (by omega))))))
      have HN4 := Lib.hid (And.intro O4 (And.intro N4 (And.intro (A4.out.kp K4 (by omega) (by omega)) (AB.out.trans (K4.below (by omega) (by omega) (by omega))))))
      clear N1 N2 N3 N4 O3 O4 K3 K4 x0b x1b x3b x4b
      by_cases c2 : (f 0 % 6 == 2) = true
      · go_wp2_with fail
        go_meet
        case rel => exact ⟨_, HN4.out.1, HN4.out.2.1, HN4.out.2.2.1, HN4.out.2.2.2⟩
      · have c2' : (f 0 % 6 == 2) = false := by simpa using c2
        clear c2
        go_wp2_with fail
        go_meet
        case rel => exact ⟨_, HN3.out.1, HN3.out.2.1, HN3.out.2.2.1, HN3.out.2.2.2⟩
  case rest =>
    obtain ⟨n, hn, hV, hF, hBB⟩ := hcut
    obtain ⟨wX, rfl⟩ : ∃ x, x = wc := ⟨wc, rfl⟩
    have Hn := Lib.hid hn
    have X3 := Lib.hid hV
    have X4 := Lib.hid hF.vl
    have XB := Lib.hid hBB
    have hqX := hF.lt
    clear hn hV hF hBB A3 A4 AB hq3
    obtain ⟨C, hC⟩ : ∃ C, codeN n = C := ⟨_, rfl⟩
    obtain ⟨Y, hY⟩ : ∃ Y, ndc (decV (encF n)) = ndc Y ∧ ((C = 0 ∧ Y = n) ∨ (C = 28 ∧ Y = zpt)) := by
      rcases codeN_cases n with h | h
      · exact ⟨n, ndc_dec Hn.out h, .inl ⟨hC.symm.trans h, rfl⟩⟩
      · exact ⟨zpt, ndc_dec0 Hn.out (by rw [h]; decide), .inr ⟨hC.symm.trans h, rfl⟩⟩
    obtain ⟨Z, hZ⟩ : ∃ Z, decV b = Z := ⟨_, rfl⟩
    obtain ⟨E, hE⟩ : ∃ E, decE b = E := ⟨_, rfl⟩
    have HE1 := Lib.hid (fun W => encode_any n Hn.out W)
    have HD1 := Lib.hid (fun W => decode_any (encF n) (encF_byt Hn.out) W)
    have HD2 := Lib.hid (fun W => decode_any b Hb.out W)
    have HR1 := Lib.hid (fun W => rcheck_any n Hn.out W)
    have HK1 := Lib.hid (fun W => check_any n Hn.out W)
    have HR2 := Lib.hid (fun W => rencode_any n Hn.out W)
    rw [decE_enc Hn.out, hC, hY.1] at HD1
    rw [hZ, hE] at HD2
    rw [hC] at HR1 HK1
    have HCY := Lib.hid hY.2
    have HCN := Lib.hid hC
    have HZ := Lib.hid hZ
    have HEb := Lib.hid hE
    clear hC hY hZ hE
    go_wp2_with (refine wpList_load_mid rfl 27 _ rfl b3 0 rfl (ndc n) d27 X3.out.range0 HU27.out HD27.out (size27 n) ?_)
    refine (HE1.out wX).mono ?_
    rintro e w5 ⟨rfl, hb5⟩
    have P3 := Lib.hid (X3.out.keep hb5)
    have P4 := Lib.hid (X4.out.keep hb5)
    have PB := Lib.hid (XB.out.trans (hb5.mono (by omega)))
    have hq5 : b4 < w5.heap.size := P4.out.lt
    clear hb5 X3 X4 XB HE1
    go_upto_region 8 with (refine wpList_alloc_list (w := w5) rfl 28 rfl (byts 32 fun _ => 0) Try.zero28 ?_; intro w6 F7 hb6 hz6; simp only [Act.put, List.getElem_toArray, List.getElem_cons_zero, List.getElem_cons_succ, List.setIfInBounds_toArray, List.set_cons_zero, List.set_cons_succ]; refine wpList_store_list rfl 28 (.tmp 7) (.tmp 42) rfl w5.heap.size _ (byts 32 (encF n)) rfl rfl F7.out (by rw [byts_len, byts_len]) (size28 _) (byts_one _ _) ?_; intro w7 R7 HK7; have hb6' : Below w5.heap.size w5 w6 := hb6; have hq7 : w5.heap.size < w6.heap.size := (by omega); clear hb6 hz6)
    obtain ⟨b7, hb7⟩ : ∃ x, w5.heap.size = x := ⟨_, rfl⟩
    have Q3 := Lib.hid ((P3.out.keep hb6').kp HK7.out (by omega) (by omega))
    have Q4 := Lib.hid ((P4.out.keep hb6').kp HK7.out (by omega) (by omega))
    have QB := Lib.hid ((PB.out.trans (hb6'.mono (by omega))).trans (HK7.out.below (by omega) (by omega) (by omega)))
    have hq7' : b7 < w7.heap.size := by have := HK7.out.size; omega
    rw [hb7] at R7 hq5
    try rw [hb7]
    clear hb7 hb6' F7 HK7 P3 P4 PB hq7
    go_wp2_with (refine wpList_load_mid rfl 28 _ rfl b7 0 rfl (byts 32 (encF n)) (.array 32 5) R7.out.range0 Try.arr28 rfl (size28 _) ?_)
    refine (HD1.out w7).mono ?_
    rintro e w8 ⟨rfl, hb8⟩
    have S3 := Lib.hid (Q3.out.keep hb8)
    have S4 := Lib.hid (Q4.out.keep hb8)
    have S7 := Lib.hid (R7.out.keep hb8)
    have SB := Lib.hid (QB.out.trans (hb8.mono (by omega)))
    have hq8 : b7 < w8.heap.size := S7.out.lt
    clear hb8 Q3 Q4 R7 QB HD1
    go_upto_region 9 with (refine wpList_alloc_list (w := w8) rfl 27 rfl (ndc zpt) Try.zero27 ?_; intro w9 F8 hb9 hz9; simp only [Act.put, List.getElem_toArray, List.getElem_cons_zero, List.getElem_cons_succ, List.setIfInBounds_toArray, List.set_cons_zero, List.set_cons_succ]; refine wpList_store_list rfl 27 (.tmp 8) (.tmp 46) rfl w8.heap.size _ (ndc Y) rfl rfl F8.out rfl (size27 _) (ndc_one _) ?_; intro w10 R8 HK10; have hb9' : Below w8.heap.size w8 w9 := hb9; have hq9 : w8.heap.size < w9.heap.size := (by omega); clear hb9 hz9)
    obtain ⟨b8, hb8⟩ : ∃ x, w8.heap.size = x := ⟨_, rfl⟩
    have T3 := Lib.hid ((S3.out.keep hb9').kp HK10.out (by omega) (by omega))
    have T4 := Lib.hid ((S4.out.keep hb9').kp HK10.out (by omega) (by omega))
    have T7 := Lib.hid ((S7.out.keep hb9').kp HK10.out (by omega) (by omega))
    have TB := Lib.hid ((SB.out.trans (hb9'.mono (by omega))).trans (HK10.out.below (by omega) (by omega) (by omega)))
    have hq10 : b8 < w10.heap.size := by have := HK10.out.size; omega
    rw [hb8] at R8 hq8
    try rw [hb8]
    clear hb8 hb9' F8 HK10 S3 S4 S7 SB hq9
    go_wp2_with (refine wpList_load_mid rfl 28 _ rfl b4 0 rfl (byts 32 b) (.array 32 5) T4.out.range0 Try.arr28 rfl (size28 _) ?_)
    refine (HD2.out w10).mono ?_
    rintro e w11 ⟨rfl, hb11⟩
    have U3 := Lib.hid (T3.out.keep hb11)
    have U4 := Lib.hid (T4.out.keep hb11)
    have U7 := Lib.hid (T7.out.keep hb11)
    have U8 := Lib.hid (R8.out.keep hb11)
    have UB := Lib.hid (TB.out.trans (hb11.mono (by omega)))
    have hq11 : b8 < w11.heap.size := U8.out.lt
    clear hb11 T3 T4 T7 R8 TB HD2
    go_upto_region 10 with (refine wpList_alloc_list (w := w11) rfl 27 rfl (ndc zpt) Try.zero27 ?_; intro w12 F10 hb12 hz12; simp only [Act.put, List.getElem_toArray, List.getElem_cons_zero, List.getElem_cons_succ, List.setIfInBounds_toArray, List.set_cons_zero, List.set_cons_succ]; refine wpList_store_list rfl 27 (.tmp 10) (.tmp 51) rfl w11.heap.size _ (ndc Z) rfl rfl F10.out rfl (size27 _) (ndc_one _) ?_; intro w13 R10 HK13; have hb12' : Below w11.heap.size w11 w12 := hb12; have hq12 : w11.heap.size < w12.heap.size := (by omega); clear hb12 hz12)
    obtain ⟨b10, hb10⟩ : ∃ x, w11.heap.size = x := ⟨_, rfl⟩
    have V3 := Lib.hid ((U3.out.keep hb12').kp HK13.out (by omega) (by omega))
    have V4 := Lib.hid ((U4.out.keep hb12').kp HK13.out (by omega) (by omega))
    have V7 := Lib.hid ((U7.out.keep hb12').kp HK13.out (by omega) (by omega))
    have V8 := Lib.hid ((U8.out.keep hb12').kp HK13.out (by omega) (by omega))
    have VB := Lib.hid ((UB.out.trans (hb12'.mono (by omega))).trans (HK13.out.below (by omega) (by omega) (by omega)))
    have hq13 : b10 < w13.heap.size := by have := HK13.out.size; omega
    rw [hb10] at R10 hq11
    try rw [hb10]
    clear hb10 hb12' F10 HK13 U3 U4 U7 U8 UB hq12
    go_wp2_with fail
    go_loop [12, 55] (fun tv i => ∃ (k : Nat) (T : Int), k ≤ 8 ∧ i = .int .i64 k ∧ tv = .int .u8 T ∧ 0 ≤ T ∧ T < 256 ∧ (T = 0 ↔ ∀ j, j < k → b (24 + j) = 0)) (fun _ i => 8 - (Go.RowKit.intOf i).toNat)
    case atStart => exact ⟨0, 0, by omega, rfl, rfl, by omega, by omega, by simp⟩
    case round =>
      obtain ⟨k, T, hk, rfl, rfl, T0, T1, hT⟩ := hrel
      have HT := Lib.hid hT
      clear hT
      by_cases hlt : k < 8
      · have hkk : (k : Int) < 8 := by omega
        have hx := Hb.out (24 + k) (by omega)
        have hcell := V4.out.c (24 + k) _ (byts_get b (by omega))
        obtain ⟨x, hx'⟩ : ∃ x, b (24 + k) = x := ⟨_, rfl⟩
        rw [hx'] at hx hcell
        have hor := u8_or_bd T x T0 T1 hx.1 hx.2
        obtain ⟨y, hy⟩ : ∃ y, Go.bits .or .u8 T x = y := ⟨_, rfl⟩
        rw [hy] at hor
        have HR : Hid (0 ≤ y ∧ y < 256 ∧ (y = 0 ↔ ∀ j, j < k + 1 → b (24 + j) = 0)) := ⟨hor.1, hor.2.1, by
          rw [hor.2.2, HT.out, ← hx']
          constructor
          · rintro ⟨h1, h2⟩ j hj
            by_cases e : j = k
            · subst e; exact h2
            · exact h1 j (by omega)
          · intro h
            exact ⟨fun j hj => h j (by omega), h k (by omega)⟩⟩
        clear hor hx hx' HT
        go_wp2_with fail
        go_round
        case rel => exact ⟨k + 1, y, by omega, by go_num, rfl, HR.out.1, HR.out.2.1, HR.out.2.2⟩
        case measure => simp [Go.RowKit.intOf]; omega
      · obtain rfl : k = 8 := by omega
        have HTb : Hid (T = 0 ↔ tailZ b = true) := HT.out.trans (tailZ_iff b).symm
        clear HT hlt hk
        go_wp2_with (refine wpList_load_mid rfl 27 _ rfl b3 0 rfl (ndc n) d27 V3.out.range0 HU27.out HD27.out (size27 n) ?_)
        refine (HR1.out w13).mono ?_
        rintro e w14 ⟨rfl, hb14⟩
        have M3 := Lib.hid (V3.out.keep hb14)
        have M4 := Lib.hid (V4.out.keep hb14)
        have M7 := Lib.hid (V7.out.keep hb14)
        have M8 := Lib.hid (V8.out.keep hb14)
        have M10 := Lib.hid (R10.out.keep hb14)
        have MB := Lib.hid (VB.out.trans (hb14.mono (by omega)))
        have hq14 : b10 < w14.heap.size := M10.out.lt
        clear hb14 V3 V4 V7 V8 R10 VB HR1
        go_upto_region 17 with fail
        go_cut [99] (fun v wc => v = .bool false ∧ Vl wc b3 (ndc n) ∧ Vl wc b4 (byts 32 b) ∧ Vl wc b10 (ndc Z) ∧ Below b3 w wc)
        case first =>
          rcases HCY.out with ⟨rfl, hY0⟩ | ⟨rfl, hY0⟩
          · rw [hY0] at M8
            clear hY0
            have HNN := Lib.hid (fun W => eq27 n n Hn.out Hn.out W)
            have hnn : eqb 12 n n = true := eqb_same fun _ _ => rfl
            rw [hnn] at HNN
            clear hnn
            have Ka4 := Lib.hid (M4.out.keep (Below.refl w14.heap.size w14).drew)
            have Ka10 := Lib.hid (M10.out.keep (Below.refl w14.heap.size w14).drew)
            refine wp_region_held (S := fun W => Vl W b3 (ndc n) ∧ Vl W b7 (byts 32 (encF n)) ∧ Vl W b8 (ndc n)) (by kernel_rfl) ?_
            change wpAnyH _ _ _ _ _ _ _ _ (World.drew w14)
            have hS0 : (fun W => Vl W b3 (ndc n) ∧ Vl W b7 (byts 32 (encF n)) ∧ Vl W b8 (ndc n)) (World.drew w14) := ⟨M3.out.keep (Below.refl w14.heap.size w14).drew, M7.out.keep (Below.refl w14.heap.size w14).drew, M8.out.keep (Below.refl w14.heap.size w14).drew⟩
            have HB0 := Lib.hid (MB.out.drew)
            have hq0 : b10 < (World.drew w14).heap.size := hq14
            obtain ⟨w15, hw⟩ : ∃ x, World.drew w14 = x := ⟨_, rfl⟩
            rw [hw] at hS0 HB0 hq0 Ka4 Ka10 ⊢
            clear hw
            refine wpAnyH_take (i := 0) (v := ?_) rfl (by kernel_rfl) (by kernel_rfl) (by kernel_rfl) (fun _ _ _ h => h) (Or.inl ⟨by rfl, ?_⟩) hS0 ?_
            rotate_left 1
            · intro W hW
              go_simp
              try with_reducible rfl
            simp only [Act.put, List.getElem_toArray, List.getElem_cons_zero, List.getElem_cons_succ, List.setIfInBounds_toArray, List.set_cons_zero, List.set_cons_succ]
            refine wpAnyH_take (i := 1) (v := .string (bsOf (encF n))) rfl (by kernel_rfl) (by kernel_rfl) (by kernel_rfl) (fun _ _ _ h => h) ?_ hS0 ?_
            · exact yields_str (by rfl) _ rfl (encF n) (encF_byt Hn.out) b7 32 rfl (fun W hW j hj => hW.2.1.c j _ (byts_get _ hj))
            simp only [Act.put, List.getElem_toArray, List.getElem_cons_zero, List.getElem_cons_succ, List.setIfInBounds_toArray, List.set_cons_zero, List.set_cons_succ]
            refine wpAnyH_take (i := 2) (v := .agg (ndc n).toArray) rfl (by kernel_rfl) (by kernel_rfl) (by kernel_rfl) (fun _ _ _ h => h) ?_ hS0 ?_
            · exact yieldsIf_load_mid (by rfl) 27 _ rfl b3 0 rfl (ndc n) d27 (fun W hW => hW.1.range0) HU27.out HD27.out (size27 n)
            simp only [Act.put, List.getElem_toArray, List.getElem_cons_zero, List.getElem_cons_succ, List.setIfInBounds_toArray, List.set_cons_zero, List.set_cons_succ]
            refine wpAnyH_ready (rs := [3]) (by kernel_rfl) (by simp) (AllReadyH.cons rfl (fun KK hKK => ?_) AllReadyH.nil)
            go_simp
            refine (HR2.out w15).mono ?_
            rintro e w16 ⟨gg, cap, rfl, hg0, hg1, hcl, hbc⟩
            have hS2 : ((Vl w16 b3 (ndc n) ∧ Vl w16 b7 (byts 32 (encF n)) ∧ Vl w16 b8 (ndc n)) ∧ ∀ j, j < 32 → w16.cell? ⟨gg, j, none⟩ = some (.int .u8 (encF n j))) := ⟨⟨hS0.1.keep hbc, hS0.2.1.keep hbc, hS0.2.2.keep hbc⟩, hcl⟩
            have HBc := Lib.hid (HB0.out.trans (hbc.mono (by omega)))
            have Kc4 := Lib.hid (Ka4.out.keep hbc)
            have Kc10 := Lib.hid (Ka10.out.keep hbc)
            have hqc : b10 < w16.heap.size := (by have := hbc.size; omega)
            clear hS0 HB0 Ka4 Ka10
            refine hKK _ _ hS2.1 ?_
            intro _
            refine wpAnyH_monoS (S' := fun W => (Vl W b3 (ndc n) ∧ Vl W b7 (byts 32 (encF n)) ∧ Vl W b8 (ndc n)) ∧ ∀ j, j < 32 → W.cell? ⟨gg, j, none⟩ = some (.int .u8 (encF n j))) (fun _ h => h.1) _ _ _ _ ?_
            have hS0 := hS2
            clear hKK KK hbc hS2 hcl
            try simp only [Act.put, List.getElem_toArray, List.getElem_cons_zero, List.getElem_cons_succ, List.setIfInBounds_toArray, List.set_cons_zero, List.set_cons_succ]
            refine wpAnyH_take (i := 4) (v := .string (bsOf (encF n))) rfl (by kernel_rfl) (by kernel_rfl) (by kernel_rfl) (fun _ _ _ h => h) ?_ hS0 ?_
            · exact yields_str (by rfl) _ rfl (encF n) (encF_byt Hn.out) gg cap rfl (fun W hW j hj => hW.2 j hj)
            simp only [Act.put, List.getElem_toArray, List.getElem_cons_zero, List.getElem_cons_succ, List.setIfInBounds_toArray, List.set_cons_zero, List.set_cons_succ]
            refine wpAnyH_take (i := 5) (v := ?_) rfl (by kernel_rfl) (by kernel_rfl) (by kernel_rfl) (fun _ _ _ h => h) (Or.inl ⟨by rfl, ?_⟩) hS0 ?_
            rotate_left 1
            · intro W hW
              go_simp
              try with_reducible rfl
            simp only [Act.put, List.getElem_toArray, List.getElem_cons_zero, List.getElem_cons_succ, List.setIfInBounds_toArray, List.set_cons_zero, List.set_cons_succ]
            refine wpAnyH_take (i := 6) (v := ?_) rfl (by kernel_rfl) (by kernel_rfl) (by kernel_rfl) (fun _ _ _ h => h) (Or.inl ⟨by rfl, ?_⟩) hS0 ?_
            rotate_left 1
            · intro W hW
              go_simp
              try with_reducible rfl
            simp only [Act.put, List.getElem_toArray, List.getElem_cons_zero, List.getElem_cons_succ, List.setIfInBounds_toArray, List.set_cons_zero, List.set_cons_succ]
            refine wpAnyH_take (i := 7) (v := .agg (ndc n).toArray) rfl (by kernel_rfl) (by kernel_rfl) (by kernel_rfl) (fun _ _ _ h => h) ?_ hS0 ?_
            · exact yieldsIf_load_mid (by rfl) 27 _ rfl b3 0 rfl (ndc n) d27 (fun W hW => hW.1.1.range0) HU27.out HD27.out (size27 n)
            simp only [Act.put, List.getElem_toArray, List.getElem_cons_zero, List.getElem_cons_succ, List.setIfInBounds_toArray, List.set_cons_zero, List.set_cons_succ]
            refine wpAnyH_take (i := 9) (v := ?_) rfl (by kernel_rfl) (by kernel_rfl) (by kernel_rfl) (fun _ _ _ h => h) (Or.inl ⟨by rfl, ?_⟩) hS0 ?_
            rotate_left 1
            · intro W hW
              go_simp
              try with_reducible rfl
            simp only [Act.put, List.getElem_toArray, List.getElem_cons_zero, List.getElem_cons_succ, List.setIfInBounds_toArray, List.set_cons_zero, List.set_cons_succ]
            refine wpAnyH_ready (rs := [8]) (by kernel_rfl) (by simp) (AllReadyH.cons rfl (fun KK hKK => ?_) AllReadyH.nil)
            go_simp
            refine (HK1.out w16).mono ?_
            rintro e w17 ⟨rfl, hbc⟩
            have hS2 : ((Vl w17 b3 (ndc n) ∧ Vl w17 b7 (byts 32 (encF n)) ∧ Vl w17 b8 (ndc n)) ∧ ∀ j, j < 32 → w17.cell? ⟨gg, j, none⟩ = some (.int .u8 (encF n j))) := ⟨⟨hS0.1.1.keep hbc, hS0.1.2.1.keep hbc, hS0.1.2.2.keep hbc⟩, fun j hj => (hbc.cell (p := ⟨gg, j, none⟩) hg1).trans (hS0.2 j hj)⟩
            have HBd := Lib.hid (HBc.out.trans (hbc.mono (by omega)))
            have Kd4 := Lib.hid (Kc4.out.keep hbc)
            have Kd10 := Lib.hid (Kc10.out.keep hbc)
            clear hS0 HBc Kc4 Kc10
            refine hKK _ _ hS2 ?_
            intro _
            have hS0 := hS2
            clear hKK KK hbc hS2
            try simp only [Act.put, List.getElem_toArray, List.getElem_cons_zero, List.getElem_cons_succ, List.setIfInBounds_toArray, List.set_cons_zero, List.set_cons_succ]
            refine wpAnyH_take (i := 10) (v := ?_) rfl (by kernel_rfl) (by kernel_rfl) (by kernel_rfl) (fun _ _ _ h => h) (Or.inl ⟨by rfl, ?_⟩) hS0 ?_
            rotate_left 1
            · intro W hW
              go_simp
              try with_reducible rfl
            simp only [Act.put, List.getElem_toArray, List.getElem_cons_zero, List.getElem_cons_succ, List.setIfInBounds_toArray, List.set_cons_zero, List.set_cons_succ]
            refine wpAnyH_take (i := 11) (v := ?_) rfl (by kernel_rfl) (by kernel_rfl) (by kernel_rfl) (fun _ _ _ h => h) (Or.inl ⟨by rfl, ?_⟩) hS0 ?_
            rotate_left 1
            · intro W hW
              go_simp
              try with_reducible rfl
            simp only [Act.put, List.getElem_toArray, List.getElem_cons_zero, List.getElem_cons_succ, List.setIfInBounds_toArray, List.set_cons_zero, List.set_cons_succ]
            refine wpAnyH_take (i := 12) (v := ?_) rfl (by kernel_rfl) (by kernel_rfl) (by kernel_rfl) (fun _ _ _ h => h) (Or.inl ⟨by rfl, ?_⟩) hS0 ?_
            rotate_left 1
            · intro W hW
              go_simp
              try with_reducible rfl
            simp only [Act.put, List.getElem_toArray, List.getElem_cons_zero, List.getElem_cons_succ, List.setIfInBounds_toArray, List.set_cons_zero, List.set_cons_succ]
            refine wpAnyH_take (i := 13) (v := ?_) rfl (by kernel_rfl) (by kernel_rfl) (by kernel_rfl) (fun _ _ _ h => h) (Or.inl ⟨by rfl, ?_⟩) hS0 ?_
            rotate_left 1
            · intro W hW
              go_simp
              try with_reducible rfl
            simp only [Act.put, List.getElem_toArray, List.getElem_cons_zero, List.getElem_cons_succ, List.setIfInBounds_toArray, List.set_cons_zero, List.set_cons_succ]
            refine wpAnyH_take (i := 14) (v := ?_) rfl (by kernel_rfl) (by kernel_rfl) (by kernel_rfl) (fun _ _ _ h => h) (Or.inl ⟨by rfl, ?_⟩) hS0 ?_
            rotate_left 1
            · intro W hW
              go_simp
              try with_reducible rfl
            simp only [Act.put, List.getElem_toArray, List.getElem_cons_zero, List.getElem_cons_succ, List.setIfInBounds_toArray, List.set_cons_zero, List.set_cons_succ]
            refine wpAnyH_take (i := 15) (v := ?_) rfl (by kernel_rfl) (by kernel_rfl) (by kernel_rfl) (fun _ _ _ h => h) (Or.inl ⟨by rfl, ?_⟩) hS0 ?_
            rotate_left 1
            · intro W hW
              go_simp
              try with_reducible rfl
            simp only [Act.put, List.getElem_toArray, List.getElem_cons_zero, List.getElem_cons_succ, List.setIfInBounds_toArray, List.set_cons_zero, List.set_cons_succ]
            refine wpAnyH_take (i := 16) (v := ?_) rfl (by kernel_rfl) (by kernel_rfl) (by kernel_rfl) (fun _ _ _ h => h) (Or.inl ⟨by rfl, ?_⟩) hS0 ?_
            rotate_left 1
            · intro W hW
              go_simp
              try with_reducible rfl
            simp only [Act.put, List.getElem_toArray, List.getElem_cons_zero, List.getElem_cons_succ, List.setIfInBounds_toArray, List.set_cons_zero, List.set_cons_succ]
            refine wpAnyH_take (i := 17) (v := ?_) rfl (by kernel_rfl) (by kernel_rfl) (by kernel_rfl) (fun _ _ _ h => h) (Or.inl ⟨by rfl, ?_⟩) hS0 ?_
            rotate_left 1
            · intro W hW
              go_simp
              try with_reducible rfl
            simp only [Act.put, List.getElem_toArray, List.getElem_cons_zero, List.getElem_cons_succ, List.setIfInBounds_toArray, List.set_cons_zero, List.set_cons_succ]
            refine wpAnyH_take (i := 18) (v := ?_) rfl (by kernel_rfl) (by kernel_rfl) (by kernel_rfl) (fun _ _ _ h => h) (Or.inl ⟨by rfl, ?_⟩) hS0 ?_
            rotate_left 1
            · intro W hW
              go_simp
              try with_reducible rfl
            simp only [Act.put, List.getElem_toArray, List.getElem_cons_zero, List.getElem_cons_succ, List.setIfInBounds_toArray, List.set_cons_zero, List.set_cons_succ]
            refine wpAnyH_take (i := 19) (v := ?_) rfl (by kernel_rfl) (by kernel_rfl) (by kernel_rfl) (fun _ _ _ h => h) (Or.inl ⟨by rfl, ?_⟩) hS0 ?_
            rotate_left 1
            · intro W hW
              go_simp
              try with_reducible rfl
            simp only [Act.put, List.getElem_toArray, List.getElem_cons_zero, List.getElem_cons_succ, List.setIfInBounds_toArray, List.set_cons_zero, List.set_cons_succ]
            refine wpAnyH_take (i := 20) (v := ?_) rfl (by kernel_rfl) (by kernel_rfl) (by kernel_rfl) (fun _ _ _ h => h) (Or.inl ⟨by rfl, ?_⟩) hS0 ?_
            rotate_left 1
            · intro W hW
              go_simp
              try with_reducible rfl
            simp only [Act.put, List.getElem_toArray, List.getElem_cons_zero, List.getElem_cons_succ, List.setIfInBounds_toArray, List.set_cons_zero, List.set_cons_succ]
            refine wpAnyH_take (i := 21) (v := .agg (ndc n).toArray) rfl (by kernel_rfl) (by kernel_rfl) (by kernel_rfl) (fun _ _ _ h => h) ?_ hS0 ?_
            · exact yieldsIf_load_mid (by rfl) 27 _ rfl b8 0 rfl (ndc n) d27 (fun W hW => hW.1.2.2.range0) HU27.out HD27.out (size27 _)
            simp only [Act.put, List.getElem_toArray, List.getElem_cons_zero, List.getElem_cons_succ, List.setIfInBounds_toArray, List.set_cons_zero, List.set_cons_succ]
            refine wpAnyH_take (i := 22) (v := .agg (ndc n).toArray) rfl (by kernel_rfl) (by kernel_rfl) (by kernel_rfl) (fun _ _ _ h => h) ?_ hS0 ?_
            · exact yieldsIf_load_mid (by rfl) 27 _ rfl b3 0 rfl (ndc n) d27 (fun W hW => hW.1.1.range0) HU27.out HD27.out (size27 _)
            simp only [Act.put, List.getElem_toArray, List.getElem_cons_zero, List.getElem_cons_succ, List.setIfInBounds_toArray, List.set_cons_zero, List.set_cons_succ]
            refine wpAnyH_take (i := 23) (v := .bool (!true)) rfl (by kernel_rfl) (by kernel_rfl) (by kernel_rfl) (fun _ _ _ h => h) ?_ hS0 ?_
            · exact yields_neq (by rfl) 27 27 _ _ rfl (ndc n).toArray (ndc n).toArray rfl rfl true Try.guard27 (fun W _ => HNN.out W)
            simp only [Act.put, List.getElem_toArray, List.getElem_cons_zero, List.getElem_cons_succ, List.setIfInBounds_toArray, List.set_cons_zero, List.set_cons_succ]
            refine wpAnyH_take (i := 24) (v := ?_) rfl (by kernel_rfl) (by kernel_rfl) (by kernel_rfl) (fun _ _ _ h => h) (Or.inl ⟨by rfl, ?_⟩) hS0 ?_
            rotate_left 1
            · intro W hW
              go_simp
              try with_reducible rfl
            simp only [Act.put, List.getElem_toArray, List.getElem_cons_zero, List.getElem_cons_succ, List.setIfInBounds_toArray, List.set_cons_zero, List.set_cons_succ]
            refine wpAnyH_take (i := 25) (v := ?_) rfl (by kernel_rfl) (by kernel_rfl) (by kernel_rfl) (fun _ _ _ h => h) (Or.inl ⟨by rfl, ?_⟩) hS0 ?_
            rotate_left 1
            · intro W hW
              go_simp
              try with_reducible rfl
            simp only [Act.put, List.getElem_toArray, List.getElem_cons_zero, List.getElem_cons_succ, List.setIfInBounds_toArray, List.set_cons_zero, List.set_cons_succ]
            refine wpAnyH_take (i := 26) (v := ?_) rfl (by kernel_rfl) (by kernel_rfl) (by kernel_rfl) (fun _ _ _ h => h) (Or.inl ⟨by rfl, ?_⟩) hS0 ?_
            rotate_left 1
            · intro W hW
              go_simp
              try with_reducible rfl
            simp only [Act.put, List.getElem_toArray, List.getElem_cons_zero, List.getElem_cons_succ, List.setIfInBounds_toArray, List.set_cons_zero, List.set_cons_succ]
            refine wpAnyH_take (i := 27) (v := ?_) rfl (by kernel_rfl) (by kernel_rfl) (by kernel_rfl) (fun _ _ _ h => h) (Or.inl ⟨by rfl, ?_⟩) hS0 ?_
            rotate_left 1
            · intro W hW
              go_simp
              try with_reducible rfl
            simp only [Act.put, List.getElem_toArray, List.getElem_cons_zero, List.getElem_cons_succ, List.setIfInBounds_toArray, List.set_cons_zero, List.set_cons_succ]
            refine wpAnyH_take (i := 28) (v := ?_) rfl (by kernel_rfl) (by kernel_rfl) (by kernel_rfl) (fun _ _ _ h => h) (Or.inl ⟨by rfl, ?_⟩) hS0 ?_
            rotate_left 1
            · intro W hW
              go_simp
              try with_reducible rfl
            simp only [Act.put, List.getElem_toArray, List.getElem_cons_zero, List.getElem_cons_succ, List.setIfInBounds_toArray, List.set_cons_zero, List.set_cons_succ]
            refine wpAnyH_take (i := 29) (v := ?_) rfl (by kernel_rfl) (by kernel_rfl) (by kernel_rfl) (fun _ _ _ h => h) (Or.inl ⟨by rfl, ?_⟩) hS0 ?_
            rotate_left 1
            · intro W hW
              go_simp
              try with_reducible rfl
            simp only [Act.put, List.getElem_toArray, List.getElem_cons_zero, List.getElem_cons_succ, List.setIfInBounds_toArray, List.set_cons_zero, List.set_cons_succ]
            refine wpAnyH_take (i := 30) (v := undef) rfl (by kernel_rfl) (by kernel_rfl) (by kernel_rfl) (fun _ _ _ h => h) (Or.inr ⟨by rfl, rfl⟩) hS0 ?_
            simp only [Act.put, List.getElem_toArray, List.getElem_cons_zero, List.getElem_cons_succ, List.setIfInBounds_toArray, List.set_cons_zero, List.set_cons_succ]
            refine wpAnyH_take (i := 31) (v := undef) rfl (by kernel_rfl) (by kernel_rfl) (by kernel_rfl) (fun _ _ _ h => h) (Or.inr ⟨by rfl, rfl⟩) hS0 ?_
            simp only [Act.put, List.getElem_toArray, List.getElem_cons_zero, List.getElem_cons_succ, List.setIfInBounds_toArray, List.set_cons_zero, List.set_cons_succ]
            refine wpAnyH_take (i := 32) (v := undef) rfl (by kernel_rfl) (by kernel_rfl) (by kernel_rfl) (fun _ _ _ h => h) (Or.inr ⟨by rfl, rfl⟩) hS0 ?_
            simp only [Act.put, List.getElem_toArray, List.getElem_cons_zero, List.getElem_cons_succ, List.setIfInBounds_toArray, List.set_cons_zero, List.set_cons_succ]
            refine wpAnyH_take (i := 33) (v := ?_) rfl (by kernel_rfl) (by kernel_rfl) (by kernel_rfl) (fun _ _ _ h => h) (Or.inl ⟨by rfl, ?_⟩) hS0 ?_
            rotate_left 1
            · intro W hW
              go_simp
              try with_reducible rfl
            simp only [Act.put, List.getElem_toArray, List.getElem_cons_zero, List.getElem_cons_succ, List.setIfInBounds_toArray, List.set_cons_zero, List.set_cons_succ]
            refine wpAnyH_take (i := 34) (v := ?_) rfl (by kernel_rfl) (by kernel_rfl) (by kernel_rfl) (fun _ _ _ h => h) (Or.inl ⟨by rfl, ?_⟩) hS0 ?_
            rotate_left 1
            · intro W hW
              go_simp
              try with_reducible rfl
            simp only [Act.put, List.getElem_toArray, List.getElem_cons_zero, List.getElem_cons_succ, List.setIfInBounds_toArray, List.set_cons_zero, List.set_cons_succ]
            refine wpAnyH_done (by kernel_rfl) ?_ _
            go_wp2_with fail
            go_meet
            case rel => exact ⟨rfl, hS0.1.1, Kd4.out, Kd10.out, HBd.out⟩
          · rw [hY0] at M8
            clear hY0
            have HNN := Lib.hid (fun W => eq27 zpt zpt zpt_ok zpt_ok W)
            have hnn : eqb 12 zpt zpt = true := eqb_same fun _ _ => rfl
            rw [hnn] at HNN
            clear hnn
            have Ka4 := Lib.hid (M4.out.keep (Below.refl w14.heap.size w14).drew)
            have Ka10 := Lib.hid (M10.out.keep (Below.refl w14.heap.size w14).drew)
            refine wp_region_held (S := fun W => Vl W b3 (ndc n) ∧ Vl W b7 (byts 32 (encF n)) ∧ Vl W b8 (ndc zpt)) (by kernel_rfl) ?_
            change wpAnyH _ _ _ _ _ _ _ _ (World.drew w14)
            have hS0 : (fun W => Vl W b3 (ndc n) ∧ Vl W b7 (byts 32 (encF n)) ∧ Vl W b8 (ndc zpt)) (World.drew w14) := ⟨M3.out.keep (Below.refl w14.heap.size w14).drew, M7.out.keep (Below.refl w14.heap.size w14).drew, M8.out.keep (Below.refl w14.heap.size w14).drew⟩
            have HB0 := Lib.hid (MB.out.drew)
            have hq0 : b10 < (World.drew w14).heap.size := hq14
            obtain ⟨w15, hw⟩ : ∃ x, World.drew w14 = x := ⟨_, rfl⟩
            rw [hw] at hS0 HB0 hq0 Ka4 Ka10 ⊢
            clear hw
            refine wpAnyH_take (i := 0) (v := ?_) rfl (by kernel_rfl) (by kernel_rfl) (by kernel_rfl) (fun _ _ _ h => h) (Or.inl ⟨by rfl, ?_⟩) hS0 ?_
            rotate_left 1
            · intro W hW
              go_simp
              try with_reducible rfl
            simp only [Act.put, List.getElem_toArray, List.getElem_cons_zero, List.getElem_cons_succ, List.setIfInBounds_toArray, List.set_cons_zero, List.set_cons_succ]
            refine wpAnyH_take (i := 1) (v := .string (bsOf (encF n))) rfl (by kernel_rfl) (by kernel_rfl) (by kernel_rfl) (fun _ _ _ h => h) ?_ hS0 ?_
            · exact yields_str (by rfl) _ rfl (encF n) (encF_byt Hn.out) b7 32 rfl (fun W hW j hj => hW.2.1.c j _ (byts_get _ hj))
            simp only [Act.put, List.getElem_toArray, List.getElem_cons_zero, List.getElem_cons_succ, List.setIfInBounds_toArray, List.set_cons_zero, List.set_cons_succ]
            refine wpAnyH_take (i := 2) (v := .agg (ndc n).toArray) rfl (by kernel_rfl) (by kernel_rfl) (by kernel_rfl) (fun _ _ _ h => h) ?_ hS0 ?_
            · exact yieldsIf_load_mid (by rfl) 27 _ rfl b3 0 rfl (ndc n) d27 (fun W hW => hW.1.range0) HU27.out HD27.out (size27 n)
            simp only [Act.put, List.getElem_toArray, List.getElem_cons_zero, List.getElem_cons_succ, List.setIfInBounds_toArray, List.set_cons_zero, List.set_cons_succ]
            refine wpAnyH_ready (rs := [3]) (by kernel_rfl) (by simp) (AllReadyH.cons rfl (fun KK hKK => ?_) AllReadyH.nil)
            go_simp
            refine (HR2.out w15).mono ?_
            rintro e w16 ⟨gg, cap, rfl, hg0, hg1, hcl, hbc⟩
            have hS2 : ((Vl w16 b3 (ndc n) ∧ Vl w16 b7 (byts 32 (encF n)) ∧ Vl w16 b8 (ndc zpt)) ∧ ∀ j, j < 32 → w16.cell? ⟨gg, j, none⟩ = some (.int .u8 (encF n j))) := ⟨⟨hS0.1.keep hbc, hS0.2.1.keep hbc, hS0.2.2.keep hbc⟩, hcl⟩
            have HBc := Lib.hid (HB0.out.trans (hbc.mono (by omega)))
            have Kc4 := Lib.hid (Ka4.out.keep hbc)
            have Kc10 := Lib.hid (Ka10.out.keep hbc)
            have hqc : b10 < w16.heap.size := (by have := hbc.size; omega)
            clear hS0 HB0 Ka4 Ka10
            refine hKK _ _ hS2.1 ?_
            intro _
            refine wpAnyH_monoS (S' := fun W => (Vl W b3 (ndc n) ∧ Vl W b7 (byts 32 (encF n)) ∧ Vl W b8 (ndc zpt)) ∧ ∀ j, j < 32 → W.cell? ⟨gg, j, none⟩ = some (.int .u8 (encF n j))) (fun _ h => h.1) _ _ _ _ ?_
            have hS0 := hS2
            clear hKK KK hbc hS2 hcl
            try simp only [Act.put, List.getElem_toArray, List.getElem_cons_zero, List.getElem_cons_succ, List.setIfInBounds_toArray, List.set_cons_zero, List.set_cons_succ]
            refine wpAnyH_take (i := 4) (v := .string (bsOf (encF n))) rfl (by kernel_rfl) (by kernel_rfl) (by kernel_rfl) (fun _ _ _ h => h) ?_ hS0 ?_
            · exact yields_str (by rfl) _ rfl (encF n) (encF_byt Hn.out) gg cap rfl (fun W hW j hj => hW.2 j hj)
            simp only [Act.put, List.getElem_toArray, List.getElem_cons_zero, List.getElem_cons_succ, List.setIfInBounds_toArray, List.set_cons_zero, List.set_cons_succ]
            refine wpAnyH_take (i := 5) (v := ?_) rfl (by kernel_rfl) (by kernel_rfl) (by kernel_rfl) (fun _ _ _ h => h) (Or.inl ⟨by rfl, ?_⟩) hS0 ?_
            rotate_left 1
            · intro W hW
              go_simp
              try with_reducible rfl
            simp only [Act.put, List.getElem_toArray, List.getElem_cons_zero, List.getElem_cons_succ, List.setIfInBounds_toArray, List.set_cons_zero, List.set_cons_succ]
            refine wpAnyH_take (i := 6) (v := ?_) rfl (by kernel_rfl) (by kernel_rfl) (by kernel_rfl) (fun _ _ _ h => h) (Or.inl ⟨by rfl, ?_⟩) hS0 ?_
            rotate_left 1
            · intro W hW
              go_simp
              try with_reducible rfl
            simp only [Act.put, List.getElem_toArray, List.getElem_cons_zero, List.getElem_cons_succ, List.setIfInBounds_toArray, List.set_cons_zero, List.set_cons_succ]
            refine wpAnyH_take (i := 7) (v := .agg (ndc n).toArray) rfl (by kernel_rfl) (by kernel_rfl) (by kernel_rfl) (fun _ _ _ h => h) ?_ hS0 ?_
            · exact yieldsIf_load_mid (by rfl) 27 _ rfl b3 0 rfl (ndc n) d27 (fun W hW => hW.1.1.range0) HU27.out HD27.out (size27 n)
            simp only [Act.put, List.getElem_toArray, List.getElem_cons_zero, List.getElem_cons_succ, List.setIfInBounds_toArray, List.set_cons_zero, List.set_cons_succ]
            refine wpAnyH_take (i := 9) (v := ?_) rfl (by kernel_rfl) (by kernel_rfl) (by kernel_rfl) (fun _ _ _ h => h) (Or.inl ⟨by rfl, ?_⟩) hS0 ?_
            rotate_left 1
            · intro W hW
              go_simp
              try with_reducible rfl
            simp only [Act.put, List.getElem_toArray, List.getElem_cons_zero, List.getElem_cons_succ, List.setIfInBounds_toArray, List.set_cons_zero, List.set_cons_succ]
            refine wpAnyH_ready (rs := [8]) (by kernel_rfl) (by simp) (AllReadyH.cons rfl (fun KK hKK => ?_) AllReadyH.nil)
            go_simp
            refine (HK1.out w16).mono ?_
            rintro e w17 ⟨rfl, hbc⟩
            have hS2 : ((Vl w17 b3 (ndc n) ∧ Vl w17 b7 (byts 32 (encF n)) ∧ Vl w17 b8 (ndc zpt)) ∧ ∀ j, j < 32 → w17.cell? ⟨gg, j, none⟩ = some (.int .u8 (encF n j))) := ⟨⟨hS0.1.1.keep hbc, hS0.1.2.1.keep hbc, hS0.1.2.2.keep hbc⟩, fun j hj => (hbc.cell (p := ⟨gg, j, none⟩) hg1).trans (hS0.2 j hj)⟩
            have HBd := Lib.hid (HBc.out.trans (hbc.mono (by omega)))
            have Kd4 := Lib.hid (Kc4.out.keep hbc)
            have Kd10 := Lib.hid (Kc10.out.keep hbc)
            clear hS0 HBc Kc4 Kc10
            refine hKK _ _ hS2 ?_
            intro _
            have hS0 := hS2
            clear hKK KK hbc hS2
            try simp only [Act.put, List.getElem_toArray, List.getElem_cons_zero, List.getElem_cons_succ, List.setIfInBounds_toArray, List.set_cons_zero, List.set_cons_succ]
            refine wpAnyH_take (i := 10) (v := ?_) rfl (by kernel_rfl) (by kernel_rfl) (by kernel_rfl) (fun _ _ _ h => h) (Or.inl ⟨by rfl, ?_⟩) hS0 ?_
            rotate_left 1
            · intro W hW
              go_simp
              try with_reducible rfl
            simp only [Act.put, List.getElem_toArray, List.getElem_cons_zero, List.getElem_cons_succ, List.setIfInBounds_toArray, List.set_cons_zero, List.set_cons_succ]
            refine wpAnyH_take (i := 11) (v := ?_) rfl (by kernel_rfl) (by kernel_rfl) (by kernel_rfl) (fun _ _ _ h => h) (Or.inl ⟨by rfl, ?_⟩) hS0 ?_
            rotate_left 1
            · intro W hW
              go_simp
              try with_reducible rfl
            simp only [Act.put, List.getElem_toArray, List.getElem_cons_zero, List.getElem_cons_succ, List.setIfInBounds_toArray, List.set_cons_zero, List.set_cons_succ]
            refine wpAnyH_take (i := 12) (v := ?_) rfl (by kernel_rfl) (by kernel_rfl) (by kernel_rfl) (fun _ _ _ h => h) (Or.inl ⟨by rfl, ?_⟩) hS0 ?_
            rotate_left 1
            · intro W hW
              go_simp
              try with_reducible rfl
            simp only [Act.put, List.getElem_toArray, List.getElem_cons_zero, List.getElem_cons_succ, List.setIfInBounds_toArray, List.set_cons_zero, List.set_cons_succ]
            refine wpAnyH_take (i := 13) (v := ?_) rfl (by kernel_rfl) (by kernel_rfl) (by kernel_rfl) (fun _ _ _ h => h) (Or.inl ⟨by rfl, ?_⟩) hS0 ?_
            rotate_left 1
            · intro W hW
              go_simp
              try with_reducible rfl
            simp only [Act.put, List.getElem_toArray, List.getElem_cons_zero, List.getElem_cons_succ, List.setIfInBounds_toArray, List.set_cons_zero, List.set_cons_succ]
            refine wpAnyH_take (i := 14) (v := ?_) rfl (by kernel_rfl) (by kernel_rfl) (by kernel_rfl) (fun _ _ _ h => h) (Or.inl ⟨by rfl, ?_⟩) hS0 ?_
            rotate_left 1
            · intro W hW
              go_simp
              try with_reducible rfl
            simp only [Act.put, List.getElem_toArray, List.getElem_cons_zero, List.getElem_cons_succ, List.setIfInBounds_toArray, List.set_cons_zero, List.set_cons_succ]
            refine wpAnyH_take (i := 15) (v := ?_) rfl (by kernel_rfl) (by kernel_rfl) (by kernel_rfl) (fun _ _ _ h => h) (Or.inl ⟨by rfl, ?_⟩) hS0 ?_
            rotate_left 1
            · intro W hW
              go_simp
              try with_reducible rfl
            simp only [Act.put, List.getElem_toArray, List.getElem_cons_zero, List.getElem_cons_succ, List.setIfInBounds_toArray, List.set_cons_zero, List.set_cons_succ]
            refine wpAnyH_take (i := 16) (v := ?_) rfl (by kernel_rfl) (by kernel_rfl) (by kernel_rfl) (fun _ _ _ h => h) (Or.inl ⟨by rfl, ?_⟩) hS0 ?_
            rotate_left 1
            · intro W hW
              go_simp
              try with_reducible rfl
            simp only [Act.put, List.getElem_toArray, List.getElem_cons_zero, List.getElem_cons_succ, List.setIfInBounds_toArray, List.set_cons_zero, List.set_cons_succ]
            refine wpAnyH_take (i := 17) (v := ?_) rfl (by kernel_rfl) (by kernel_rfl) (by kernel_rfl) (fun _ _ _ h => h) (Or.inl ⟨by rfl, ?_⟩) hS0 ?_
            rotate_left 1
            · intro W hW
              go_simp
              try with_reducible rfl
            simp only [Act.put, List.getElem_toArray, List.getElem_cons_zero, List.getElem_cons_succ, List.setIfInBounds_toArray, List.set_cons_zero, List.set_cons_succ]
            refine wpAnyH_take (i := 18) (v := ?_) rfl (by kernel_rfl) (by kernel_rfl) (by kernel_rfl) (fun _ _ _ h => h) (Or.inl ⟨by rfl, ?_⟩) hS0 ?_
            rotate_left 1
            · intro W hW
              go_simp
              try with_reducible rfl
            simp only [Act.put, List.getElem_toArray, List.getElem_cons_zero, List.getElem_cons_succ, List.setIfInBounds_toArray, List.set_cons_zero, List.set_cons_succ]
            refine wpAnyH_take (i := 19) (v := ?_) rfl (by kernel_rfl) (by kernel_rfl) (by kernel_rfl) (fun _ _ _ h => h) (Or.inl ⟨by rfl, ?_⟩) hS0 ?_
            rotate_left 1
            · intro W hW
              go_simp
              try with_reducible rfl
            simp only [Act.put, List.getElem_toArray, List.getElem_cons_zero, List.getElem_cons_succ, List.setIfInBounds_toArray, List.set_cons_zero, List.set_cons_succ]
            refine wpAnyH_take (i := 20) (v := ?_) rfl (by kernel_rfl) (by kernel_rfl) (by kernel_rfl) (fun _ _ _ h => h) (Or.inl ⟨by rfl, ?_⟩) hS0 ?_
            rotate_left 1
            · intro W hW
              go_simp
              try with_reducible rfl
            simp only [Act.put, List.getElem_toArray, List.getElem_cons_zero, List.getElem_cons_succ, List.setIfInBounds_toArray, List.set_cons_zero, List.set_cons_succ]
            refine wpAnyH_take (i := 21) (v := undef) rfl (by kernel_rfl) (by kernel_rfl) (by kernel_rfl) (fun _ _ _ h => h) (Or.inr ⟨by rfl, rfl⟩) hS0 ?_
            simp only [Act.put, List.getElem_toArray, List.getElem_cons_zero, List.getElem_cons_succ, List.setIfInBounds_toArray, List.set_cons_zero, List.set_cons_succ]
            refine wpAnyH_take (i := 22) (v := undef) rfl (by kernel_rfl) (by kernel_rfl) (by kernel_rfl) (fun _ _ _ h => h) (Or.inr ⟨by rfl, rfl⟩) hS0 ?_
            simp only [Act.put, List.getElem_toArray, List.getElem_cons_zero, List.getElem_cons_succ, List.setIfInBounds_toArray, List.set_cons_zero, List.set_cons_succ]
            refine wpAnyH_take (i := 23) (v := undef) rfl (by kernel_rfl) (by kernel_rfl) (by kernel_rfl) (fun _ _ _ h => h) (Or.inr ⟨by rfl, rfl⟩) hS0 ?_
            simp only [Act.put, List.getElem_toArray, List.getElem_cons_zero, List.getElem_cons_succ, List.setIfInBounds_toArray, List.set_cons_zero, List.set_cons_succ]
            refine wpAnyH_take (i := 24) (v := ?_) rfl (by kernel_rfl) (by kernel_rfl) (by kernel_rfl) (fun _ _ _ h => h) (Or.inl ⟨by rfl, ?_⟩) hS0 ?_
            rotate_left 1
            · intro W hW
              go_simp
              try with_reducible rfl
            simp only [Act.put, List.getElem_toArray, List.getElem_cons_zero, List.getElem_cons_succ, List.setIfInBounds_toArray, List.set_cons_zero, List.set_cons_succ]
            refine wpAnyH_take (i := 25) (v := ?_) rfl (by kernel_rfl) (by kernel_rfl) (by kernel_rfl) (fun _ _ _ h => h) (Or.inl ⟨by rfl, ?_⟩) hS0 ?_
            rotate_left 1
            · intro W hW
              go_simp
              try with_reducible rfl
            simp only [Act.put, List.getElem_toArray, List.getElem_cons_zero, List.getElem_cons_succ, List.setIfInBounds_toArray, List.set_cons_zero, List.set_cons_succ]
            refine wpAnyH_take (i := 26) (v := ?_) rfl (by kernel_rfl) (by kernel_rfl) (by kernel_rfl) (fun _ _ _ h => h) (Or.inl ⟨by rfl, ?_⟩) hS0 ?_
            rotate_left 1
            · intro W hW
              go_simp
              try with_reducible rfl
            simp only [Act.put, List.getElem_toArray, List.getElem_cons_zero, List.getElem_cons_succ, List.setIfInBounds_toArray, List.set_cons_zero, List.set_cons_succ]
            refine wpAnyH_take (i := 27) (v := ?_) rfl (by kernel_rfl) (by kernel_rfl) (by kernel_rfl) (fun _ _ _ h => h) (Or.inl ⟨by rfl, ?_⟩) hS0 ?_
            rotate_left 1
            · intro W hW
              go_simp
              try with_reducible rfl
            simp only [Act.put, List.getElem_toArray, List.getElem_cons_zero, List.getElem_cons_succ, List.setIfInBounds_toArray, List.set_cons_zero, List.set_cons_succ]
            refine wpAnyH_take (i := 28) (v := ?_) rfl (by kernel_rfl) (by kernel_rfl) (by kernel_rfl) (fun _ _ _ h => h) (Or.inl ⟨by rfl, ?_⟩) hS0 ?_
            rotate_left 1
            · intro W hW
              go_simp
              try with_reducible rfl
            simp only [Act.put, List.getElem_toArray, List.getElem_cons_zero, List.getElem_cons_succ, List.setIfInBounds_toArray, List.set_cons_zero, List.set_cons_succ]
            refine wpAnyH_take (i := 29) (v := ?_) rfl (by kernel_rfl) (by kernel_rfl) (by kernel_rfl) (fun _ _ _ h => h) (Or.inl ⟨by rfl, ?_⟩) hS0 ?_
            rotate_left 1
            · intro W hW
              go_simp
              try with_reducible rfl
            simp only [Act.put, List.getElem_toArray, List.getElem_cons_zero, List.getElem_cons_succ, List.setIfInBounds_toArray, List.set_cons_zero, List.set_cons_succ]
            refine wpAnyH_take (i := 30) (v := .agg (ndc zpt).toArray) rfl (by kernel_rfl) (by kernel_rfl) (by kernel_rfl) (fun _ _ _ h => h) ?_ hS0 ?_
            · exact yieldsIf_load_mid (by rfl) 27 _ rfl b8 0 rfl (ndc zpt) d27 (fun W hW => hW.1.2.2.range0) HU27.out HD27.out (size27 _)
            simp only [Act.put, List.getElem_toArray, List.getElem_cons_zero, List.getElem_cons_succ, List.setIfInBounds_toArray, List.set_cons_zero, List.set_cons_succ]
            refine wpAnyH_take (i := 31) (v := .agg (ndc zpt).toArray) rfl (by kernel_rfl) (by kernel_rfl) (by kernel_rfl) (fun _ _ _ h => h) ?_ hS0 ?_
            · exact yields_bld0 (by rfl) 27 rfl _ build27_zero
            simp only [Act.put, List.getElem_toArray, List.getElem_cons_zero, List.getElem_cons_succ, List.setIfInBounds_toArray, List.set_cons_zero, List.set_cons_succ]
            refine wpAnyH_take (i := 32) (v := .bool (!true)) rfl (by kernel_rfl) (by kernel_rfl) (by kernel_rfl) (fun _ _ _ h => h) ?_ hS0 ?_
            · exact yields_neq (by rfl) 27 27 _ _ rfl (ndc zpt).toArray (ndc zpt).toArray rfl rfl true Try.guard27 (fun W _ => HNN.out W)
            simp only [Act.put, List.getElem_toArray, List.getElem_cons_zero, List.getElem_cons_succ, List.setIfInBounds_toArray, List.set_cons_zero, List.set_cons_succ]
            refine wpAnyH_take (i := 33) (v := ?_) rfl (by kernel_rfl) (by kernel_rfl) (by kernel_rfl) (fun _ _ _ h => h) (Or.inl ⟨by rfl, ?_⟩) hS0 ?_
            rotate_left 1
            · intro W hW
              go_simp
              try with_reducible rfl
            simp only [Act.put, List.getElem_toArray, List.getElem_cons_zero, List.getElem_cons_succ, List.setIfInBounds_toArray, List.set_cons_zero, List.set_cons_succ]
            refine wpAnyH_take (i := 34) (v := ?_) rfl (by kernel_rfl) (by kernel_rfl) (by kernel_rfl) (fun _ _ _ h => h) (Or.inl ⟨by rfl, ?_⟩) hS0 ?_
            rotate_left 1
            · intro W hW
              go_simp
              try with_reducible rfl
            simp only [Act.put, List.getElem_toArray, List.getElem_cons_zero, List.getElem_cons_succ, List.setIfInBounds_toArray, List.set_cons_zero, List.set_cons_succ]
            refine wpAnyH_done (by kernel_rfl) ?_ _
            go_wp2_with fail
            go_meet
            case rel => exact ⟨rfl, hS0.1.1, Kd4.out, Kd10.out, HBd.out⟩
        case rest =>
          obtain ⟨rfl, hV3, hV4, hV10, hBB⟩ := hcut
          obtain ⟨wP, rfl⟩ : ∃ x, x = wc := ⟨wc, rfl⟩
          have N3 := Lib.hid hV3
          have N4 := Lib.hid hV4
          have N10 := Lib.hid hV10
          have NB := Lib.hid hBB
          have hqP := hV10.lt
          clear hV3 hV4 hV10 hBB M3 M4 M7 M8 M10 MB
          go_upto_region 19 with fail
          go_cut [107] (fun v wc => v = .bool false ∧ Vl wc b4 (byts 32 b) ∧ Vl wc b10 (ndc Z) ∧ Below b3 w wc)
          case first =>
            have HBl := Lib.hid (fun W => blank_any n Hn.out W)
            have HNG := Lib.hid (fun W => eq27 n (genN (n 2)) Hn.out (genN_ok Hn.out.g) W)
            have hbl : eqb 12 n (genN (n 2)) = blankB n := rfl
            rw [hbl] at HNG
            obtain ⟨B, hB⟩ : ∃ B, blankB n = B := ⟨_, rfl⟩
            rw [hB] at HBl HNG
            obtain ⟨n2, hn2⟩ : ∃ x, n 2 = x := ⟨_, rfl⟩
            rw [hn2] at HNG
            have HN2 := Lib.hid hn2
            clear hbl hB hn2
            have Ka4 := Lib.hid (N4.out.keep (Below.refl wP.heap.size wP).drew)
            have Ka10 := Lib.hid (N10.out.keep (Below.refl wP.heap.size wP).drew)
            refine wp_region_held (S := fun W => Vl W b3 (ndc n)) (by kernel_rfl) ?_
            change wpAnyH _ _ _ _ _ _ _ _ (World.drew wP)
            have hS0 : (fun W => Vl W b3 (ndc n)) (World.drew wP) := N3.out.keep (Below.refl wP.heap.size wP).drew
            have HB0 := Lib.hid (NB.out.drew)
            have hq0 : b10 < (World.drew wP).heap.size := hqP
            obtain ⟨wQ, hw⟩ : ∃ x, World.drew wP = x := ⟨_, rfl⟩
            rw [hw] at hS0 HB0 hq0 Ka4 Ka10 ⊢
            clear hw
            refine wpAnyH_take (i := 0) (v := .agg (ndc n).toArray) rfl (by kernel_rfl) (by kernel_rfl) (by kernel_rfl) (fun _ _ _ h => h) ?_ hS0 ?_
            · exact yieldsIf_load_mid (by rfl) 27 _ rfl b3 0 rfl (ndc n) d27 (fun W hW => hW.range0) HU27.out HD27.out (size27 n)
            simp only [Act.put, List.getElem_toArray, List.getElem_cons_zero, List.getElem_cons_succ, List.setIfInBounds_toArray, List.set_cons_zero, List.set_cons_succ]
            refine wpAnyH_take (i := 2) (v := .agg (ndc n).toArray) rfl (by kernel_rfl) (by kernel_rfl) (by kernel_rfl) (fun _ _ _ h => h) ?_ hS0 ?_
            · exact yieldsIf_load_mid (by rfl) 27 _ rfl b3 0 rfl (ndc n) d27 (fun W hW => hW.range0) HU27.out HD27.out (size27 n)
            simp only [Act.put, List.getElem_toArray, List.getElem_cons_zero, List.getElem_cons_succ, List.setIfInBounds_toArray, List.set_cons_zero, List.set_cons_succ]
            refine wpAnyH_take (i := 3) (v := ?_) rfl (by kernel_rfl) (by kernel_rfl) (by kernel_rfl) (fun _ _ _ h => h) (Or.inl ⟨by rfl, ?_⟩) hS0 ?_
            rotate_left 1
            · intro W hW
              go_simp
              try with_reducible rfl
            simp only [Act.put, List.getElem_toArray, List.getElem_cons_zero, List.getElem_cons_succ, List.setIfInBounds_toArray, List.set_cons_zero, List.set_cons_succ]
            refine wpAnyH_take (i := 4) (v := ?_) rfl (by kernel_rfl) (by kernel_rfl) (by kernel_rfl) (fun _ _ _ h => h) (Or.inl ⟨by rfl, ?_⟩) hS0 ?_
            rotate_left 1
            · intro W hW
              have c2 := hW.c 2 _ rfl
              rw [HN2.out] at c2
              go_simp
              try with_reducible rfl
            simp only [Act.put, List.getElem_toArray, List.getElem_cons_zero, List.getElem_cons_succ, List.setIfInBounds_toArray, List.set_cons_zero, List.set_cons_succ]
            refine wpAnyH_take (i := 5) (v := .agg (ndc (genN n2)).toArray) rfl (by kernel_rfl) (by kernel_rfl) (by kernel_rfl) (fun _ _ _ h => h) ?_ hS0 ?_
            · exact yields_bld1 (by rfl) 27 2 (.tmp 104) rfl _ rfl _ (build27_gen n2)
            simp only [Act.put, List.getElem_toArray, List.getElem_cons_zero, List.getElem_cons_succ, List.setIfInBounds_toArray, List.set_cons_zero, List.set_cons_succ]
            refine wpAnyH_take (i := 6) (v := .bool B) rfl (by kernel_rfl) (by kernel_rfl) (by kernel_rfl) (fun _ _ _ h => h) ?_ hS0 ?_
            · exact yields_eql (by rfl) 27 27 _ _ rfl (ndc n).toArray (ndc (genN n2)).toArray rfl rfl B Try.guard27 (fun W _ => HNG.out W)
            simp only [Act.put, List.getElem_toArray, List.getElem_cons_zero, List.getElem_cons_succ, List.setIfInBounds_toArray, List.set_cons_zero, List.set_cons_succ]
            refine wpAnyH_ready (rs := [1]) (by kernel_rfl) (by simp) (AllReadyH.cons rfl (fun KK hKK => ?_) AllReadyH.nil)
            go_simp
            refine (HBl.out wQ).mono ?_
            rintro e w17 ⟨rfl, hbc⟩
            have hS2 : Vl w17 b3 (ndc n) := hS0.keep hbc
            have HBd := Lib.hid (HB0.out.trans (hbc.mono (by omega)))
            have Kd4 := Lib.hid (Ka4.out.keep hbc)
            have Kd10 := Lib.hid (Ka10.out.keep hbc)
            clear hS0 HB0 Ka4 Ka10
            refine hKK _ _ hS2 ?_
            intro _
            have hS0 := hS2
            clear hKK KK hbc hS2
            try simp only [Act.put, List.getElem_toArray, List.getElem_cons_zero, List.getElem_cons_succ, List.setIfInBounds_toArray, List.set_cons_zero, List.set_cons_succ]
            refine wpAnyH_take (i := 7) (v := ?_) rfl (by kernel_rfl) (by kernel_rfl) (by kernel_rfl) (fun _ _ _ h => h) (Or.inl ⟨by rfl, ?_⟩) hS0 ?_
            rotate_left 1
            · intro W hW
              go_simp
              try with_reducible rfl
            simp only [Act.put, List.getElem_toArray, List.getElem_cons_zero, List.getElem_cons_succ, List.setIfInBounds_toArray, List.set_cons_zero, List.set_cons_succ]
            refine wpAnyH_done (by kernel_rfl) ?_ _
            go_wp2_with fail
            go_meet
            case rel => exact ⟨rfl, Kd4.out, Kd10.out, HBd.out⟩
          case rest =>
            obtain ⟨rfl, hV4, hV10, hBB⟩ := hcut
            obtain ⟨wR, rfl⟩ : ∃ x, x = wc := ⟨wc, rfl⟩
            have L4 := Lib.hid hV4
            have L10 := Lib.hid hV10
            have LB := Lib.hid hBB
            have hqR := hV10.lt
            clear hV4 hV10 hBB N3 N4 N10 NB
            have hcase : (E = 0 ∧ tailZ b = true ∧ codeN (decN b) = 0 ∧ Z = decN b) ∨ (E = 28 ∧ Z = zpt) := by
              by_cases ht : tailZ b = true
              · rcases codeN_cases (decN b) with h | h
                · have hd : decE b = 0 := by unfold decE; rw [if_pos ht, h]
                  exact .inl ⟨HEb.out.symm.trans hd, ht, h, by rw [← HZ.out]; unfold decV; rw [if_pos hd]⟩
                · have hd : decE b = 28 := by unfold decE; rw [if_pos ht, h]
                  exact .inr ⟨HEb.out.symm.trans hd, by rw [← HZ.out]; unfold decV; rw [if_neg (by rw [hd]; decide)]⟩
              · have hd : decE b = 28 := by unfold decE; rw [if_neg ht]
                exact .inr ⟨HEb.out.symm.trans hd, by rw [← HZ.out]; unfold decV; rw [if_neg (by rw [hd]; decide)]⟩
            rcases hcase with ⟨rfl, ht, hc, rfl⟩ | ⟨rfl, rfl⟩
            · obtain rfl : T = 0 := HTb.out.2 ht
              have HDok := Lib.hid (decN_ok Hb.out)
              have HEd := Lib.hid (enc_dec Hb.out ht)
              have HCd := Lib.hid hc
              clear ht hc
              go_upto_region 23 with fail
              have HEn := Lib.hid (fun W => encode_any (decN b) HDok.out W)
              have HRn := Lib.hid (fun W => rcheck_any (decN b) HDok.out W)
              rw [HCd.out] at HRn
              have HBB : Hid (∀ W, (Op.equalIn 10000 28 (.agg (byts 32 (encF (decN b))).toArray) (.agg (byts 32 b).toArray)).run Try.prog W = .ok true W) := fun W => by rw [eq28, (eqb_iff 32 _ _).2 HEd.out]
              refine wp_region_held (S := fun W => Vl W b4 (byts 32 b) ∧ Vl W b10 (ndc (decN b))) (by kernel_rfl) ?_
              change wpAnyH _ _ _ _ _ _ _ _ (World.drew wR)
              have hS0 : (fun W => Vl W b4 (byts 32 b) ∧ Vl W b10 (ndc (decN b))) (World.drew wR) := ⟨L4.out.keep (Below.refl wR.heap.size wR).drew, L10.out.keep (Below.refl wR.heap.size wR).drew⟩
              have HB0 := Lib.hid (LB.out.drew)
              have hq0 : b10 < (World.drew wR).heap.size := hqR
              obtain ⟨wS, hw⟩ : ∃ x, World.drew wR = x := ⟨_, rfl⟩
              rw [hw] at hS0 HB0 hq0 ⊢
              clear hw
              refine wpAnyH_take (i := 0) (v := ?_) rfl (by kernel_rfl) (by kernel_rfl) (by kernel_rfl) (fun _ _ _ h => h) (Or.inl ⟨by rfl, ?_⟩) hS0 ?_
              rotate_left 1
              · intro W hW
                go_simp
                try with_reducible rfl
              simp only [Act.put, List.getElem_toArray, List.getElem_cons_zero, List.getElem_cons_succ, List.setIfInBounds_toArray, List.set_cons_zero, List.set_cons_succ]
              refine wpAnyH_take (i := 1) (v := ?_) rfl (by kernel_rfl) (by kernel_rfl) (by kernel_rfl) (fun _ _ _ h => h) (Or.inl ⟨by rfl, ?_⟩) hS0 ?_
              rotate_left 1
              · intro W hW
                go_simp
                try with_reducible rfl
              simp only [Act.put, List.getElem_toArray, List.getElem_cons_zero, List.getElem_cons_succ, List.setIfInBounds_toArray, List.set_cons_zero, List.set_cons_succ]
              refine wpAnyH_take (i := 2) (v := ?_) rfl (by kernel_rfl) (by kernel_rfl) (by kernel_rfl) (fun _ _ _ h => h) (Or.inl ⟨by rfl, ?_⟩) hS0 ?_
              rotate_left 1
              · intro W hW
                go_simp
                try with_reducible rfl
              simp only [Act.put, List.getElem_toArray, List.getElem_cons_zero, List.getElem_cons_succ, List.setIfInBounds_toArray, List.set_cons_zero, List.set_cons_succ]
              refine wpAnyH_take (i := 3) (v := .agg (ndc (decN b)).toArray) rfl (by kernel_rfl) (by kernel_rfl) (by kernel_rfl) (fun _ _ _ h => h) ?_ hS0 ?_
              · exact yieldsIf_load_mid (by rfl) 27 _ rfl b10 0 rfl (ndc (decN b)) d27 (fun W hW => hW.2.range0) HU27.out HD27.out (size27 _)
              simp only [Act.put, List.getElem_toArray, List.getElem_cons_zero, List.getElem_cons_succ, List.setIfInBounds_toArray, List.set_cons_zero, List.set_cons_succ]
              refine wpAnyH_take (i := 5) (v := .agg (byts 32 b).toArray) rfl (by kernel_rfl) (by kernel_rfl) (by kernel_rfl) (fun _ _ _ h => h) ?_ hS0 ?_
              · exact yieldsIf_load_mid (by rfl) 28 _ rfl b4 0 rfl (byts 32 b) (.array 32 5) (fun W hW => hW.1.range0) Try.arr28 rfl (size28 _)
              simp only [Act.put, List.getElem_toArray, List.getElem_cons_zero, List.getElem_cons_succ, List.setIfInBounds_toArray, List.set_cons_zero, List.set_cons_succ]
              refine wpAnyH_ready (rs := [4]) (by kernel_rfl) (by simp) (AllReadyH.cons rfl (fun KK hKK => ?_) AllReadyH.nil)
              go_simp
              refine (HEn.out wS).mono ?_
              rintro e w18 ⟨rfl, hbc⟩
              have hS2 : Vl w18 b4 (byts 32 b) ∧ Vl w18 b10 (ndc (decN b)) := ⟨hS0.1.keep hbc, hS0.2.keep hbc⟩
              have HB1 := Lib.hid (HB0.out.trans (hbc.mono (by omega)))
              have hq_w18 : b10 < w18.heap.size := (by have := hbc.size; omega)
              clear hS0 HB0
              refine hKK _ _ hS2 ?_
              intro _
              have hS0 := hS2
              clear hKK KK hbc hS2
              try simp only [Act.put, List.getElem_toArray, List.getElem_cons_zero, List.getElem_cons_succ, List.setIfInBounds_toArray, List.set_cons_zero, List.set_cons_succ]
              refine wpAnyH_take (i := 6) (v := .bool true) rfl (by kernel_rfl) (by kernel_rfl) (by kernel_rfl) (fun _ _ _ h => h) ?_ hS0 ?_
              · exact yields_eql (by rfl) 28 28 _ _ rfl (byts 32 (encF (decN b))).toArray (byts 32 b).toArray rfl rfl true Try.guard28 (fun W _ => HBB.out W)
              simp only [Act.put, List.getElem_toArray, List.getElem_cons_zero, List.getElem_cons_succ, List.setIfInBounds_toArray, List.set_cons_zero, List.set_cons_succ]
              refine wpAnyH_take (i := 7) (v := ?_) rfl (by kernel_rfl) (by kernel_rfl) (by kernel_rfl) (fun _ _ _ h => h) (Or.inl ⟨by rfl, ?_⟩) hS0 ?_
              rotate_left 1
              · intro W hW
                go_simp
                try with_reducible rfl
              simp only [Act.put, List.getElem_toArray, List.getElem_cons_zero, List.getElem_cons_succ, List.setIfInBounds_toArray, List.set_cons_zero, List.set_cons_succ]
              refine wpAnyH_take (i := 8) (v := ?_) rfl (by kernel_rfl) (by kernel_rfl) (by kernel_rfl) (fun _ _ _ h => h) (Or.inl ⟨by rfl, ?_⟩) hS0 ?_
              rotate_left 1
              · intro W hW
                go_simp
                try with_reducible rfl
              simp only [Act.put, List.getElem_toArray, List.getElem_cons_zero, List.getElem_cons_succ, List.setIfInBounds_toArray, List.set_cons_zero, List.set_cons_succ]
              refine wpAnyH_take (i := 9) (v := .agg (ndc (decN b)).toArray) rfl (by kernel_rfl) (by kernel_rfl) (by kernel_rfl) (fun _ _ _ h => h) ?_ hS0 ?_
              · exact yieldsIf_load_mid (by rfl) 27 _ rfl b10 0 rfl (ndc (decN b)) d27 (fun W hW => hW.2.range0) HU27.out HD27.out (size27 _)
              simp only [Act.put, List.getElem_toArray, List.getElem_cons_zero, List.getElem_cons_succ, List.setIfInBounds_toArray, List.set_cons_zero, List.set_cons_succ]
              refine wpAnyH_ready (rs := [10]) (by kernel_rfl) (by simp) (AllReadyH.cons rfl (fun KK hKK => ?_) AllReadyH.nil)
              go_simp
              refine (HRn.out w18).mono ?_
              rintro e w19 ⟨rfl, hbc⟩
              have hS2 : Vl w19 b4 (byts 32 b) ∧ Vl w19 b10 (ndc (decN b)) := ⟨hS0.1.keep hbc, hS0.2.keep hbc⟩
              have HB2 := Lib.hid (HB1.out.trans (hbc.mono (by omega)))
              have hq_w19 : b10 < w19.heap.size := (by have := hbc.size; omega)
              clear hS0 HB1
              refine hKK _ _ hS2 ?_
              intro _
              have hS0 := hS2
              clear hKK KK hbc hS2
              try simp only [Act.put, List.getElem_toArray, List.getElem_cons_zero, List.getElem_cons_succ, List.setIfInBounds_toArray, List.set_cons_zero, List.set_cons_succ]
              refine wpAnyH_take (i := 11) (v := ?_) rfl (by kernel_rfl) (by kernel_rfl) (by kernel_rfl) (fun _ _ _ h => h) (Or.inl ⟨by rfl, ?_⟩) hS0 ?_
              rotate_left 1
              · intro W hW
                go_simp
                try with_reducible rfl
              simp only [Act.put, List.getElem_toArray, List.getElem_cons_zero, List.getElem_cons_succ, List.setIfInBounds_toArray, List.set_cons_zero, List.set_cons_succ]
              refine wpAnyH_take (i := 12) (v := ?_) rfl (by kernel_rfl) (by kernel_rfl) (by kernel_rfl) (fun _ _ _ h => h) (Or.inl ⟨by rfl, ?_⟩) hS0 ?_
              rotate_left 1
              · intro W hW
                go_simp
                try with_reducible rfl
              simp only [Act.put, List.getElem_toArray, List.getElem_cons_zero, List.getElem_cons_succ, List.setIfInBounds_toArray, List.set_cons_zero, List.set_cons_succ]
              refine wpAnyH_take (i := 13) (v := ?_) rfl (by kernel_rfl) (by kernel_rfl) (by kernel_rfl) (fun _ _ _ h => h) (Or.inl ⟨by rfl, ?_⟩) hS0 ?_
              rotate_left 1
              · intro W hW
                go_simp
                try with_reducible rfl
              simp only [Act.put, List.getElem_toArray, List.getElem_cons_zero, List.getElem_cons_succ, List.setIfInBounds_toArray, List.set_cons_zero, List.set_cons_succ]
              refine wpAnyH_done (by kernel_rfl) ?_ _
              clear hS0
              go_wp2_with fail
              go_ret
              exact ⟨rfl, by rw [HW.out]; exact HB2.out⟩
            · have HZE := Lib.hid (fun W => eq27 zpt zpt zpt_ok zpt_ok W)
              have hzz : eqb 12 zpt zpt = true := eqb_same fun _ _ => rfl
              rw [hzz] at HZE
              clear hzz
              go_wp2_with (refine wpList_yields (.agg (ndc zpt).toArray) (yieldsIf_load_mid (by rfl) 27 _ rfl b10 0 rfl (ndc zpt) d27 (fun W hW => by subst hW; exact L10.out.range0) HU27.out HD27.out (size27 _)) ?_; simp only [Act.put, List.getElem_toArray, List.getElem_cons_zero, List.getElem_cons_succ, List.setIfInBounds_toArray, List.set_cons_zero, List.set_cons_succ]; refine wpList_yields (.agg (ndc zpt).toArray) (yields_bld0 (by rfl) 27 rfl _ build27_zero) ?_; simp only [Act.put, List.getElem_toArray, List.getElem_cons_zero, List.getElem_cons_succ, List.setIfInBounds_toArray, List.set_cons_zero, List.set_cons_succ]; refine wpList_yields (.bool true) (yields_eql (by rfl) 27 27 _ _ rfl (ndc zpt).toArray (ndc zpt).toArray rfl rfl true Try.guard27 (fun W _ => HZE.out W)) ?_)
              go_ret
              exact ⟨rfl, by rw [HW.out]; exact LB.out⟩
end Go.Proofs.Ytdebkifnaiohcaa
