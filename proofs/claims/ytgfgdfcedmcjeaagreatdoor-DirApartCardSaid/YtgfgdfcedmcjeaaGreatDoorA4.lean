import Derived.Test.YtgfgdfcedmcjeaaGreatDoorA3
/- U10 -/
namespace Go.Proofs.YtgfgdfcedmcjeaaGreatDoor
set_option linter.unusedSimpArgs false
set_option linter.unusedVariables false
open Go.RowKit Go.Maps

structure AC9 where
  kn : Int
  nm : Int
  nu : Nat
  tx : ByteArray
  rw : Bool
def acL (x : AC9) : List Value := actc x.kn x.nm (x.nu : Int) x.tx x.rw
/-- a slice of acts -/
def Acts9 (w : World) (v : Value) (n : Nat) : Prop := ∃ p c, v = .slice p n c ∧ n ≤ maxLen ∧ ∀ i, i < n → ∃ b o x, p = some ⟨b, o, none⟩ ∧ b < w.heap.size ∧ w.rangeAt b (o + i * 5) (acL x) ∧ 0 ≤ x.kn ∧ x.kn < 256 ∧ 0 ≤ x.nm ∧ x.nm < 256 ∧ x.nu < 65536
def EA9 : List En := [(⟨#[97]⟩, 7), (⟨#[98]⟩, 7), (⟨#[111, 116, 104, 101, 114]⟩, 7)]
theorem VF3_4 : VF 3 4 = zpt := by
  unfold VF
  rw [if_neg (by decide)]
theorem VF3_nz (j : Nat) (h1 : 1 ≤ j) (h2 : j < 4) : VF 3 j 0 ≠ 0 := by
  unfold VF
  rw [if_pos ⟨h1, by omega⟩]
  show kd j ≠ 0
  rcases kd_in j with h | h <;> rw [h] <;> decide
theorem Tryz.zeroAct : (Tryz.prog.info? 49).map (fun i => i.zero) = some (some (.agg (actc 0 0 0 ⟨#[]⟩ false).toArray)) := by kernel_rfl
theorem actc_one (kn nm nu : Int) (tx : ByteArray) (rw : Bool) : ∀ v ∈ actc kn nm nu tx rw, v.oneCell' = true := by
  intro v hv
  simp only [actc, List.mem_cons, List.not_mem_nil, or_false] at hv
  rcases hv with rfl | rfl | rfl | rfl | rfl <;> rfl
theorem Es.new9 (w : World) : Es (w.alloc (.cells #[.string ⟨#[97]⟩, .int .u16 7, .string ⟨#[98]⟩, .int .u16 7, .string ⟨#[111, 116, 104, 101, 114]⟩, .int .u16 7] 58)) (.slice (some ⟨w.heap.size, 0, none⟩) 3 3) EA9 := by
  have V := Vl.new w [.string ⟨#[97]⟩, .int .u16 7, .string ⟨#[98]⟩, .int .u16 7, .string ⟨#[111, 116, 104, 101, 114]⟩, .int .u16 7] 58
  refine ⟨_, _, rfl, fun k e he => ⟨_, rfl, ?_⟩⟩
  have hk : k < 3 := (List.getElem?_eq_some_iff.1 he).1
  intro j u hj
  have hj2 : j < 2 := (List.getElem?_eq_some_iff.1 hj).1
  have hk3 : k = 0 ∨ k = 1 ∨ k = 2 := by omega
  have hj3 : j = 0 ∨ j = 1 := by omega
  rcases hk3 with rfl | rfl | rfl <;> (injection he with he; subst he; rcases hj3 with rfl | rfl <;> exact V.c _ u hj)
theorem setE_le (E : List En) (i : Nat) (e : En) : (setE E i e).length ≤ E.length + 1 := by
  unfold setE
  split
  · rw [List.length_set]
    omega
  · rw [List.length_append]
    exact Nat.le_refl _
theorem EA9_sm : smE EA9 := by
  intro e he
  simp only [EA9, List.mem_cons, List.not_mem_nil, or_false] at he
  rcases he with rfl | rfl | rfl <;> decide
set_option maxHeartbeats 80000000 in
set_option maxRecDepth 400000 in
theorem dirapart_walk (v : Value) (n9 : Nat) (w : World) (hA : Acts9 w v n9) : Calls Tryz.prog 6 #[v] w fun e w' => e = .returned (.bool true) ∧ Below w.heap.size w w' := by
  obtain ⟨pA, capA, rfl, hlen9, hac⟩ := hA
  unfold maxLen at hlen9
  have HAc := Lib.hid hac
  obtain ⟨dA, hu, hd⟩ := Tryz.descAct
  have HUA := Lib.hid hu
  have HDA := Lib.hid hd
  obtain ⟨dE, hu2, hd2⟩ := Tryz.descEn
  have HUE := Lib.hid hu2
  have HDE := Lib.hid hd2
  clear hac hu hd hu2 hd2
  have hSz := Lib.hid (fun W => Cf.sizeconf_two 0 (by decide) (by decide) (H9 40 10) (H9_ok 40 10 (by decide) (by decide)) (.slice none 0 0) [] (fun x hx => by cases hx) W (u8s_none W) (by decide) rfl)
  have eSz : Cf.sizeVal 0 (H9 40 10) (.slice none 0 0) = (.agg #[.int .u8 0, .int .u8 40, .int .u8 0, .int .u8 0, .int .u8 0, .int .u8 0, .int .u8 10, .int .u8 0, .int .u8 0, .int .u8 0, .int .u8 0, .int .u8 0, .int .u8 0, .int .u8 0, .int .u8 0, .int .u8 0, .int .u8 0, .int .u8 0, .int .u8 0, .int .u8 0, .int .u8 0, .int .u8 0, .int .u8 0, .int .u8 0, .int .u8 0, .int .u8 0, .slice none 0 0]) := by kernel_rfl
  rw [eSz] at hSz
  clear eSz
  obtain ⟨N, g, B0, P0, DA, hc9⟩ := c9 40 10 (by decide) (by decide)
  obtain ⟨R9, hR9⟩ : ∃ x, Cf.sizeRs 2 (H9 40 10) = x := ⟨_, rfl⟩
  rw [hR9] at hSz hc9
  have HC9 := Lib.hid hc9
  have HGG := Lib.hid hc9.gg
  clear hc9 hR9
  go_enter Tryz.func6, Tryz.ntmps6
  go_wp2_with fail
  refine (awake9 w).mono ?_
  rintro e w1 ⟨rfl, hb⟩
  have HQ1 := Lib.hid hb
  clear hb
  go_wp2_with fail
  refine (hSz.out w1).mono ?_
  rintro e w2 ⟨n, vr, vm, vg, rfl, -, hb2, hCF⟩
  have HB2 := Lib.hid (HQ1.out.trans (hb2.mono HQ1.out.size))
  have HCF := Lib.hid hCF
  clear hb2 hCF hSz HQ1
  go_wp2_with fail
  refine (fresh9 HC9.out n vr vm vg w2 HCF.out).mono ?_
  rintro e w3 ⟨t, mm, dd, gg, l, Y0, rfl, hFr, hll, hln, hLg, hRd, hTab, hbit, hb3⟩
  have HR3 := Lib.hid hRd
  have HL3 := Lib.hid hLg
  have HS3 := Lib.hid (S1.fresh (P0 := P0) (DA := DA) hTab hbit HGG.out.n512)
  have HTab := Lib.hid hTab
  have HBit := Lib.hid hbit
  have HCF3 := Lib.hid (HCF.out.below hb3)
  have HNl := Lib.hid (show l ∉ [dd, gg] from fun h => hln (by simp only [List.mem_cons, List.not_mem_nil, or_false] at h ⊢; omega))
  have HNt := Lib.hid hln
  have hdd : w2.heap.size ≤ dd := hFr.2.2.1
  have hgg : w2.heap.size ≤ gg := hFr.2.2.2
  have hdt : w2.heap.size ≤ t := hFr.1
  have hdm : w2.heap.size ≤ mm := hFr.2.1
  have hw2 : w.heap.size ≤ w2.heap.size := HB2.out.size
  have hw3 := hb3.size
  have HCFx : Hid (∀ W, Below w2.heap.size w2 W → Cf.CF n W vr vm vg R9 []) := Lib.hid (fun W hk => HCF.out.below hk)
  have HZ3 := Lib.hid hb3
  clear hFr hll hln hLg hRd hTab hbit hb3 HCF
  have HOp := Lib.hid (open9 HC9.out ⟨dl B0 (P0 + 1) DA (fun _ => 0) (ndS (nbE 0)) L9, Y0⟩ t mm dd gg n 7000 Y0 vr vm vg w3 HCF3.out (HR3.out.wide (Lm.nil_le _ _)))
  go_wp2_with fail
  refine HOp.out.mono ?_
  rintro e w4 ⟨q, p, rfl, hq, hp, hG, hb⟩
  have HG4 := Lib.hid hG
  have HB4 := Lib.hid (HZ3.out.trans (hb.mono hw3))
  have HL4 := Lib.hid (HL3.out.keep hb)
  have hsz4 := HB4.out.size
  clear hG hb HOp HR3 HCF3
  have HMk := Lib.hid (gmake_in (ln := ⟨dl B0 (P0 + 1) DA (fun _ => 0) (ndS (nbE 0)) L9, Y0⟩) q p t mm dd gg 0 B0 P0 8 DA (8 + 40 % 60) N 7000 g Y0 (VF 3) 2 (by decide) (by decide) (by decide) 4 (by decide) (by decide) (by rw [VF3_4]; rfl) VF3_nz 1 (by rw [VF3_4]; rfl) (by decide) (by decide) ⟨List.mem_cons_of_mem _ (List.mem_cons_self ..), Ly.len L9 (by rw [L9_len]; decide) _ _ _ _ _⟩ (by decide) HTab.out HGG.out w4 HG4.out)
  rw [setG_mk] at HMk
  go_wp2_with fail
  refine HMk.out.mono ?_
  rintro e w5 ⟨rfl, hG, hk⟩
  have HG5 := Lib.hid hG
  have HS5 := Lib.hid (S2.made HGG.out HTab.out HBit.out)
  have HB5 := Lib.hid (HB4.out.trans (hk.below (B := w2.heap.size) (fun a ha => by
  simp only [List.mem_cons, List.not_mem_nil, or_false] at ha
  omega) HB4.out.size))
  have HL5 := Lib.hid (HL4.out.kf hk HNt.out)
  have hsz5 := HB5.out.size
  clear hG hk HMk HG4 HB4 HL4 HS3 HTab HBit
  go_upto_region 8 with fail
  have F7 := Lib.hid (Vl.new w5 [.string ⟨#[97]⟩, .string ⟨#[98]⟩, .string ⟨#[111, 116, 104, 101, 114]⟩] 9)
  have hb7 : Below w5.heap.size w5 (w5.alloc (.cells [.string ⟨#[97]⟩, .string ⟨#[98]⟩, .string ⟨#[111, 116, 104, 101, 114]⟩].toArray 9)) := (Below.refl _ _).alloc (Nat.le_refl _) _
  have HG7 := Lib.hid (HG5.out.keep hb7)
  have HB7 := Lib.hid (HB5.out.trans (hb7.mono hsz5))
  have HL7 := Lib.hid (HL5.out.keep hb7)
  obtain ⟨bN, hbN⟩ : ∃ x, w5.heap.size = x := ⟨_, rfl⟩
  have hNw : w2.heap.size ≤ bN := by omega
  have hNt : bN ∉ [t, mm, dd, gg] := hbN ▸ HG5.out.rd.notin (Nat.le_refl _)
  obtain ⟨w7, hw7⟩ : ∃ x, w5.alloc (.cells [.string ⟨#[97]⟩, .string ⟨#[98]⟩, .string ⟨#[111, 116, 104, 101, 114]⟩].toArray 9) = x := ⟨_, rfl⟩
  rw [hw7] at F7 HG7 HB7 HL7
  try (change wp _ _ _ _ (w5.alloc (.cells [.string ⟨#[97]⟩, .string ⟨#[98]⟩, .string ⟨#[111, 116, 104, 101, 114]⟩].toArray 9)))
  rw [hw7]
  rw [hbN] at F7
  try rw [hbN]
  have HNt5 := Lib.hid hNt
  clear hw7 hb7 hbN hNt HG5 HB5 HL5
  go_loopw [12, 48] (fun _ iv wr => ∃ k : Nat, k ≤ 3 ∧ iv = .int .i64 k ∧ Below w2.heap.size w2 wr ∧ Vl wr bN [.string ⟨#[97]⟩, .string ⟨#[98]⟩, .string ⟨#[111, 116, 104, 101, 114]⟩] ∧ Lg wr l dd 1 ∧ ∃ Y V b, Gr wr q p t mm dd gg 0 g B0 (8 + 40 % 60) N ⟨dl B0 (P0 + 1) DA b (ndS (nbE k)) L9, Y0⟩ Y (7200 + 30000 * k) ∧ S2 B0 P0 DA (8 + 40 % 60) Y V 4 b (List.take k [(⟨#[97]⟩, 7), (⟨#[98]⟩, 7), (⟨#[111, 116, 104, 101, 114]⟩, 7)]) 1 (fun _ => 0) []) (fun _ iv _ => 3 - (Go.RowKit.intOf iv).toNat)
  case atStart => exact ⟨0, Nat.zero_le _, rfl, HB7.out, F7.out, HL7.out, _, _, fun _ => 0, HG7.out, HS5.out⟩
  case round =>
    obtain ⟨k, hk, rfl, hb, hF, hL, Y, V, b, hG, hS⟩ := hrel
    have HBX := Lib.hid hb
    have FX := Lib.hid hF
    have HLX := Lib.hid hL
    have HGX := Lib.hid hG
    have HSX := Lib.hid hS
    clear hb hF hL hG hS HB7 F7 HL7 HG7 HS5
    have hk4 : k = 0 ∨ k = 1 ∨ k = 2 ∨ k = 3 := by omega
    rcases hk4 with rfl | rfl | rfl | rfl
    · have HAd := Lib.hid (add2 (TB := P0 + 1) HGG.out (by decide) q p t mm dd gg (7200 + 30000 * 0) 4 1 (by decide) rfl (by decide) Y V Y0 b (fun _ => 0) (List.take 0 [(⟨#[97]⟩, 7), (⟨#[98]⟩, 7), (⟨#[111, 116, 104, 101, 114]⟩, 7)]) [] HSX.out (by decide) (by decide) (by decide) (⟨#[97]⟩, 7) (by decide) wr HGX.out)
      have ha0 : addC (List.take 0 [(⟨#[97]⟩, 7), (⟨#[98]⟩, 7), (⟨#[111, 116, 104, 101, 114]⟩, 7)]) (⟨#[97]⟩, 7) = 0 := by kernel_rfl
      have he1 : setE (List.take 0 [(⟨#[97]⟩, 7), (⟨#[98]⟩, 7), (⟨#[111, 116, 104, 101, 114]⟩, 7)]) (roomN (List.take 0 [(⟨#[97]⟩, 7), (⟨#[98]⟩, 7), (⟨#[111, 116, 104, 101, 114]⟩, 7)])) (⟨#[97]⟩, 7) = List.take 1 [(⟨#[97]⟩, 7), (⟨#[98]⟩, 7), (⟨#[111, 116, 104, 101, 114]⟩, 7)] := by kernel_rfl
      rw [ha0, he1] at HAd
      have cN := FX.out.c 0 _ rfl
      clear HGX ha0 he1
      go_wp2_with fail
      refine HAd.out.mono ?_
      rintro e w6 ⟨rfl, hk, (⟨hh, -⟩ | ⟨-, Y', V', b', hG, hS⟩)⟩
      · exact absurd trivial hh
      · have HB6 := Lib.hid (HBX.out.trans (hk.below (B := w2.heap.size) (fun a ha => by
          simp only [List.mem_cons, List.not_mem_nil, or_false] at ha
          omega) HBX.out.size))
        have F6 := Lib.hid (FX.out.kf hk HNt5.out)
        have HL6 := Lib.hid (HLX.out.kf hk HNt.out)
        have HG6 := Lib.hid hG
        have HS6 := Lib.hid hS
        clear hk hG hS HAd cN
        go_wp2_with fail
        go_roundw
        case rel => exact ⟨1, by decide, by go_num, HB6.out, F6.out, HL6.out, Y', V', b', HG6.out, HS6.out⟩
        case measure => decide
    · have HAd := Lib.hid (add2 (TB := P0 + 1) HGG.out (by decide) q p t mm dd gg (7200 + 30000 * 1) 4 1 (by decide) rfl (by decide) Y V Y0 b (fun _ => 0) (List.take 1 [(⟨#[97]⟩, 7), (⟨#[98]⟩, 7), (⟨#[111, 116, 104, 101, 114]⟩, 7)]) [] HSX.out (by decide) (by decide) (by decide) (⟨#[98]⟩, 7) (by decide) wr HGX.out)
      have ha0 : addC (List.take 1 [(⟨#[97]⟩, 7), (⟨#[98]⟩, 7), (⟨#[111, 116, 104, 101, 114]⟩, 7)]) (⟨#[98]⟩, 7) = 0 := by kernel_rfl
      have he1 : setE (List.take 1 [(⟨#[97]⟩, 7), (⟨#[98]⟩, 7), (⟨#[111, 116, 104, 101, 114]⟩, 7)]) (roomN (List.take 1 [(⟨#[97]⟩, 7), (⟨#[98]⟩, 7), (⟨#[111, 116, 104, 101, 114]⟩, 7)])) (⟨#[98]⟩, 7) = List.take 2 [(⟨#[97]⟩, 7), (⟨#[98]⟩, 7), (⟨#[111, 116, 104, 101, 114]⟩, 7)] := by kernel_rfl
      rw [ha0, he1] at HAd
      have cN := FX.out.c 1 _ rfl
      clear HGX ha0 he1
      go_wp2_with fail
      refine HAd.out.mono ?_
      rintro e w6 ⟨rfl, hk, (⟨hh, -⟩ | ⟨-, Y', V', b', hG, hS⟩)⟩
      · exact absurd trivial hh
      · have HB6 := Lib.hid (HBX.out.trans (hk.below (B := w2.heap.size) (fun a ha => by
          simp only [List.mem_cons, List.not_mem_nil, or_false] at ha
          omega) HBX.out.size))
        have F6 := Lib.hid (FX.out.kf hk HNt5.out)
        have HL6 := Lib.hid (HLX.out.kf hk HNt.out)
        have HG6 := Lib.hid hG
        have HS6 := Lib.hid hS
        clear hk hG hS HAd cN
        go_wp2_with fail
        go_roundw
        case rel => exact ⟨2, by decide, by go_num, HB6.out, F6.out, HL6.out, Y', V', b', HG6.out, HS6.out⟩
        case measure => decide
    · have HAd := Lib.hid (add2 (TB := P0 + 1) HGG.out (by decide) q p t mm dd gg (7200 + 30000 * 2) 4 1 (by decide) rfl (by decide) Y V Y0 b (fun _ => 0) (List.take 2 [(⟨#[97]⟩, 7), (⟨#[98]⟩, 7), (⟨#[111, 116, 104, 101, 114]⟩, 7)]) [] HSX.out (by decide) (by decide) (by decide) (⟨#[111, 116, 104, 101, 114]⟩, 7) (by decide) wr HGX.out)
      have ha0 : addC (List.take 2 [(⟨#[97]⟩, 7), (⟨#[98]⟩, 7), (⟨#[111, 116, 104, 101, 114]⟩, 7)]) (⟨#[111, 116, 104, 101, 114]⟩, 7) = 0 := by kernel_rfl
      have he1 : setE (List.take 2 [(⟨#[97]⟩, 7), (⟨#[98]⟩, 7), (⟨#[111, 116, 104, 101, 114]⟩, 7)]) (roomN (List.take 2 [(⟨#[97]⟩, 7), (⟨#[98]⟩, 7), (⟨#[111, 116, 104, 101, 114]⟩, 7)])) (⟨#[111, 116, 104, 101, 114]⟩, 7) = List.take 3 [(⟨#[97]⟩, 7), (⟨#[98]⟩, 7), (⟨#[111, 116, 104, 101, 114]⟩, 7)] := by kernel_rfl
      rw [ha0, he1] at HAd
      have cN := FX.out.c 2 _ rfl
      clear HGX ha0 he1
      go_wp2_with fail
      refine HAd.out.mono ?_
      rintro e w6 ⟨rfl, hk, (⟨hh, -⟩ | ⟨-, Y', V', b', hG, hS⟩)⟩
      · exact absurd trivial hh
      · have HB6 := Lib.hid (HBX.out.trans (hk.below (B := w2.heap.size) (fun a ha => by
          simp only [List.mem_cons, List.not_mem_nil, or_false] at ha
          omega) HBX.out.size))
        have F6 := Lib.hid (FX.out.kf hk HNt5.out)
        have HL6 := Lib.hid (HLX.out.kf hk HNt.out)
        have HG6 := Lib.hid hG
        have HS6 := Lib.hid hS
        clear hk hG hS HAd cN
        go_wp2_with fail
        go_roundw
        case rel => exact ⟨3, by decide, by go_num, HB6.out, F6.out, HL6.out, Y', V', b', HG6.out, HS6.out⟩
        case measure => decide
    · have HCm := Lib.hid (commit7 t mm dd gg (7200 + 30000 * 3) Y (Ly.len L9 (by rw [L9_len]; decide) _ _ _ _ _) (by decide) wr HGX.out.rd)
      go_wp2_with fail
      refine HCm.out.mono ?_
      rintro e w8 ⟨rfl, hR8, hk⟩
      have HR8 := Lib.hid hR8
      have HB8 := Lib.hid (HBX.out.trans (hk.below (B := w2.heap.size) (fun a ha => by
        simp only [List.mem_cons, List.not_mem_nil, or_false] at ha
        omega) HBX.out.size))
      have HL8 := Lib.hid (HLX.out.kf hk HNt.out)
      have HS8 := Lib.hid (S2.turn HSX.out)
      clear hR8 hk HCm HGX HBX HLX HSX FX HNt5
      go_wp2_with fail
      go_loopw [13, 14, 15, 16, 17, 18, 19, 67] (fun _ _ _ _ _ _ _ iv wr => ∃ k : Nat, k ≤ n9 ∧ k ≤ 41 ∧ iv = .int .i64 k ∧ Below w2.heap.size w2 wr ∧ Lg wr l dd 1 ∧ ∃ t1 m1 ln Yx V b b' E, Rd wr t1 m1 dd gg N ln Yx (97292 + 41092 * k) ∧ S2 B0 P0 DA (8 + 40 % 60) ln.D V 1 b E 4 b' EA9 ∧ E.length ≤ k) (fun _ _ _ _ _ _ _ iv _ => n9 - (Go.RowKit.intOf iv).toNat)
      case atStart => exact ⟨0, Nat.zero_le _, Nat.zero_le _, rfl, HB8.out, HL8.out, t, mm, ⟨[], Y⟩, Y, V, fun _ => 0, b, [], HR8.out, HS8.out, Nat.le_refl _⟩
      case round =>
        obtain ⟨k, hk, hk41, rfl, hb, hL, t1, m1, ln, Yx, V1, b1, b4, E, hR, hS, hEl⟩ := hrel
        have HBJ := Lib.hid hb
        have HLJ := Lib.hid hL
        have HRJ := Lib.hid hR
        have HSJ := Lib.hid hS
        clear hb hL hR hS HB8 HL8 HR8 HS8
        by_cases hkn : k < n9
        · have hkn1 : (k : Int) < n9 := by omega
          have hk0 : (0 : Int) ≤ k := by omega
          obtain ⟨ab, ao, x, hpA, hab, hr, x1, x2, x3, x4, x5⟩ := HAc.out k hkn
          subst hpA
          obtain ⟨kn, nm, nu, tx, rww⟩ := x
          have HR0 : Hid (wr.rangeAt ab (ao + k * 5) (actc kn nm (nu : Int) tx rww)) := Lib.hid (fun j u hj => ((HB2.out.trans (HBJ.out.mono hw2)).cell hab).trans (hr j u hj))
          have HAn := Lib.hid (fun W => actname_any kn nm (nu : Int) tx rww x3 x4 W)
          obtain ⟨sN, hsN⟩ : ∃ y, actN nm tx rww = y := ⟨_, rfl⟩
          rw [hsN] at HAn
          obtain ⟨nn, hnn⟩ : ∃ y, 1 + nu % 200 = y := ⟨_, rfl⟩
          have hnn5 : (sN, nn).2 < 65536 := by show nn < 65536; omega
          have kn0 : 0 ≤ kn := x1
          have kn1 : kn < 256 := x2
          have nu0 : (nu : Int) < 65536 := by have : nu < 65536 := x5; omega
          have HW16 : Hid (IntKind.u16.wrap (1 + (nu : Int).tmod 200) = (nn : Int)) := Lib.hid (by
            rw [show (nu : Int).tmod 200 = ((nu % 200 : Nat) : Int) from rfl, ← hnn]
            simp [IntKind.wrap, IntKind.bits, IntKind.signed]
            omega)
          clear hr hsN x1 x2 x3 x4 x5
          go_upto_region 17 with (first | (refine wpList_load_mid rfl 49 _ rfl ab (ao + k * 5) rfl (actc kn nm (nu : Int) tx rww) dA HR0.out HUA.out HDA.out Tryz.isizeAct ?_) | (refine wpList_alloc_list (w := wr) rfl 49 rfl (actc 0 0 0 ⟨#[]⟩ false) Tryz.zeroAct ?_; intro w4 F4 hb4 hz4; simp only [Act.put, List.getElem_toArray, List.getElem_cons_zero, List.getElem_cons_succ, List.setIfInBounds_toArray, List.set_cons_zero, List.set_cons_succ]) | (refine wpList_store_list rfl 49 (.tmp 14) (.tmp 71) rfl wr.heap.size (actc 0 0 0 ⟨#[]⟩ false) (actc kn nm (nu : Int) tx rww) rfl rfl F4.out rfl Tryz.isizeAct (actc_one _ _ _ _ _) ?_; intro wq F5 HK5; have HQ4 := Lib.hid hb4; clear hb4 F4))
          obtain ⟨bA, hbA⟩ : ∃ y, wr.heap.size = y := ⟨_, rfl⟩
          have hzd := HBJ.out.size
          have hld := HLJ.out.lt
          have HRq := Lib.hid ((HRJ.out.keep HQ4.out).kp HK5.out (HRJ.out.notin (Nat.le_refl _)) (HRJ.out.notin (Nat.le_refl _)))
          have HLq := Lib.hid ((HLJ.out.keep HQ4.out).kp HK5.out (by omega) (by omega))
          have HBq := Lib.hid ((HBJ.out.trans (HQ4.out.mono hzd)).trans (HK5.out.below hzd hzd (Nat.le_trans hzd HQ4.out.size)))
          rw [hbA] at F5
          try rw [hbA]
          have FAq := F5
          clear HQ4 HK5 F5 hz4 HR0 hbA HRJ HLJ HBJ
          by_cases h40 : 40 < k
          · have h40i : (40 : Int) < k := by omega
            clear FAq HAn
            go_wp2_with fail
            have HBg := Lib.hid (begin8 l t1 m1 dd gg (97292 + 41092 * k) Yx wq HRq.out HLq.out)
            go_wp2_with fail
            refine HBg.out.mono ?_
            rintro e wb ⟨tt, mq, rfl, htwb, hmwb, hRwb, hbwb⟩
            have HRwb := Lib.hid hRwb
            have HBwb := Lib.hid (HBq.out.trans (hbwb.mono HBq.out.size))
            have HLwb := Lib.hid (HLq.out.keep hbwb)
            have hzwb := HBq.out.size
            have hlwb := HLq.out.lt
            have HNwb : Hid (l ∉ [tt, mq, dd, gg]) := Lib.hid (fun ha => by
              have := HNl.out
              simp only [List.mem_cons, List.not_mem_nil, or_false] at ha this
              omega)
            clear hRwb hbwb HBg HRq HLq HBq
            have HOp := Lib.hid (open9 HC9.out ⟨[], ln.D⟩ tt mq dd gg n (97292 + 41092 * k) ln.D vr vm vg wb (HCFx.out wb HBwb.out) (HRwb.out.wide (Lm.nil_le _ _)))
            go_wp2_with fail
            refine HOp.out.mono ?_
            rintro e wc ⟨q, p, rfl, hqwc, hpwc, hGwc, hbwc⟩
            have HGwc := Lib.hid hGwc
            have HBwc := Lib.hid (HBwb.out.trans (hbwc.mono HBwb.out.size))
            have HLwc := Lib.hid (HLwb.out.keep hbwc)
            clear hGwc hbwc HOp HRwb HLwb HBwb hqwc hpwc
            have HLi := Lib.hid (dlist_any (ln := ⟨[], ln.D⟩) q p tt mq dd gg 0 B0 P0 8 DA (8 + 40 % 60) N (97292 + 41092 * k) g ln.D V1 4 (by decide) (by decide) b4 EA9 HSJ.out.oth HSJ.out.tab (by omega) HGG.out wc HGwc.out)
            have hlv : liveE EA9 = EA9 := by kernel_rfl
            rw [hlv] at HLi
            clear hlv
            go_wp2_with fail
            refine HLi.out.mono ?_
            rintro e wd ⟨v', base, rfl, hbs, hO, -, hk⟩
            have HBwd := Lib.hid (HBwc.out.trans (hk.below (B := w2.heap.size) (fun a ha => by
              simp only [List.mem_cons, List.not_mem_nil, or_false] at ha
              omega) HBwc.out.size))
            have HEs := Lib.hid (Es.own hO)
            clear hk hO HLi hbs HGwc HBwc HLwc
            go_wp2_with fail
            have hb9 : Below wd.heap.size wd (wd.alloc (.cells #[.string ⟨#[97]⟩, .int .u16 7, .string ⟨#[98]⟩, .int .u16 7, .string ⟨#[111, 116, 104, 101, 114]⟩, .int .u16 7] 58)) := (Below.refl _ _).alloc (Nat.le_refl _) _
            refine (same_any v' _ EA9 EA9 EA9_sm EA9_sm (by decide) _ (HEs.out.keep hb9) (Es.new9 wd)).mono ?_
            rintro e we ⟨rfl, hb⟩
            have hbz := HBwd.out.trans ((hb9.trans (hb.mono hb9.size)).mono HBwd.out.size)
            rw [decide_eq_true (rfl : EA9 = EA9)]
            clear hb hb9 HEs HBwd HSJ
            go_wp2_with fail
            go_ret
            exact ⟨rfl, HB2.out.trans (hbz.mono hw2)⟩
          · have h40i : ¬ (40 : Int) < k := by omega
            have c3 : wq.cell? ⟨bA, 3, none⟩ = some (.string tx) := FAq.out.c 3 _ rfl
            by_cases h200 : 200 < tx.size
            · have h200i : (200 : Int) < tx.size := by omega
              go_wp2_with fail
              clear FAq HAn c3
              have HBg := Lib.hid (begin8 l t1 m1 dd gg (97292 + 41092 * k) Yx wq HRq.out HLq.out)
              go_wp2_with fail
              refine HBg.out.mono ?_
              rintro e wb ⟨tt, mq, rfl, htwb, hmwb, hRwb, hbwb⟩
              have HRwb := Lib.hid hRwb
              have HBwb := Lib.hid (HBq.out.trans (hbwb.mono HBq.out.size))
              have HLwb := Lib.hid (HLq.out.keep hbwb)
              have hzwb := HBq.out.size
              have hlwb := HLq.out.lt
              have HNwb : Hid (l ∉ [tt, mq, dd, gg]) := Lib.hid (fun ha => by
                have := HNl.out
                simp only [List.mem_cons, List.not_mem_nil, or_false] at ha this
                omega)
              clear hRwb hbwb HBg HRq HLq HBq
              have HOp := Lib.hid (open9 HC9.out ⟨[], ln.D⟩ tt mq dd gg n (97292 + 41092 * k) ln.D vr vm vg wb (HCFx.out wb HBwb.out) (HRwb.out.wide (Lm.nil_le _ _)))
              go_wp2_with fail
              refine HOp.out.mono ?_
              rintro e wc ⟨q, p, rfl, hqwc, hpwc, hGwc, hbwc⟩
              have HGwc := Lib.hid hGwc
              have HBwc := Lib.hid (HBwb.out.trans (hbwc.mono HBwb.out.size))
              have HLwc := Lib.hid (HLwb.out.keep hbwc)
              clear hGwc hbwc HOp HRwb HLwb HBwb hqwc hpwc
              have HLi := Lib.hid (dlist_any (ln := ⟨[], ln.D⟩) q p tt mq dd gg 0 B0 P0 8 DA (8 + 40 % 60) N (97292 + 41092 * k) g ln.D V1 4 (by decide) (by decide) b4 EA9 HSJ.out.oth HSJ.out.tab (by omega) HGG.out wc HGwc.out)
              have hlv : liveE EA9 = EA9 := by kernel_rfl
              rw [hlv] at HLi
              clear hlv
              go_wp2_with fail
              refine HLi.out.mono ?_
              rintro e wd ⟨v', base, rfl, hbs, hO, -, hk⟩
              have HBwd := Lib.hid (HBwc.out.trans (hk.below (B := w2.heap.size) (fun a ha => by
                simp only [List.mem_cons, List.not_mem_nil, or_false] at ha
                omega) HBwc.out.size))
              have HEs := Lib.hid (Es.own hO)
              clear hk hO HLi hbs HGwc HBwc HLwc
              go_wp2_with fail
              have hb9 : Below wd.heap.size wd (wd.alloc (.cells #[.string ⟨#[97]⟩, .int .u16 7, .string ⟨#[98]⟩, .int .u16 7, .string ⟨#[111, 116, 104, 101, 114]⟩, .int .u16 7] 58)) := (Below.refl _ _).alloc (Nat.le_refl _) _
              refine (same_any v' _ EA9 EA9 EA9_sm EA9_sm (by decide) _ (HEs.out.keep hb9) (Es.new9 wd)).mono ?_
              rintro e we ⟨rfl, hb⟩
              have hbz := HBwd.out.trans ((hb9.trans (hb.mono hb9.size)).mono HBwd.out.size)
              rw [decide_eq_true (rfl : EA9 = EA9)]
              clear hb hb9 HEs HBwd HSJ
              go_wp2_with fail
              go_ret
              exact ⟨rfl, HB2.out.trans (hbz.mono hw2)⟩
            · have h200i : ¬ (200 : Int) < tx.size := by omega
              have HBg := Lib.hid (begin8 l t1 m1 dd gg (97292 + 41092 * k) Yx wq HRq.out HLq.out)
              go_wp2_with fail
              refine HBg.out.mono ?_
              rintro e wb ⟨tt, mq, rfl, htwb, hmwb, hRwb, hbwb⟩
              have HRwb := Lib.hid hRwb
              have HBwb := Lib.hid (HBq.out.trans (hbwb.mono HBq.out.size))
              have HLwb := Lib.hid (HLq.out.keep hbwb)
              have hzwb := HBq.out.size
              have hlwb := HLq.out.lt
              have HNwb : Hid (l ∉ [tt, mq, dd, gg]) := Lib.hid (fun ha => by
                have := HNl.out
                simp only [List.mem_cons, List.not_mem_nil, or_false] at ha this
                omega)
              have FAwb := Lib.hid (FAq.out.keep hbwb)
              clear hRwb hbwb HBg HRq HLq HBq
              have HOp := Lib.hid (open9 HC9.out ⟨dl B0 P0 DA b1 (ndS (nbE E.length)) L9, ln.D⟩ tt mq dd gg n (97292 + 41092 * k) ln.D vr vm vg wb (HCFx.out wb HBwb.out) (HRwb.out.wide (Lm.nil_le _ _)))
              go_wp2_with fail
              refine HOp.out.mono ?_
              rintro e wc ⟨q, p, rfl, hqwc, hpwc, hGwc, hbwc⟩
              have HGwc := Lib.hid hGwc
              have HBwc := Lib.hid (HBwb.out.trans (hbwc.mono HBwb.out.size))
              have HLwc := Lib.hid (HLwb.out.keep hbwc)
              have FAwc := Lib.hid (FAwb.out.keep hbwc)
              clear hGwc hbwc HOp HRwb HLwb HBwb hqwc hpwc
              clear FAq FAwb c3
              go_upto_region 20 with fail
              refine wp_region_held (S := (fun W => Vl W bA (actc kn nm (nu : Int) tx rww))) (by kernel_rfl) ?_
              change wpAnyH _ _ _ _ _ _ _ _ (World.drew _)
              have hS0 : (fun W => Vl W bA (actc kn nm (nu : Int) tx rww)) wc.drew := FAwc.out.keep (Below.refl _ _).drew
              have hbd3 : Below wc.heap.size wc wc.drew := (Below.refl _ _).drew
              have HG8 := Lib.hid (HGwc.out.keep hbd3)
              have HB8 := Lib.hid (HBwc.out.trans (hbd3.mono HBwc.out.size))
              have HL8 := Lib.hid (HLwc.out.keep hbd3)
              obtain ⟨w8, hw8⟩ : ∃ x, World.drew wc = x := ⟨_, rfl⟩
              rw [hw8] at hS0 HG8 HB8 HL8 ⊢
              clear hw8 hbd3 HGwc HBwc HLwc FAwc
              refine wpAnyH_take (i := 0) (v := .agg (actc kn nm (nu : Int) tx rww).toArray) rfl (by kernel_rfl) (by kernel_rfl) (by kernel_rfl) (fun _ _ _ h => h) ?_ hS0 ?_
              · exact yieldsIf_load_mid (by rfl) 49 (.tmp 14) rfl bA 0 rfl (actc kn nm (nu : Int) tx rww) dA (fun W hW => hW.range0) HUA.out HDA.out Tryz.isizeAct
              simp only [Act.put, List.getElem_toArray, List.getElem_cons_zero, List.getElem_cons_succ, List.setIfInBounds_toArray, List.set_cons_zero, List.set_cons_succ]
              refine wpAnyH_take (i := 2) (v := ?_) rfl (by kernel_rfl) (by kernel_rfl) (by kernel_rfl) (fun _ _ _ h => h) (Or.inl ⟨by rfl, ?_⟩) hS0 ?_
              rotate_left 1
              · intro W hW
                go_simp
                try with_reducible rfl
              simp only [Act.put, List.getElem_toArray, List.getElem_cons_zero, List.getElem_cons_succ, List.setIfInBounds_toArray, List.set_cons_zero, List.set_cons_succ]
              refine wpAnyH_take (i := 3) (v := ?_) rfl (by kernel_rfl) (by kernel_rfl) (by kernel_rfl) (fun _ _ _ h => h) (Or.inl ⟨by rfl, ?_⟩) hS0 ?_
              rotate_left 1
              · intro W hW
                have c2 : W.cell? ⟨bA, 2, none⟩ = some (.int .u16 (nu : Int)) := hW.c 2 _ rfl
                go_simp
                try with_reducible rfl
              simp only [Act.put, List.getElem_toArray, List.getElem_cons_zero, List.getElem_cons_succ, List.setIfInBounds_toArray, List.set_cons_zero, List.set_cons_succ]
              refine wpAnyH_take (i := 4) (v := ?_) rfl (by kernel_rfl) (by kernel_rfl) (by kernel_rfl) (fun _ _ _ h => h) (Or.inl ⟨by rfl, ?_⟩) hS0 ?_
              rotate_left 1
              · intro W hW
                go_simp
                try with_reducible rfl
              simp only [Act.put, List.getElem_toArray, List.getElem_cons_zero, List.getElem_cons_succ, List.setIfInBounds_toArray, List.set_cons_zero, List.set_cons_succ]
              refine wpAnyH_take (i := 5) (v := ?_) rfl (by kernel_rfl) (by kernel_rfl) (by kernel_rfl) (fun _ _ _ h => h) (Or.inl ⟨by rfl, ?_⟩) hS0 ?_
              rotate_left 1
              · intro W hW
                go_simp
                try with_reducible rfl
              simp only [Act.put, List.getElem_toArray, List.getElem_cons_zero, List.getElem_cons_succ, List.setIfInBounds_toArray, List.set_cons_zero, List.set_cons_succ]
              refine wpAnyH_ready (rs := [1, 7]) (by kernel_rfl) (by simp) (AllReadyH.cons rfl (fun KK hKK => ?_) (AllReadyH.cons rfl (fun KK hKK => ?_) AllReadyH.nil))
              go_simp
              refine (HAn.out w8).mono ?_
              rintro r w9 ⟨rfl, hb⟩
              have HG9 := Lib.hid (HG8.out.keep hb)
              have HB9 := Lib.hid (HB8.out.trans (hb.mono HB8.out.size))
              have HL9 := Lib.hid (HL8.out.keep hb)
              replace hS0 : (fun W => Vl W bA (actc kn nm (nu : Int) tx rww)) w9 := hS0.keep hb
              clear hb HG8 HB8 HL8
              refine hKK _ _ hS0 ?_
              intro _
              clear hKK KK
              try simp only [Act.put, List.getElem_toArray, List.getElem_cons_zero, List.getElem_cons_succ, List.setIfInBounds_toArray, List.set_cons_zero, List.set_cons_succ]
              refine wpAnyH_take (i := 6) (v := .agg (enc (sN, nn)).toArray) rfl (by kernel_rfl) (by kernel_rfl) (by kernel_rfl) (fun _ _ _ h => h) ?_ hS0 ?_
              · exact yields_bld2 (by rfl) 58 0 1 (.tmp 89) (.tmp 93) rfl (.string sN) (.int .u16 (nn : Int)) rfl (by go_simp; congr 1 <;> exact HW16.out) _ (fun W => by
                    exact Tryz.buildEn2 sN (nn : Int) W)
              simp only [Act.put, List.getElem_toArray, List.getElem_cons_zero, List.getElem_cons_succ, List.setIfInBounds_toArray, List.set_cons_zero, List.set_cons_succ]
              refine wpAnyH_ready (rs := [7]) (by kernel_rfl) (by simp) (AllReadyH.cons rfl (fun KK hKK => ?_) AllReadyH.nil)
              refine step_alloc_list rfl 58 (enc zE) rfl Tryz.zeroEn ?_
              intro wA FE hbA hzA
              obtain ⟨bE, hbE⟩ : ∃ x, w9.heap.size = x := ⟨_, rfl⟩
              have hE2 : w2.heap.size ≤ bE := by have := HB9.out.size; omega
              have hLE : l < bE := by have := HL9.out.lt; omega
              have hAE : bA < bE := by have := hS0.lt; omega
              have HNE : Hid (bE ∉ [q, p, tt, mq, dd, gg]) := Lib.hid (HG9.out.notin (Nat.le_of_eq hbE))
              have hS1 : (fun W => Vl W bA (actc kn nm (nu : Int) tx rww)) wA := hS0.keep hbA
              have HGA := Lib.hid (HG9.out.keep hbA)
              have HBA := Lib.hid (HB9.out.trans (hbA.mono HB9.out.size))
              have HLA := Lib.hid (HL9.out.keep hbA)
              rw [hbE] at FE
              try rw [hbE]
              clear hS0 hbA hzA hbE HG9 HB9 HL9
              have hS0 := hS1
              clear hS1
              refine hKK _ _ hS0 ?_
              intro _
              clear hKK KK
              try simp only [Act.put, List.getElem_toArray, List.getElem_cons_zero, List.getElem_cons_succ, List.setIfInBounds_toArray, List.set_cons_zero, List.set_cons_succ]
              have PF := Lib.hid (FE.out.stored (enc (sN, nn)) rfl)
              refine wpAnyH_ready (rs := [8]) (by kernel_rfl) (by simp) (AllReadyH.cons rfl (fun KK hKK => ?_) AllReadyH.nil)
              refine step_store_mid rfl 58 _ _ rfl bE 0 (enc (sN, nn)).toArray rfl rfl (FE.out.there0 2 rfl) (sizeEn _) (all_oneCell_toArray (enc_one _)) ?_
              have hk : Kp wA (wA.setCells bE 0 (enc (sN, nn))) bE bE := (Kp.refl wA bE bE).setCells bE 0 (.inl rfl) _
              have hS1 : (fun W => Vl W bA (actc kn nm (nu : Int) tx rww)) (wA.setCells bE 0 (enc (sN, nn))) := hS0.kp hk (by omega) (by omega)
              have HG11 := Lib.hid (HGA.out.kp hk (HNE.out))
              have HB11 := Lib.hid (HBA.out.trans (hk.below (by omega) (by omega) HBA.out.size))
              have HL11 := Lib.hid (HLA.out.kp hk (by omega) (by omega))
              obtain ⟨w11, hw11⟩ : ∃ x, wA.setCells bE 0 (enc (sN, nn)) = x := ⟨_, rfl⟩
              change KK _ (wA.setCells bE 0 (enc (sN, nn)))
              rw [hw11] at hS1 PF HG11 HB11 HL11 ⊢
              clear hw11 hk hS0 FE HGA HBA HLA
              have HFA := Lib.hid hS1
              refine hKK _ _ hS1 ?_
              intro _
              clear hKK KK hS1
              refine wpAnyH_done (by kernel_rfl) ?_ _
              rotate_left
              refine step_alloc_list rfl 58 (enc zE) rfl Tryz.zeroEn ?_
              intro wA FE hbA hzA
              obtain ⟨bE, hbE⟩ : ∃ x, w8.heap.size = x := ⟨_, rfl⟩
              have hE2 : w2.heap.size ≤ bE := by have := HB8.out.size; omega
              have hLE : l < bE := by have := HL8.out.lt; omega
              have hAE : bA < bE := by have := hS0.lt; omega
              have HNE : Hid (bE ∉ [q, p, tt, mq, dd, gg]) := Lib.hid (HG8.out.notin (Nat.le_of_eq hbE))
              have hS1 : (fun W => Vl W bA (actc kn nm (nu : Int) tx rww)) wA := hS0.keep hbA
              have HGA := Lib.hid (HG8.out.keep hbA)
              have HBA := Lib.hid (HB8.out.trans (hbA.mono HB8.out.size))
              have HLA := Lib.hid (HL8.out.keep hbA)
              rw [hbE] at FE
              try rw [hbE]
              clear hS0 hbA hzA hbE HG8 HB8 HL8
              have hS0 := hS1
              clear hS1
              refine hKK _ _ hS0 ?_
              intro _
              clear hKK KK
              try simp only [Act.put, List.getElem_toArray, List.getElem_cons_zero, List.getElem_cons_succ, List.setIfInBounds_toArray, List.set_cons_zero, List.set_cons_succ]
              refine wpAnyH_ready (rs := [1]) (by kernel_rfl) (by simp) (AllReadyH.cons rfl (fun KK hKK => ?_) AllReadyH.nil)
              go_simp
              refine (HAn.out wA).mono ?_
              rintro r w9 ⟨rfl, hb⟩
              have HG9 := Lib.hid (HGA.out.keep hb)
              have HB9 := Lib.hid (HBA.out.trans (hb.mono HBA.out.size))
              have HL9 := Lib.hid (HLA.out.keep hb)
              replace hS0 : (fun W => Vl W bA (actc kn nm (nu : Int) tx rww)) w9 := hS0.keep hb
              replace FE := Lib.hid (FE.out.keep hb)
              have hwA9 := hb.size
              clear hb HGA HBA HLA
              refine hKK _ _ hS0 ?_
              intro _
              clear hKK KK
              try simp only [Act.put, List.getElem_toArray, List.getElem_cons_zero, List.getElem_cons_succ, List.setIfInBounds_toArray, List.set_cons_zero, List.set_cons_succ]
              refine wpAnyH_take (i := 6) (v := .agg (enc (sN, nn)).toArray) rfl (by kernel_rfl) (by kernel_rfl) (by kernel_rfl) (fun _ _ _ h => h) ?_ hS0 ?_
              · exact yields_bld2 (by rfl) 58 0 1 (.tmp 89) (.tmp 93) rfl (.string sN) (.int .u16 (nn : Int)) rfl (by go_simp; congr 1 <;> exact HW16.out) _ (fun W => by
                    exact Tryz.buildEn2 sN (nn : Int) W)
              simp only [Act.put, List.getElem_toArray, List.getElem_cons_zero, List.getElem_cons_succ, List.setIfInBounds_toArray, List.set_cons_zero, List.set_cons_succ]
              have PF := Lib.hid (FE.out.stored (enc (sN, nn)) rfl)
              refine wpAnyH_ready (rs := [8]) (by kernel_rfl) (by simp) (AllReadyH.cons rfl (fun KK hKK => ?_) AllReadyH.nil)
              refine step_store_mid rfl 58 _ _ rfl bE 0 (enc (sN, nn)).toArray rfl rfl (FE.out.there0 2 rfl) (sizeEn _) (all_oneCell_toArray (enc_one _)) ?_
              have hk : Kp w9 (w9.setCells bE 0 (enc (sN, nn))) bE bE := (Kp.refl w9 bE bE).setCells bE 0 (.inl rfl) _
              have hS1 : (fun W => Vl W bA (actc kn nm (nu : Int) tx rww)) (w9.setCells bE 0 (enc (sN, nn))) := hS0.kp hk (by omega) (by omega)
              have HG11 := Lib.hid (HG9.out.kp hk (HNE.out))
              have HB11 := Lib.hid (HB9.out.trans (hk.below (by omega) (by omega) HB9.out.size))
              have HL11 := Lib.hid (HL9.out.kp hk (by omega) (by omega))
              obtain ⟨w11, hw11⟩ : ∃ x, w9.setCells bE 0 (enc (sN, nn)) = x := ⟨_, rfl⟩
              change KK _ (w9.setCells bE 0 (enc (sN, nn)))
              rw [hw11] at hS1 PF HG11 HB11 HL11 ⊢
              clear hw11 hk hS0 FE HG9 HB9 HL9
              have HFA := Lib.hid hS1
              refine hKK _ _ hS1 ?_
              intro _
              clear hKK KK hS1
              refine wpAnyH_done (by kernel_rfl) ?_ _
              rotate_left
              all_goals (
                by_cases hq0 : kn % 4 = 0
                · have c0 : w11.cell? ⟨bA, 0, none⟩ = some (.int .u8 kn) := HFA.out.c 0 _ rfl
                  have cE0 : w11.cell? ⟨bE, 0, none⟩ = some (.string sN) := PF.out.c 0 _ rfl
                  have HOp := Lib.hid (drop2 (TB := P0) HGG.out q p tt mq dd gg (97292 + 41092 * k) 1 4 (by decide) rfl (by decide) ln.D V1 ln.D b1 b4 E EA9 HSJ.out (by omega) (by omega) sN w11 HG11.out)
                  go_wp2_with fail
                  refine HOp.out.mono ?_
                  rintro r w12 ⟨hk, (⟨-, rfl, hG⟩ | ⟨-, rfl, Y', V', b', hG, hS⟩)⟩
                  · have HG12 := Lib.hid hG
                    have HB12 := Lib.hid (HB11.out.trans (hk.below (B := w2.heap.size) (fun a ha => by
                      simp only [List.mem_cons, List.not_mem_nil, or_false] at ha
                      omega) HB11.out.size))
                    have HL12 := Lib.hid (HL11.out.kf hk HNwb.out)
                    clear hk hG HOp HG11 HB11 HL11 c0 cE0 HFA PF
                    go_wp2_with fail
                    go_roundw
                    case rel => exact ⟨k + 1, by omega, by omega, by go_num, HB12.out, HL12.out, tt, mq, ⟨dl B0 P0 DA b1 (ndS (nbE E.length)) L9, ln.D⟩, ln.D, V1, b1, b4, E, HG12.out.rd.mono (by omega), HSJ.out, by omega⟩
                    case measure => simp [Go.RowKit.intOf]; omega
                  · have HG12 := Lib.hid hG
                    have HS12 := Lib.hid hS
                    have HB12 := Lib.hid (HB11.out.trans (hk.below (B := w2.heap.size) (fun a ha => by
                      simp only [List.mem_cons, List.not_mem_nil, or_false] at ha
                      omega) HB11.out.size))
                    have HL12 := Lib.hid (HL11.out.kf hk HNwb.out)
                    clear hk hG hS HOp HG11 HB11 HL11 c0 cE0 HFA PF
                    have HCm := Lib.hid (commit7 tt mq dd gg (97292 + 41092 * k + 40000) Y' (Ly.len L9 (by rw [L9_len]; decide) _ _ _ _ _) (by omega) w12 HG12.out.rd)
                    go_wp2_with fail
                    refine HCm.out.mono ?_
                    rintro e w13 ⟨rfl, hR, hk⟩
                    have HR13 := Lib.hid hR
                    have HB13 := Lib.hid (HB12.out.trans (hk.below (B := w2.heap.size) (fun a ha => by
                      simp only [List.mem_cons, List.not_mem_nil, or_false] at ha
                      omega) HB12.out.size))
                    have HL13 := Lib.hid (HL12.out.kf hk HNwb.out)
                    clear hR hk HCm HG12 HB12 HL12
                    go_wp2_with fail
                    go_roundw
                    case rel => exact ⟨k + 1, by omega, by omega, by go_num, HB13.out, HL13.out, tt, mq, ⟨[], Y'⟩, Y', V', b', b4, _, HR13.out.mono (by omega), HS12.out, by rw [List.length_take, List.length_set]; omega⟩
                    case measure => simp [Go.RowKit.intOf]; omega
                by_cases hq1 : kn % 4 = 1
                · have c0 : w11.cell? ⟨bA, 0, none⟩ = some (.int .u8 kn) := HFA.out.c 0 _ rfl
                  have HOp := Lib.hid (turn2 (TB := P0) HGG.out q p tt mq dd gg (97292 + 41092 * k) 1 4 (by decide) rfl (by decide) ln.D V1 ln.D b1 b4 E EA9 HSJ.out (by omega) (by omega) (sN, nn) hnn5 w11 HG11.out)
                  obtain ⟨cc, hcc⟩ : ∃ c, turnC E (sN, nn) = c := ⟨_, rfl⟩
                  rw [hcc] at HOp
                  clear hcc
                  go_wp2_with (refine wpList_load_mid rfl 58 _ rfl bE 0 rfl (enc (sN, nn)) dE PF.out.range0 HUE.out HDE.out Tryz.isizeEn ?_)
                  refine HOp.out.mono ?_
                  rintro r w12 ⟨rfl, hk, (⟨hh, hG⟩ | ⟨hh, Y', V', b', hG, hS⟩)⟩
                  · have HG12 := Lib.hid hG
                    have HB12 := Lib.hid (HB11.out.trans (hk.below (B := w2.heap.size) (fun a ha => by
                      simp only [List.mem_cons, List.not_mem_nil, or_false] at ha
                      omega) HB11.out.size))
                    have HL12 := Lib.hid (HL11.out.kf hk HNwb.out)
                    clear hk hG HOp HG11 HB11 HL11 c0 HFA PF
                    go_wp2_with fail
                    go_roundw
                    case rel => exact ⟨k + 1, by omega, by omega, by go_num, HB12.out, HL12.out, tt, mq, ⟨dl B0 P0 DA b1 (ndS (nbE E.length)) L9, ln.D⟩, ln.D, V1, b1, b4, E, HG12.out.rd.mono (by omega), HSJ.out, by omega⟩
                    case measure => simp [Go.RowKit.intOf]; omega
                  · subst hh
                    have HG12 := Lib.hid hG
                    have HS12 := Lib.hid hS
                    have HB12 := Lib.hid (HB11.out.trans (hk.below (B := w2.heap.size) (fun a ha => by
                      simp only [List.mem_cons, List.not_mem_nil, or_false] at ha
                      omega) HB11.out.size))
                    have HL12 := Lib.hid (HL11.out.kf hk HNwb.out)
                    clear hk hG hS HOp HG11 HB11 HL11 c0 HFA PF
                    have HCm := Lib.hid (commit7 tt mq dd gg (97292 + 41092 * k + 30000) Y' (Ly.len L9 (by rw [L9_len]; decide) _ _ _ _ _) (by omega) w12 HG12.out.rd)
                    go_wp2_with fail
                    refine HCm.out.mono ?_
                    rintro e w13 ⟨rfl, hR, hk⟩
                    have HR13 := Lib.hid hR
                    have HB13 := Lib.hid (HB12.out.trans (hk.below (B := w2.heap.size) (fun a ha => by
                      simp only [List.mem_cons, List.not_mem_nil, or_false] at ha
                      omega) HB12.out.size))
                    have HL13 := Lib.hid (HL12.out.kf hk HNwb.out)
                    clear hR hk HCm HG12 HB12 HL12
                    go_wp2_with fail
                    go_roundw
                    case rel => exact ⟨k + 1, by omega, by omega, by go_num, HB13.out, HL13.out, tt, mq, ⟨[], Y'⟩, Y', V', b', b4, _, HR13.out.mono (by omega), HS12.out, Nat.le_trans (setE_le _ _ _) (by omega)⟩
                    case measure => simp [Go.RowKit.intOf]; omega
                have c0 : w11.cell? ⟨bA, 0, none⟩ = some (.int .u8 kn) := HFA.out.c 0 _ rfl
                have HOp := Lib.hid (add2 (TB := P0) HGG.out (by decide) q p tt mq dd gg (97292 + 41092 * k) 1 4 (by decide) rfl (by decide) ln.D V1 ln.D b1 b4 E EA9 HSJ.out (by omega) (by decide) (by omega) (sN, nn) hnn5 w11 HG11.out)
                obtain ⟨cc, hcc⟩ : ∃ c, addC E (sN, nn) = c := ⟨_, rfl⟩
                rw [hcc] at HOp
                clear hcc
                go_wp2_with (refine wpList_load_mid rfl 58 _ rfl bE 0 rfl (enc (sN, nn)) dE PF.out.range0 HUE.out HDE.out Tryz.isizeEn ?_)
                refine HOp.out.mono ?_
                rintro r w12 ⟨rfl, hk, (⟨hh, hG⟩ | ⟨hh, Y', V', b', hG, hS⟩)⟩
                · have HG12 := Lib.hid hG
                  have HB12 := Lib.hid (HB11.out.trans (hk.below (B := w2.heap.size) (fun a ha => by
                    simp only [List.mem_cons, List.not_mem_nil, or_false] at ha
                    omega) HB11.out.size))
                  have HL12 := Lib.hid (HL11.out.kf hk HNwb.out)
                  clear hk hG HOp HG11 HB11 HL11 c0 HFA PF
                  go_wp2_with fail
                  go_roundw
                  case rel => exact ⟨k + 1, by omega, by omega, by go_num, HB12.out, HL12.out, tt, mq, ⟨dl B0 P0 DA b1 (ndS (nbE E.length)) L9, ln.D⟩, ln.D, V1, b1, b4, E, HG12.out.rd.mono (by omega), HSJ.out, by omega⟩
                  case measure => simp [Go.RowKit.intOf]; omega
                · subst hh
                  have HG12 := Lib.hid hG
                  have HS12 := Lib.hid hS
                  have HB12 := Lib.hid (HB11.out.trans (hk.below (B := w2.heap.size) (fun a ha => by
                    simp only [List.mem_cons, List.not_mem_nil, or_false] at ha
                    omega) HB11.out.size))
                  have HL12 := Lib.hid (HL11.out.kf hk HNwb.out)
                  clear hk hG hS HOp HG11 HB11 HL11 c0 HFA PF
                  have HCm := Lib.hid (commit7 tt mq dd gg (97292 + 41092 * k + 30000) Y' (Ly.len L9 (by rw [L9_len]; decide) _ _ _ _ _) (by omega) w12 HG12.out.rd)
                  go_wp2_with fail
                  refine HCm.out.mono ?_
                  rintro e w13 ⟨rfl, hR, hk⟩
                  have HR13 := Lib.hid hR
                  have HB13 := Lib.hid (HB12.out.trans (hk.below (B := w2.heap.size) (fun a ha => by
                    simp only [List.mem_cons, List.not_mem_nil, or_false] at ha
                    omega) HB12.out.size))
                  have HL13 := Lib.hid (HL12.out.kf hk HNwb.out)
                  clear hR hk HCm HG12 HB12 HL12
                  go_wp2_with fail
                  go_roundw
                  case rel => exact ⟨k + 1, by omega, by omega, by go_num, HB13.out, HL13.out, tt, mq, ⟨[], Y'⟩, Y', V', b', b4, _, HR13.out.mono (by omega), HS12.out, Nat.le_trans (setE_le _ _ _) (by omega)⟩
                  case measure => simp [Go.RowKit.intOf]; omega)
        · obtain rfl : k = n9 := by omega
          have HBg := Lib.hid (begin8 l t1 m1 dd gg (97292 + 41092 * k) Yx wr HRJ.out HLJ.out)
          go_wp2_with fail
          refine HBg.out.mono ?_
          rintro e wb ⟨tt, mq, rfl, htwb, hmwb, hRwb, hbwb⟩
          have HRwb := Lib.hid hRwb
          have HBwb := Lib.hid (HBJ.out.trans (hbwb.mono HBJ.out.size))
          have HLwb := Lib.hid (HLJ.out.keep hbwb)
          have hzwb := HBJ.out.size
          have hlwb := HLJ.out.lt
          have HNwb : Hid (l ∉ [tt, mq, dd, gg]) := Lib.hid (fun ha => by
            have := HNl.out
            simp only [List.mem_cons, List.not_mem_nil, or_false] at ha this
            omega)
          clear hRwb hbwb HBg HRJ HLJ HBJ
          have HOp := Lib.hid (open9 HC9.out ⟨[], ln.D⟩ tt mq dd gg n (97292 + 41092 * k) ln.D vr vm vg wb (HCFx.out wb HBwb.out) (HRwb.out.wide (Lm.nil_le _ _)))
          go_wp2_with fail
          refine HOp.out.mono ?_
          rintro e wc ⟨q, p, rfl, hqwc, hpwc, hGwc, hbwc⟩
          have HGwc := Lib.hid hGwc
          have HBwc := Lib.hid (HBwb.out.trans (hbwc.mono HBwb.out.size))
          have HLwc := Lib.hid (HLwb.out.keep hbwc)
          clear hGwc hbwc HOp HRwb HLwb HBwb hqwc hpwc
          have HLi := Lib.hid (dlist_any (ln := ⟨[], ln.D⟩) q p tt mq dd gg 0 B0 P0 8 DA (8 + 40 % 60) N (97292 + 41092 * k) g ln.D V1 4 (by decide) (by decide) b4 EA9 HSJ.out.oth HSJ.out.tab (by omega) HGG.out wc HGwc.out)
          have hlv : liveE EA9 = EA9 := by kernel_rfl
          rw [hlv] at HLi
          clear hlv
          go_wp2_with fail
          refine HLi.out.mono ?_
          rintro e wd ⟨v', base, rfl, hbs, hO, -, hk⟩
          have HBwd := Lib.hid (HBwc.out.trans (hk.below (B := w2.heap.size) (fun a ha => by
            simp only [List.mem_cons, List.not_mem_nil, or_false] at ha
            omega) HBwc.out.size))
          have HEs := Lib.hid (Es.own hO)
          clear hk hO HLi hbs HGwc HBwc HLwc
          go_wp2_with fail
          have hb9 : Below wd.heap.size wd (wd.alloc (.cells #[.string ⟨#[97]⟩, .int .u16 7, .string ⟨#[98]⟩, .int .u16 7, .string ⟨#[111, 116, 104, 101, 114]⟩, .int .u16 7] 58)) := (Below.refl _ _).alloc (Nat.le_refl _) _
          refine (same_any v' _ EA9 EA9 EA9_sm EA9_sm (by decide) _ (HEs.out.keep hb9) (Es.new9 wd)).mono ?_
          rintro e we ⟨rfl, hb⟩
          have hbz := HBwd.out.trans ((hb9.trans (hb.mono hb9.size)).mono HBwd.out.size)
          rw [decide_eq_true (rfl : EA9 = EA9)]
          clear hb hb9 HEs HBwd HSJ
          go_wp2_with fail
          go_ret
          exact ⟨rfl, HB2.out.trans (hbz.mono hw2)⟩
end Go.Proofs.YtgfgdfcedmcjeaaGreatDoor
