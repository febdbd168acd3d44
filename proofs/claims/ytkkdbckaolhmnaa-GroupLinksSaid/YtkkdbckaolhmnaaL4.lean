import Derived.Test.YtkkdbckaolhmnaaQ8
import Derived.Test.YtkkdbckaolhmnaaL1
/- GroupLinks: the walk. -/
namespace Go.Proofs.Ytkkdbckaolhmnaa
set_option linter.unusedSimpArgs false
set_option linter.unusedVariables false
open Go.RowKit Go.Maps

def lnkG (s b : Int) : Nat → Int := fun i => if i = 0 then 4 else if i = 1 then 1 else if i = 2 then 1 else if i = 3 then s else if i = 4 then b else 0
theorem lnkG_is (s b : Int) : ndc (setG (lnk s b) 1) = ndc (lnkG s b) := rfl
theorem lnkG_ok (s b : Int) (s0 : 0 ≤ s) (s1 : s ≤ 60) (b0 : 0 ≤ b) (b1 : b < 65536) : NdOk (setG (lnk s b) 1) := setG_ok (lnk_ok s b s0 s1 b0 b1) (by decide) (by decide)
theorem Try.build62 (b : Int) (w : World) : (Instr.build 62 #[(0, .int .u16 b)]).run Try.prog w = .ok (.agg #[.int .u16 b, .int .u16 0, .int .u16 0, .int .u16 0, .int .u16 0, .int .u16 0]) w := by kernel_rfl
theorem Try.build27_five (s b : Int) (w : World) : (Instr.build 64 #[(0, .int .u8 4), (1, .int .u8 1), (2, .int .u16 1), (3, .int .u32 s), (4, .agg #[.int .u16 b, .int .u16 0, .int .u16 0, .int .u16 0, .int .u16 0, .int .u16 0])]).run Try.prog w = .ok (.agg (ndc (setG (lnk s b) 1)).toArray) w := by kernel_rfl
theorem yields_bld1 {P : Program} {ops : Array Oper} {S : World → Prop} {op : Oper} {a : Act} (hw : Region.wanted op (yielded ops a.tmps) = true) (ty : TypeId) (i0 : Nat) (x0 : Operand) (ho : op.op = .build ty #[(i0, x0)]) (v0 : Value) (h0 : a.eval x0 = v0) (v : Value)
    (hr : ∀ w, (Instr.build ty #[(i0, v0)]).run P w = .ok v w) : YieldsIf P ops S op v a :=
  .inl ⟨hw, fun w _ => by
    have hr := hr w
    unfold execOp
    simp [ho, h0, hr, Result.andThen]⟩
theorem yields_bld5 {P : Program} {ops : Array Oper} {S : World → Prop} {op : Oper} {a : Act} (hw : Region.wanted op (yielded ops a.tmps) = true) (ty : TypeId) (i0 i1 i2 i3 i4 : Nat) (x0 x1 x2 x3 x4 : Operand) (ho : op.op = .build ty #[(i0, x0), (i1, x1), (i2, x2), (i3, x3), (i4, x4)]) (v0 v1 v2 v3 v4 : Value) (h0 : a.eval x0 = v0) (h1 : a.eval x1 = v1) (h2 : a.eval x2 = v2) (h3 : a.eval x3 = v3) (h4 : a.eval x4 = v4) (v : Value)
    (hr : ∀ w, (Instr.build ty #[(i0, v0), (i1, v1), (i2, v2), (i3, v3), (i4, v4)]).run P w = .ok v w) : YieldsIf P ops S op v a :=
  .inl ⟨hw, fun w _ => by
    have hr := hr w
    unfold execOp
    simp [ho, h0, h1, h2, h3, h4, hr, Result.andThen]⟩
set_option maxHeartbeats 80000000 in
set_option maxRecDepth 200000 in
theorem links_walk (m : Int) (m0 : 0 ≤ m) (m1 : m < 256) (H : Nat → Nat → Int) (hH : Cf.Hok H) (tv : Value) (ts : List Int) (hts : ∀ x ∈ ts, 0 ≤ x ∧ x < 256) (sz bk : Int) (w : World) (htv : Cf.U8s w tv ts) (hl : ts.length ≤ maxLen) :
    Calls Try.prog 4 #[Cf.sizeVal m H tv, .int .i64 sz, .int .i64 bk] w fun e w' => e = .returned (.bool true) ∧ Below w.heap.size w w' := by
  obtain ⟨M, hM⟩ : ∃ M, 2 + m.toNat % 4 = M := ⟨_, rfl⟩
  have hM4 : M = 2 ∨ M = 3 ∨ M = 4 ∨ M = 5 := by omega
  have hP := Lib.hid (fun W (h : Cf.U8s W tv ts) => Cf.sizeconf_any m m0 m1 H hH tv ts hts W h hl M hM)
  have HLEN := Lib.hid (Cf.sizeRs_len M hM4 H)
  have HSM := Lib.hid (Cf.size_small M hM4 H hH)
  have HTV := Lib.hid htv
  have HA := Lib.hid (fun W => awake_any W)
  have hc : (w.alloc (.cells #[.int .u8 m, .int .u8 (H 0 0), .int .u8 (H 0 1), .int .u8 (H 0 2), .int .u8 (H 0 3), .int .u8 (H 0 4), .int .u8 (H 1 0), .int .u8 (H 1 1), .int .u8 (H 1 2), .int .u8 (H 1 3), .int .u8 (H 1 4), .int .u8 (H 2 0), .int .u8 (H 2 1), .int .u8 (H 2 2), .int .u8 (H 2 3), .int .u8 (H 2 4), .int .u8 (H 3 0), .int .u8 (H 3 1), .int .u8 (H 3 2), .int .u8 (H 3 3), .int .u8 (H 3 4), .int .u8 (H 4 0), .int .u8 (H 4 1), .int .u8 (H 4 2), .int .u8 (H 4 3), .int .u8 (H 4 4), tv] 26)).rangeAt w.heap.size 0 [.int .u8 m, .int .u8 (H 0 0), .int .u8 (H 0 1), .int .u8 (H 0 2), .int .u8 (H 0 3), .int .u8 (H 0 4), .int .u8 (H 1 0), .int .u8 (H 1 1), .int .u8 (H 1 2), .int .u8 (H 1 3), .int .u8 (H 1 4), .int .u8 (H 2 0), .int .u8 (H 2 1), .int .u8 (H 2 2), .int .u8 (H 2 3), .int .u8 (H 2 4), .int .u8 (H 3 0), .int .u8 (H 3 1), .int .u8 (H 3 2), .int .u8 (H 3 3), .int .u8 (H 3 4), .int .u8 (H 4 0), .int .u8 (H 4 1), .int .u8 (H 4 2), .int .u8 (H 4 3), .int .u8 (H 4 4), tv] := by
    intro j u hj
    have := Cf.cells_new w [.int .u8 m, .int .u8 (H 0 0), .int .u8 (H 0 1), .int .u8 (H 0 2), .int .u8 (H 0 3), .int .u8 (H 0 4), .int .u8 (H 1 0), .int .u8 (H 1 1), .int .u8 (H 1 2), .int .u8 (H 1 3), .int .u8 (H 1 4), .int .u8 (H 2 0), .int .u8 (H 2 1), .int .u8 (H 2 2), .int .u8 (H 2 3), .int .u8 (H 2 4), .int .u8 (H 3 0), .int .u8 (H 3 1), .int .u8 (H 3 2), .int .u8 (H 3 3), .int .u8 (H 3 4), .int .u8 (H 4 0), .int .u8 (H 4 1), .int .u8 (H 4 2), .int .u8 (H 4 3), .int .u8 (H 4 4), tv] 26 j u hj
    rw [Addr.add_mid] at this
    exact this
  have hq : (Try.prog.underlying 26).map (·.isRow) = some true := by kernel_rfl
  obtain ⟨d, hu, hd⟩ := Option.map_eq_some_iff.1 hq
  have hi : (Try.prog.info? 26).map (·.size) = some ([.int .u8 m, .int .u8 (H 0 0), .int .u8 (H 0 1), .int .u8 (H 0 2), .int .u8 (H 0 3), .int .u8 (H 0 4), .int .u8 (H 1 0), .int .u8 (H 1 1), .int .u8 (H 1 2), .int .u8 (H 1 3), .int .u8 (H 1 4), .int .u8 (H 2 0), .int .u8 (H 2 1), .int .u8 (H 2 2), .int .u8 (H 2 3), .int .u8 (H 2 4), .int .u8 (H 3 0), .int .u8 (H 3 1), .int .u8 (H 3 2), .int .u8 (H 3 3), .int .u8 (H 3 4), .int .u8 (H 4 0), .int .u8 (H 4 1), .int .u8 (H 4 2), .int .u8 (H 4 3), .int .u8 (H 4 4), tv] : List Value).length := by kernel_rfl
  have HC := Lib.hid hc
  have HU := Lib.hid hu
  have HD := Lib.hid hd
  have HI := Lib.hid hi
  unfold Cf.sizeVal at hP ⊢
  clear hc hu hd hi hq htv hts hH hM 
  go_enter Try.func4, Try.ntmps4
  go_wp2_with fail
  obtain ⟨W, hW⟩ : ∃ z, w.alloc (.cells #[.int .u8 m, .int .u8 (H 0 0), .int .u8 (H 0 1), .int .u8 (H 0 2), .int .u8 (H 0 3), .int .u8 (H 0 4), .int .u8 (H 1 0), .int .u8 (H 1 1), .int .u8 (H 1 2), .int .u8 (H 1 3), .int .u8 (H 1 4), .int .u8 (H 2 0), .int .u8 (H 2 1), .int .u8 (H 2 2), .int .u8 (H 2 3), .int .u8 (H 2 4), .int .u8 (H 3 0), .int .u8 (H 3 1), .int .u8 (H 3 2), .int .u8 (H 3 3), .int .u8 (H 3 4), .int .u8 (H 4 0), .int .u8 (H 4 1), .int .u8 (H 4 2), .int .u8 (H 4 3), .int .u8 (H 4 4), tv] 26) = z := ⟨_, rfl⟩
  rw [hW] at HC ⊢
  have hbW : Below w.heap.size w W := by rw [← hW]; exact (Below.refl _ _).alloc (Nat.le_refl _) _
  have hlW : w.heap.size < W.heap.size := by rw [← hW]; simp
  obtain ⟨sv0, hsv⟩ : ∃ x : Value, .agg #[.int .u8 m, .int .u8 (H 0 0), .int .u8 (H 0 1), .int .u8 (H 0 2), .int .u8 (H 0 3), .int .u8 (H 0 4), .int .u8 (H 1 0), .int .u8 (H 1 1), .int .u8 (H 1 2), .int .u8 (H 1 3), .int .u8 (H 1 4), .int .u8 (H 2 0), .int .u8 (H 2 1), .int .u8 (H 2 2), .int .u8 (H 2 3), .int .u8 (H 2 4), .int .u8 (H 3 0), .int .u8 (H 3 1), .int .u8 (H 3 2), .int .u8 (H 3 3), .int .u8 (H 3 4), .int .u8 (H 4 0), .int .u8 (H 4 1), .int .u8 (H 4 2), .int .u8 (H 4 3), .int .u8 (H 4 4), tv] = x := ⟨_, rfl⟩
  rw [hsv]
  clear hW
  refine (HA.out W).mono ?_
  rintro e w1 ⟨rfl, hb1⟩
  have HB1 := Lib.hid (hbW.trans (hb1.mono hbW.size))
  have HC1 : Hid (w1.rangeAt w.heap.size 0 [.int .u8 m, .int .u8 (H 0 0), .int .u8 (H 0 1), .int .u8 (H 0 2), .int .u8 (H 0 3), .int .u8 (H 0 4), .int .u8 (H 1 0), .int .u8 (H 1 1), .int .u8 (H 1 2), .int .u8 (H 1 3), .int .u8 (H 1 4), .int .u8 (H 2 0), .int .u8 (H 2 1), .int .u8 (H 2 2), .int .u8 (H 2 3), .int .u8 (H 2 4), .int .u8 (H 3 0), .int .u8 (H 3 1), .int .u8 (H 3 2), .int .u8 (H 3 3), .int .u8 (H 3 4), .int .u8 (H 4 0), .int .u8 (H 4 1), .int .u8 (H 4 2), .int .u8 (H 4 3), .int .u8 (H 4 4), tv]) := fun j u hj => (hb1.cell (p := ⟨w.heap.size, 0 + j, none⟩) hlW).trans (HC.out j u hj)
  clear hb1 hbW hlW HC hsv HA
  go_wp2_with (refine wpList_load_mid rfl 26 _ rfl w.heap.size 0 rfl [.int .u8 m, .int .u8 (H 0 0), .int .u8 (H 0 1), .int .u8 (H 0 2), .int .u8 (H 0 3), .int .u8 (H 0 4), .int .u8 (H 1 0), .int .u8 (H 1 1), .int .u8 (H 1 2), .int .u8 (H 1 3), .int .u8 (H 1 4), .int .u8 (H 2 0), .int .u8 (H 2 1), .int .u8 (H 2 2), .int .u8 (H 2 3), .int .u8 (H 2 4), .int .u8 (H 3 0), .int .u8 (H 3 1), .int .u8 (H 3 2), .int .u8 (H 3 3), .int .u8 (H 3 4), .int .u8 (H 4 0), .int .u8 (H 4 1), .int .u8 (H 4 2), .int .u8 (H 4 3), .int .u8 (H 4 4), tv] d HC1.out HU.out HD.out HI.out ?_)
  refine (hP.out w1 (HTV.out.below HB1.out)).mono ?_
  rintro e w2 ⟨n, vr, vm, vg, rfl, hn, hb2, hCF⟩
  have HB2 := Lib.hid (HB1.out.trans (hb2.mono HB1.out.size))
  have HCF := Lib.hid hCF
  obtain ⟨R, hR⟩ : ∃ x, Cf.sizeRs M H = x := ⟨_, rfl⟩
  obtain ⟨MS, hMS⟩ : ∃ x, Cf.sizeMs M ts = x := ⟨_, rfl⟩
  rw [hR] at HCF HLEN HSM
  rw [hMS] at HCF
  have hR5 : 2 ≤ R.length ∧ R.length ≤ 5 := by rw [HLEN.out]; omega
  clear hP hb2 hCF HC1 HU HD HI HTV hn hR hMS HLEN hM4 HB1
  have hT := Cf.layF_range R HSM.out R.length (Nat.le_refl _)
  rw [List.take_length] at hT
  obtain ⟨N, hN⟩ := Int.eq_ofNat_of_zero_le (show 0 ≤ (Cf.layF R).2 by omega)
  have hN0 : 32 ≤ N := by omega
  have hN1 : N ≤ 65536 := by omega
  have HN := Lib.hid hN
  clear hT hN
  go_wp2_with fail
  refine (fresh_any n vr vm vg R MS HSM.out (by omega) (by omega) N HN.out hN0 hN1 w2 HCF.out).mono ?_
  rintro e w3 ⟨t, mm, dd, gg, l, Y, rfl, hFr, hll, hln, hLg, hRd, hFK, hb3⟩
  have HFr := Lib.hid (show From w.heap.size t mm dd gg from ⟨Nat.le_trans HB2.out.size hFr.1, Nat.le_trans HB2.out.size hFr.2.1, Nat.le_trans HB2.out.size hFr.2.2.1, Nat.le_trans HB2.out.size hFr.2.2.2⟩)
  have HR3 := Lib.hid hRd
  have HCF3 := Lib.hid (HCF.out.below hb3)
  have HB3 := Lib.hid (HB2.out.trans (hb3.mono HB2.out.size))
  have hR0 : 0 < R.length := by omega
  have HFK := Lib.hid (hFK.done 0 hR0 (by omega))
  obtain ⟨g, hgi⟩ : ∃ g, (Cf.layF R).1[0]'(by rw [Cf.lay_len]; exact hR0) = g := ⟨_, rfl⟩
  rw [hgi] at HFK
  obtain ⟨B0, P0, M', DA, NB, hg, hbl, -⟩ := geo_gg R HSM.out (by omega) N HN.out 0 hR0 g hgi
  have HTb := Lib.hid ((HFK.out B0 P0 M' DA NB hg).1)
  have HG := Lib.hid hg
  have hN5 : NB ≤ 512 := hg.n512
  have hM4 : 4 ≤ M' := hg.m4
  have HRg := Lib.hid (fun W (hW : Cf.CF n W vr vm vg R MS) => creg_in n vr vm vg R MS 0 hR0 W hW)
  obtain ⟨r, hr⟩ : ∃ r, R[0] = r := ⟨_, rfl⟩
  rw [hr] at hbl HRg
  have HRC := Lib.hid (show r.cells[3]? = some (.int .i64 r.bl) from rfl)
  rw [hbl] at HRC
  have HRL := Lib.hid (show r.cells.length = 9 from rfl)
  have HRO := Lib.hid (reg_one r)
  have HRS := Lib.hid (sizeReg r)
  obtain ⟨rc, hrc⟩ : ∃ c, r.cells = c := ⟨_, rfl⟩
  rw [hrc] at HRg HRC HRL HRO HRS
  have HO := Lib.hid (gopen_in t mm dd gg n B0 P0 M' DA NB N 7000 Y vr vm vg R MS 0 hR0 g hgi hg w3 HCF3.out HR3.out)
  obtain ⟨d27, hu27, hd27⟩ := Try.desc27
  have HU27 := Lib.hid hu27
  have HD27 := Lib.hid hd27
  have HBL := Lib.hid hg.bl
  have HV0 : Hid (VF 3 4 = zpt) := by
    show VF 3 4 = zpt
    unfold VF
    rw [if_neg (by decide)]
  clear hFr hll hln hLg hRd hFK hb3 HCF HB2 HFK hgi hg hbl hr hrc HR3 hl HSM hu27 hd27
  go_wp2_with fail
  refine HO.out.mono ?_
  rintro e w4 ⟨q, p, rfl, hq, hp, hG, hb⟩
  have HG4 := Lib.hid hG
  have HB4 := Lib.hid (HB3.out.trans (hb.mono HB3.out.size))
  have HCF4 := Lib.hid (HCF3.out.below hb)
  clear hq hp hG hb HO HCF3 HB3
  go_wp2_with fail
  refine (HRg.out w4 HCF4.out).mono ?_
  rintro e w5 ⟨rfl, hb⟩
  have HG5 := Lib.hid (HG4.out.keep hb)
  have HB5 := Lib.hid (HB4.out.trans (hb.mono HB4.out.size))
  clear hb HG4 HB4 HCF4 HRg
  go_upto_region 7 with (first | (refine wpList_alloc_list (w := w5) rfl 40 rfl Cf.zeroRg.cells Try.zeroReg ?_; intro w6 G6 hb6 hz6; simp only [Act.put, List.getElem_toArray, List.getElem_cons_zero, List.getElem_cons_succ, List.setIfInBounds_toArray, List.set_cons_zero, List.set_cons_succ]; refine wpList_store_list rfl 40 (.tmp 13) (.tmp 38) rfl w5.heap.size Cf.zeroRg.cells rc rfl rfl G6.out (by rw [HRL.out]; rfl) HRS.out HRO.out ?_; intro w7 FR7 HK7; have HQ6 := Lib.hid hb6; clear hb6 hz6 G6))
  obtain ⟨bR, hbR⟩ : ∃ b, w5.heap.size = b := ⟨_, rfl⟩
  have HNR := Lib.hid (HG5.out.notin (Nat.le_of_eq hbR))
  have HB6 := Lib.hid (HB5.out.trans (HQ6.out.mono HB5.out.size))
  have HB7 := Lib.hid (HB6.out.trans (HK7.out.below HB5.out.size HB5.out.size HB6.out.size))
  have HG7 := Lib.hid ((HG5.out.keep HQ6.out).kp HK7.out (HG5.out.notin (Nat.le_refl _)))
  rw [hbR] at FR7
  try rw [hbR]
  clear hbR HQ6 HK7 HB6 HB5 HG5
  by_cases h1 : sz < 1
  · have HML := Lib.hid (fun (W : World) (_ : W = w7) => glink_size q sz bk (.inl h1) W)
    go_wp2_with fail
    refine (HML.out w7 rfl).mono ?_
    rintro e wz ⟨rfl, hwz⟩
    rw [hwz]
    clear hwz
    have c3 := FR7.out.c 3 _ HRC.out
    go_wp2_with fail
    go_ret
    exact ⟨rfl, HB7.out⟩
  · by_cases h2 : 60 < sz
    · have HML := Lib.hid (fun (W : World) (_ : W = w7) => glink_size q sz bk (.inr h2) W)
      go_wp2_with fail
      refine (HML.out w7 rfl).mono ?_
      rintro e wz ⟨rfl, hwz⟩
      rw [hwz]
      clear hwz
      have c3 := FR7.out.c 3 _ HRC.out
      go_wp2_with fail
      go_ret
      exact ⟨rfl, HB7.out⟩
    · have s0 : 1 ≤ sz := by omega
      have s1 : sz ≤ 60 := by omega
      by_cases h3 : bk < 1
      · have HML := Lib.hid (fun (W : World) (hW : W = w7) => glink_block q t p 0 g sz bk s0 s1 (by omega) W (by rw [hW]; exact HG7.out.gb))
        go_wp2_with fail
        refine (HML.out w7 rfl).mono ?_
        rintro e wz ⟨rfl, hwz⟩
        rw [hwz]
        clear hwz
        have c3 := FR7.out.c 3 _ HRC.out
        go_wp2_with fail
        go_ret
        exact ⟨rfl, HB7.out⟩
      · by_cases h4 : (NB : Int) < bk
        · have HML := Lib.hid (fun (W : World) (hW : W = w7) => glink_block q t p 0 g sz bk s0 s1 (by have := HBL.out; omega) W (by rw [hW]; exact HG7.out.gb))
          go_wp2_with fail
          refine (HML.out w7 rfl).mono ?_
          rintro e wz ⟨rfl, hwz⟩
          rw [hwz]
          clear hwz
          have c3 := FR7.out.c 3 _ HRC.out
          go_wp2_with fail
          go_ret
          exact ⟨rfl, HB7.out⟩
        · have k0 : 1 ≤ bk := by omega
          have k1 : bk ≤ NB := by omega
          have k5 : bk ≤ 512 := by omega
          have HML := Lib.hid (glink_in (ln := 0) q p t mm dd gg 0 B0 P0 M' DA NB N 7000 g Y (VF 3) sz bk s0 s1 k0 k1 4 (by decide) hM4 (by rw [HV0.out]; rfl) (fun j j1 j4 => by
            have : j = 1 ∨ j = 2 ∨ j = 3 := by omega
            rcases this with rfl | rfl | rfl <;> decide) 1 (by rw [HV0.out]; rfl) (by decide) (by decide) (by decide) (by decide) HTb.out HG.out w7 HG7.out)
          have HTw := Lib.hid (HTb.out.wr 4 (by decide) hM4 (setG (lnk sz bk) 1) (lnkG_ok sz bk (by omega) s1 (by omega) (by omega)) (setG_code 1 (show (0 : Int) < 1 by decide) (lnk_mbl sz bk s0 s1)))
          obtain ⟨Y1, hY1⟩ : ∃ Z, tabW P0 4 (setG (lnk sz bk) 1) Y = Z := ⟨_, rfl⟩
          rw [hY1] at HML HTw
          have HEq := Lib.hid (fun W => eq27 (setG (lnk sz bk) 1) (setG (lnk sz bk) 1) (lnkG_ok sz bk (by omega) s1 (by omega) (by omega)) (lnkG_ok sz bk (by omega) s1 (by omega) (by omega)) W)
          rw [eqb_same] at HEq
          clear hY1
          go_wp2_with fail
          refine HML.out.mono ?_
          rintro e w8 ⟨rfl, hG, hk⟩
          have HG8 := Lib.hid hG
          have HB8 := Lib.hid (hk.after HB7.out HFr.out HB7.out.size)
          have FR8 := Lib.hid (FR7.out.kf hk (fun h => HNR.out (by simp at h ⊢; omega)))
          have c3 := FR8.out.c 3 _ HRC.out
          clear hG hk HML HG7 HB7 FR7
          have HNd := Lib.hid (gnode_in q p t mm dd gg 0 B0 P0 M' DA NB N (7000 + 200) g Y1 (vput 4 (setG (lnk sz bk) 1) (VF 3)) 4 (by decide) hM4 (by decide) HTw.out HG.out w8 HG8.out)
          rw [vput_at] at HNd
          go_wp2_with fail
          refine HNd.out.mono ?_
          rintro e w9 ⟨rfl, hG, hk⟩
          have HB9 := Lib.hid (hk.after HB8.out HFr.out HB8.out.size)
          clear hG hk HNd HG8 HB8 c3 HTw FR8
          go_upto_region 11 with (first | (refine wpList_alloc_list (w := w9) rfl 64 rfl (ndc zpt) Try.zero27 ?_; intro u2 G2 hb2 hz2; simp only [Act.put, List.getElem_toArray, List.getElem_cons_zero, List.getElem_cons_succ, List.setIfInBounds_toArray, List.set_cons_zero, List.set_cons_succ]; refine wpList_store_list rfl 64 (.tmp 17) (.tmp 73) rfl w9.heap.size (ndc zpt) (ndc (setG (lnk sz bk) 1)) rfl rfl G2.out rfl (size27 _) (ndc_one _) ?_; intro u3 F3 HP3; have HQ2 := Lib.hid hb2; clear hb2 hz2 G2))
          obtain ⟨bN, hbN⟩ : ∃ b, w9.heap.size = b := ⟨_, rfl⟩
          have HBA := Lib.hid (HB9.out.trans (HQ2.out.mono HB9.out.size))
          have HBB := Lib.hid (HBA.out.trans (HP3.out.below HB9.out.size HB9.out.size HBA.out.size))
          rw [hbN] at F3
          try rw [hbN]
          clear hbN HQ2 HP3 HB9 HBA
          go_wp2_with (first | (refine wpList_yields _ (yieldsIf_load_mid (by kernel_rfl) 64 (.tmp 17) rfl bN 0 rfl (ndc (setG (lnk sz bk) 1)) d27 (fun W h => by rw [h]; exact F3.out.range0) HU27.out HD27.out (size27 _)) ?_) | (refine wpList_yields (.agg #[.int .u16 bk, .int .u16 0, .int .u16 0, .int .u16 0, .int .u16 0, .int .u16 0]) (yields_bld1 (by kernel_rfl) 62 0 (.tmp 90) rfl (.int .u16 bk) rfl _ (Try.build62 bk)) ?_) | (refine wpList_yields (.agg (ndc (setG (lnk sz bk) 1)).toArray) (yields_bld5 (by kernel_rfl) 64 0 1 2 3 4 _ _ _ (.tmp 88) (.tmp 91) rfl (.int .u8 4) (.int .u8 1) (.int .u16 1) (.int .u32 sz) (.agg #[.int .u16 bk, .int .u16 0, .int .u16 0, .int .u16 0, .int .u16 0, .int .u16 0]) rfl rfl rfl rfl rfl _ (Try.build27_five sz bk)) ?_) | (refine wpList_yields (.bool true) (yields_eql (by kernel_rfl) 64 64 _ _ rfl (ndc (setG (lnk sz bk) 1)).toArray (ndc (setG (lnk sz bk) 1)).toArray rfl rfl true Try.guard27 (fun W _ => HEq.out W)) ?_))
          go_ret
          exact ⟨rfl, HBB.out⟩
end Go.Proofs.Ytkkdbckaolhmnaa
