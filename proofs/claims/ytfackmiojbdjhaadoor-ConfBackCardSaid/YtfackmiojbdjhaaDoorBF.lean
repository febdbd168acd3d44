import Derived.Test.YtfackmiojbdjhaaDoorBD
import Derived.Test.YtfackmiojbdjhaaDoorMB
import Derived.Test.YtfackmiojbdjhaaDoorC39
import Derived.Shelf.Strings.MapGrows
import Derived.Deep.MidRow
/- Text. -/
namespace Go.Proofs.YtfackmiojbdjhaaDoor
set_option linter.unusedSimpArgs false
set_option linter.unusedVariables false
open Go.RowKit Go.Maps

theorem Tryd.desc34b : ∃ d, Tryd.prog.underlying 34 = some d ∧ d.isRow = true := ⟨_, Tryd.underlying34, rfl⟩
theorem Tryd.isize34b : (Tryd.prog.info? 34).map (·.size) = some 2 := by kernel_rfl
theorem lt_of_heap {w : World} {b : Nat} {o : Obj} (h : w.heap[b]? = some o) : b < w.heap.size := (Array.getElem?_eq_some_iff.1 h).1
def zzA (r : Rg) : Array Value := #[.int .i64 r.bl, .int .i64 r.nd, .int .i64 r.fr, .int .i64 r.pr, .int .i64 r.op]
theorem Tryd.idx115_0 (r : Rg) (w : World) : (Instr.index 115 (.agg (zzA r)) (.int .i64 0)).run Tryd.prog w = .ok (.int .i64 (numR r 0)) w := by kernel_rfl
theorem Tryd.idx115_1 (r : Rg) (w : World) : (Instr.index 115 (.agg (zzA r)) (.int .i64 1)).run Tryd.prog w = .ok (.int .i64 (numR r 1)) w := by kernel_rfl
theorem Tryd.idx115_2 (r : Rg) (w : World) : (Instr.index 115 (.agg (zzA r)) (.int .i64 2)).run Tryd.prog w = .ok (.int .i64 (numR r 2)) w := by kernel_rfl
theorem Tryd.idx115_3 (r : Rg) (w : World) : (Instr.index 115 (.agg (zzA r)) (.int .i64 3)).run Tryd.prog w = .ok (.int .i64 (numR r 3)) w := by kernel_rfl
theorem Tryd.idx115_4 (r : Rg) (w : World) : (Instr.index 115 (.agg (zzA r)) (.int .i64 4)).run Tryd.prog w = .ok (.int .i64 (numR r 4)) w := by kernel_rfl
theorem Tryd.idx115 (r : Rg) (i : Nat) (hi : i < 5) (w : World) : (Instr.index 115 (.agg (zzA r)) (.int .i64 i)).run Tryd.prog w = .ok (.int .i64 (numR r i)) w := by
  rcases (show i = 0 ∨ i = 1 ∨ i = 2 ∨ i = 3 ∨ i = 4 by omega) with rfl | rfl | rfl | rfl | rfl
  · exact Tryd.idx115_0 r w
  · exact Tryd.idx115_1 r w
  · exact Tryd.idx115_2 r w
  · exact Tryd.idx115_3 r w
  · exact Tryd.idx115_4 r w

set_option maxHeartbeats 40000000 in
set_option maxRecDepth 200000 in
theorem ctext_any (n : Nat) (vr vm vg : Value) (rs : List Rg) (ms : List (Int × Int)) (hE : newE rs ms = 0) (hok : ∀ r ∈ rs, r.ok) (hlow : ∀ r ∈ rs, Low r) (hm100 : ∀ m ∈ ms, m.2 < 100) (hml : ms.length ≤ 5000) (w : World) (h : CF n w vr vm vg rs ms) (hG : Gl w) :
    Calls Tryd.prog 15 #[.pointer (some ⟨n + 3, 0, none⟩)] w fun e w' => e = .returned (.string (confT rs ms)) ∧ Below w.heap.size w w' := by
  have hg := good_of hE hok
  have hm := goodM_of hE hok
  have HTR := Lib.hid (txR_len hg hlow)
  have HTM := Lib.hid (txM_len hg hlow (fun m h => ⟨hm m h, hm100 m h⟩))
  obtain ⟨h1, h64, -⟩ := newE_zero hE
  have lt : n + 4 ≤ w.heap.size := h.cb.lt
  obtain ⟨pb, off, cap, hvr, hpb, hmx, hrow⟩ := (regs_of_row h.row).row (by omega)
  subst hvr
  have hmks := mks_of_row rfl h.rm
  obtain ⟨am, cm, hvm⟩ := hmks.form
  subst hvm
  have HMks := Lib.hid hmks
  have hgl := hG.lt
  have c0 := h.cb.c0
  have c1 := h.cb.c1
  obtain ⟨b, hbE⟩ : ∃ x, w.heap.size = x := ⟨_, rfl⟩
  have HBE := Lib.hid hbE
  have HC0 : Hid (∀ W, Below b w W → W.cell? ⟨n + 3, 0, none⟩ = some (.slice (some ⟨pb, off, none⟩) rs.length cap)) := Lib.hid (fun W hb => (hb.cell (p := ⟨n + 3, 0, none⟩) (by simp only; omega)).trans c0)
  have HC1 : Hid (∀ W, Below b w W → W.cell? ⟨n + 3, 1, none⟩ = some (.slice am ms.length cm)) := Lib.hid (fun W hb => (hb.cell (p := ⟨n + 3, 1, none⟩) (by simp only; omega)).trans c1)
  have HKW : Hid (∀ W, Below b w W → ∀ i, i < 5 → W.cell? ⟨0, i, none⟩ = some (.string (kw i))) := Lib.hid (fun W hb i hi => (hb.cell (p := ⟨0, i, none⟩) (by simp only; omega)).trans (hG.keys i hi))
  have HNM : Hid (∀ W, Below b w W → ∀ c (hc : c < rs.length), W.cell? ⟨pb, off + c * 9, none⟩ = some (.string rs[c].nm)) := Lib.hid (fun W hb c hc => (hb.cell (p := ⟨pb, off + c * 9, none⟩) (by simp only; omega)).trans (hrow.k0 c hc))
  have HRG : Hid (∀ W, Below b w W → ∀ k (hk : k < rs.length), W.rangeAt pb (off + k * 9) rs[k].cells) := Lib.hid (fun W hb k hk j u hj => (hb.cell (p := ⟨pb, off + k * 9 + j, none⟩) (by simp only; omega)).trans (row_range hrow k hk j u hj))
  have HMR : Hid (∀ W, Below b w W → ∀ j (hj : j < ms.length), ∃ g o, am = some ⟨g, o, none⟩ ∧ W.rangeAt g (o + j * 2) [.int .u8 ms[j].1, .int .u16 ms[j].2]) := Lib.hid (fun W hb j hj => by
    obtain ⟨g, o, cq, hq, hgw, -, hr2⟩ := hmks.row (by omega)
    refine ⟨g, o, by injection hq, fun i u hu => ?_⟩
    refine (hb.cell (p := ⟨g, o + j * 2 + i, none⟩) (by simp only; omega)).trans ?_
    match i, hu with
    | 0, hu => obtain rfl := Option.some.inj hu; exact hr2.k0 j hj
    | 1, hu => obtain rfl := Option.some.inj hu; exact hr2.k1 j hj)
  have HG := Lib.hid hg
  have HM := Lib.hid hm
  have HLow := Lib.hid hlow
  have HM100 := Lib.hid hm100
  obtain ⟨d39, hu39, hd39⟩ := Tryd.desc39
  have HU39 := Lib.hid hu39
  have HD39 := Lib.hid hd39
  obtain ⟨d34, hu34, hd34⟩ := Tryd.desc34b
  have HU34 := Lib.hid hu34
  have HD34 := Lib.hid hd34
  have HT := Lib.hid (conf_txt rs ms)
  have hl0 : (0 : Int) ≤ rs.length := by omega
  have hl64 : (rs.length : Int) ≤ 64 := by omega
  have hm0 : (0 : Int) ≤ ms.length := by omega
  have hm5 : (ms.length : Int) ≤ 5000 := by omega
  have HML := Lib.hid hml
  have HN64 := Lib.hid h64
  clear hg hm hu39 hd39 hu34 hd34 hE hok hlow hm100 hml h1 h64 h hrow hmks hG hmx c0 c1 lt hpb hgl hbE
  have hcz := HC0.out w (Below.refl _ _)
  go_enter Tryd.func15, Tryd.ntmps15
  go_upto_region 4 with fail
  have hb2 : Below b w (w.alloc (.cells #[.pointer none, .slice none 0 0] 120)) := (Below.refl _ _).alloc (Nat.le_of_eq HBE.out.symm) _
  have hI2 : Lib.IsBuilderF 120 5 w.heap.size w.heap.size (Lib.byteCells (txR rs 0)) (w.alloc (.cells #[.pointer none, .slice none 0 0] 120)) := Lib.IsBuilderF.of (.inl ⟨Nat.le_refl _, .slice none 0 0, heap_alloc_new w _, World.ownsRow_nil _ _ _ _, fun h => by cases h⟩)
  have hl2 : w.heap.size < (w.alloc (.cells #[.pointer none, .slice none 0 0] 120)).heap.size := by simp
  obtain ⟨w2, hw2⟩ : ∃ x, w.alloc (.cells #[.pointer none, .slice none 0 0] 120) = x := ⟨_, rfl⟩
  rw [hw2] at hb2 hI2 hl2
  rw [HBE.out] at hI2 hl2
  try rw [hw2]
  try rw [HBE.out]
  have HI2 := Lib.hid hI2
  have HB2 := Lib.hid hb2
  have HL2 := Lib.hid hl2
  clear hcz hb2 hI2 hl2 hw2
  have c0 := HC0.out w2 HB2.out
  go_upto_region 5 with fail
  clear c0
  go_loopw [5, 6, 7, 17] (fun _ _ _ iv wr => ∃ k : Nat, k ≤ rs.length ∧ iv = .int .i64 k ∧ Hid (Lib.IsBuilderF 120 5 b b (Lib.byteCells (txR rs k)) wr) ∧ Hid (Below b w wr) ∧ Hid (b < wr.heap.size)) (fun _ _ _ iv _ => rs.length - (intOf iv).toNat)
  case atStart => exact ⟨0, Nat.zero_le _, rfl, HI2, HB2, HL2⟩
  case round =>
    obtain ⟨k, hk, rfl, HIwr, HBwr, HLwr⟩ := hrel
    clear HI2 HB2 HL2
    obtain ⟨wX, rfl⟩ : ∃ x, x = wr := ⟨wr, rfl⟩
    have HIwX := HIwr
    have HBwX := HBwr
    have HLwX := HLwr
    clear HIwr HBwr HLwr
    by_cases hlt : k < rs.length
    · have hlti : (k : Int) < rs.length := by omega
      have hk0 : (0 : Int) ≤ k := by omega
      have hk64 : (k : Int) ≤ 64 := by have := HN64.out; omega
      have hmem : rs[k] ∈ rs := List.getElem_mem hlt
      have hgo := HG.out _ hmem
      have hlo := HLow.out _ hmem
      have HRX := Lib.hid (HRG.out wX HBwX.out k hlt)
      have HSt := Lib.hid (txR_step rs k hlt)
      have hA0 := HTR.out k hk
      have hA1 := hdL_len hgo
      have hA2 := nusL_len hlo
      have hA3 := tlL_len hgo
      obtain ⟨c, hc, hcl, hcn, hnm⟩ := hgo.cl
      have hcN := Lib.hid (fun W hb => HNM.out W hb c hc)
      have hn8c := name_len hcn
      rw [by8_len, ← hnm] at hn8c
      have hn8 := name_len hgo.nm
      rw [by8_len] at hn8
      rw [← hnm] at hcN
      have hlv0 := hgo.lv0
      have hlv1 := hgo.lv1
      have hcs0 := hgo.cs0
      have hcs1 := hgo.cs1
      have hnum := hlo.num
      clear hgo hmem
      obtain ⟨r, hr⟩ : ∃ r, rs[k] = r := ⟨_, rfl⟩
      rw [hr] at hlo HRX HSt hA1 hA2 hA3 hcl hcN hn8 hn8c hlv0 hlv1 hcs0 hcs1 hnum
      clear hr hnm hcn
      have HS7 := Lib.hid (str_hd r)
      have HSN := Lib.hid (str_nu r)
      have HST := Lib.hid (str_tl rs r)
      have HIX := Lib.hid (Tryd.idx115 r)
      have hlow : 0 ≤ r.bl ∧ r.bl < 100 ∧ 0 ≤ r.nd ∧ r.nd < 100 ∧ 0 ≤ r.fr ∧ r.fr < 100 ∧ 0 ≤ r.pr ∧ r.pr < 100 ∧ 0 ≤ r.op ∧ r.op < 100 := ⟨hlo.bl.1, hlo.bl.2, hlo.nd.1, hlo.nd.2, hlo.fr.1, hlo.fr.2, hlo.pr.1, hlo.pr.2, hlo.op.1, hlo.op.2⟩
      obtain ⟨nmc, hnmc⟩ : ∃ x, nmAt rs r.cl = x := ⟨_, rfl⟩
      rw [hnmc] at hcN HST hn8c
      obtain ⟨HD, hHD⟩ : ∃ x, hdL r = x := ⟨_, rfl⟩
      obtain ⟨TL, hTL⟩ : ∃ x, tlL rs r = x := ⟨_, rfl⟩
      obtain ⟨NU, hNU⟩ : ∃ x, nuL r = x := ⟨_, rfl⟩
      obtain ⟨NS, hNS⟩ : ∃ x, nusL r = x := ⟨_, rfl⟩
      have HNZ : Hid (NS 0 = []) := Lib.hid (by rw [← hNS]; rfl)
      have HNS1 : Hid (∀ i, NS (i + 1) = NS i ++ NU i) := Lib.hid (fun i => by rw [← hNS, ← hNU]; rfl)
      have hnl : ∀ i, (NU i).length ≤ 11 := fun i => by rw [← hNU]; exact nuL_len hlo i
      obtain ⟨Zn, hZn⟩ : ∃ x, numR r = x := ⟨_, rfl⟩
      rw [hHD] at HSt HS7 hA1
      rw [hTL] at HSt HST hA3
      rw [hNS] at HSt hA2
      rw [hNU] at HSN
      rw [hZn] at HSN HIX hnum
      obtain ⟨A0, hA0E⟩ : ∃ x, txR rs k = x := ⟨_, rfl⟩
      rw [hA0E] at HSt hA0 HIwX
      clear hlo hNS hNU hHD hTL hnmc hZn hA0E
      obtain ⟨nm, lv, cs, bl, nd, fr, pr, op, cl⟩ := r
      simp only at hcl hlv0 hlv1 hcs0 hcs1 hlow HS7 hn8
      have hx7 := txt_len lv (catL cs 16) hlv0 (by omega) (fun z hz => catL_mem cs 16 z hz)
      have hx7b := catL_len cs 16
      obtain ⟨X7, hX7⟩ : ∃ x, (⟨(txt lv (catL cs 16)).toArray⟩ : ByteArray) = x := ⟨_, rfl⟩
      have hx7s : X7.size ≤ 67 := by
        rw [← hX7]
        show (txt lv (catL cs 16)).toArray.size ≤ 67
        rw [List.size_toArray]; omega
      rw [hX7] at HS7
      clear hx7 hx7b
      simp only [zzA] at HIX
      change Hid (wX.rangeAt pb (off + k * 9) [.string nm, .int .u8 lv, .int .u16 cs, .int .i64 bl, .int .i64 nd, .int .i64 fr, .int .i64 pr, .int .i64 op, .int .i64 cl]) at HRX
      subst hcl
      have hci : (c : Int) < rs.length := by omega
      have HNL := Lib.hid hnl
      have HNum := Lib.hid hnum
      have HLen : Hid (A0.length ≤ 11000 ∧ HD.length ≤ 90 ∧ (∀ i, (NS i).length ≤ 11 * i) ∧ TL.length ≤ 16) := Lib.hid ⟨by have := HN64.out; omega, hA1, hA2, hA3⟩
      clear hA0 hA1 hA2 hA3 hnl hnum
      go_upto_region 7 with (refine wpList_load_mid rfl 39 _ rfl pb (off + k * 9) rfl [.string nm, .int .u8 lv, .int .u16 cs, .int .i64 bl, .int .i64 nd, .int .i64 fr, .int .i64 pr, .int .i64 op, .int .i64 c] d39 HRX.out HU39.out HD39.out Tryd.isize39 ?_)
      have hbA : Below wX.heap.size wX (wX.alloc (.cells #[.string nm, .int .u8 lv, .int .u16 cs, .int .i64 bl, .int .i64 nd, .int .i64 fr, .int .i64 pr, .int .i64 op, .int .i64 c] 39)) := (Below.refl _ _).alloc (Nat.le_refl _) _
      have hIA := HIwX.out.below hbA
      have hBA := HBwX.out.trans (hbA.mono (Nat.le_of_lt HLwX.out))
      have hLA : b < (wX.alloc (.cells #[.string nm, .int .u8 lv, .int .u16 cs, .int .i64 bl, .int .i64 nd, .int .i64 fr, .int .i64 pr, .int .i64 op, .int .i64 c] 39)).heap.size := Nat.lt_of_lt_of_le HLwX.out hbA.size
      have hAA := heap_alloc_new wX (.cells #[.string nm, .int .u8 lv, .int .u16 cs, .int .i64 bl, .int .i64 nd, .int .i64 fr, .int .i64 pr, .int .i64 op, .int .i64 c] 39)
      have hBR : wX.heap.size < (wX.alloc (.cells #[.string nm, .int .u8 lv, .int .u16 cs, .int .i64 bl, .int .i64 nd, .int .i64 fr, .int .i64 pr, .int .i64 op, .int .i64 c] 39)).heap.size := by simp
      have hBP := HLwX.out
      obtain ⟨bR, hbR⟩ : ∃ x, wX.heap.size = x := ⟨_, rfl⟩
      rw [hbR] at hAA hBR hBP
      obtain ⟨wA, hwA⟩ : ∃ x, wX.alloc (.cells #[.string nm, .int .u8 lv, .int .u16 cs, .int .i64 bl, .int .i64 nd, .int .i64 fr, .int .i64 pr, .int .i64 op, .int .i64 c] 39) = x := ⟨_, rfl⟩
      rw [hwA] at hIA hBA hLA hAA hBR
      try rw [hwA]
      try rw [hbR]
      have HIwA := Lib.hid hIA
      have HBwA := Lib.hid hBA
      have HLwA := Lib.hid hLA
      have HAwA := Lib.hid hAA
      have HBRwA := Lib.hid hBR
      have HBP := Lib.hid hBP
      clear hIA hBA hLA hAA hBR hBP hbA hbR hwA HIwX HBwX HLwX HRX
      have s0 := cell_regrown (Lib.cell_of_heap HAwA.out 0 : wA.cell? ⟨bR, 0, none⟩ = some (.string nm))
      have s1 := cell_regrown (Lib.cell_of_heap HAwA.out 1 : wA.cell? ⟨bR, 1, none⟩ = some (.int .u8 lv))
      have s2 := cell_regrown (Lib.cell_of_heap HAwA.out 2 : wA.cell? ⟨bR, 2, none⟩ = some (.int .u16 cs))
      have q1 := fun d os => Calls.regrown_of (text_any lv cs (Sort.grow (redrawn wA d) os) hcs0 hcs1 hlv0 (by omega) (fun W _ => itoa_small lv W hlv0 (by omega)))
      simp only [hX7] at q1
      clear hX7
      refine wp_region_split (C := fun w' => ∃ p : Regrown, w' = Sort.grow (redrawn wA p.d) p.os) 8 (by kernel_rfl) (of_decide_eq_true (by kernel_rfl)) (by kernel_rfl) (by kernel_rfl) (by kernel_rfl) (regrown_of_below ((Below.refl _ _).drew)) ?_
      simp only [List.take_succ_cons, List.take_zero]
      repeat (first | go_big_quiet_step (with_reducible exact q1 _ _) | quiet_step (with_reducible exact q1 _ _))
      refine wpQuiet_nil ?_
      intro wy hw'
      obtain ⟨⟨dq, osq⟩, rfl⟩ := hw'
      have hby := below_regrown wA dq osq
      have hIy := HIwA.out.below hby
      have hAy := (hby.block bR (by have := HBRwA.out; omega)).trans HAwA.out
      have hBy := HBwA.out.trans (hby.mono (Nat.le_of_lt HLwA.out))
      have hLy : b < (Sort.grow (redrawn wA dq) osq).heap.size := Nat.lt_of_lt_of_le HLwA.out hby.size
      obtain ⟨wy, hwyE⟩ : ∃ x, Sort.grow (redrawn wA dq) osq = x := ⟨_, rfl⟩
      rw [hwyE] at hIy hBy hLy hAy
      have HIy := Lib.hid hIy
      have HBy := Lib.hid hBy
      have HLy := Lib.hid hLy
      have HAy := Lib.hid hAy
      rw [hwyE]
      clear hwyE hby hIy hBy hLy hAy s0 s1 s2 q1
      refine wpAny_last 8 (by kernel_rfl) (by kernel_rfl) (wpOp_step0 rfl rfl (fun K hK => ?_))
      go_simp
      obtain ⟨Z, hZ⟩ : ∃ x, (((⟨#[108, 97, 98, 101, 108, 32]⟩ : ByteArray) ++ nm) ++ ⟨#[32]⟩) ++ X7 = x := ⟨_, rfl⟩
      have hZd : Z.data.toList = HD := by rw [← hZ]; exact HS7.out
      try rw [hZ]
      clear hZ
      refine (writestring_any b b (Lib.byteCells (A0)) Z wy HIy.out (by rw [Lib.byteCells_length, ← by8_len]; unfold by8; rw [hZd]; (try simp only [List.length_append]); have := HLen.out; omega) (Nat.le_of_lt HLy.out)).mono ?_
      rintro e w4 ⟨rfl, hI, hbw, hkw⟩
      rw [cells_s, hZd] at hI
      have HIw4 : Hid (Lib.IsBuilderF 120 5 b b (Lib.byteCells (A0 ++ HD)) w4) := Lib.hid (.inr hI)
      have HBw4 : Hid (Below b w w4) := Lib.hid (HBy.out.trans hbw)
      have HLw4 : Hid (b < w4.heap.size) := Lib.hid (Nat.lt_of_lt_of_le HLy.out hbw.size)
      have HAw4 := Lib.hid (hkw bR _ HAy.out (by have := HBP.out; simp; omega) (fun c fz h => by injection h with h1 h2; exact absurd h2 (by decide)))
      have HBRw4 : Hid (bR < w4.heap.size) := Lib.hid (lt_of_heap HAw4.out)
      refine hK _ _ ?_
      clear hI hbw hkw hK K hZd HIy HBy HLy HAy
      clear HIwA HBwA HLwA HAwA HBRwA HS7
      have e3 : w4.cell? ⟨bR, 3, none⟩ = some (.int .i64 bl) := Lib.cell_of_heap HAw4.out 3
      have e4 : w4.cell? ⟨bR, 4, none⟩ = some (.int .i64 nd) := Lib.cell_of_heap HAw4.out 4
      have e5 : w4.cell? ⟨bR, 5, none⟩ = some (.int .i64 fr) := Lib.cell_of_heap HAw4.out 5
      have e6 : w4.cell? ⟨bR, 6, none⟩ = some (.int .i64 pr) := Lib.cell_of_heap HAw4.out 6
      have e7 : w4.cell? ⟨bR, 7, none⟩ = some (.int .i64 op) := Lib.cell_of_heap HAw4.out 7
      go_upto_region 9 with fail
      clear e3 e4 e5 e6 e7
      obtain ⟨ZA, hZA⟩ : ∃ x, (#[.int .i64 bl, .int .i64 nd, .int .i64 fr, .int .i64 pr, .int .i64 op] : Array Value) = x := ⟨_, rfl⟩
      rw [hZA] at HIX ⊢
      clear hZA
      rw [← List.append_nil (A0 ++ HD), ← HNZ.out] at HIw4
      go_loopw [6, 7, 41] (fun _ _ iv wr => ∃ i : Nat, i ≤ 5 ∧ iv = .int .i64 i ∧ Hid (Lib.IsBuilderF 120 5 b b (Lib.byteCells (A0 ++ HD ++ NS i)) wr) ∧ Hid (Below b w wr) ∧ Hid (b < wr.heap.size) ∧ Hid (wr.heap[bR]? = some (.cells #[.string nm, .int .u8 lv, .int .u16 cs, .int .i64 bl, .int .i64 nd, .int .i64 fr, .int .i64 pr, .int .i64 op, .int .i64 c] 39)) ∧ Hid (bR < wr.heap.size)) (fun _ _ iv _ => 5 - (intOf iv).toNat)
      case atStart => exact ⟨0, Nat.zero_le _, rfl, HIw4, HBw4, HLw4, HAw4, HBRw4⟩
      case round =>
        obtain ⟨i, hi, rfl, HIwJ, HBwJ, HLwJ, HAwJ, HBRwJ⟩ := hrel
        clear HIw4 HBw4 HLw4 HAw4 HBRw4
        obtain ⟨wJ, rfl⟩ : ∃ x, x = wr := ⟨wr, rfl⟩
        by_cases hi5 : i < 5
        · have hi5i : (i : Int) < 5 := by omega
          have hi0 : (0 : Int) ≤ i := by omega
          have hix := HIX.out i hi5
          have hsn := HSN.out i
          have hnum := HNum.out i
          have hnl := HNL.out i
          have HNk := Lib.hid (HNS1.out i)
          have HLe := HLen.out
          have hnsl := HLen.out.2.2.1 i
          have hkw := cell_regrown (HKW.out wJ HBwJ.out i hi5)
          have hkz := kw_len i
          rw [by8_len] at hkz
          obtain ⟨kwi, hkwi⟩ : ∃ x, kw i = x := ⟨_, rfl⟩
          rw [hkwi] at hkw hsn hkz
          obtain ⟨z, hz⟩ : ∃ x, Zn i = x := ⟨_, rfl⟩
          rw [hz] at hsn hnum hix
          obtain ⟨NUi, hNUi⟩ : ∃ x, NU i = x := ⟨_, rfl⟩
          rw [hNUi] at HNk hsn hnl
          obtain ⟨NSi, hNSi⟩ : ∃ x, NS i = x := ⟨_, rfl⟩
          rw [hNSi] at HNk hnsl HIwJ
          obtain ⟨hz0, hz1⟩ := hnum
          have HLen : Hid (A0.length ≤ 11000 ∧ HD.length ≤ 90 ∧ NSi.length ≤ 55 ∧ NUi.length ≤ 11) := Lib.hid ⟨HLe.1, HLe.2.1, by omega, hnl⟩
          have hxz := itoa_len z hz0 (by omega)
          obtain ⟨X9, hX9⟩ : ∃ x, (⟨(Lib.itoa z).toArray⟩ : ByteArray) = x := ⟨_, rfl⟩
          have hx9s : X9.size ≤ 3 := by
            rw [← hX9]
            show (Lib.itoa z).toArray.size ≤ 3
            rw [List.size_toArray]; exact hxz
          rw [hX9] at hsn
          have HSn := Lib.hid hsn
          clear hxz hkwi hz hNUi hNSi HLe hnsl hnl hsn HIX HSN HNum HNL
          go_upto_region 11 with fail
          clear hix
          have q1 := fun d os => Calls.regrown_of (itoa_small z (Sort.grow (redrawn wJ d) os) hz0 hz1)
          simp only [hX9] at q1
          clear hX9
          refine wp_region_split (C := fun w' => ∃ p : Regrown, w' = Sort.grow (redrawn wJ p.d) p.os) 8 (by kernel_rfl) (of_decide_eq_true (by kernel_rfl)) (by kernel_rfl) (by kernel_rfl) (by kernel_rfl) (regrown_of_below ((Below.refl _ _).drew)) ?_
          simp only [List.take_succ_cons, List.take_zero]
          repeat (first | go_big_quiet_step (with_reducible exact q1 _ _) | quiet_step (with_reducible exact q1 _ _))
          refine wpQuiet_nil ?_
          intro wy hw'
          obtain ⟨⟨dq, osq⟩, rfl⟩ := hw'
          have hby := below_regrown wJ dq osq
          have hIy := HIwJ.out.below hby
          have hAy := (hby.block bR (by have := HBRwJ.out; omega)).trans HAwJ.out
          have hBy := HBwJ.out.trans (hby.mono (Nat.le_of_lt HLwJ.out))
          have hLy : b < (Sort.grow (redrawn wJ dq) osq).heap.size := Nat.lt_of_lt_of_le HLwJ.out hby.size
          obtain ⟨wy, hwyE⟩ : ∃ x, Sort.grow (redrawn wJ dq) osq = x := ⟨_, rfl⟩
          rw [hwyE] at hIy hBy hLy hAy
          have HIy := Lib.hid hIy
          have HBy := Lib.hid hBy
          have HLy := Lib.hid hLy
          have HAy := Lib.hid hAy
          rw [hwyE]
          clear hwyE hby hIy hBy hLy hAy hkw q1
          refine wpAny_last 8 (by kernel_rfl) (by kernel_rfl) (wpOp_step0 rfl rfl (fun K hK => ?_))
          go_simp
          obtain ⟨Z, hZ⟩ : ∃ x, (((⟨#[32]⟩ : ByteArray) ++ kwi) ++ ⟨#[32]⟩) ++ X9 = x := ⟨_, rfl⟩
          have hZd : Z.data.toList = NUi := by rw [← hZ]; exact HSn.out
          try rw [hZ]
          clear hZ
          refine (writestring_any b b (Lib.byteCells (A0 ++ HD ++ NSi)) Z wy HIy.out (by rw [Lib.byteCells_length, ← by8_len]; unfold by8; rw [hZd]; (try simp only [List.length_append]); have := HLen.out; omega) (Nat.le_of_lt HLy.out)).mono ?_
          rintro e w5 ⟨rfl, hI, hbw, hkw⟩
          rw [cells_s, hZd] at hI
          have HIw5 : Hid (Lib.IsBuilderF 120 5 b b (Lib.byteCells (A0 ++ HD ++ NSi ++ NUi)) w5) := Lib.hid (.inr hI)
          have HBw5 : Hid (Below b w w5) := Lib.hid (HBy.out.trans hbw)
          have HLw5 : Hid (b < w5.heap.size) := Lib.hid (Nat.lt_of_lt_of_le HLy.out hbw.size)
          have HAw5 := Lib.hid (hkw bR _ HAy.out (by have := HBP.out; simp; omega) (fun c fz h => by injection h with h1 h2; exact absurd h2 (by decide)))
          have HBRw5 : Hid (bR < w5.heap.size) := Lib.hid (lt_of_heap HAw5.out)
          refine hK _ _ ?_
          clear hI hbw hkw hK K hZd HIy HBy HLy HAy
          clear HIwJ HBwJ HLwJ HAwJ HBRwJ
          go_wp2_with fail
          go_roundw
          case rel => exact ⟨i + 1, hi5, by go_num, Lib.hid (by rw [HNk.out, ← List.append_assoc]; exact HIw5.out), HBw5, HLw5, HAw5, HBRw5⟩
          case measure => (simp [intOf]; try omega)
        · obtain rfl : i = 5 := by omega
          have HLe := HLen.out
          have hn5 := HLen.out.2.2.1 5
          have HLen : Hid (A0.length ≤ 11000 ∧ HD.length ≤ 90 ∧ (NS 5).length ≤ 55 ∧ TL.length ≤ 16) := Lib.hid ⟨HLe.1, HLe.2.1, hn5, HLe.2.2.2⟩
          clear HLe hn5 hi5 hi HIX HSN HNum HNL
          have s0 := cell_regrown (HC0.out wJ HBwJ.out)
          have s8 := cell_regrown (Lib.cell_of_heap HAwJ.out 8 : wJ.cell? ⟨bR, 8, none⟩ = some (.int .i64 c))
          have sN := cell_regrown (hcN.out wJ HBwJ.out)
          have hc0 : (0 : Int) ≤ c := by omega
          go_upto_region 13 with fail
          refine wp_region_split (C := fun w' => ∃ p : Regrown, w' = Sort.grow (redrawn wJ p.d) p.os) 11 (by kernel_rfl) (of_decide_eq_true (by kernel_rfl)) (by kernel_rfl) (by kernel_rfl) (by kernel_rfl) (regrown_of_below ((Below.refl _ _).drew)) ?_
          simp only [List.take_succ_cons, List.take_zero]
          repeat (first | go_big_quiet_step (fail) | quiet_step (fail))
          refine wpQuiet_nil ?_
          intro wy hw'
          obtain ⟨⟨dq, osq⟩, rfl⟩ := hw'
          have hby := below_regrown wJ dq osq
          have hIy := HIwJ.out.below hby
          have hAy := (hby.block bR (by have := HBRwJ.out; omega)).trans HAwJ.out
          have hBy := HBwJ.out.trans (hby.mono (Nat.le_of_lt HLwJ.out))
          have hLy : b < (Sort.grow (redrawn wJ dq) osq).heap.size := Nat.lt_of_lt_of_le HLwJ.out hby.size
          obtain ⟨wy, hwyE⟩ : ∃ x, Sort.grow (redrawn wJ dq) osq = x := ⟨_, rfl⟩
          rw [hwyE] at hIy hBy hLy hAy
          have HIy := Lib.hid hIy
          have HBy := Lib.hid hBy
          have HLy := Lib.hid hLy
          have HAy := Lib.hid hAy
          rw [hwyE]
          clear hwyE hby hIy hBy hLy hAy s0 s8 sN
          refine wpAny_last 11 (by kernel_rfl) (by kernel_rfl) (wpOp_step0 rfl rfl (fun K hK => ?_))
          go_simp
          obtain ⟨Z, hZ⟩ : ∃ x, ((⟨#[32, 99, 108, 101, 97, 114, 32]⟩ : ByteArray) ++ nmc) ++ ⟨#[10]⟩ = x := ⟨_, rfl⟩
          have hZd : Z.data.toList = TL := by rw [← hZ]; exact HST.out
          try rw [hZ]
          clear hZ
          refine (writestring_any b b (Lib.byteCells (A0 ++ HD ++ NS 5)) Z wy HIy.out (by rw [Lib.byteCells_length, ← by8_len]; unfold by8; rw [hZd]; (try simp only [List.length_append]); have := HLen.out; omega) (Nat.le_of_lt HLy.out)).mono ?_
          rintro e w6 ⟨rfl, hI, hbw, hkw⟩
          rw [cells_s, hZd] at hI
          have HIw6 : Hid (Lib.IsBuilderF 120 5 b b (Lib.byteCells (A0 ++ HD ++ NS 5 ++ TL)) w6) := Lib.hid (.inr hI)
          have HBw6 : Hid (Below b w w6) := Lib.hid (HBy.out.trans hbw)
          have HLw6 : Hid (b < w6.heap.size) := Lib.hid (Nat.lt_of_lt_of_le HLy.out hbw.size)
          have HAw6 := Lib.hid (hkw bR _ HAy.out (by have := HBP.out; simp; omega) (fun c fz h => by injection h with h1 h2; exact absurd h2 (by decide)))
          have HBRw6 : Hid (bR < w6.heap.size) := Lib.hid (lt_of_heap HAw6.out)
          refine hK _ _ ?_
          clear hI hbw hkw hK K hZd HIy HBy HLy HAy
          clear HIwJ HBwJ HLwJ HAwJ HBRwJ
          go_wp2_with fail
          go_roundw
          case rel => exact ⟨k + 1, hlt, by go_num, Lib.hid (by rw [HSt.out]; exact HIw6.out), HBw6, HLw6⟩
          case measure => (simp [intOf]; try omega)
    · obtain rfl : k = rs.length := by omega
      clear hlt hk
      have hI0 := HIwX.out
      rw [← txM_zero rs ms] at hI0
      have HI3 := Lib.hid hI0
      clear hI0 HIwX
      have c1 := HC1.out wX HBwX.out
      go_upto_region 16 with fail
      clear c1
      go_loopw [9, 73] (fun _ iv wr => ∃ j : Nat, j ≤ ms.length ∧ iv = .int .i64 j ∧ Hid (Lib.IsBuilderF 120 5 b b (Lib.byteCells (txM rs ms j)) wr) ∧ Hid (Below b w wr) ∧ Hid (b < wr.heap.size)) (fun _ iv _ => ms.length - (intOf iv).toNat)
      case atStart => exact ⟨0, Nat.zero_le _, rfl, HI3, HBwX, HLwX⟩
      case round =>
        obtain ⟨j, hj, rfl, HIwY, HBwY, HLwY⟩ := hrel
        clear HI3 HBwX HLwX
        obtain ⟨wY, rfl⟩ : ∃ x, x = wr := ⟨wr, rfl⟩
        by_cases hjl : j < ms.length
        · have hjli : (j : Int) < ms.length := by omega
          have hj0 : (0 : Int) ≤ j := by omega
          have hmem : ms[j] ∈ ms := List.getElem_mem hjl
          have hgm := HM.out _ hmem
          have hm1 := HM100.out _ hmem
          obtain ⟨mg, mo, rfl, hmr⟩ := HMR.out wY HBwY.out j hjl
          have HMX := Lib.hid hmr
          have HSt := Lib.hid (txM_step rs ms j hjl)
          have hA0 := HTM.out j hj
          have hA1 := mkL_len hgm hm1
          obtain ⟨c, hc, hcl, hcn, hnm⟩ := hgm.lab
          have hcN := Lib.hid (fun W hb => HNM.out W hb c hc)
          have hn8c := name_len hcn
          rw [by8_len, ← hnm] at hn8c
          rw [← hnm] at hcN
          have hnu := hgm.num
          clear hgm hmem hmr
          obtain ⟨m, hr⟩ : ∃ r, ms[j] = r := ⟨_, rfl⟩
          rw [hr] at HMX HSt hA1 hcl hcN hn8c hnu hm1
          clear hr hnm hcn
          have HSm := Lib.hid (str_mk rs m)
          obtain ⟨nmc, hnmc⟩ : ∃ x, nmAt rs m.1 = x := ⟨_, rfl⟩
          rw [hnmc] at hcN HSm hn8c
          obtain ⟨MK, hMK⟩ : ∃ x, mkL rs m = x := ⟨_, rfl⟩
          rw [hMK] at HSt HSm hA1
          obtain ⟨A0, hA0E⟩ : ∃ x, txM rs ms j = x := ⟨_, rfl⟩
          rw [hA0E] at HSt hA0 HIwY
          clear hnmc hMK hA0E
          obtain ⟨ml, mn⟩ := m
          simp only at hcl hnu hm1 HMX HSm
          subst hcl
          have hci : (c : Int) < rs.length := by omega
          have hc0 : (0 : Int) ≤ c := by omega
          obtain ⟨hn0, -⟩ := hnu
          have hxz := itoa_len mn hn0 (by omega)
          obtain ⟨X9, hX9⟩ : ∃ x, (⟨(Lib.itoa mn).toArray⟩ : ByteArray) = x := ⟨_, rfl⟩
          have hx9s : X9.size ≤ 3 := by
            rw [← hX9]
            show (Lib.itoa mn).toArray.size ≤ 3
            rw [List.size_toArray]; exact hxz
          rw [hX9] at HSm
          clear hxz
          have HLen : Hid (A0.length ≤ 106000 ∧ MK.length ≤ 19) := Lib.hid ⟨by have := HN64.out; have := HML.out; omega, hA1⟩
          clear hA0 hA1
          go_upto_region 18 with (refine wpList_load_mid rfl 34 _ rfl mg (mo + j * 2) rfl [.int .u8 c, .int .u16 mn] d34 HMX.out HU34.out HD34.out Tryd.isize34b ?_)
          have hbA : Below wY.heap.size wY (wY.alloc (.cells #[.int .u8 c, .int .u16 mn] 34)) := (Below.refl _ _).alloc (Nat.le_refl _) _
          have hIA := HIwY.out.below hbA
          have hBA := HBwY.out.trans (hbA.mono (Nat.le_of_lt HLwY.out))
          have hLA : b < (wY.alloc (.cells #[.int .u8 c, .int .u16 mn] 34)).heap.size := Nat.lt_of_lt_of_le HLwY.out hbA.size
          have hAA := heap_alloc_new wY (.cells #[.int .u8 c, .int .u16 mn] 34)
          obtain ⟨bR, hbR⟩ : ∃ x, wY.heap.size = x := ⟨_, rfl⟩
          rw [hbR] at hAA
          obtain ⟨wA, hwA⟩ : ∃ x, wY.alloc (.cells #[.int .u8 c, .int .u16 mn] 34) = x := ⟨_, rfl⟩
          rw [hwA] at hIA hBA hLA hAA
          try rw [hwA]
          try rw [hbR]
          have HIwA := Lib.hid hIA
          have HBwA := Lib.hid hBA
          have HLwA := Lib.hid hLA
          have HAwA := Lib.hid hAA
          clear hIA hBA hLA hAA hbA hbR hwA HIwY HBwY HLwY HMX
          have s0 := cell_regrown (HC0.out wA HBwA.out)
          have s1 := cell_regrown (Lib.cell_of_heap HAwA.out 0 : wA.cell? ⟨bR, 0, none⟩ = some (.int .u8 c))
          have s2 := cell_regrown (Lib.cell_of_heap HAwA.out 1 : wA.cell? ⟨bR, 1, none⟩ = some (.int .u16 mn))
          have sN := cell_regrown (hcN.out wA HBwA.out)
          have q1 := fun d os => Calls.regrown_of (itoa_small mn (Sort.grow (redrawn wA d) os) hn0 hm1)
          simp only [hX9] at q1
          clear hX9
          refine wp_region_split (C := fun w' => ∃ p : Regrown, w' = Sort.grow (redrawn wA p.d) p.os) 17 (by kernel_rfl) (of_decide_eq_true (by kernel_rfl)) (by kernel_rfl) (by kernel_rfl) (by kernel_rfl) (regrown_of_below ((Below.refl _ _).drew)) ?_
          simp only [List.take_succ_cons, List.take_zero]
          repeat (first | go_big_quiet_step (with_reducible exact q1 _ _) | quiet_step (with_reducible exact q1 _ _))
          refine wpQuiet_nil ?_
          intro wy hw'
          obtain ⟨⟨dq, osq⟩, rfl⟩ := hw'
          have hby := below_regrown wA dq osq
          have hIy := HIwA.out.below hby
          have hBy := HBwA.out.trans (hby.mono (Nat.le_of_lt HLwA.out))
          have hLy : b < (Sort.grow (redrawn wA dq) osq).heap.size := Nat.lt_of_lt_of_le HLwA.out hby.size
          obtain ⟨wy, hwyE⟩ : ∃ x, Sort.grow (redrawn wA dq) osq = x := ⟨_, rfl⟩
          rw [hwyE] at hIy hBy hLy
          have HIy := Lib.hid hIy
          have HBy := Lib.hid hBy
          have HLy := Lib.hid hLy
          rw [hwyE]
          clear hwyE hby hIy hBy hLy s0 s1 s2 sN q1
          refine wpAny_last 17 (by kernel_rfl) (by kernel_rfl) (wpOp_step0 rfl rfl (fun K hK => ?_))
          go_simp
          obtain ⟨Z, hZ⟩ : ∃ x, ((((⟨#[116, 114, 117, 115, 116, 32]⟩ : ByteArray) ++ nmc) ++ ⟨#[32]⟩) ++ X9) ++ ⟨#[10]⟩ = x := ⟨_, rfl⟩
          have hZd : Z.data.toList = MK := by rw [← hZ]; exact HSm.out
          try rw [hZ]
          clear hZ
          refine (writestring_any b b (Lib.byteCells (A0)) Z wy HIy.out (by rw [Lib.byteCells_length, ← by8_len]; unfold by8; rw [hZd]; (try simp only [List.length_append]); have := HLen.out; omega) (Nat.le_of_lt HLy.out)).mono ?_
          rintro e w7 ⟨rfl, hI, hbw, hkw⟩
          rw [cells_s, hZd] at hI
          have HIw7 : Hid (Lib.IsBuilderF 120 5 b b (Lib.byteCells (A0 ++ MK)) w7) := Lib.hid (.inr hI)
          have HBw7 : Hid (Below b w w7) := Lib.hid (HBy.out.trans hbw)
          have HLw7 : Hid (b < w7.heap.size) := Lib.hid (Nat.lt_of_lt_of_le HLy.out hbw.size)
          refine hK _ _ ?_
          clear hI hbw hkw hK K hZd HIy HBy HLy
          clear HIwA HBwA HLwA HAwA
          go_wp2_with fail
          go_roundw
          case rel => exact ⟨j + 1, hjl, by go_num, Lib.hid (by rw [HSt.out]; exact HIw7.out), HBw7, HLw7⟩
          case measure => (simp [intOf]; try omega)
        · obtain rfl : j = ms.length := by omega
          clear hjl hj
          go_upto_region 20 with fail
          go_wp2_with fail
          refine (Tryd.Builder_String_any_f b b (txM rs ms ms.length) wY HIwY.out (Nat.le_of_lt HLwY.out)).mono ?_
          rintro e w9 ⟨rfl, -, hb9⟩
          have HB9 := Lib.hid (HBwY.out.trans hb9)
          clear hb9
          go_wp2_with fail
          go_ret
          exact ⟨by rw [HT.out]; rfl, by rw [HBE.out]; exact HB9.out⟩
end Go.Proofs.YtfackmiojbdjhaaDoor
