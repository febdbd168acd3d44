import Derived.Test.YtgfgdfcedmcjeaaGreatDoorM1
import Derived.Test.YtgfgdfcedmcjeaaGreatDoorM2
import Derived.Test.YtgfgdfcedmcjeaaGreatDoorM3
import Derived.Test.YtgfgdfcedmcjeaaGreatDoorM4
import Derived.Test.YtgfgdfcedmcjeaaGreatDoorM5
import Derived.Test.YtgfgdfcedmcjeaaGreatDoorM6
import Derived.Test.YtgfgdfcedmcjeaaGreatDoorM7
import Derived.Test.YtgfgdfcedmcjeaaGreatDoorM8
import Derived.Test.YtgfgdfcedmcjeaaGreatDoorM9
import Derived.Test.YtgfgdfcedmcjeaaGreatDoorM10
import Derived.Test.YtgfgdfcedmcjeaaGreatDoorM11
import Derived.Test.YtgfgdfcedmcjeaaGreatDoorM12
import Derived.Test.YtgfgdfcedmcjeaaGreatDoorM13
import Derived.Test.YtgfgdfcedmcjeaaGreatDoorM14
import Derived.Test.YtgfgdfcedmcjeaaGreatDoorM15
import Derived.Test.YtgfgdfcedmcjeaaGreatDoorM16
import Derived.Test.YtgfgdfcedmcjeaaGreatDoorM17
import Derived.Test.YtgfgdfcedmcjeaaGreatDoorM18
import Derived.Test.YtgfgdfcedmcjeaaGreatDoorM19
import Derived.Test.YtgfgdfcedmcjeaaGreatDoorM20
import Derived.Test.YtgfgdfcedmcjeaaGreatDoorM21
import Derived.Test.YtgfgdfcedmcjeaaGreatDoorM22
import Derived.Test.YtgfgdfcedmcjeaaGreatDoorM23
import Derived.Test.YtgfgdfcedmcjeaaGreatDoorM24
import Derived.Test.YtgfgdfcedmcjeaaGreatDoorM25
import Derived.BigQuiet
import Derived.BigRegion
import Derived.Carry
import Derived.ChangeKeysEq
import Derived.Deep.CutBlock
import Derived.Deep.DeepAppendRoom
import Derived.Deep.DeepCutAuto
import Derived.Deep.DeepHandedRow
import Derived.Deep.Draws
import Derived.Deep.MidRow
import Derived.Deep.Quiet
import Derived.Deep.QuietTactic
import Derived.Deep.RegionHeld
import Derived.Deep.Slices
import Derived.DeepKeys
import Derived.DeepKeys4
import Derived.IntWalk
import Derived.Laws.AppendOwn
import Derived.Laws.AppendOwnNone
import Derived.Laws.BitsAllLaws
import Derived.Laws.CopyOwn
import Derived.Laws.IdiomStrings
import Derived.Laws.MakeOwn
import Derived.Laws.OwnMore
import Derived.Laws.ResultCell
import Derived.Laws.ShiftsVarLaws
import Derived.Lib.DecodeNEq
import Derived.Lib.EndianBits
import Derived.Lib.Hide
import Derived.Lib.LaidTab
import Derived.Lib.LazyBuf
import Derived.Lib.OthersKept
import Derived.Lib.QuietBelow
import Derived.Lib.SlKeysI
import Derived.Lib.SliceRun
import Derived.Lib.SmallJoins
import Derived.Lib.TrimU
import Derived.LoopTactic
import Derived.Maps.OwnOps
import Derived.Maps.OwnSet
import Derived.Maps.RangeWalk
import Derived.OpenShut
import Derived.Orders
import Derived.OwnWalk
import Derived.ProofKit
import Derived.RegionTactic
import Derived.Shelf.Sort.Plain
import Derived.Shelf.Strings.Trim
import Derived.Sort.Grow
import Derived.Sort.KeysCollected
import Derived.Sort.OwnSorted
import Derived.StillTailTactics
import Derived.WalkKit
import Derived.WalkLawsBesides
import Derived.WalkSpells
/- What else is needed of the parts. -/
/- Nodes: blocks of cells, a node as twelve numbers, Blank, Check; Encode. -/
namespace Go.Proofs.YtgfgdfcedmcjeaaGreatDoor
set_option linter.unusedSimpArgs false
set_option linter.unusedVariables false
open Go.RowKit Go.Maps
/-! ### a node as twelve numbers -/
theorem yields_neq {P : Program} {ops : Array Oper} {S : World → Prop} {op : Oper} {a : Act} (hw : Region.wanted op (yielded ops a.tmps) = true) (ty ty' : TypeId) (x y : Operand) (ho : op.op = .binOp .neq ty x y ty') (xs ys : Array Value) (hx : a.eval x = .agg xs) (hy : a.eval y = .agg ys) (b : Bool)
    (hg : P.eqGuardType P.depth ty = false) (hr : ∀ w, S w → (Op.equalIn 10000 ty (.agg xs) (.agg ys)).run P w = .ok b w) : YieldsIf P ops S op (.bool (!b)) a :=
  .inl ⟨hw, fun w hS => by
    have hr := hr w hS
    have hgd := run_eqGuard_agg (P := P) w .neq ty x y xs ys hg
    unfold execOp
    simp [ho, hx, hy, hgd, run_neq_struct, hr, Result.andThen]⟩
end Go.Proofs.YtgfgdfcedmcjeaaGreatDoor

/- A group: Node, Set, the first free node, MakeLink, Make. -/
namespace Go.Proofs.YtgfgdfcedmcjeaaGreatDoor
set_option linter.unusedSimpArgs false
set_option linter.unusedVariables false
open Go.RowKit Go.Maps
variable {ln : Lm}
/-- a node of another generation -/
def setG (f : Nat → Int) (x : Int) : Nat → Int := fun i => if i = 2 then x else f i
theorem setG_set (f : Nat → Int) (x : Int) : (ndc f).set 2 (.int .u16 x) = ndc (setG f x) := rfl
theorem setG_ok {f : Nat → Int} (hf : NdOk f) {x : Int} (h0 : 0 ≤ x) (h1 : x < 65536) : NdOk (setG f x) := by
  obtain ⟨a, b, c, d, e⟩ := hf
  refine ⟨a, b, ⟨h0, h1⟩, d, fun i h2 h3 => ?_⟩
  unfold setG
  rw [if_neg (by omega)]
  exact e i h2 h3
theorem setG_code {f : Nat → Int} (x : Int) (h1 : 0 < f 1) (hm : mbl (f 0) (f 3) = true) : codeN (setG f x) = 0 := code_of h1 hm
set_option maxHeartbeats 20000000 in
set_option maxRecDepth 100000 in
theorem gadd_in (q p t m d gg lab B0 P0 M DA NB N K : Nat) (g : Cf.Ge) (Y : Nat → Nat → Int) (V : Nat → Nat → Int) (f : Nat → Int) (hf : NdOk f) (n0 : Nat) (k1 : 1 ≤ n0) (k2 : n0 ≤ M) (hz : V n0 0 = 0) (hnz : ∀ j, 1 ≤ j → j < n0 → V j 0 ≠ 0) (x : Int) (hx : IntKind.u16.wrap (V n0 2 + 1) = x) (x0 : 0 ≤ x) (x1 : x < 65536) (f1 : 0 < f 1) (f2 : mbl (f 0) (f 3) = true) (hT : Has ln (P0 + (n0 - 1) / 2)) (hK : K < 500000000) (hI : Tab P0 M Y V) (hg : GG g B0 P0 M DA NB N) (w : World) (h : Gr w q p t m d gg lab g B0 NB N ln Y K) :
    Calls Tryz.prog 55 #[.pointer (some ⟨q, 0, none⟩), .agg (ndc f).toArray] w fun e w' => e = .returned (.tuple #[.int .i64 n0, .int .i64 0]) ∧ Gr w' q p t m d gg lab g B0 NB N ln (tabW P0 n0 (setG f x) Y) (K + 200) ∧ Kf w w' [t, m, d, gg] := by
  obtain ⟨d27, hu27, hd27⟩ := Tryz.desc27
  have HU27 := Lib.hid hu27
  have HD27 := Lib.hid hd27
  have HG := Lib.hid h
  have HI := Lib.hid hI
  have HNZ := Lib.hid hnz
  have lts := Lib.hid h.lts
  have hq0 := h.lts.1
  have hM := hg.nd
  have hM4 := hg.m4
  have hM8 := hg.m128
  have HGG := Lib.hid hg
  have HZ := Lib.hid hz
  have HX := Lib.hid hx
  have HF1 := Lib.hid f1
  have HF2 := Lib.hid f2
  clear hz hx f1 f2
  have HNd := Lib.hid hM
  have HF := Lib.hid hf
  clear hu27 hd27 h hI hnz hg hM hf
  go_enter Tryz.func55, Tryz.ntmps55
  go_wp2_with (first | (refine wpList_box_list (w := w) rfl 77 _ rfl (ndc f) rfl ?_; intro w1 F1 hb1 hz1; have HB1 := Lib.hid hb1; have HG1 := Lib.hid (HG.out.keep hb1); clear hb1 hz1))
  obtain ⟨b, hb⟩ : ∃ b, w.heap.size = b := ⟨_, rfl⟩
  have NB6 := Lib.hid (nin6 lts.out.1 lts.out.2.1 lts.out.2.2.1 lts.out.2.2.2.1 lts.out.2.2.2.2.1 lts.out.2.2.2.2.2 (Nat.le_of_eq hb))
  have HK1 := Lib.hid (Kf.of_below HB1.out [t, m, d, gg])
  have HWb := Lib.hid (Nat.le_of_eq hb)
  have hbl := F1.out.lt
  rw [hb] at F1 hq0 hbl
  try rw [hb]
  have nb4 : b ∉ [t, m, d, gg] := by have := NB6.out; simp at this ⊢; omega
  have NB4 := Lib.hid nb4
  clear hb lts HB1 HG nb4
  go_loopw [6] (fun y wr => ∃ k : Nat, 1 ≤ k ∧ k ≤ n0 ∧ y = .int .i64 k ∧ Gr wr q p t m d gg lab g B0 NB N ln Y (K + k) ∧ Kf w wr [t, m, d, gg] ∧ Vl wr b (ndc f)) (fun y _ => 200 - (Go.RowKit.intOf y).toNat)
  case atStart => exact ⟨1, Nat.le_refl _, by omega, rfl, HG1.out.mono (Lm.le_refl _) (by omega), HK1.out, F1.out⟩
  case round =>
    obtain ⟨k, hk1, hk2, rfl, hGr, hkf, hFb⟩ := hrel
    have HGr := Lib.hid hGr
    have HKf := Lib.hid hkf
    have HFb := Lib.hid hFb
    have c7 := hGr.gb.c 7 _ rfl
    rw [HNd.out] at c7
    have hbs := hFb.lt
    have hqs := hGr.gb.lt
    clear hGr hkf hFb HG1 HK1 F1
    by_cases hlt : k < n0
    · have HNo := Lib.hid (gnode_in (ln := ln) q p t m d gg lab B0 P0 M DA NB N (K + k) g Y V k hk1 (by omega) (by omega) HI.out HGG.out wr HGr.out)
      have hv := HNZ.out k hk1 (by omega)
      obtain ⟨v, hvn⟩ : ∃ v, V k = v := ⟨_, rfl⟩
      rw [hvn] at HNo hv
      have hkM : (k : Int) ≤ M := by omega
      have hk0 : (0 : Int) ≤ k := by omega
      have HV := Lib.hid hv
      have HVn := Lib.hid hvn
      clear hv hvn
      go_wp2_with fail
      refine HNo.out.mono ?_
      rintro e u1 ⟨rfl, hGr, hk⟩
      have HG2 := Lib.hid hGr
      have HK2 := Lib.hid (HKf.out.trans hk)
      have FB2 := Lib.hid (HFb.out.kf hk NB4.out)
      clear hGr hk HNo HGr HKf HFb c7
      go_upto_region 5 with (first | (refine wpList_alloc_list (w := u1) rfl 77 rfl (ndc zpt) Tryz.zero27 ?_; intro u2 G2 hb2 hz2; simp only [Act.put, List.getElem_toArray, List.getElem_cons_zero, List.getElem_cons_succ, List.setIfInBounds_toArray, List.set_cons_zero, List.set_cons_succ]; refine wpList_store_list rfl 77 (.tmp 7) (.tmp 23) rfl u1.heap.size (ndc zpt) (ndc v) rfl rfl G2.out rfl (size27 _) (ndc_one _) ?_; intro u3 F3 HP3; have HQ2 := Lib.hid hb2; clear hb2 hz2 G2))
      obtain ⟨c, hc⟩ : ∃ c, u1.heap.size = c := ⟨_, rfl⟩
      have hcb : b < c := by rw [← hc]; exact FB2.out.lt
      have HK3 := Lib.hid ((HK2.out.more HQ2.out).new HP3.out HK2.out.size)
      have HG3 := Lib.hid ((HG2.out.keep HQ2.out).kp HP3.out (HG2.out.notin (Nat.le_refl _)))
      have FB3' := Lib.hid (FB2.out.keep HQ2.out)
      have FB3 := Lib.hid (FB3'.out.kp HP3.out (by omega) (by omega))
      rw [hc] at F3
      try rw [hc]
      clear hc HQ2 HP3 HK2 HG2 FB2 FB3'
      have e0 := F3.out.c 0 _ rfl
      have hv0 : ¬ v 0 = 0 := HV.out
      go_wp2_with fail
      go_roundw
      case rel => exact ⟨k + 1, by omega, by omega, by go_num, HG3.out.mono (Lm.le_refl _) (by omega), HK3.out, FB3.out⟩
      case measure => simp [Go.RowKit.intOf]; omega
    · obtain rfl : k = n0 := by omega
      have HNo := Lib.hid (gnode_in (ln := ln) q p t m d gg lab B0 P0 M DA NB N (K + k) g Y V k hk1 (by omega) (by omega) HI.out HGG.out wr HGr.out)
      have hv := HZ.out
      obtain ⟨v, hvn⟩ : ∃ v, V k = v := ⟨_, rfl⟩
      rw [hvn] at HNo hv
      have HX2 := HX.out
      rw [hvn] at HX2
      have hkM : (k : Int) ≤ M := by omega
      have hk0 : (0 : Int) ≤ k := by omega
      have HV := Lib.hid hv
      have HVn := Lib.hid hvn
      clear hv hvn
      go_wp2_with fail
      refine HNo.out.mono ?_
      rintro e u1 ⟨rfl, hGr, hk⟩
      have HG2 := Lib.hid hGr
      have HK2 := Lib.hid (HKf.out.trans hk)
      have FB2 := Lib.hid (HFb.out.kf hk NB4.out)
      clear hGr hk HNo HGr HKf HFb c7
      go_upto_region 5 with (first | (refine wpList_alloc_list (w := u1) rfl 77 rfl (ndc zpt) Tryz.zero27 ?_; intro u2 G2 hb2 hz2; simp only [Act.put, List.getElem_toArray, List.getElem_cons_zero, List.getElem_cons_succ, List.setIfInBounds_toArray, List.set_cons_zero, List.set_cons_succ]; refine wpList_store_list rfl 77 (.tmp 7) (.tmp 23) rfl u1.heap.size (ndc zpt) (ndc v) rfl rfl G2.out rfl (size27 _) (ndc_one _) ?_; intro u3 F3 HP3; have HQ2 := Lib.hid hb2; clear hb2 hz2 G2))
      obtain ⟨c, hc⟩ : ∃ c, u1.heap.size = c := ⟨_, rfl⟩
      have hcb : b < c := by rw [← hc]; exact FB2.out.lt
      have HK3 := Lib.hid ((HK2.out.more HQ2.out).new HP3.out HK2.out.size)
      have HG3 := Lib.hid ((HG2.out.keep HQ2.out).kp HP3.out (HG2.out.notin (Nat.le_refl _)))
      have FB3' := Lib.hid (FB2.out.keep HQ2.out)
      have FB3 := Lib.hid (FB3'.out.kp HP3.out (by omega) (by omega))
      rw [hc] at F3
      try rw [hc]
      clear hc HQ2 HP3 HK2 HG2 FB2 FB3'
      have e0 := F3.out.c 0 _ rfl
      rw [HV.out] at e0
      have e2 := F3.out.c 2 _ rfl
      have g2 := FB3.out.c 2 _ rfl
      have z2 := FB3.out.z 2 (show 2 < 12 by decide)
      go_upto_region 9 with fail
      have hkx : Kp u3 (u3.setCell ⟨b, 2, none⟩ (.int .u16 x)) b b := (Kp.refl u3 b b).setCell (p := ⟨b, 2, none⟩) (.inl rfl) _
      have HG4 := Lib.hid (HG3.out.kp hkx NB6.out)
      have HK4 := Lib.hid (HK3.out.new hkx HWb.out)
      have F4 := Lib.hid (FB3.out.set 2 (show 2 < 12 by decide) (.int .u16 x))
      obtain ⟨u4, hu4⟩ : ∃ z, u3.setCell ⟨b, 2, none⟩ (.int .u16 x) = z := ⟨_, rfl⟩
      rw [hu4] at HG4 HK4 F4 ⊢
      rw [setG_set] at F4
      clear hu4 hkx HG3 HK3 FB3 F3 e0 e2 g2 z2 HX2
      have HSe := Lib.hid (gset_in (ln := ln) q p t m d gg lab B0 P0 M DA NB N (K + k + 1) g Y (setG f x) (setG_ok HF.out x0 x1) (setG_code x HF1.out HF2.out) k hk1 k2 hT (by omega) HGG.out u4 HG4.out)
      go_wp2_with (first | (refine wpList_load_mid rfl 77 (.tmp 3) rfl b 0 rfl (ndc (setG f x)) d27 F4.out.range0 HU27.out HD27.out (size27 _) ?_))
      refine HSe.out.mono ?_
      rintro e u5 ⟨rfl, hGr, hk⟩
      have HG5 := Lib.hid (hGr.mono (Lm.le_refl _) (show K + k + 1 + 1 ≤ K + 200 by omega))
      have HK5 := Lib.hid (HK4.out.trans hk)
      clear hGr hk HSe HG4 HK4
      go_wp2_with fail
      exact bodyPost_ret (v := .tuple #[.int .i64 k, .int .i64 0]) (by simp [results, Tryz.results55, go_sem]) rfl ⟨rfl, HG5.out, HK5.out⟩
end Go.Proofs.YtgfgdfcedmcjeaaGreatDoor

/- A group: Make; Usage; a disk as an image. -/
namespace Go.Proofs.YtgfgdfcedmcjeaaGreatDoor
set_option linter.unusedSimpArgs false
set_option linter.unusedVariables false
open Go.RowKit Go.Maps
variable {ln : Lm}
/-! ### Make -/
def kOk (k : Int) : Bool := decide (k = 1) || decide (k = 2) || decide (k = 3) || decide (k = 5)
theorem begins_any (k : Int) (w : World) : Calls Tryz.prog 54 #[.int .u8 k] w fun e w' => e = .returned (.bool (kOk k)) ∧ w' = w := by
  by_cases h1 : k = 1
  · subst h1
    go_enter Tryz.func54, Tryz.ntmps54
    go_wp2
    go_ret
    exact ⟨rfl, rfl⟩
  · by_cases h2 : k = 2
    · subst h2
      go_enter Tryz.func54, Tryz.ntmps54
      go_wp2
      go_ret
      exact ⟨rfl, rfl⟩
    · by_cases h3 : k = 3
      · subst h3
        go_enter Tryz.func54, Tryz.ntmps54
        go_wp2
        go_ret
        exact ⟨rfl, rfl⟩
      · by_cases h5 : k = 5
        · subst h5
          go_enter Tryz.func54, Tryz.ntmps54
          go_wp2
          go_ret
          exact ⟨rfl, rfl⟩
        · have hk : kOk k = false := by simp [kOk, h1, h2, h3, h5]
          rw [hk]
          clear hk
          go_enter Tryz.func54, Tryz.ntmps54
          go_wp2
          go_ret
          exact ⟨rfl, rfl⟩
/-- a node as Make makes it -/
def mkN (k : Int) : Nat → Int := fun i => if i = 0 then k else if i = 1 then 1 else 0
theorem Tryz.build27_mk (k : Int) (w : World) : (Instr.build 77 #[(0, .int .u8 k), (1, .int .u8 1)]).run Tryz.prog w = .ok (.agg (ndc (mkN k)).toArray) w := by kernel_rfl
theorem mkN_ok (k : Int) (k0 : 0 ≤ k) (k1 : k < 256) : NdOk (mkN k) := ⟨⟨k0, k1⟩, (by show (0 : Int) ≤ 1 ∧ (1 : Int) < 256; decide), (by show (0 : Int) ≤ 0 ∧ (0 : Int) < 65536; decide), (by show (0 : Int) ≤ 0 ∧ (0 : Int) < 4294967296; decide), fun i h2 h3 => by
  unfold mkN
  rw [if_neg (by omega), if_neg (by omega)]
  exact ⟨Int.le_refl _, by decide⟩⟩
theorem mkN_mbl (k : Int) (h : kOk k = true) : mbl (mkN k 0) (mkN k 3) = true := by
  show mbl k 0 = true
  simp only [kOk, Bool.or_eq_true, decide_eq_true_eq] at h
  rcases h with ((rfl | rfl) | rfl) | rfl <;> decide
set_option maxHeartbeats 20000000 in
set_option maxRecDepth 100000 in
theorem gmake_in (q p t m d gg lab B0 P0 M DA NB N K : Nat) (g : Cf.Ge) (Y : Nat → Nat → Int) (V : Nat → Nat → Int) (k : Int) (kk0 : 0 ≤ k) (kk1 : k < 256) (hk : kOk k = true) (n0 : Nat) (k1 : 1 ≤ n0) (k2 : n0 ≤ M) (hz : V n0 0 = 0) (hnz : ∀ j, 1 ≤ j → j < n0 → V j 0 ≠ 0) (x : Int) (hx : IntKind.u16.wrap (V n0 2 + 1) = x) (x0 : 0 ≤ x) (x1 : x < 65536) (hT : Has ln (P0 + (n0 - 1) / 2)) (hK : K < 500000000) (hI : Tab P0 M Y V) (hg : GG g B0 P0 M DA NB N) (w : World) (h : Gr w q p t m d gg lab g B0 NB N ln Y K) :
    Calls Tryz.prog 31 #[.pointer (some ⟨q, 0, none⟩), .int .u8 k] w fun e w' => e = .returned (.tuple #[.int .i64 n0, .int .i64 0]) ∧ Gr w' q p t m d gg lab g B0 NB N ln (tabW P0 n0 (setG (mkN k) x) Y) (K + 200) ∧ Kf w w' [t, m, d, gg] := by
  have HBg := Lib.hid (begins_any k w)
  rw [hk] at HBg
  have HAd := Lib.hid (fun W hW => gadd_in (ln := ln) q p t m d gg lab B0 P0 M DA NB N K g Y V (mkN k) (mkN_ok k kk0 kk1) n0 k1 k2 hz hnz x hx x0 x1 (show (0 : Int) < 1 by decide) (mkN_mbl k hk) hT hK hI hg W hW)
  obtain ⟨Z, hZ⟩ : ∃ Z, tabW P0 n0 (setG (mkN k) x) Y = Z := ⟨_, rfl⟩
  rw [hZ] at HAd ⊢
  clear hZ hz hx
  have HG := Lib.hid h
  clear hnz hk hI hg h
  go_enter Tryz.func31, Tryz.ntmps31
  go_wp2_with fail
  refine HBg.out.mono ?_
  rintro e w' ⟨rfl, hww⟩
  rw [hww]
  clear hww HBg
  go_wp2_with (first | (refine wpList_bld2 rfl 77 0 1 (.tmp 12) _ rfl (.int .u8 k) (.int .u8 1) rfl rfl (.agg (ndc (mkN k)).toArray) (Tryz.build27_mk k _) ?_))
  refine (HAd.out w HG.out).mono ?_
  rintro e w5 ⟨rfl, hG, hk'⟩
  have HG5 := Lib.hid hG
  have HK5 := Lib.hid hk'
  clear hG hk' HAd HG
  go_wp2_with fail
  exact bodyPost_ret (v := .tuple #[.int .i64 n0, .int .i64 0]) (by simp [results, Tryz.results31, go_sem]) rfl ⟨rfl, HG5.out, HK5.out⟩
/-! ### how many nodes aren't free -/
/-! ### a disk as an image -/
end Go.Proofs.YtgfgdfcedmcjeaaGreatDoor

/- Directories: Find, Turn, Empty. -/
namespace Go.Proofs.YtgfgdfcedmcjeaaGreatDoor
set_option linter.unusedSimpArgs false
set_option linter.unusedVariables false
open Go.RowKit Go.Maps
variable {ln : Lm}
/-- what Turn tells ahead of writing -/
def turnC (E : List En) (x : En) : Int := if x.2 = 0 then 27 else if E.any (mtE x.1) = true then 0 else 3
theorem turnC_num {E : List En} {x : En} (h2 : x.2 = 0) : turnC E x = 27 := if_pos h2
theorem turnC_no {E : List En} {x : En} (h2 : ¬ x.2 = 0) (h3 : ∀ e ∈ E, mtE x.1 e = false) : turnC E x = 3 := by
  unfold turnC
  rw [if_neg h2, if_neg]
  rw [List.any_eq_true]
  rintro ⟨e, he, hm⟩
  rw [h3 e he] at hm
  cases hm
theorem turnC_ok {E : List En} {x : En} (h2 : ¬ x.2 = 0) (h3 : E.any (mtE x.1) = true) : turnC E x = 0 := by unfold turnC; rw [if_neg h2, if_pos h3]
theorem mtE_name {s : ByteArray} {e : En} (h : mtE s e = true) : e.1 = s := by
  unfold mtE at h
  rw [Bool.and_eq_true, beq_iff_eq] at h
  have := h.2
  rw [ByteArray.toList_eq, ByteArray.toList_eq] at this
  obtain ⟨⟨a⟩, n⟩ := e
  obtain ⟨b⟩ := s
  show (⟨a⟩ : ByteArray) = ⟨b⟩
  congr 1
  exact Array.ext' this
set_option maxHeartbeats 40000000 in
set_option maxRecDepth 2000000 in
theorem dturn_any (q p t m d gg lab B0 P0 M DA NB N K : Nat) (g : Cf.Ge) (Y V : Nat → Nat → Int) (num : Nat) (h1 : 1 ≤ num) (h2 : num ≤ M) (b0 : Nat → Nat) (E : List En) (hD : Dir B0 DA NB Y (V num) b0 E) (hI : Tab P0 M Y V) (hK : K < 190000000) (hg : GG g B0 P0 M DA NB N) (w : World) (h : Gr w q p t m d gg lab g B0 NB N ln Y K) (x : En) (hx : x.2 < 65536) (Q : Int → World → Prop)
    (hW : ¬ x.2 = 0 → ∀ (i : Nat) (e : En), E[i]? = some e → mtE x.1 e = true → (∀ (j : Nat) (e' : En), j < i → E[j]? = some e' → mtE x.1 e' = false) → ∀ W sb, Gr W q p t m d gg lab g B0 NB N ln Y (K + 1001) → Kf w W [t, m, d, gg] → w.heap.size ≤ sb → Fl W sb 16 (pkF x) → Calls Tryz.prog 74 #[.pointer (some ⟨q, 0, none⟩), .int .i64 num, .int .i64 ((16 * i : Nat) : Int), .slice (some ⟨sb, 0, none⟩) 16 16] W fun r w' => ∃ c, r = .returned (.int .i64 c) ∧ Kf W w' [t, m, d, gg] ∧ Q c w') :
    Calls Tryz.prog 18 #[.pointer (some ⟨q, 0, none⟩), .int .i64 num, .agg (enc x).toArray] w fun r w' => ∃ c, r = .returned (.int .i64 c) ∧ ((¬ turnC E x = 0 ∧ c = turnC E x ∧ Gr w' q p t m d gg lab g B0 NB N ln Y (K + 1001) ∧ Kf w w' [t, m, d, gg]) ∨ (turnC E x = 0 ∧ Q c w')) := by
  obtain ⟨xs, xn⟩ := x
  obtain ⟨dE, hu, hd⟩ := Tryz.descEn
  have HU := Lib.hid hu
  have HDd := Lib.hid hd
  have HOp := Lib.hid (fun W hW => dopen_in (ln := ln) q p t m d gg lab B0 P0 M DA NB N K g Y V num h1 h2 b0 E hD hI hK hg W hW)
  have HG0 := Lib.hid h
  have hsm := smE_of hD.ok
  have hl := hD.n
  have h0lt : ∀ a ∈ [q, p, t, m, d, gg], a < w.heap.size := fun a ha => by
    obtain ⟨l1, l2, l3, l4, l5, l6⟩ := h.lts
    simp only [List.mem_cons, List.not_mem_nil, or_false] at ha
    rcases ha with rfl | rfl | rfl | rfl | rfl | rfl <;> assumption
  have H0 := Lib.hid h0lt
  have HFi := Lib.hid (fun bd base v W hV hO => find_any q num bd base v E hsm xs hl W hV hO)
  have HSm := Lib.hid hsm
  have HWr := Lib.hid hW
  have hxn : xn < 65536 := hx
  have HL := Lib.hid hl
  have HXn := Lib.hid hxn
  clear hu hd h1 h2 hD hI hK hg h hsm hl h0lt hW hx hxn
  go_enter Tryz.func18, Tryz.ntmps18
  go_wp2_with (first | (refine wpList_box_list (w := w) rfl 58 _ rfl (enc (xs, xn)) rfl ?_; intro w0 F0 hb0 hz0; have HQ0 := Lib.hid hb0; clear hb0 hz0))
  refine (HOp.out w0 (HG0.out.keep HQ0.out)).mono ?_
  rintro e w1 ⟨bd, v, base, rfl, hbd, hbb, hV, hO, hG, hk⟩
  have HV1 := Lib.hid hV
  have HO1 := Lib.hid hO
  have HG1 := Lib.hid hG
  have HK1 := Lib.hid ((Kf.of_below HQ0.out [t, m, d, gg]).trans hk)
  have hbw : w.heap.size ≤ bd := Nat.le_trans HQ0.out.size hbd
  have HND : Hid (bd ∉ [t, m, d, gg]) := Lib.hid (fun ha => by
    have := H0.out bd (by simp only [List.mem_cons, List.not_mem_nil, or_false] at ha ⊢; omega)
    omega)
  have hk0 := hk
  clear hV hO hG hk HOp hbd
  have F1 := Lib.hid (F0.out.kf hk0 (fun ha => by
    have := H0.out w.heap.size (by simp only [List.mem_cons, List.not_mem_nil, or_false] at ha ⊢; omega)
    omega))
  clear hk0
  have c0 := F1.out.c 0 _ rfl
  have c1 := F1.out.c 1 _ rfl
  by_cases hx0 : (xn : Int) = 0
  · have HA : Hid (turnC E (xs, xn) = 27) := Lib.hid (turnC_num (by show xn = 0; omega))
    go_wp2_with fail
    go_ret
    exact ⟨27, rfl, .inl ⟨by rw [HA.out]; decide, HA.out.symm, HG1.out, HK1.out⟩⟩
  · have HX0 : Hid (¬ xn = 0) := Lib.hid (by omega)
    go_wp2_with fail
    refine (HFi.out bd base v w1 HV1.out HO1.out).mono ?_
    rintro r w2 ⟨hb, (⟨i, e, hie, hme, hfi, rfl⟩ | ⟨hno, rfl⟩)⟩
    · have HA : Hid (turnC E (xs, xn) = 0) := Lib.hid (turnC_ok HX0.out (List.any_eq_true.2 ⟨e, List.mem_of_getElem? hie, hme⟩))
      have HG2 := Lib.hid (HG1.out.keep hb)
      have HK2 := Lib.hid (HK1.out.more hb)
      have HV2 := Lib.hid (HV1.out.keep hb)
      have F2 := Lib.hid (F1.out.keep hb)
      have hi1 : i ≤ 1024 := by
        have := (List.getElem?_eq_some_iff.1 hie).1
        have := HL.out
        omega
      have hs14 : xs.size ≤ 14 := by
        have h1 := (HSm.out e (List.mem_of_getElem? hie)).1
        have h2 := mtE_name hme
        rw [h2] at h1
        exact h1
      have HS14 := Lib.hid hs14
      have HI1 := Lib.hid hi1
      have HIe := Lib.hid hie
      have HMe := Lib.hid hme
      have HFf := Lib.hid hfi
      clear hb hie hme hfi hs14 hi1 c0 c1 HFi HG1 HK1 HV1 HO1 F1
      have HRx := Lib.hid F2.out.range0
      go_wp2_with (refine wpList_load_mid rfl 58 _ rfl w.heap.size 0 rfl (enc (xs, xn)) dE HRx.out HU.out HDd.out (sizeEn _) ?_)
      refine (put_any9 q num bd v (xs, xn) HS14.out HXn.out i HI1.out Q w2 HV2.out (fun W sb hbW hsb hF => ?_)).mono ?_
      · refine (HWr.out HX0.out i e HIe.out HMe.out HFf.out W sb (HG2.out.keep hbW) (HK2.out.more hbW) (Nat.le_trans HK2.out.size hsb) hF).mono ?_
        rintro r w' ⟨c, rfl, hk, hq⟩
        exact ⟨c, rfl, (HV2.out.keep hbW).kf hk HND.out, hq⟩
      rintro r w5 ⟨c, rfl, hq⟩
      have HQq := Lib.hid hq
      clear hq
      go_wp2_with fail
      go_ret
      exact ⟨c, rfl, .inr ⟨HA.out, HQq.out⟩⟩
    · have HA : Hid (turnC E (xs, xn) = 3) := Lib.hid (turnC_no HX0.out hno)
      have HG2 := Lib.hid (HG1.out.keep hb)
      have HK2 := Lib.hid (HK1.out.more hb)
      clear hb hno
      go_wp2_with fail
      go_ret
      exact ⟨3, rfl, .inl ⟨by rw [HA.out]; decide, HA.out.symm, HG2.out, HK2.out⟩⟩
end Go.Proofs.YtgfgdfcedmcjeaaGreatDoor

/- Directories: an act of the laws. -/
namespace Go.Proofs.YtgfgdfcedmcjeaaGreatDoor
set_option linter.unusedSimpArgs false
set_option linter.unusedVariables false
open Go.RowKit Go.Maps
/-- an act's name -/
def nmL9 : List ByteArray := [⟨#[97]⟩, ⟨#[98]⟩, ⟨#[99]⟩, ⟨#[100, 100]⟩, ⟨#[101, 46, 102]⟩, ⟨#[102, 111, 117, 114, 116, 101, 101, 110, 45, 98, 121, 116, 101, 115]⟩, ⟨#[103]⟩, ⟨#[104]⟩]
def actN (nm : Int) (tx : ByteArray) (rw : Bool) : ByteArray := if rw = true then tx else nmL9.getD (nm % 8).toNat ⟨#[]⟩
theorem nmL9_get (k : Nat) (hk : k < 8) : nmL9[k]? = some (nmL9.getD k ⟨#[]⟩) := by
  have : k < nmL9.length := hk
  rw [List.getElem?_eq_getElem this, List.getD_eq_getElem?_getD, List.getElem?_eq_getElem this]
  rfl
def actc (kn nm nu : Int) (tx : ByteArray) (rw : Bool) : List Value := [.int .u8 kn, .int .u8 nm, .int .u16 nu, .string tx, .bool rw]
theorem Tryz.descAct : ∃ d, Tryz.prog.underlying 49 = some d ∧ d.isRow = true := ⟨_, Tryz.underlying49, rfl⟩
theorem Tryz.isizeAct : (Tryz.prog.info? 49).map (·.size) = some 5 := by kernel_rfl
set_option maxHeartbeats 8000000 in
set_option maxRecDepth 200000 in
theorem actname_any (kn nm nu : Int) (tx : ByteArray) (rw : Bool) (h0 : 0 ≤ nm) (h1 : nm < 256) (w : World) : Calls Tryz.prog 15 #[.agg (actc kn nm nu tx rw).toArray] w fun e w' => e = .returned (.string (actN nm tx rw)) ∧ Below w.heap.size w w' := by
  cases rw
  · obtain ⟨k, hk⟩ : ∃ k : Nat, (nm % 8).toNat = k := ⟨_, rfl⟩
    have hk8 : k < 8 := by omega
    have hmk : nm % 8 = (k : Int) := by omega
    have hN : actN nm tx false = nmL9.getD k ⟨#[]⟩ := by
      unfold actN
      rw [if_neg (by decide), hk]
    have hgk := nmL9_get k hk8
    rw [hN]
    obtain ⟨sN, hsN⟩ : ∃ x, nmL9.getD k ⟨#[]⟩ = x := ⟨_, rfl⟩
    rw [hsN] at hgk ⊢
    have HGk := Lib.hid hgk
    have hki : (k : Int) < 8 := by omega
    have hk0 : (0 : Int) ≤ k := by omega
    have htm : nm.tmod 8 = (k : Int) := by rw [Int.tmod_eq_emod_of_nonneg h0]; exact hmk
    have hwu : IntKind.u8.wrap (k : Int) = k := wraps_u8 _ (by omega) (by omega)
    clear hN hk hgk hsN hk8
    go_enter Tryz.func15, Tryz.ntmps15
    go_upto_region 3 with (first | (refine wpList_box_list (w := w) rfl 49 _ rfl (actc kn nm nu tx false) rfl ?_; intro w1 F1 hb1 hz1; have HB1 := Lib.hid hb1; have c4 := F1.out.c 4 _ rfl; have c1 := F1.out.c 1 _ rfl; have c3 := F1.out.c 3 _ rfl; clear hb1))
    have hv1 := Vl.new w1 (nmL9.map Value.string) 9
    have F2 := Lib.hid hv1
    have hcN : (nmL9.map Value.string)[k]? = some (.string sN) := by rw [List.getElem?_map, HGk.out]; rfl
    have cN := F2.out.c k _ hcN
    have hb2 : Below w1.heap.size w1 (w1.alloc (.cells (nmL9.map Value.string).toArray 9)) := (Below.refl _ _).alloc (Nat.le_refl _) _
    have c1' := (F1.out.keep hb2).c 1 _ rfl
    have HB2 := Lib.hid (HB1.out.trans (hb2.mono HB1.out.size))
    simp only [nmL9, List.map_cons, List.map_nil] at cN c1' HB2
    rw [hz1] at cN
    clear hv1 hcN hb2 F2 c1 c3 c4
    go_wp2_with fail
    go_ret
    exact ⟨rfl, HB2.out⟩
  · have hN : actN nm tx true = tx := if_pos rfl
    rw [hN]
    clear hN
    go_enter Tryz.func15, Tryz.ntmps15
    go_wp2_with (first | (refine wpList_box_list (w := w) rfl 49 _ rfl (actc kn nm nu tx true) rfl ?_; intro w1 F1 hb1 hz1; have HB1 := Lib.hid hb1; have c4 := F1.out.c 4 _ rfl; have c3 := F1.out.c 3 _ rfl; clear hb1))
    go_ret
    exact ⟨rfl, HB1.out⟩
end Go.Proofs.YtgfgdfcedmcjeaaGreatDoor

/- A world in which the listed tables hold what their initialisers lay, for the witnesses; an act as handed in. -/
namespace Go.Proofs.YtgfgdfcedmcjeaaGreatDoor
set_option linter.unusedSimpArgs false
set_option linter.unusedVariables false
open Go.ChangeShapes Go.WideShapes Go.ChangeAt Go.RowKit Go.Deep
theorem take_oneN {L : List Value} {i : Nat} {v : Value} (h : (L.drop i).take 1 = [v]) : L[i]? = some v := by
  have := congrArg (·[0]?) h
  simpa [List.getElem?_take, List.getElem?_drop] using this
theorem Tryz.cells1s : Tryz.prog.cellsOf 9 = 1 := by kernel_rfl
theorem Tryz.cells1b : Tryz.prog.cellsOf 4 = 1 := by kernel_rfl
theorem Tryz.cellsU16 : Tryz.prog.cellsOf 36 = 1 := by kernel_rfl
theorem Tryz.cellsAct : Tryz.prog.cellsOf 49 = 5 := by kernel_rfl
theorem trod_struct5 {H : Type} {enc : TypeId × Value → H} {P : Program} {w : World} {base : Nat} {spare : Nat → Bool} {held : Bool} {t : TypeId} {f0 f1 f2 f3 f4 : Field} {fuel : Nat} {cs : List Value} {x : DataW H × List MemPlace} (ht : P.underlying t = some (.struct #[f0, f1, f2, f3, f4])) (h : DataW.trod enc P w base spare held fuel t cs = some x) :
    ∃ y0 y1 y2 y3 y4 n, x = (.agg [y0.1, y1.1, y2.1, y3.1, y4.1], y0.2 ++ (y1.2 ++ (y2.2 ++ (y3.2 ++ y4.2)))) ∧ cs.length = P.cellsOf t ∧ DataW.trod enc P w base spare held n f0.type ((cs.drop f0.offset).take (P.cellsOf f0.type)) = some y0 ∧
      DataW.trod enc P w base spare held n f1.type ((cs.drop f1.offset).take (P.cellsOf f1.type)) = some y1 ∧ DataW.trod enc P w base spare held n f2.type ((cs.drop f2.offset).take (P.cellsOf f2.type)) = some y2 ∧
      DataW.trod enc P w base spare held n f3.type ((cs.drop f3.offset).take (P.cellsOf f3.type)) = some y3 ∧ DataW.trod enc P w base spare held n f4.type ((cs.drop f4.offset).take (P.cellsOf f4.type)) = some y4 := by
  obtain ⟨xs, n, _, rfl, hl, hlen, hf⟩ := DataW.trod_struct ht h
  match xs, hlen with
  | [y0, y1, y2, y3, y4], _ => exact ⟨y0, y1, y2, y3, y4, n, by simp, hl, by simpa using hf 0 f0 rfl, by simpa using hf 1 f1 rfl, by simpa using hf 2 f2 rfl, by simpa using hf 3 f3 rfl, by simpa using hf 4 f4 rfl⟩
set_option maxRecDepth 100000 in
/-- what an act's five cells hold -/
theorem act_cells {H : Type} {enc : TypeId × Value → H} {W : World} {fuel : Nat} {L : List Value} {x : DataW H × List MemPlace}
    (hf : DataW.trod enc Tryz.prog W 0 (fun _ => true) true fuel 49 L = some x) : ∃ (kn nm : Int) (nu : Nat) (tx : ByteArray) (rw : Bool), L = actc kn nm (nu : Int) tx rw ∧ 0 ≤ kn ∧ kn < 256 ∧ 0 ≤ nm ∧ nm < 256 ∧ nu < 65536 := by
  obtain ⟨y0, y1, y2, y3, y4, n', -, hl5, t0, t1, t2, t3, t4⟩ := trod_struct5 Tryz.underlying49 hf
  simp only [Tryz.cells5, Tryz.cellsU16, Tryz.cells1s, Tryz.cells1b] at t0 t1 t2 t3 t4
  rw [Tryz.cellsAct] at hl5
  obtain ⟨z0, e0, -, w0⟩ := DataW.trod_int Tryz.underlying5 t0
  obtain ⟨z1, e1, -, w1⟩ := DataW.trod_int Tryz.underlying5 t1
  obtain ⟨z2, e2, -, w2⟩ := DataW.trod_int Tryz.underlying36 t2
  obtain ⟨z3, e3, -⟩ := DataW.trod_string Tryz.underlying9 t3
  obtain ⟨z4, e4, -⟩ := DataW.trod_bool Tryz.underlying4 t4
  have g0 := take_oneN e0
  have g1 := take_oneN e1
  have g2 := take_oneN e2
  have g3 := take_oneN e3
  have g4 := take_oneN e4
  have b0' := bounds_u8 w0
  have b1' := bounds_u8 w1
  have b2' := bounds_u16 w2
  obtain ⟨n2, rfl⟩ := Int.eq_ofNat_of_zero_le b2'.1
  refine ⟨z0, z1, n2, z3, z4, ?_, b0'.1, by omega, b1'.1, by omega, by omega⟩
  match L, hl5 with
  | [a0, a1, a2, a3, a4], _ =>
    simp only [List.getElem?_cons_succ, List.getElem?_cons_zero, Option.some.injEq] at g0 g1 g2 g3 g4
    subst g0 g1 g2 g3 g4
    rfl
end Go.Proofs.YtgfgdfcedmcjeaaGreatDoor

