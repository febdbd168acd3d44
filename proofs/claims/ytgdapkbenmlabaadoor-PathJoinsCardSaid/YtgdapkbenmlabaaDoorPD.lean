import Derived.Test.YtgdapkbenmlabaaDoorPB
import Derived.Test.YtgdapkbenmlabaaDoorPC
import Derived.Lib.IndexBytes
/- A part: as a record; the code's own Part. -/
namespace Go.Proofs.YtgdapkbenmlabaaDoor.Pt
set_option linter.unusedSimpArgs false
set_option linter.unusedVariables false
open Go.RowKit Go.Maps

/-- a part: its name, which label is wanted -/
abbrev Pr := ByteArray × ByteArray
def pc (p : Pr) : List Value := [.string p.1, .string p.2]
def zP : Pr := (⟨#[]⟩, ⟨#[]⟩)
theorem pc_len (p : Pr) : (pc p).length = 2 := rfl
theorem pc_one (p : Pr) : ∀ v ∈ pc p, v.oneCell' = true := by
  intro v hv
  simp only [pc, List.mem_cons, List.not_mem_nil, or_false] at hv
  rcases hv with rfl | rfl <;> rfl
theorem Tryd.zeroPr : (Tryd.prog.info? 28).map (fun i => i.zero) = some (some (.agg (pc zP).toArray)) := by kernel_rfl
theorem Tryd.isizePr : (Tryd.prog.info? 28).map (·.size) = some 2 := by kernel_rfl
theorem sizePr (e : Pr) : (Tryd.prog.info? 28).map (·.size) = some (pc e).length := Tryd.isizePr
theorem sizePr' (e : Pr) : (Tryd.prog.info? 28).map (·.size) = some (pc e).toArray.size := Tryd.isizePr
theorem Tryd.descPr : ∃ d, Tryd.prog.underlying 28 = some d ∧ d.isRow = true := ⟨_, Tryd.underlying28, rfl⟩
theorem Tryd.infoPr : ∃ i, Tryd.prog.info? 28 = some i ∧ i.zero = some (.agg (pc zP).toArray) ∧ i.size = 2 ∧ i.bytes = 32 := by
  have h : (Tryd.prog.info? 28).map (fun i => (i.zero, i.size, i.bytes)) = some (some (.agg (pc zP).toArray), 2, 32) := by kernel_rfl
  obtain ⟨i, hi, he⟩ := Option.map_eq_some_iff.1 h
  simp only [Prod.mk.injEq] at he
  exact ⟨i, hi, he.1, he.2.1, he.2.2⟩
theorem Tryd.buildPr0 (w : World) : (Instr.build 28 #[]).run Tryd.prog w = .ok (.agg (pc zP).toArray) w := by kernel_rfl
theorem Tryd.buildPrN (s : ByteArray) (w : World) : (Instr.build 28 #[(0, .string s)]).run Tryd.prog w = .ok (.agg #[.string s, .string ⟨#[]⟩]) w := by kernel_rfl
theorem Tryd.buildPrA (s : ByteArray) (w : World) : (Instr.build 28 #[(1, .string s)]).run Tryd.prog w = .ok (.agg #[.string ⟨#[]⟩, .string s]) w := by kernel_rfl
theorem Tryd.buildPr2 (s t : ByteArray) (w : World) : (Instr.build 28 #[(0, .string s), (1, .string t)]).run Tryd.prog w = .ok (.agg #[.string s, .string t]) w := by kernel_rfl
theorem Tryd.guardPr : Tryd.prog.eqGuardType Tryd.prog.depth 28 = false := by kernel_rfl
theorem Tryd.clPr : Tryd.prog.cellsOf 28 = 2 := by kernel_rfl
theorem Tryd.clStrP : Tryd.prog.cellsOf 9 = 1 := by kernel_rfl
theorem Tryd.keyPr : Tryd.prog.keyTypeAt 3 28 = true := by kernel_rfl
def prl (e : Pr) : List Lit := [.string e.1.data.toList, .string e.2.data.toList]
theorem prl_is (e : Pr) (h1 : e.1.size ≤ maxLen) (h2 : e.2.size ≤ maxLen) : Tryd.prog.keyLits 4 28 (pc e) = some (prl e) := by
  simp [pc, prl, Program.keyLits, Tryd.underlying28, Tryd.underlying9, Tryd.clPr, Tryd.clStrP, h1, h2]
theorem pc_formed (e : Pr) : (Value.agg (pc e).toArray).formed Tryd.prog 28 = true := by simp [Value.formed, Tryd.underlying28, Tryd.clPr, pc]
theorem prl_inj (e e' : Pr) : prl e = prl e' ↔ e = e' := by
  constructor
  · intro h
    simp only [prl, List.cons.injEq, Lit.string.injEq, and_true] at h
    obtain ⟨⟨s⟩, ⟨t⟩⟩ := e
    obtain ⟨⟨s'⟩, ⟨t'⟩⟩ := e'
    obtain ⟨h1, h2⟩ := h
    have h3 : s = s' := Array.ext' h1
    have h4 : t = t' := Array.ext' h2
    rw [h3, h4]
  · rintro rfl
    rfl
/-- both texts are no longer than a text may be -/
def okP (e : Pr) : Prop := e.1.size ≤ maxLen ∧ e.2.size ≤ maxLen
theorem eqPr (e e' : Pr) (h : okP e) (h' : okP e') (w : World) : (Op.equalIn 10000 28 (.agg (pc e).toArray) (.agg (pc e').toArray)).run Tryd.prog w = .ok (decide (e = e')) w := by
  obtain ⟨r, hr, hiff⟩ := run_equalIn_deep (P := Tryd.prog) 9997 3 28 Tryd.keyPr w 4 4 _ _ _ _ (pc_formed e) (pc_formed e') (prl_is e h.1 h.2) (prl_is e' h'.1 h'.2)
  rw [show 9997 + 3 = 10000 from rfl] at hr
  rw [hr, show r = decide (e = e') from Bool.eq_iff_iff.2 (hiff.trans ((prl_inj e e').trans decide_eq_true_iff.symm))]
/-- a text that was cut at its first @: what part that is, and the error's number -/
def partO (H : ByteArray) : Option ByteArray → Pr × Int
  | none => if dotsB H = true then ((H, ⟨#[]⟩), 0) else if nameC H = 0 then ((H, ⟨#[]⟩), 0) else (zP, nameC H)
  | some T => if nameB T = true then (if H.toList.isEmpty = true then ((H, T), 0) else if nameC H = 0 then ((H, T), 0) else (zP, nameC H)) else (zP, 7)
def baL (l : List UInt8) : ByteArray := ⟨l.toArray⟩
/-- a text between / as a part -/
def partC (l : List UInt8) : Pr × Int := partO (baL (splitC 64 l).1) ((splitC 64 l).2.map baL)
theorem byte_split (c : UInt8) : ∀ s : List UInt8, Lib.indexByte s c = (match (splitC c s).2 with | none => -1 | some _ => ((splitC c s).1.length : Int))
  | [] => rfl
  | x :: r => by
    rw [Lib.indexByte, splitC, byte_split c r]
    by_cases h : x = c
    · rw [if_pos (by simpa using h), if_pos h]; rfl
    · rw [if_neg (by simpa using h), if_neg h]
      cases hq : (splitC c r).2 with
      | none => simp
      | some t =>
        rw [if_neg (by simp)]
        simp
theorem cut_split (c : UInt8) (s : List UInt8) : Lib.cut s [c] = ((splitC c s).1, (splitC c s).2.getD [], (splitC c s).2.isSome) := by
  unfold Lib.cut
  rw [Lib.index_one, byte_split]
  cases hq : (splitC c s).2 with
  | none => simp [(splitC_none c s hq).1]
  | some t =>
    obtain ⟨h1, -⟩ := splitC_some c s t hq
    simp only [Int.natCast_nonneg, if_true, Int.toNat_natCast, List.length_singleton, Option.getD_some, Option.isSome_some]
    generalize (splitC c s).1 = h at *
    subst h1
    have e1 : (h ++ c :: t).take h.length = h := by simp
    have e2 : (h ++ c :: t).drop (h.length + 1) = t := by
      rw [List.drop_append, Nat.add_sub_cancel_left, List.drop_eq_nil_of_le (by omega)]; rfl
    rw [e1, e2]
theorem cut_any (s : List UInt8) (c : UInt8) (m : Int) (w : World) (hs : s.length < 4294967281) (hm : w.cell? ⟨0, 0, none⟩ = some (.int .i64 m)) :
    Calls Tryd.prog 15 #[.string ⟨s.toArray⟩, .string ⟨#[c]⟩] w fun e w' => e = .returned (.tuple #[.string ⟨(splitC c s).1.toArray⟩, .string ⟨((splitC c s).2.getD []).toArray⟩, .bool (splitC c s).2.isSome]) ∧ Below w.heap.size w w' := by
  refine (Tryd.strings_Cut ⟨s.toArray⟩ ⟨#[c]⟩ m w (by show s.toArray.size < _; simpa using hs) hm).mono ?_
  rintro e w' ⟨rfl, n, rfl⟩
  have h := cut_split c s
  refine ⟨?_, below_drewN' (Below.refl _ _) _⟩
  show Ending.returned (.tuple #[.string ⟨(Lib.cut s [c]).1.toArray⟩, .string ⟨(Lib.cut s [c]).2.1.toArray⟩, .bool (Lib.cut s [c]).2.2]) = _
  rw [h]
theorem below_alloc0 (w : World) (cs : Array Value) (t : TypeId) : Below w.heap.size w (w.alloc (.cells cs t)) := (Below.refl _ _).alloc (Nat.le_refl _) _
set_option maxHeartbeats 20000000 in
set_option maxRecDepth 100000 in
theorem part_any (l : List UInt8) (m : Int) (w : World) (hs : l.length ≤ 100000) (hm : w.cell? ⟨0, 0, none⟩ = some (.int .i64 m)) :
    Calls Tryd.prog 12 #[.string ⟨l.toArray⟩] w fun e w' => e = .returned (.tuple #[.agg (pc (partC l).1).toArray, .int .i64 (partC l).2]) ∧ Below w.heap.size w w' := by
  obtain ⟨d, hu, hd⟩ := Tryd.descPr
  have HU := Lib.hid hu
  have HD := Lib.hid hd
  have HM := Lib.hid hm
  have h00 := World.block_lt_of_cell? w _ hm
  have HC := Lib.hid (fun W hW => cut_any l 64 m W (by omega) hW)
  unfold partC
  generalize (splitC 64 l).1 = h at *
  generalize (splitC 64 l).2 = o at *
  obtain ⟨H, hH⟩ : ∃ H : ByteArray, ByteArray.mk h.toArray = H := ⟨_, rfl⟩
  rw [show baL h = H from hH]
  rw [hH] at HC
  have HN := Lib.hid (fun W => name_any H W)
  have HDt := Lib.hid (fun W => isdots_any H W)
  clear hm hu hd hH
  go_enter Tryd.func12, Tryd.ntmps12
  go_wp2_with (first | (refine wpList_alloc_list (w := w) rfl 28 rfl (pc zP) Tryd.zeroPr ?_; intro w1 F1 hb1 hz1; have HB1 := Lib.hid hb1; clear hb1))
  have HM1 := Lib.hid ((HB1.out.cell (p := ⟨0, 0, none⟩) h00).trans HM.out)
  refine (HC.out _ HM1.out).mono ?_
  rintro e w2 ⟨rfl, hb2⟩
  have HB2 := Lib.hid (HB1.out.trans (hb2.mono HB1.out.size))
  have F2 := Lib.hid (F1.out.keep hb2)
  clear F1 hb2 HB1 HM1 HM HC
  obtain ⟨bz, hbz⟩ : ∃ x, w.heap.size = x := ⟨_, rfl⟩
  rw [hbz] at F2
  try rw [hbz]
  have HW := Lib.hid hbz
  have hq2 := F2.out.lt
  have K0 := Lib.hid (F2.out.stored (pc zP) rfl)
  clear hz1 hbz
  cases o with
  | none =>
    simp only [Option.getD_none, Option.isSome_none]
    cases hdt : dotsB H
    · rw [hdt] at HDt
      by_cases hn : nameC H = 0
      · rw [hn] at HN
        have HR : Hid (partO H (Option.map baL none) = ((H, ⟨#[]⟩), 0)) := Lib.hid (by simp [partO, hdt, hn])
        go_wp2_with (first | (refine (HDt.out w2).mono ?_; rintro e w5 ⟨rfl, hw5⟩; rw [hw5]; clear hw5) | (refine (HN.out w2).mono ?_; rintro e w5 ⟨rfl, hw5⟩; rw [hw5]; clear hw5) | (refine wpList_store_list rfl 28 _ _ rfl bz (pc zP) (pc (H, ⟨#[]⟩)) rfl rfl F2.out rfl (sizePr _) (pc_one _) ?_; intro w4 G HK))
        exact bodyPost_ret_by (results_mid_tmp rfl _ _ bz _ d rfl G.out.range0 HU.out HD.out (sizePr _)) rfl ⟨by rw [HR.out]; rfl, HB2.out.trans (HK.out.below (by have := HW.out; have := HB2.out.size; omega) (by have := HW.out; have := HB2.out.size; omega) (by have := HW.out; have := HB2.out.size; omega))⟩
      · obtain ⟨c, hc⟩ : ∃ c, nameC H = c := ⟨_, rfl⟩
        rw [hc] at HN hn
        have HR : Hid (partO H (Option.map baL none) = (zP, c)) := Lib.hid (by simp [partO, hdt, hn, hc])
        go_wp2_with (first | (refine (HDt.out w2).mono ?_; rintro e w5 ⟨rfl, hw5⟩; rw [hw5]; clear hw5) | (refine (HN.out w2).mono ?_; rintro e w5 ⟨rfl, hw5⟩; rw [hw5]; clear hw5) | (refine wpList_store_list rfl 28 _ _ rfl bz (pc zP) (pc zP) rfl rfl F2.out rfl (sizePr _) (pc_one _) ?_; intro w4 G HK))
        exact bodyPost_ret_by (results_mid_tmp rfl _ _ bz _ d rfl G.out.range0 HU.out HD.out (sizePr _)) rfl ⟨by rw [HR.out]; rfl, HB2.out.trans (HK.out.below (by have := HW.out; have := HB2.out.size; omega) (by have := HW.out; have := HB2.out.size; omega) (by have := HW.out; have := HB2.out.size; omega))⟩
    · rw [hdt] at HDt
      have HR : Hid (partO H (Option.map baL none) = ((H, ⟨#[]⟩), 0)) := Lib.hid (by simp [partO, hdt])
      go_wp2_with (first | (refine (HDt.out w2).mono ?_; rintro e w5 ⟨rfl, hw5⟩; rw [hw5]; clear hw5) | (refine wpList_store_list rfl 28 _ _ rfl bz (pc zP) (pc (H, ⟨#[]⟩)) rfl rfl F2.out rfl (sizePr _) (pc_one _) ?_; intro w4 G HK))
      exact bodyPost_ret_by (results_mid_tmp rfl _ _ bz _ d rfl G.out.range0 HU.out HD.out (sizePr _)) rfl ⟨by rw [HR.out]; rfl, HB2.out.trans (HK.out.below (by have := HW.out; have := HB2.out.size; omega) (by have := HW.out; have := HB2.out.size; omega) (by have := HW.out; have := HB2.out.size; omega))⟩
  | some t =>
    simp only [Option.getD_some, Option.isSome_some]
    obtain ⟨T, hT⟩ : ∃ T : ByteArray, ByteArray.mk t.toArray = T := ⟨_, rfl⟩
    rw [hT]
    have HL := Lib.hid (fun W => islabel_any T W)
    have HT : Hid (Option.map baL (some t) = some T) := Lib.hid (congrArg some hT)
    clear hT
    cases hb : nameB T
    · rw [hb] at HL
      have HR : Hid (partO H (Option.map baL (some t)) = (zP, 7)) := Lib.hid (by rw [HT.out]; simp [partO, hb])
      go_wp2_with (first | (refine (HL.out w2).mono ?_; rintro e w3 ⟨rfl, hb3⟩; have HB3 := Lib.hid (HB2.out.trans (hb3.mono HB2.out.size)); have F3 := Lib.hid (F2.out.keep hb3); clear hb3) | (refine wpList_store_list rfl 28 _ _ rfl bz (pc zP) (pc zP) rfl rfl F3.out rfl (sizePr _) (pc_one _) ?_; intro w4 G HK))
      exact bodyPost_ret_by (results_mid_tmp rfl _ _ bz _ d rfl G.out.range0 HU.out HD.out (sizePr _)) rfl ⟨by rw [HR.out]; rfl, HB3.out.trans (HK.out.below (by have := HW.out; have := HB3.out.size; omega) (by have := HW.out; have := HB3.out.size; omega) (by have := HW.out; have := HB3.out.size; omega))⟩
    · rw [hb] at HL
      cases he : H.toList.isEmpty
      · have he' : H.toList ≠ [] := fun hh => by rw [hh] at he; cases he
        by_cases hn : nameC H = 0
        · rw [hn] at HN
          have HR : Hid (partO H (Option.map baL (some t)) = ((H, T), 0)) := Lib.hid (by rw [HT.out]; simp [partO, hb, he', hn])
          go_wp2_with (first | (refine (HL.out w2).mono ?_; rintro e w3 ⟨rfl, hb3⟩; have HB3 := Lib.hid (HB2.out.trans (hb3.mono HB2.out.size)); have F3 := Lib.hid (F2.out.keep hb3); clear hb3) | (refine (HN.out w3).mono ?_; rintro e w5 ⟨rfl, hw5⟩; rw [hw5]; clear hw5) | (refine wpList_store_list rfl 28 _ _ rfl bz (pc zP) (pc (H, T)) rfl rfl F3.out rfl (sizePr _) (pc_one _) ?_; intro w4 G HK))
          exact bodyPost_ret_by (results_mid_tmp rfl _ _ bz _ d rfl G.out.range0 HU.out HD.out (sizePr _)) rfl ⟨by rw [HR.out]; rfl, HB3.out.trans (HK.out.below (by have := HW.out; have := HB3.out.size; omega) (by have := HW.out; have := HB3.out.size; omega) (by have := HW.out; have := HB3.out.size; omega))⟩
        · obtain ⟨c, hc⟩ : ∃ c, nameC H = c := ⟨_, rfl⟩
          rw [hc] at HN hn
          have HR : Hid (partO H (Option.map baL (some t)) = (zP, c)) := Lib.hid (by rw [HT.out]; simp [partO, hb, he', hn, hc])
          go_wp2_with (first | (refine (HL.out w2).mono ?_; rintro e w3 ⟨rfl, hb3⟩; have HB3 := Lib.hid (HB2.out.trans (hb3.mono HB2.out.size)); have F3 := Lib.hid (F2.out.keep hb3); clear hb3) | (refine (HN.out w3).mono ?_; rintro e w5 ⟨rfl, hw5⟩; rw [hw5]; clear hw5) | (refine wpList_store_list rfl 28 _ _ rfl bz (pc zP) (pc zP) rfl rfl F3.out rfl (sizePr _) (pc_one _) ?_; intro w4 G HK))
          exact bodyPost_ret_by (results_mid_tmp rfl _ _ bz _ d rfl G.out.range0 HU.out HD.out (sizePr _)) rfl ⟨by rw [HR.out]; rfl, HB3.out.trans (HK.out.below (by have := HW.out; have := HB3.out.size; omega) (by have := HW.out; have := HB3.out.size; omega) (by have := HW.out; have := HB3.out.size; omega))⟩
      · have he' : H.toList = [] := List.isEmpty_iff.1 he
        have HR : Hid (partO H (Option.map baL (some t)) = ((H, T), 0)) := Lib.hid (by rw [HT.out]; simp [partO, hb, he'])
        go_wp2_with (first | (refine (HL.out w2).mono ?_; rintro e w3 ⟨rfl, hb3⟩; have HB3 := Lib.hid (HB2.out.trans (hb3.mono HB2.out.size)); have F3 := Lib.hid (F2.out.keep hb3); clear hb3) | (refine wpList_store_list rfl 28 _ _ rfl bz (pc zP) (pc (H, T)) rfl rfl F3.out rfl (sizePr _) (pc_one _) ?_; intro w4 G HK))
        exact bodyPost_ret_by (results_mid_tmp rfl _ _ bz _ d rfl G.out.range0 HU.out HD.out (sizePr _)) rfl ⟨by rw [HR.out]; rfl, HB3.out.trans (HK.out.below (by have := HW.out; have := HB3.out.size; omega) (by have := HW.out; have := HB3.out.size; omega) (by have := HW.out; have := HB3.out.size; omega))⟩
end Go.Proofs.YtgdapkbenmlabaaDoor.Pt
