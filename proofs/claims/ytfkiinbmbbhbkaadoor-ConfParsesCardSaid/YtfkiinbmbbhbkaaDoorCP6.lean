import Derived.Test.YtfkiinbmbbhbkaaDoorCP5
import Derived.Test.YtfkiinbmbbhbkaaDoorCW
import Derived.Test.YtfkiinbmbbhbkaaDoorPost
import Derived.Deep.DeepHandedRow
import Derived.Deep.Strs
import Derived.Lib.SmallJoins
import Derived.Lib.LaidTab
import Derived.LaidSub
import Derived.Test.YtfkiinbmbbhbkaaDoorC40
import Derived.Test.YtfkiinbmbbhbkaaDoorC39
/- ConfParses: the walk. -/
namespace Go.Proofs.YtfkiinbmbbhbkaaDoor
set_option linter.unusedSimpArgs false
set_option linter.unusedVariables false
open Go.RowKit Go.Maps

set_option maxRecDepth 100000 in
theorem right_all2 (v vm : Value) (rs : List Rg) (ms : List (Int × Int)) (w : World) (hr : Regs w v rs) (hok : ∀ r ∈ rs, r.ok) (hms : Mks w vm ms) (hmk : ∀ m ∈ ms, markOk m) (hml : ms.length ≤ 5000) :
    Calls Tryd.prog 10 #[v, vm] w fun e w' => e = .returned (.int .i64 (newE rs ms)) ∧ Below w.heap.size w w' := by
  by_cases h0 : rs.length < 1 ∨ 64 < rs.length
  · have hE : newE rs ms = 23 := by unfold newE; rw [if_pos h0]
    obtain ⟨a, cap, rfl⟩ := hr.form
    have HE := Lib.hid hE
    have hmx := hr.max
    unfold maxLen at hmx
    clear hr hms hok hmk hE
    rcases h0 with h0 | h0
    · have h0i : (rs.length : Int) < 1 := by omega
      go_enter Tryd.func10, Tryd.ntmps10
      go_wp2_with fail
      refine bodyPost_ret (v := .int .i64 23) (by simp [results, Tryd.results10, go_sem]) rfl ⟨by rw [HE.out], Below.refl _ _⟩
    · have h0i : (64 : Int) < rs.length := by omega
      have h1i : ¬ ((rs.length : Int) < 1) := by omega
      go_enter Tryd.func10, Tryd.ntmps10
      go_wp2_with fail
      refine bodyPost_ret (v := .int .i64 23) (by simp [results, Tryd.results10, go_sem]) rfl ⟨by rw [HE.out], Below.refl _ _⟩
  · obtain ⟨b, off, cap, rfl, hbl, -, hrow⟩ := hr.row (by omega)
    exact right_any b off cap vm rs ms w hbl (by omega) (by omega) hrow hok hms hmk hml
theorem same_all2 (n : Nat) (vr vm vg v vmm : Value) (rs : List Rg) (ms : List (Int × Int)) (hok : ∀ r ∈ rs, r.ok) (hmk : ∀ m ∈ ms, markOk m) (hml : ms.length ≤ 5000) (hE : newE rs ms = 0) (w : World) (hr : Regs w v rs) (hms : Mks w vmm ms) (h : CF n w vr vm vg rs ms) :
    Calls Tryd.prog 11 #[.pointer (some ⟨n + 3, 0, none⟩), v, vmm] w fun e w' => e = .returned (.bool true) ∧ Below w.heap.size w w' := by
  obtain ⟨b, off, cap, rfl, hbl, -, hrow⟩ := hr.row (newE_zero hE).1
  exact same_any n b off cap vr vm vg vmm rs ms hok hmk hml hE w hbl hrow hms h

theorem U8s.below {w w' : World} {v : Value} {ts : List Int} (h : U8s w v ts) (hb : Below w.heap.size w w') : U8s w' v ts := by
  rcases h with h | ⟨b, off, cap, hv, hl, hm, hr⟩
  · exact .inl h
  · exact .inr ⟨b, off, cap, hv, Nat.lt_of_lt_of_le hl hb.size, hm, fun i hi => (hb.cell (p := ⟨b, off + i, none⟩) hl).trans (hr i hi)⟩

def smL : List ByteArray := [⟨#[108, 97, 98, 101, 108, 32, 108, 111, 119, 32, 48, 32, 98, 108, 111, 99, 107, 115, 32, 52, 48, 32, 110, 111, 100, 101, 115, 32, 49, 54, 32, 102, 114, 97, 109, 101, 115, 32, 52, 32, 112, 114, 111, 99, 115, 32, 50, 32, 111, 112, 101, 110, 115, 32, 51, 32, 99, 108, 101, 97, 114, 32, 108, 111, 119]⟩, ⟨#[108, 97, 98, 101, 108, 32, 116, 111, 112, 32, 51, 58, 49, 44, 52, 32, 98, 108, 111, 99, 107, 115, 32, 57, 32, 110, 111, 100, 101, 115, 32, 52, 32, 102, 114, 97, 109, 101, 115, 32, 49, 32, 112, 114, 111, 99, 115, 32, 49, 32, 111, 112, 101, 110, 115, 32, 49, 32, 99, 108, 101, 97, 114, 32, 116, 111, 112]⟩, ⟨#[108, 97, 98, 101, 108, 32, 109, 105, 100, 32, 49, 58, 49, 32, 98, 108, 111, 99, 107, 115, 32, 50, 48, 32, 110, 111, 100, 101, 115, 32, 56, 32, 102, 114, 97, 109, 101, 115, 32, 57, 32, 112, 114, 111, 99, 115, 32, 51, 32, 111, 112, 101, 110, 115, 32, 52, 32, 99, 108, 101, 97, 114, 32, 116, 111, 112, 32, 35, 32, 120]⟩, ⟨#[116, 114, 117, 115, 116, 32, 108, 111, 119, 32, 53]⟩, ⟨#[116, 114, 117, 115, 116, 32, 116, 111, 112, 32, 50]⟩, ⟨#[116, 114, 117, 115, 116, 32, 110, 111, 110, 101, 32, 49]⟩, ⟨#[116, 114, 117, 115, 116, 32, 108, 111, 119, 32, 48, 53]⟩, ⟨#[108, 97, 98, 101, 108, 32, 108, 111, 119, 32, 48, 32, 98, 108, 111, 99, 107, 115, 32, 52, 48, 32, 110, 111, 100, 101, 115, 32, 49, 54, 32, 102, 114, 97, 109, 101, 115, 32, 52, 32, 112, 114, 111, 99, 115, 32, 50, 32, 111, 112, 101, 110, 115, 32, 51, 32, 99, 108, 101, 97, 114, 32, 110, 111, 98, 111, 100, 121]⟩, ⟨#[108, 97, 98, 101, 108, 32, 120, 32, 48, 58]⟩, ⟨#[108, 97, 98, 101, 108, 32, 120, 32, 49, 32, 98, 108, 111, 99, 107, 115, 32, 53, 32, 110, 111, 100, 101, 115, 32, 52, 32, 102, 114, 97, 109, 101, 115, 32, 49, 32, 112, 114, 111, 99, 115, 32, 49, 32, 99, 108, 101, 97, 114, 32, 108, 111, 119, 32, 111, 112, 101, 110, 115, 32, 51]⟩, ⟨#[35, 32, 111, 110, 108, 121]⟩, ⟨#[]⟩, ⟨#[116, 114, 117, 115, 116, 32, 108, 111, 119]⟩, ⟨#[108, 97, 98, 101, 108, 32, 98, 97, 100, 32, 49, 54, 32, 98, 108, 111, 99, 107, 115, 32, 53, 32, 110, 111, 100, 101, 115, 32, 52, 32, 102, 114, 97, 109, 101, 115, 32, 49, 32, 112, 114, 111, 99, 115, 32, 49, 32, 111, 112, 101, 110, 115, 32, 49, 32, 99, 108, 101, 97, 114, 32, 108, 111, 119]⟩]
def sm (j : Nat) : ByteArray := smL.getD j ByteArray.empty
def nlB : ByteArray := ⟨#[10]⟩
set_option maxRecDepth 100000 in
theorem sm_facts : ∀ j, j < 14 → ascB (sm j) = true ∧ (sm j).size ≤ 80 := by decide +kernel
theorem nl_asc : ascB nlB = true := by decide +kernel
theorem nl_size : nlB.size = 1 := rfl
theorem size_app (a b : ByteArray) : (a ++ b).size = a.size + b.size := by simp
theorem parse_zero (s : ByteArray) (h : (parseE s).2 = 0) : (parseE s).1 = 0 ∧ newE (outRs s) (outMs s) = 0 := by
  unfold parseE at h ⊢
  simp only at h ⊢
  split at h
  · rename_i h1; exact absurd h h1
  · rename_i h1
    rw [if_neg h1]
    split at h
    · cases h
    · rename_i h2
      rw [if_neg h2]
      split at h
      · rename_i h3; exact absurd h h3
      · rename_i h3
        rw [if_neg h3]
        exact ⟨rfl, h⟩
theorem out_ok (s : ByteArray) (hs : s.size ≤ 4000) : (∀ r ∈ outRs s, r.ok) ∧ (∀ m ∈ outMs s, markOk m) ∧ (outMs s).length ≤ 5000 := by
  have hok := stAt_ok (linesOf s) (fun x hx => Nat.le_trans (lines_size s x hx) hs) (linesOf s).length
  have hl := cnt_le s
  have h2 := hok.l2
  refine ⟨fun r hr => ?_, fun m hm => ?_, ?_⟩
  · have hr' : r ∈ clF (stAt (linesOf s) (linesOf s).length).rs (stAt (linesOf s) (linesOf s).length).cls := hr
    obtain ⟨j, hj, rfl⟩ := List.mem_iff_getElem.1 hr'
    have hj2 : j < (stAt (linesOf s) (linesOf s).length).rs.length := by rw [clF_len _ _ hok.eq] at hj; exact hj
    rw [clF_get _ _ hok.eq j hj2]
    exact (hok.rs _ (List.getElem_mem hj2)).1
  · have hm' : m ∈ (stAt (linesOf s) (linesOf s).length).trs.map (mkOf (stAt (linesOf s) (linesOf s).length).rs) := hm
    obtain ⟨x, -, rfl⟩ := List.mem_map.1 hm'
    exact mkOf_ok _ x
  · show ((stAt (linesOf s) (linesOf s).length).trs.map _).length ≤ 5000
    rw [List.length_map]; omega

set_option maxHeartbeats 40000000 in
set_option maxRecDepth 200000 in
theorem parses_walk (s : ByteArray) (tv : Value) (ts : List Int) (hts : ∀ x ∈ ts, 0 ≤ x ∧ x < 256) (w : World) (htv : U8s w tv ts) (hl : ts.length ≤ maxLen) (hG : Gl w) :
    Calls Tryd.prog 4 #[.string s, tv] w fun e w' => e = .returned (.bool true) ∧ Below w.heap.size w w' := by
  have HG := Lib.hid hG
  have HTV := Lib.hid htv
  have HTS := Lib.hid hts
  have hg2 := hG.lt
  have hg2' : 2 ≤ w.heap.size := by omega
  obtain ⟨ta, tcap, rfl⟩ : ∃ a c, tv = .slice a ts.length c := by
    rcases htv with ⟨a, c, rfl, rfl⟩ | ⟨b, o, c, rfl, -⟩
    · exact ⟨a, c, rfl⟩
    · exact ⟨_, c, rfl⟩
  unfold maxLen at hl
  have hA := awake_any w hG
  clear hG htv hts
  go_enter Tryd.func4, Tryd.ntmps4
  go_wp2_with fail
  refine hA.mono ?_
  rintro e w1 ⟨rfl, hb1⟩
  have HB1 := Lib.hid hb1
  have hg1 : w.heap.size ≤ w1.heap.size := hb1.size
  clear hA hb1
  by_cases h500 : 500 < s.size
  · have h500i : (500 : Int) < s.size := by omega
    go_wp2_with fail
    go_ret
    exact ⟨rfl, HB1.out⟩
  have h500i : ¬ ((500 : Int) < s.size) := by omega
  have has := ascii_any s w1 (by omega)
  go_wp2_with fail
  refine has.mono ?_
  rintro e wY ⟨rfl, hwY⟩
  obtain rfl : w1 = wY := hwY.symm
  cases hasc : ascB s
  · go_wp2_with fail
    go_ret
    exact ⟨rfl, HB1.out⟩
  have HAS := Lib.hid hasc
  clear has hasc
  go_upto_region 5 with fail
  go_cut [5] (fun sv wc => ∃ b, sv = .slice (some ⟨b, 0, none⟩) 14 14 ∧ w1.heap.size ≤ b ∧ b < wc.heap.size ∧ Below w1.heap.size w1 wc ∧ ∀ j, j < 14 → wc.cell? ⟨b, j, none⟩ = some (.string (sm j)))
  case first =>
    go_wp2_with fail
    go_meet
    case rel =>
      refine ⟨w1.heap.size, rfl, Nat.le_refl _, by simp, (Below.refl _ _).alloc (Nat.le_refl _) _, fun j hj => ?_⟩
      match j, hj with
      | 0, _ | 1, _ | 2, _ | 3, _ | 4, _ | 5, _ | 6, _ | 7, _ | 8, _ | 9, _ | 10, _ | 11, _ | 12, _ | 13, _ => simp [World.cell?_alloc_new, sm, smL]
  case rest =>
  obtain ⟨b, rfl, hb0, hb1, hb, hsm⟩ := hcut
  obtain ⟨w2, rfl⟩ : ∃ x, x = wc := ⟨wc, rfl⟩
  have HB2 := Lib.hid (HB1.out.trans (hb.mono hg1))
  have hg22 : w.heap.size ≤ w2.heap.size := HB2.out.size
  have HSM := Lib.hid hsm
  have hb0w : w.heap.size ≤ b := Nat.le_trans hg1 hb0
  clear hb hsm HB1 hb0 hg1
  go_upto_block 0 with fail
  go_cut [6] (fun xv wc => ∃ T : ByteArray, xv = .string T ∧ ascB T = true ∧ T.size ≤ 7300 ∧ Below w2.heap.size w2 wc)
  case first =>
    go_wp2_with fail
    go_loopw [6, 32] (fun xv i wr => ∃ k : Nat, ∃ T : ByteArray, k ≤ ts.length ∧ i = .int .i64 k ∧ xv = .string T ∧ ascB T = true ∧ T.size ≤ 600 * min k 12 ∧ wr = w2) (fun _ i _ => ts.length - (intOf i).toNat)
    case atStart => exact ⟨0, ByteArray.empty, by omega, rfl, rfl, by decide +kernel, by decide, rfl⟩
    case round =>
      obtain ⟨k, T, hk, rfl, rfl, hTa, hTs, rfl⟩ := hrel
      obtain ⟨wX, rfl⟩ : ∃ x, x = wr := ⟨wr, rfl⟩
      have HTA := Lib.hid hTa
      have HTSz := Lib.hid hTs
      have hT0 : T.size ≤ 7200 := by omega
      clear hTa hTs
      by_cases hlt : k < ts.length
      · have hlti : (k : Int) < (ts.length : Int) := by omega
        rcases HTV.out.below HB2.out with ⟨a, c, hv, hnil⟩ | ⟨tb, tof, tc, hv, htb, -, htc⟩
        · rw [hnil] at hlt; simp at hlt
        injection hv with h1 h2 h3
        subst h1
        have e0 := htc k hlt
        have hx := HTS.out ts[k] (List.getElem_mem hlt)
        obtain ⟨X, hX⟩ := Int.eq_ofNat_of_zero_le hx.1
        rw [hX] at e0 hx
        have hX2 : (X : Int) < 256 := hx.2
        clear htc h2 h3 hx hX
        by_cases h12 : k < 12
        · have h12i : (k : Int) < 12 := by omega
          have hTk : T.size ≤ 600 * k := by have := HTSz.out; omega
          by_cases h14 : X < 14
          · have h14i : (X : Int) < 14 := by omega
            have es := HSM.out X h14
            obtain ⟨q1, q2⟩ := sm_facts X h14
            have HT2 : Hid (ascB (T ++ (sm X ++ nlB)) = true ∧ (T ++ (sm X ++ nlB)).size ≤ 600 * min (k + 1) 12) := by
              refine ⟨by rw [ascB_app, ascB_app, HTA.out, q1, nl_asc]; rfl, ?_⟩
              rw [size_app, size_app, nl_size]; omega
            unfold nlB at HT2
            generalize sm X = SX at *
            go_wp2_with fail
            go_roundw
            case rel => exact ⟨k + 1, _, by omega, by go_num, rfl, HT2.out.1, HT2.out.2, by trivial⟩
            case measure => simp [intOf]; omega
          · have h14i : ¬ ((X : Int) < 14) := by omega
            by_cases h40 : X < 40
            · have h40i : (X : Int) < 40 := by omega
              have h4 : X % 4 < 14 := by omega
              have es := HSM.out (X % 4) h4
              obtain ⟨q1, q2⟩ := sm_facts (X % 4) h4
              have HT2 : Hid (ascB (T ++ (sm (X % 4) ++ nlB)) = true ∧ (T ++ (sm (X % 4) ++ nlB)).size ≤ 600 * min (k + 1) 12) := by
                refine ⟨by rw [ascB_app, ascB_app, HTA.out, q1, nl_asc]; rfl, ?_⟩
                rw [size_app, size_app, nl_size]; omega
              unfold nlB at HT2
              have hmod : Int.tmod (X : Int) 4 = ((X % 4 : Nat) : Int) := by rw [Int.tmod_eq_emod_of_nonneg (by omega)]; rfl
              obtain ⟨M, hM⟩ : ∃ x, X % 4 = x := ⟨_, rfl⟩
              rw [hM] at hmod es HT2 h4 q2
              have hMi : (M : Int) < 14 := by omega
              generalize sm M = SX at *
              clear q1 hM
              go_wp2_with fail
              go_roundw
              case rel => exact ⟨k + 1, _, by omega, by go_num, rfl, HT2.out.1, HT2.out.2, by trivial⟩
              case measure => simp [intOf]; omega
            · have h40i : ¬ ((X : Int) < 40) := by omega
              have HT2 : Hid (ascB (T ++ s) = true ∧ (T ++ s).size ≤ 600 * min (k + 1) 12) := by
                refine ⟨by rw [ascB_app, HTA.out, HAS.out]; rfl, ?_⟩
                rw [size_app]; omega
              go_wp2_with fail
              go_roundw
              case rel => exact ⟨k + 1, _, by omega, by go_num, rfl, HT2.out.1, HT2.out.2, by trivial⟩
              case measure => simp [intOf]; omega
        · have h12i : ¬ ((k : Int) < 12) := by omega
          have HT2 : Hid (T.size ≤ 600 * min (k + 1) 12) := by show T.size ≤ _; have := HTSz.out; omega
          go_wp2_with fail
          go_roundw
          case rel => exact ⟨k + 1, T, by omega, by go_num, rfl, HTA.out, HT2.out, by trivial⟩
          case measure => simp [intOf]; omega
      · obtain rfl : k = ts.length := by omega
        have hlti : ¬ ((ts.length : Int) < (ts.length : Int)) := by omega
        go_wp2_with fail
        go_meet
        case rel => exact ⟨T, rfl, HTA.out, by omega, Below.refl _ _⟩
  case rest =>
  obtain ⟨T, rfl, hTa, hTs, hb⟩ := hcut
  obtain ⟨w3, rfl⟩ : ∃ x, x = wc := ⟨wc, rfl⟩
  have e0 := (hb.cell (p := ⟨b, 0, none⟩) hb1).trans (HSM.out 0 (by decide))
  have HB3 := Lib.hid (HB2.out.trans (hb.mono hg22))
  have hw3 : w.heap.size ≤ w3.heap.size := HB3.out.size
  obtain ⟨q1, q2⟩ := sm_facts 0 (by decide)
  have HU : Hid (∀ x ∈ [s, T, sm 0 ++ ⟨#[10]⟩ ++ s], ascB x = true) := by
    intro x hx
    simp only [List.mem_cons, List.not_mem_nil, or_false] at hx
    rcases hx with rfl | rfl | rfl
    · exact HAS.out
    · exact hTa
    · rw [ascB_app, ascB_app, q1, HAS.out, show ascB ⟨#[10]⟩ = true from nl_asc]; rfl
  have HUZ : Hid (∀ x ∈ [s, T, sm 0 ++ ⟨#[10]⟩ ++ s], x.size ≤ 7300) := by
    intro x hx
    simp only [List.mem_cons, List.not_mem_nil, or_false] at hx
    rcases hx with rfl | rfl | rfl
    · omega
    · exact hTs
    · rw [size_app, size_app, show (⟨#[10]⟩ : ByteArray).size = 1 from rfl]; omega
  generalize sm 0 = S0 at *
  clear hTa hTs hb HB2 HSM q1 hb1 hg22 HTV HTS
  go_upto_region 18 with fail
  go_cut [74, 75, 76] (fun sv nv iv wc => ∃ g, sv = .slice (some ⟨g, 0, none⟩) 3 3 ∧ nv = .int .i64 3 ∧ iv = .int .i64 0 ∧ w3.heap.size ≤ g ∧ g < wc.heap.size ∧ Below w3.heap.size w3 wc ∧ ∀ j, j < 3 → wc.cell? ⟨g, j, none⟩ = some (.string (wAt [s, T, S0 ++ ⟨#[10]⟩ ++ s] j)))
  case first =>
    go_wp2_with fail
    go_meet
    case rel =>
      refine ⟨w3.heap.size, rfl, rfl, rfl, Nat.le_refl _, by simp, (Below.refl _ _).alloc (Nat.le_refl _) _, fun j hj => ?_⟩
      match j, hj with
      | 0, _ | 1, _ | 2, _ => simp [World.cell?_alloc_new, wAt]
  case rest =>
  obtain ⟨g, rfl, rfl, rfl, hg0, hg1, hb, hcs⟩ := hcut
  clear q2
  obtain ⟨w4, rfl⟩ : ∃ x, x = wc := ⟨wc, rfl⟩
  have HB4 := Lib.hid (HB3.out.trans (hb.mono hw3))
  have HCS := Lib.hid hcs
  have hw4 : w.heap.size ≤ w4.heap.size := HB4.out.size
  obtain ⟨US, hUS⟩ : ∃ x, [s, T, S0 ++ ⟨#[10]⟩ ++ s] = x := ⟨_, rfl⟩
  have HU3 : Hid (US.length = 3) := by show US.length = 3; rw [← hUS]; rfl
  rw [hUS] at HU HUZ HCS
  clear hb hcs HB3 hUS e0 hg0
  go_upto_block 2 with fail
  go_wp2_with fail
  go_loopw [76] (fun i wr => ∃ k : Nat, k ≤ 3 ∧ i = .int .i64 k ∧ Below w4.heap.size w4 wr) (fun i _ => 3 - (intOf i).toNat)
  case atStart => exact ⟨0, by omega, rfl, Below.refl _ _⟩
  case round =>
    obtain ⟨k, hk, rfl, hb⟩ := hrel
    have HB := Lib.hid (HB4.out.trans (hb.mono hw4))
    have HBk := Lib.hid hb
    have hwr : w.heap.size ≤ wr.heap.size := HB.out.size
    have hwr4 : w4.heap.size ≤ wr.heap.size := hb.size
    obtain ⟨wX, rfl⟩ : ∃ x, x = wr := ⟨wr, rfl⟩
    by_cases hlt : k < 3
    · have hlti : (k : Int) < 3 := by omega
      have e0 := (hb.cell (p := ⟨g, k, none⟩) hg1).trans (HCS.out k hlt)
      have hUa : ascB (wAt US k) = true := by rw [← wAt_is US k (by rw [HU3.out]; exact hlt)]; exact HU.out _ (List.getElem_mem _)
      have hUz : (wAt US k).size ≤ 7300 := by rw [← wAt_is US k (by rw [HU3.out]; exact hlt)]; exact HUZ.out _ (List.getElem_mem _)
      obtain ⟨U, hU⟩ : ∃ x, wAt US k = x := ⟨_, rfl⟩
      rw [hU] at e0 hUa hUz
      have HUa := Lib.hid hUa
      clear hb hU hUa
      by_cases h3 : 3000 < U.size
      · have h3i : (3000 : Int) < U.size := by omega
        go_wp2_with fail
        go_roundw
        case rel => exact ⟨k + 1, by omega, by go_num, HBk.out⟩
        case measure => simp [intOf]; omega
      · have h3i : ¬ ((3000 : Int) < U.size) := by omega
        have hP := cparse_any U wX (by omega) (HG.out.below HB.out hg2')
        obtain ⟨ok1, ok2, ok3⟩ := out_ok U (by omega)
        have OK1 := Lib.hid ok1
        have OK2 := Lib.hid ok2
        have OK3 := Lib.hid ok3
        have HR := Lib.hid (fun W => rread_any right_all2 U W (by omega) HUa.out)
        clear ok1 ok2 ok3 hUz
        go_wp2_with fail
        refine hP.mono ?_
        rintro e w5 ⟨hb5, hbad, hgood⟩
        have HB5 := Lib.hid (HBk.out.trans (hb5.mono hwr4))
        have hw45 : w4.heap.size ≤ w5.heap.size := Nat.le_trans hwr4 hb5.size
        clear hP hb5 e0
        by_cases hz : (parseE U).2 = 0
        · obtain ⟨n, vr, vm, vg, rfl, -, hCF⟩ := hgood hz
          have HCF := Lib.hid hCF
          have HZ := Lib.hid hz
          clear hgood hbad hCF hz
          go_wp2_with fail
          refine (HR.out w5).mono ?_
          rintro e w6 ⟨hb6, va, vb, rfl, hrr⟩
          obtain ⟨p1, p2⟩ := parse_zero U HZ.out
          obtain ⟨hrg, hmk⟩ := hrr HZ.out
          have hS := same_all2 n vr vm vg va vb (outRs U) (outMs U) OK1.out OK2.out OK3.out p2 w6 hrg hmk (HCF.out.below hb6)
          have HB6 := Lib.hid (HB5.out.trans (hb6.mono hw45))
          have hw46 : w4.heap.size ≤ w6.heap.size := Nat.le_trans hw45 hb6.size
          rw [HZ.out, p1]
          clear hrr hrg hmk hb6 p1 p2 HCF HZ
          go_wp2_with fail
          refine hS.mono ?_
          rintro e w7 ⟨rfl, hb7⟩
          have HB7 := Lib.hid (HB6.out.trans (hb7.mono hw46))
          clear hS hb7
          go_wp2_with fail
          go_roundw
          case rel => exact ⟨k + 1, by omega, by go_num, HB7.out⟩
          case measure => simp [intOf]; omega
        · have he := hbad hz
          subst he
          clear hgood hbad
          obtain ⟨L, hL⟩ : ∃ x, (parseE U).1 = x := ⟨_, rfl⟩
          obtain ⟨E, hE⟩ : ∃ x, (parseE U).2 = x := ⟨_, rfl⟩
          rw [hE] at hz
          have hR := HR.out w5
          unfold RdPost at hR
          rw [hL, hE] at hR ⊢
          clear hL hE
          go_wp2_with fail
          refine hR.mono ?_
          rintro e w6 ⟨hb6, va, vb, rfl, -⟩
          have HB6 := Lib.hid (HB5.out.trans (hb6.mono hw45))
          clear hR hb6
          go_wp2_with fail
          go_roundw
          case rel => exact ⟨k + 1, by omega, by go_num, HB6.out⟩
          case measure => simp [intOf]; omega
    · obtain rfl : k = 3 := by omega
      go_wp2_with fail
      go_ret
      exact ⟨rfl, HB.out⟩
end Go.Proofs.YtfkiinbmbbhbkaaDoor

namespace Go.Proofs.YtfkiinbmbbhbkaaDoor
set_option linter.unusedSimpArgs false
set_option linter.unusedVariables false
open Go.ChangeShapes Go.WideShapes Go.ChangeAt Go.RowKit Go.Deep

theorem Tryd.own : ownKnob Tryd.prog.godebug = none := by kernel_rfl
theorem Tryd.cells5 : Tryd.prog.cellsOf 5 = 1 := by kernel_rfl
theorem Tryd.cells24 : Tryd.prog.cellsOf 24 = 5 := by kernel_rfl
theorem Tryd.cells25 : Tryd.prog.cellsOf 25 = 25 := by kernel_rfl
theorem Tryd.cells26 : Tryd.prog.cellsOf 26 = 1 := by kernel_rfl
theorem Tryd.cells28 : Tryd.prog.cellsOf 28 = 27 := by kernel_rfl

/-- an array, element by element -/
theorem trod_arr {H : Type} {enc : TypeId × Value → H} {P : Program} {w : World} {base : Nat} {sp : Nat → Bool} {held : Bool} {fuel : Nat} {t e : TypeId} {n : Nat} {cs : List Value} {x : DataW H × List MemPlace}
    (ht : P.underlying t = some (.array n e)) (h : DataW.trod enc P w base sp held fuel t cs = some x) :
    cs.length = P.cellsOf t ∧ ∃ (f : Nat) (xs : List (DataW H × List MemPlace)), x = (.agg (xs.map (·.1)), xs.flatMap (·.2)) ∧ xs.length = n ∧ ∀ i, i < n → ∃ y, xs[i]? = some y ∧ DataW.trod enc P w base sp held f e ((cs.drop (i * P.cellsOf e)).take (P.cellsOf e)) = some y := by
  cases fuel with
  | zero => simp [DataW.trod] at h
  | succ fuel =>
    simp only [DataW.trod, ht] at h
    split at h
    · rename_i hl
      obtain ⟨xs, hm, hx⟩ := Option.map_eq_some_iff.1 h
      refine ⟨hl, fuel, xs, hx.symm, by simpa using Lib.mapM_length hm, fun i hi => ?_⟩
      exact Lib.mapM_at hm i i (by simp [hi])
    · cases h

theorem take_one {L : List Value} {i : Nat} {v : Value} (h : (L.drop i).take 1 = [v]) : L[i]? = some v := by
  have := congrArg (·[0]?) h
  simpa [List.getElem?_take, List.getElem?_drop] using this

set_option maxRecDepth 100000 in
theorem open_u8s {H : Type} {enc : TypeId × Value → H} {W : World} {fuel : Nat} {cs : List Value} {x : DataW H × List MemPlace} 
    (hf : DataW.trod enc Tryd.prog W 0 (fun _ => true) true fuel 26 cs = some x) : ∃ v zs, cs = [v] ∧ U8s W v zs ∧ (∀ z ∈ zs, 0 ≤ z ∧ z < 256) ∧ zs.length ≤ maxLen := by
  rcases open_ints Tryd.underlying26 Tryd.underlying5 Tryd.cells5 hf with ⟨hcs, _⟩ | ⟨a, len, cap, zs, hcs, _, hl, hm, hz, _, hi, hwz⟩
  · exact ⟨_, [], hcs, .inl ⟨none, 0, rfl, rfl⟩, (by intro x hx; cases hx), by simp⟩
  · simp only [if_true] at hz
    refine ⟨_, zs.take len, hcs, ?_, (fun z hzm => by have := bounds_u8 (hwz z (List.mem_of_mem_take hzm)); omega), by rw [List.length_take]; omega⟩
    rcases Nat.eq_zero_or_pos len with h0 | h0
    · subst h0
      exact .inl ⟨some a, _, rfl, by simp⟩
    · have e0 := hi 0 (by omega)
      have hsp := World.cell?_spot e0
      have hbl := World.block_lt_of_cell? W _ e0
      obtain ⟨ab, ao, asp⟩ := a
      simp only [Addr.add] at hsp hbl
      subst hsp
      have hlen : (zs.take len).length = len := by rw [List.length_take]; omega
      refine .inr ⟨ab, ao, _, by rw [hlen], hbl, by omega, fun i hil => ?_⟩
      have := hi i (by omega)
      rw [List.getElem_take]
      rw [List.getD_eq_getElem?_getD, List.getElem?_eq_getElem (by omega), Option.getD_some] at this
      rw [Addr.add_mid] at this; exact this

set_option maxRecDepth 100000 in
/-- the keywords, as laid -/
theorem keys_laid {W : World} (h : laidMet Tryd.prog [("garrison/conf.keys", Rows.laid_garrison_conf_keys)] W) : ∀ i, i < 5 → W.cell? ⟨0, i, none⟩ = some (.string (kw i)) := by
  obtain ⟨ps, ⟨g, t, cs, fuel, p, q, hg, ht, hvar, hd, _, _⟩, _⟩ := h
  have hg0 : Tryd.prog.globalNamed "garrison/conf.keys" = some 0 := by kernel_rfl
  obtain rfl : g = 0 := Option.some.inj (hg.symm.trans hg0)
  have ht0 : (Tryd.prog.globals[0]?).map (·.type) = some 126 := by kernel_rfl
  obtain rfl : t = 126 := Option.some.inj (ht.symm.trans ht0)
  obtain ⟨-, f, xs, hx, hxl, hc⟩ := trod_arr Tryd.underlying126 hd
  have h9 : Tryd.prog.cellsOf 9 = 1 := by kernel_rfl
  have hdat := congrArg Prod.fst hx
  simp only [Rows.laid_garrison_conf_keys] at hdat
  intro i hi
  obtain ⟨y, hy, hyt⟩ := hc i hi
  rw [h9, Nat.mul_one] at hyt
  obtain ⟨s, hs, rfl, _⟩ := DataW.trod_string Tryd.underlying9 hyt
  have es := take_one hs
  have hyi : (xs.map (·.1))[i]? = some (DataW.lit (.string s.data.toList)) := by rw [List.getElem?_map, hy]; rfl
  replace hdat := DataW.agg.inj hdat
  rw [← hdat] at hyi
  have hcell := World.var?_cell hg0 hvar i
  rw [hcell]
  have hk : s = kw i := by
    have : i = 0 ∨ i = 1 ∨ i = 2 ∨ i = 3 ∨ i = 4 := by omega
    rcases this with rfl | rfl | rfl | rfl | rfl <;> (simp at hyi; exact ByteArray.ext (Array.ext' (by rw [← hyi]; rfl)))
  rw [← hk]
  simpa using es
end Go.Proofs.YtfkiinbmbbhbkaaDoor
