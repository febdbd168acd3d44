import Derived.Test.YtfkiinbmbbhbkaaDoorW9
import Derived.Deep.RegionHeld3
namespace Go.Proofs.YtfkiinbmbbhbkaaDoor
set_option linter.unusedSimpArgs false
set_option linter.unusedVariables false
open Go.RowKit

/-- what the document's answer adds, one by one -/
def ofStep (D : Nat) (z : Int) : Nat := if D.testBit z.toNat then D else D + 2 ^ z.toNat
def ofN (zs : List Int) : Nat := zs.foldl ofStep 0
def ofLv (level : Int) (zs : List Int) : Int := if 0 ≤ level ∧ level ≤ 15 ∧ catsOk zs = true then level else 0
def ofCs (level : Int) (zs : List Int) : Int := if 0 ≤ level ∧ level ≤ 15 ∧ catsOk zs = true then (ofN zs : Int) else 0
def ofOk (level : Int) (zs : List Int) : Bool := if 0 ≤ level ∧ level ≤ 15 ∧ catsOk zs = true then true else false

theorem ofN_lt (zs : List Int) (h : catsOk zs = true) : ofN zs < 65536 :=
  fold_inv ofStep (fun D => D < 65536) zs (fun D z hz hD => by
    unfold catsOk at h
    rw [List.all_eq_true] at h
    have hh := h z hz
    simp at hh
    unfold ofStep
    split
    · exact hD
    · rename_i ht
      rw [add_bit' D z.toNat hD (by omega) (by simpa using ht)]
      exact or_lt _ _ hD (Nat.pow_lt_pow_right (a := 2) (by omega) (show z.toNat < 16 by omega))) 0 (by omega)

set_option maxHeartbeats 400000 in
theorem of_some (level : Int) (b off cap : Nat) (zs : List Int) (w : World) (h0 : 0 ≤ level) (h1 : level ≤ 15) (hbl : b < w.heap.size) (hm : zs.length ≤ maxLen)
    (hc : ∀ i (h : i < zs.length), w.cell? ⟨b, off + i, none⟩ = some (.int .i64 zs[i])) :
    Calls Tryd.prog 65 #[.int .i64 level, .slice (some ⟨b, off, none⟩) zs.length cap] w fun e w' => e = .returned (.tuple #[.agg #[.int .u8 (ofLv level zs), .int .u16 (ofCs level zs)], .bool (ofOk level zs)]) ∧ Below w.heap.size w w' := by
  unfold maxLen at hm
  have HC := Lib.hid hc
  clear hc
  have hd0 : decide (level < 0) = false := by simp; omega
  have hd1 : decide (15 < level) = false := by simp; omega
  go_enter Tryd.func65, Tryd.ntmps65
  go_wp2
  go_loopw [7] (fun i wr => ∃ k : Nat, k ≤ zs.length ∧ i = .int .i64 k ∧ Below w.heap.size w wr ∧ Pair wr w.heap.size (.int .u8 0) (.int .u16 0) ∧ Pair wr (w.heap.size + 1) (.int .u8 level) (.int .u16 (ofN (zs.take k) : Int)) ∧ catsOk (zs.take k) = true) (fun i _ => zs.length - (intOf i).toNat)
  case atStart =>
    refine ⟨0, by omega, rfl, by repeat (first | exact Below.refl _ _ | apply Below.drew | refine Below.alloc ?_ (by simp) _), (Pair.new _ _ _ _).alloc _, ?_, rfl⟩
    simpa [ofN] using Pair.new (w.alloc (.cells #[.int .u8 0, .int .u16 0] 37)) (.int .u8 level) (.int .u16 0) 37
  case round =>
    obtain ⟨k, hk, rfl, hb, hr, hp, hok⟩ := hrel
    have hA1 := ofN_lt _ hok
    have HOk := Lib.hid hok
    clear hok
    obtain ⟨hsz, c0, c1, f0, f1⟩ := id hp
    obtain ⟨-, r0, r1, q0, q1⟩ := id hr
    have HP := Lib.hid hp
    have HR := Lib.hid hr
    clear hp hr
    by_cases hlt : k < zs.length
    · have e0 := (hb.cell (p := ⟨b, off + k, none⟩) hbl).trans (HC.out k hlt)
      have HS : Hid (ofN (zs.take (k + 1)) = ofStep (ofN (zs.take k)) zs[k]) := by
        show ofN (zs.take (k + 1)) = _
        unfold ofN; rw [List.take_succ_eq_append_getElem hlt, List.foldl_append]; rfl
      have HT := Lib.hid (catsOk_take hlt HOk.out)
      have HB : Hid (¬ (0 ≤ zs[k] ∧ zs[k] < 16) → catsOk zs = false) := fun h => catsOk_bad hlt h
      generalize zs[k] = z at *
      generalize ofN (zs.take k) = A at *
      have hlt' : (k : Int) < (zs.length : Int) := by omega
      have hk0 : (0 : Int) ≤ (k : Int) := by omega
      have hbl' : b < wr.heap.size := Nat.lt_of_lt_of_le hbl hb.size
      by_cases hz : 0 ≤ z ∧ z < 16
      · obtain ⟨hz0, hz1⟩ := hz
        have hd2 : decide (z < 0) = false := by simp; omega
        have hd3 : decide (15 < z) = false := by simp; omega
        go_wp2_with fail
        go_region_held3 (fun w' => w'.cell? ⟨w.heap.size + 1, 0, none⟩ = some (.int .u8 level) ∧ w'.cell? ⟨w.heap.size + 1, 1, none⟩ = some (.int .u16 (A : Int)) ∧ w'.cell? ⟨b, off + k, none⟩ = some (.int .i64 z))
          (first | go_keep | exact ⟨(hc1 _ _ hsz).trans c0, (hc1 _ _ hsz).trans c1, (hc1 _ _ hbl').trans e0⟩)
          (first | (go_at_call 59; refine (has_any level (A : Int) z _ (by omega) (by omega)).mono ?_; rintro e w1 ⟨rfl, hb1⟩; obtain ⟨hc1, hf1⟩ := bcell hb1))
        have H2 : Hid (hasB (A : Int) z = A.testBit z.toNat) := by
          obtain ⟨Z, rfl⟩ := Int.eq_ofNat_of_zero_le hz0
          rw [Int.toNat_natCast]; exact hasB_nat A Z (by omega)
        have hB4 := (show Below w.heap.size w wr.drew from hb.drew).trans (hb1.mono (show w.heap.size ≤ wr.heap.size by omega))
        have hP4 := HP.out.drew.below hb1 (show w.heap.size + 1 < wr.heap.size by omega)
        have hR4 := HR.out.drew.below hb1 (show w.heap.size < wr.heap.size by omega)
        have e4 := (hc1 _ _ hbl').trans e0
        have HE4 := Lib.hid e4
        clear e4 hc1 hf1 hb1 c0 c1 f0 f1 r0 r1 q0 q1 e0 hb
        cases hh : hasB (A : Int) z
        · have HG : Hid (A.testBit z.toNat = false) := H2.out.symm.trans hh
          clear hh
          obtain ⟨hsz4, c0, c1, f0, f1⟩ := id hP4
          have e0 := HE4.out
          have HP4 := Lib.hid hP4
          have HR4 := Lib.hid hR4
          clear hP4 hR4
          go_wp2
          go_region
          go_wp2
          go_roundw
          case rel =>
            have hw : IntKind.u16.wrap ((A : Int) + IntKind.u16.wrap (2 ^ z.toNat)) = ((A + 2 ^ z.toNat : Nat) : Int) := wrap_add A z.toNat hA1 (by omega) HG.out
            refine ⟨k + 1, by omega, by go_num, (hB4.setCell (by simp) _).drew, (HR4.out.set_far (by simp) _).drew, ?_, ?_⟩
            · rw [HS.out, show ofStep A z = A + 2 ^ z.toNat by unfold ofStep; rw [HG.out]; simp, ← hw]; exact (HP4.out.set1 _).drew
            · rw [HT.out]; simp [hz0, hz1]
          case measure => simp [intOf]; omega
        · have HG : Hid (A.testBit z.toNat = true) := H2.out.symm.trans hh
          clear hh
          have HP4 := Lib.hid hP4
          have HR4 := Lib.hid hR4
          clear hP4 hR4
          go_wp2
          go_roundw
          case rel =>
            refine ⟨k + 1, by omega, by go_num, hB4, HR4.out, ?_, ?_⟩
            · rw [HS.out, show ofStep A z = A by unfold ofStep; rw [HG.out]; simp]; exact HP4.out
            · rw [HT.out]; simp [hz0, hz1]
          case measure => simp [intOf]; omega
      · have hbad := HB.out hz
        have hv0 : ofLv level zs = 0 := by unfold ofLv; rw [hbad]; simp
        have hv1 : ofCs level zs = 0 := by unfold ofCs; rw [hbad]; simp
        have hv2 : ofOk level zs = false := by unfold ofOk; rw [hbad]; simp
        have HV := Lib.hid (And.intro hv0 (And.intro hv1 hv2))
        clear hbad hv0 hv1 hv2
        by_cases hz0 : 0 ≤ z
        all_goals
          first
            | (have hd2 : decide (z < 0) = false := by simp; omega)
            | (have hd2 : decide (z < 0) = true := by simp; omega)
          have hd3 : z < 0 ∨ decide (15 < z) = true := by simp; omega
          go_wp2
          refine bodyPost_ret (v := .tuple #[.agg #[.int .u8 0, .int .u16 0], .bool false]) (by simp [results, Tryd.results65, go_sem, r0, r1]) rfl ⟨by rw [HV.out.1, HV.out.2.1, HV.out.2.2], ?_⟩
          exact (hb.setCell (by simp) _).setCell (by simp) _
    · obtain rfl : k = zs.length := by omega
      rw [List.take_length] at *
      have hg : 0 ≤ level ∧ level ≤ 15 ∧ catsOk zs = true := ⟨h0, h1, HOk.out⟩
      have hv0 : ofLv level zs = level := if_pos hg
      have hv1 : ofCs level zs = (ofN zs : Int) := if_pos hg
      have hv2 : ofOk level zs = true := if_pos hg
      have HV := Lib.hid (And.intro hv0 (And.intro hv1 hv2))
      clear hg hv0 hv1 hv2
      go_wp2
      refine bodyPost_ret (v := .tuple #[.agg #[.int .u8 level, .int .u16 (ofN zs : Int)], .bool true]) (by simp [results, Tryd.results65, go_sem, r0, r1]) rfl ⟨by rw [HV.out.1, HV.out.2.1, HV.out.2.2], ?_⟩
      exact (hb.setCell (by simp) _).setCell (by simp) _

set_option maxHeartbeats 400000 in
theorem of_bad (level : Int) (v : Value) (w : World) (h : level < 0 ∨ 15 < level) :
    Calls Tryd.prog 65 #[.int .i64 level, v] w fun e w' => e = .returned (.tuple #[.agg #[.int .u8 0, .int .u16 0], .bool false]) ∧ Below w.heap.size w w' := by
  rcases h with h | h
  all_goals
    go_enter Tryd.func65, Tryd.ntmps65
    first
      | (have hd : decide (level < 0) = true := by simp; omega)
      | (have hd : decide (level < 0) = false := by simp; omega)
    go_wp2
    refine bodyPost_ret (v := .tuple #[.agg #[.int .u8 0, .int .u16 0], .bool false]) (by simp [results, Tryd.results65, go_sem]) rfl ⟨rfl, ?_⟩
    repeat (first | exact Below.refl _ _ | apply Below.drew | refine Below.alloc ?_ (by simp) _ | refine Below.setCell ?_ (by simp) _)
set_option maxHeartbeats 400000 in
theorem of_empty (level : Int) (a : Option Addr) (cap : Nat) (w : World) (h0 : 0 ≤ level) (h1 : level ≤ 15) :
    Calls Tryd.prog 65 #[.int .i64 level, .slice a 0 cap] w fun e w' => e = .returned (.tuple #[.agg #[.int .u8 level, .int .u16 0], .bool true]) ∧ Below w.heap.size w w' := by
  have hd0 : decide (level < 0) = false := by simp; omega
  have hd1 : decide (15 < level) = false := by simp; omega
  go_enter Tryd.func65, Tryd.ntmps65
  go_wp2
  refine wp_loop_rounds 1 ?_
  rw [rounds_succ]
  go_wp2
  refine bodyPost_ret (v := .tuple #[.agg #[.int .u8 level, .int .u16 0], .bool true]) (by simp [results, Tryd.results65, go_sem]) rfl ⟨rfl, ?_⟩
  repeat (first | exact Below.refl _ _ | apply Below.drew | refine Below.alloc ?_ (by simp) _ | refine Below.setCell ?_ (by simp) _)
theorem of_any (level : Int) (v : Value) (zs : List Int) (w : World) (h : Ints w v zs) :
    Calls Tryd.prog 65 #[.int .i64 level, v] w fun e w' => e = .returned (.tuple #[.agg #[.int .u8 (ofLv level zs), .int .u16 (ofCs level zs)], .bool (ofOk level zs)]) ∧ Below w.heap.size w w' := by
  by_cases hl : 0 ≤ level ∧ level ≤ 15
  · obtain ⟨h0, h1⟩ := hl
    rcases h with ⟨a, cap, rfl, rfl⟩ | ⟨b, off, cap, rfl, hbl, hm, hc⟩
    · have hg : 0 ≤ level ∧ level ≤ 15 ∧ catsOk [] = true := ⟨h0, h1, rfl⟩
      rw [show ofLv level [] = level from if_pos hg, show ofCs level [] = 0 from if_pos hg, show ofOk level [] = true from if_pos hg]
      exact of_empty level a cap w h0 h1
    · exact of_some level b off cap zs w h0 h1 hbl hm hc
  · have hg : ¬ (0 ≤ level ∧ level ≤ 15 ∧ catsOk zs = true) := fun h => hl ⟨h.1, h.2.1⟩
    rw [show ofLv level zs = 0 from if_neg hg, show ofCs level zs = 0 from if_neg hg, show ofOk level zs = false from if_neg hg]
    exact of_bad level v w (by omega)

/-- the code's bits are the document's -/
theorem orC_ofN (zs : List Int) (h : catsOk zs = true) : orC zs = (ofN zs : Int) := by
  have key : ∀ (l : List Int), catsOk l = true → ∀ (D : Nat), D < 65536 → l.foldl orStep (D : Int) = ((l.foldl ofStep D : Nat) : Int) := by
    intro l
    induction l with
    | nil => intro _ D _; rfl
    | cons z r ih =>
      intro hz D hD
      unfold catsOk at hz
      simp only [List.all_cons, Bool.and_eq_true, decide_eq_true_eq] at hz
      obtain ⟨⟨hz0, hz1⟩, hr⟩ := hz
      have hlt : z.toNat < 16 := by omega
      have hp : 2 ^ z.toNat < 2 ^ 16 := Nat.pow_lt_pow_right (a := 2) (by omega) hlt
      have e1 : orStep (D : Int) z = ((D ||| 2 ^ z.toNat : Nat) : Int) := by
        unfold orStep
        have h3 : IntKind.u16.wrap ((2 : Int) ^ z.toNat) = ((2 ^ z.toNat : Nat) : Int) := by
          rw [IntKind.wrap_u16, show ((2 : Int) ^ z.toNat) = ((2 ^ z.toNat : Nat) : Int) by simp]
          generalize 2 ^ z.toNat = P at *
          omega
        rw [h3, u16_or_nat D _ hD hp]
      have e2 : ofStep D z = D ||| 2 ^ z.toNat := by
        unfold ofStep
        split
        · rename_i ht
          apply ext16 _ _ hD (or_lt _ _ hD hp)
          intro i hi
          rw [Nat.testBit_or, Nat.testBit_two_pow]
          by_cases e : z.toNat = i
          · subst e; simp [ht]
          · simp [e]
        · rename_i ht
          exact add_bit' D z.toNat hD hlt (by simpa using ht)
      simp only [List.foldl_cons]
      rw [e1, e2]
      exact ih (by unfold catsOk; exact hr) _ (or_lt _ _ hD hp)
  exact key zs h 0 (by omega)
theorem make_of (level : Int) (zs : List Int) : makeLv level zs = ofLv level zs ∧ makeCs level zs = ofCs level zs ∧ makeEr level zs = (if ofOk level zs then 0 else 27) := by
  by_cases hg : 0 ≤ level ∧ level ≤ 15 ∧ catsOk zs = true
  · unfold makeLv makeCs makeEr ofLv ofCs ofOk
    simp only [if_pos hg]
    exact ⟨trivial, orC_ofN zs hg.2.2, by simp⟩
  · unfold makeLv makeCs makeEr ofLv ofCs ofOk
    simp only [if_neg hg]
    exact ⟨trivial, trivial, by simp⟩
end Go.Proofs.YtfkiinbmbbhbkaaDoor
