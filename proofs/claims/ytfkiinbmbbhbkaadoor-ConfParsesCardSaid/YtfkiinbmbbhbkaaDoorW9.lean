import Derived.Test.YtfkiinbmbbhbkaaDoorLab
import Derived.Test.YtfkiinbmbbhbkaaDoorMath
import Derived.Test.YtfkiinbmbbhbkaaDoorW2
import Derived.Deep.QuietTactic
import Derived.BigQuiet
import Derived.RegionTactic
import Derived.BigRegion
namespace Go.Proofs.YtfkiinbmbbhbkaaDoor
set_option linter.unusedSimpArgs false
set_option linter.unusedVariables false
open Go.RowKit

theorem fold_take {α β : Type} (f : β → α → β) (z : β) (ls : List α) (k : Nat) (h : k < ls.length) : (ls.take (k + 1)).foldl f z = f ((ls.take k).foldl f z) ls[k] := by
  rw [List.take_succ_eq_append_getElem h, List.foldl_append]; rfl

theorem hasB_toNat (c : Int) (i : Nat) (h0 : 0 ≤ c) (hi : i < 16) : hasB c (i : Int) = c.toNat.testBit i := by
  obtain ⟨C, rfl⟩ := Int.eq_ofNat_of_zero_le h0
  rw [Int.toNat_natCast]; exact hasB_nat C i hi
theorem wrap_add (D j : Nat) (hD : D < 65536) (hj : j < 16) (h : D.testBit j = false) : IntKind.u16.wrap ((D : Int) + IntKind.u16.wrap (2 ^ j)) = ((D + 2 ^ j : Nat) : Int) := by
  have hp : 2 ^ j < 2 ^ 16 := Nat.pow_lt_pow_right (a := 2) (by omega) hj
  have h1 := add_bit D j hD hj h
  have h2 := add_bit' D j hD hj h
  have h3 : ((2 : Int) ^ j) = ((2 ^ j : Nat) : Int) := by simp
  rw [IntKind.wrap_u16, IntKind.wrap_u16, h3]
  generalize 2 ^ j = P at *
  rw [← h2] at h1
  omega
theorem fold_inv {α β : Type} (f : β → α → β) (P : β → Prop) (ls : List α) (h : ∀ b x, x ∈ ls → P b → P (f b x)) : ∀ z, P z → P (ls.foldl f z) := by
  induction ls with
  | nil => intro z hz; exact hz
  | cons a r ih => intro z hz; exact ih (fun b x hx => h b x (List.mem_cons_of_mem _ hx)) _ (h z a (List.mem_cons_self ..) hz)

/-- v is a slice that holds these numbers (an empty one, nil too, may point anywhere) -/
def Ints (w : World) (v : Value) (zs : List Int) : Prop :=
  (∃ a cap, v = .slice a 0 cap ∧ zs = []) ∨
  (∃ b off cap, v = .slice (some ⟨b, off, none⟩) zs.length cap ∧ b < w.heap.size ∧ zs.length ≤ maxLen ∧ (∀ i (h : i < zs.length), w.cell? ⟨b, off + i, none⟩ = some (.int .i64 zs[i])))
theorem Ints.below {w w' : World} {v : Value} {zs : List Int} (h : Ints w v zs) (hb : Below w.heap.size w w') : Ints w' v zs := by
  rcases h with h | ⟨b, off, cap, hv, hbl, hm, h0⟩
  · exact .inl h
  · exact .inr ⟨b, off, cap, hv, Nat.lt_of_lt_of_le hbl hb.size, hm, fun i hi => (hb.cell (p := ⟨b, off + i, none⟩) hbl).trans (h0 i hi)⟩

/-- may these be categories? -/
def catsOk (zs : List Int) : Bool := zs.all fun z => decide (0 ≤ z) && decide (z < 16)
def orStep (c z : Int) : Int := bits .or .u16 c (IntKind.u16.wrap (2 ^ z.toNat))
def orC (zs : List Int) : Int := zs.foldl orStep 0
theorem catsOk_take {zs : List Int} {k : Nat} (hk : k < zs.length) (h : catsOk (zs.take k) = true) : catsOk (zs.take (k + 1)) = (decide (0 ≤ zs[k]) && decide (zs[k] < 16)) := by
  unfold catsOk at *
  rw [List.take_succ_eq_append_getElem hk, List.all_append, h]; simp
theorem catsOk_bad {zs : List Int} {k : Nat} (hk : k < zs.length) (h : ¬ (0 ≤ zs[k] ∧ zs[k] < 16)) : catsOk zs = false := by
  unfold catsOk
  rw [List.all_eq_false]
  exact ⟨zs[k], List.getElem_mem hk, by simpa using h⟩

/-- what Make answers -/
def makeLv (level : Int) (zs : List Int) : Int := if 0 ≤ level ∧ level ≤ 15 ∧ catsOk zs = true then level else 0
def makeCs (level : Int) (zs : List Int) : Int := if 0 ≤ level ∧ level ≤ 15 ∧ catsOk zs = true then orC zs else 0
def makeEr (level : Int) (zs : List Int) : Int := if 0 ≤ level ∧ level ≤ 15 ∧ catsOk zs = true then 0 else 27

set_option maxHeartbeats 400000 in
theorem make_bad (level : Int) (v : Value) (w : World) (h : level < 0 ∨ 15 < level) :
    Calls Tryd.prog 86 #[.int .i64 level, v] w fun e w' => e = .returned (.tuple #[.agg #[.int .u8 0, .int .u16 0], .int .i64 27]) ∧ Below w.heap.size w w' := by
  rcases h with h | h
  all_goals
    go_enter Tryd.func86, Tryd.ntmps86
    first
      | (have hd : decide (level < 0) = true := by simp; omega)
      | (have hd : decide (level < 0) = false := by simp; omega)
    go_wp2
    refine bodyPost_ret (v := .tuple #[.agg #[.int .u8 0, .int .u16 0], .int .i64 27]) (by simp [results, Tryd.results86, go_sem]) rfl ⟨rfl, ?_⟩
    repeat (first | exact Below.refl _ _ | apply Below.drew | refine Below.alloc ?_ (by simp) _ | refine Below.setCell ?_ (by simp) _)

set_option maxHeartbeats 400000 in
theorem make_some (level : Int) (b off cap : Nat) (zs : List Int) (w : World) (h0 : 0 ≤ level) (h1 : level ≤ 15) (hbl : b < w.heap.size) (hm : zs.length ≤ maxLen)
    (hc : ∀ i (h : i < zs.length), w.cell? ⟨b, off + i, none⟩ = some (.int .i64 zs[i])) :
    Calls Tryd.prog 86 #[.int .i64 level, .slice (some ⟨b, off, none⟩) zs.length cap] w fun e w' => e = .returned (.tuple #[.agg #[.int .u8 (makeLv level zs), .int .u16 (makeCs level zs)], .int .i64 (makeEr level zs)]) ∧ Below w.heap.size w w' := by
  unfold maxLen at hm
  have HC := Lib.hid hc
  clear hc
  have hd0 : decide (level < 0) = false := by simp; omega
  have hd1 : decide (15 < level) = false := by simp; omega
  go_enter Tryd.func86, Tryd.ntmps86
  go_wp2
  go_loopw [21] (fun i wr => ∃ k : Nat, k ≤ zs.length ∧ i = .int .i64 k ∧ Below w.heap.size w wr ∧ Pair wr w.heap.size (.int .u8 0) (.int .u16 0) ∧ Pair wr (w.heap.size + 1) (.int .u8 level) (.int .u16 (orC (zs.take k))) ∧ catsOk (zs.take k) = true) (fun i _ => zs.length - (intOf i).toNat)
  case atStart =>
    refine ⟨0, by omega, rfl, by repeat (first | exact Below.refl _ _ | apply Below.drew | refine Below.alloc ?_ (by simp) _), (Pair.new _ _ _ _).alloc _, ?_, rfl⟩
    simpa [orC] using Pair.new (w.alloc (.cells #[.int .u8 0, .int .u16 0] 37)) (.int .u8 level) (.int .u16 0) 37
  case round =>
    obtain ⟨k, hk, rfl, hb, hr, hp, hok⟩ := hrel
    have HOk := Lib.hid hok
    clear hok
    obtain ⟨hsz, c0, c1, f0, f1⟩ := id hp
    obtain ⟨-, r0, r1, q0, q1⟩ := id hr
    have HP := Lib.hid hp
    have HR := Lib.hid hr
    clear hp hr
    by_cases hlt : k < zs.length
    · have e0 := (hb.cell (p := ⟨b, off + k, none⟩) hbl).trans (HC.out k hlt)
      have HS : Hid (orC (zs.take (k + 1)) = orStep (orC (zs.take k)) zs[k]) := by
        show orC (zs.take (k + 1)) = _
        unfold orC; rw [List.take_succ_eq_append_getElem hlt, List.foldl_append]; rfl
      have HT := Lib.hid (catsOk_take hlt HOk.out)
      have HB : Hid (¬ (0 ≤ zs[k] ∧ zs[k] < 16) → catsOk zs = false) := fun h => catsOk_bad hlt h
      generalize zs[k] = z at *
      generalize orC (zs.take k) = A at *
      have hlt' : (k : Int) < (zs.length : Int) := by omega
      by_cases hz : 0 ≤ z ∧ z < 16
      · obtain ⟨hz0, hz1⟩ := hz
        have hd2 : decide (z < 0) = false := by simp; omega
        have hd3 : decide (16 ≤ z) = false := by simp; omega
        go_wp2
        go_region
        go_wp2
        go_roundw
        case rel =>
          refine ⟨k + 1, by omega, by go_num, (hb.setCell (by simp) _).drew, (HR.out.set_far (by simp) _).drew, ?_, ?_⟩
          · rw [HS.out]; exact (HP.out.set1 _).drew
          · rw [HT.out]; simp [hz0, hz1]
        case measure => simp [intOf]; omega
      · have hbad := HB.out hz
        have hv0 : makeLv level zs = 0 := by unfold makeLv; rw [hbad]; simp
        have hv1 : makeCs level zs = 0 := by unfold makeCs; rw [hbad]; simp
        have hv2 : makeEr level zs = 27 := by unfold makeEr; rw [hbad]; simp
        have HV := Lib.hid (And.intro hv0 (And.intro hv1 hv2))
        clear hbad hv0 hv1 hv2
        by_cases hz0 : 0 ≤ z
        all_goals
          first
            | (have hd2 : decide (z < 0) = false := by simp; omega)
            | (have hd2 : decide (z < 0) = true := by simp; omega)
          have hd3 : z < 0 ∨ decide (16 ≤ z) = true := by simp; omega
          go_wp2
          refine bodyPost_ret (v := .tuple #[.agg #[.int .u8 0, .int .u16 0], .int .i64 27]) (by simp [results, Tryd.results86, go_sem, r0, r1]) rfl ⟨by rw [HV.out.1, HV.out.2.1, HV.out.2.2], ?_⟩
          exact (hb.setCell (by simp) _).setCell (by simp) _
    · obtain rfl : k = zs.length := by omega
      rw [List.take_length] at *
      have hg : 0 ≤ level ∧ level ≤ 15 ∧ catsOk zs = true := ⟨h0, h1, HOk.out⟩
      have hv0 : makeLv level zs = level := if_pos hg
      have hv1 : makeCs level zs = orC zs := if_pos hg
      have hv2 : makeEr level zs = 0 := if_pos hg
      have HV := Lib.hid (And.intro hv0 (And.intro hv1 hv2))
      clear hg hv0 hv1 hv2
      go_wp2
      refine bodyPost_ret (v := .tuple #[.agg #[.int .u8 level, .int .u16 (orC zs)], .int .i64 0]) (by simp [results, Tryd.results86, go_sem, r0, r1]) rfl ⟨by rw [HV.out.1, HV.out.2.1, HV.out.2.2], ?_⟩
      exact (hb.setCell (by simp) _).setCell (by simp) _

set_option maxHeartbeats 400000 in
theorem make_empty (level : Int) (a : Option Addr) (cap : Nat) (w : World) (h0 : 0 ≤ level) (h1 : level ≤ 15) :
    Calls Tryd.prog 86 #[.int .i64 level, .slice a 0 cap] w fun e w' => e = .returned (.tuple #[.agg #[.int .u8 level, .int .u16 0], .int .i64 0]) ∧ Below w.heap.size w w' := by
  have hd0 : decide (level < 0) = false := by simp; omega
  have hd1 : decide (15 < level) = false := by simp; omega
  go_enter Tryd.func86, Tryd.ntmps86
  go_wp2
  refine wp_loop_rounds 1 ?_
  rw [rounds_succ]
  go_wp2
  refine bodyPost_ret (v := .tuple #[.agg #[.int .u8 level, .int .u16 0], .int .i64 0]) (by simp [results, Tryd.results86, go_sem]) rfl ⟨rfl, ?_⟩
  repeat (first | exact Below.refl _ _ | apply Below.drew | refine Below.alloc ?_ (by simp) _ | refine Below.setCell ?_ (by simp) _)
theorem make_any (level : Int) (v : Value) (zs : List Int) (w : World) (h : Ints w v zs) :
    Calls Tryd.prog 86 #[.int .i64 level, v] w fun e w' => e = .returned (.tuple #[.agg #[.int .u8 (makeLv level zs), .int .u16 (makeCs level zs)], .int .i64 (makeEr level zs)]) ∧ Below w.heap.size w w' := by
  by_cases hl : 0 ≤ level ∧ level ≤ 15
  · obtain ⟨h0, h1⟩ := hl
    rcases h with ⟨a, cap, rfl, rfl⟩ | ⟨b, off, cap, rfl, hbl, hm, hc⟩
    · have hg : 0 ≤ level ∧ level ≤ 15 ∧ catsOk [] = true := ⟨h0, h1, rfl⟩
      rw [show makeLv level [] = level from if_pos hg, show makeCs level [] = 0 from if_pos hg, show makeEr level [] = 0 from if_pos hg]
      exact make_empty level a cap w h0 h1
    · exact make_some level b off cap zs w h0 h1 hbl hm hc
  · have hg : ¬ (0 ≤ level ∧ level ≤ 15 ∧ catsOk zs = true) := fun h => hl ⟨h.1, h.2.1⟩
    rw [show makeLv level zs = 0 from if_neg hg, show makeCs level zs = 0 from if_neg hg, show makeEr level zs = 27 from if_neg hg]
    exact make_bad level v w (by omega)
end Go.Proofs.YtfkiinbmbbhbkaaDoor
