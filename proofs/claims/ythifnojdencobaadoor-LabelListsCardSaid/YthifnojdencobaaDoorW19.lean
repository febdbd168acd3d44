import Derived.Test.YthifnojdencobaaDoorW17
import Derived.Test.YthifnojdencobaaDoorW3
import Derived.Test.YthifnojdencobaaDoorW8
import Derived.Lib.QuietBelow
import Derived.BigQuiet
namespace Go.Proofs.YthifnojdencobaaDoor
open Go.RowKit

/-- the places below k of labels at or below one -/
def belowL (ls : List (Int × Int)) (lx cx : Int) (k : Nat) : List Int := ((List.range k).filter fun i : Nat => leqB (ls.getD i (0, 0)).1 (ls.getD i (0, 0)).2 lx cx).map fun i : Nat => (i : Int)
theorem belowL_succ (ls : List (Int × Int)) (lx cx : Int) (k : Nat) (hk : k < ls.length) : belowL ls lx cx (k + 1) = if leqB ls[k].1 ls[k].2 lx cx then belowL ls lx cx k ++ [(k : Int)] else belowL ls lx cx k := by
  unfold belowL
  rw [List.range_succ, List.filter_append, List.map_append]
  have e : ls.getD k (0, 0) = ls[k] := by rw [List.getD_eq_getElem?_getD, List.getElem?_eq_getElem hk]; rfl
  rw [← e]
  cases h : leqB (ls.getD k (0, 0)).1 (ls.getD k (0, 0)).2 lx cx <;> simp [List.getD_eq_getElem?_getD] at h <;> simp [h]
theorem belowL_len (ls : List (Int × Int)) (lx cx : Int) (k : Nat) : (belowL ls lx cx k).length ≤ k := by
  unfold belowL
  rw [List.length_map]
  exact Nat.le_trans (List.length_filter_le _ _) (by simp)

set_option maxHeartbeats 1000000 in
theorem below_some (b off cap : Nat) (ls : List (Int × Int)) (lx cx : Int) (w : World) (hbl : b < w.heap.size) (hm : ls.length ≤ 60)
    (hc0 : ∀ i (h : i < ls.length), w.cell? ⟨b, off + i * 2, none⟩ = some (.int .u8 ls[i].1)) (hc1 : ∀ i (h : i < ls.length), w.cell? ⟨b, off + i * 2 + 1, none⟩ = some (.int .u16 ls[i].2)) :
    Calls Tryd.prog 27 #[.slice (some ⟨b, off, none⟩) ls.length cap, .agg #[.int .u8 lx, .int .u16 cx]] w (NewInts w (belowL ls lx cx ls.length)) := by
  obtain ⟨i0, hi, hz0, hz1, hz2⟩ := info_parts Tryd.info3
  have HC0 := Lib.hid hc0
  have HC1 := Lib.hid hc1
  clear hc0 hc1
  go_enter Tryd.func27, Tryd.ntmps27
  go_wp2
  go_loopw [5, 10] (fun v i wr => ∃ k : Nat, k ≤ ls.length ∧ i = .int .i64 k ∧ wr.ownsRow (w.heap.size + 1) 3 1 v (belowL ls lx cx k).length ((belowL ls lx cx k).map (Value.int .i64)) ∧ Below (w.heap.size + 1) (w.alloc (.cells #[.int .u8 lx, .int .u16 cx] 25)) wr) (fun _ i _ => ls.length - (intOf i).toNat)
  case atStart => exact ⟨0, by omega, rfl, by simpa [belowL] using World.ownsRow_nil _ _ _ _, Below.refl _ _⟩
  case round =>
    obtain ⟨k, hk, rfl, hown, hb⟩ := hrel
    have hP := (Pair.new w (.int .u8 lx) (.int .u16 cx) 25).below hb (by omega)
    have hsz := hb.size
    simp at hsz
    have hlen := belowL_len ls lx cx k
    have HO := Lib.hid hown
    clear hown
    have hB0 : Below w.heap.size w wr := ((Below.refl _ w).alloc (Nat.le_refl _) _).trans (hb.mono (by omega))
    by_cases hlt : k < ls.length
    · have hS := Lib.hid (belowL_succ ls lx cx k hlt)
      have e0 := (hB0.cell (p := ⟨b, off + k * 2, none⟩) hbl).trans (HC0.out k hlt)
      have e1 := (hB0.cell (p := ⟨b, off + k * 2 + 1, none⟩) hbl).trans (HC1.out k hlt)
      generalize ls[k] = x at *
      obtain ⟨hlx, c0, c1, -, -⟩ := id hP
      have HP := Lib.hid hP
      clear hP
      have hlt' : (k : Int) < (ls.length : Int) := by omega
      go_wp2_with fail
      refine (leq_any x.1 x.2 lx cx _).mono ?_
      rintro e w1 ⟨rfl, hb1⟩
      have hzz1 := hb1.size
      simp at hzz1
      have hB1 : Below (w.heap.size + 1) (w.alloc (.cells #[.int .u8 lx, .int .u16 cx] 25)) w1 := (hb.alloc (by omega) (.cells #[.int .u8 x.1, .int .u16 x.2] 25)).trans (hb1.mono (by simp; omega))
      have hO1 := Lib.hid (ownsRow_below (HO.out.alloc (.cells #[.int .u8 x.1, .int .u16 x.2] 25)) hb1)
      clear HO e0 e1 c0 c1 HP hB0
      cases hh : leqB x.1 x.2 lx cx
      · have HH := Lib.hid hh
        clear hh
        go_wp2
        go_roundw
        case rel => exact ⟨k + 1, by omega, by go_num, by rw [hS.out, HH.out]; exact hO1.out, hB1⟩
        case measure => simp [intOf]; omega
      · have HH := Lib.hid hh
        clear hh
        go_wp2_with (first | (at_builtin; refine wpList_append_own _ rfl _ _ 22 rfl (w.heap.size + 1) 3 i0 (.int .i64 0) 1 8 Tryd.underlying22 hi hz0 hz1 hz2 rfl (by decide) _ _ _ rfl (hO1.out.alloc _) ⟨w1.heap.size, 0, none⟩ 1 1 [.int .i64 (k : Int)] rfl rfl ?c1 ?c2 ?c3 ?c4 ?c5 ?_))
        case c1 =>
          intro j u hj
          match j, hj with
          | 0, hj => simp at hj; subst hj; simp [Addr.add]
        case c2 => intro u hu; simp at hu; subst hu; rfl
        case c3 => unfold maxLen; omega
        case c4 => omega
        case c5 => simp; omega
        intro v' w2 hown' hgrow _
        have hb2 : Below (w.heap.size + 1) (w.alloc (.cells #[.int .u8 lx, .int .u16 cx] 25)) w2 :=
          (hB1.alloc (by omega) _).grown hgrow (by simp; omega) (ownsRow_block hO1.out)
        have HO2 : Hid (w2.ownsRow (w.heap.size + 1) 3 1 v' (belowL ls lx cx (k + 1)).length ((belowL ls lx cx (k + 1)).map (Value.int .i64))) := by
          show w2.ownsRow _ _ _ _ _ _
          rw [hS.out, HH.out]; simpa using hown'
        clear hown' hgrow hO1
        go_wp2
        go_roundw
        case rel => exact ⟨k + 1, by omega, by go_num, HO2.out, hb2⟩
        case measure => simp [intOf]; omega
    · obtain rfl : k = ls.length := by omega
      clear hP
      go_wp2
      go_ret
      exact ⟨_, rfl, ownsRow_ints HO.out, hB0⟩
set_option maxHeartbeats 400000 in
theorem below_empty (a : Option Addr) (cap : Nat) (lx cx : Int) (w : World) : Calls Tryd.prog 27 #[.slice a 0 cap, .agg #[.int .u8 lx, .int .u16 cx]] w (NewInts w []) := by
  go_enter Tryd.func27, Tryd.ntmps27
  go_wp2
  refine wp_loop_rounds 1 ?_
  rw [rounds_succ]
  go_wp2
  go_ret
  exact ⟨_, rfl, .inl ⟨none, 0, rfl, rfl⟩, by repeat (first | exact Below.refl _ _ | apply Below.drew | refine Below.alloc ?_ (by simp) _)⟩
theorem below_any (v : Value) (ls : List (Int × Int)) (lx cx : Int) (w : World) (hm : ls.length ≤ 60) (h : Labs w v ls) : Calls Tryd.prog 27 #[v, .agg #[.int .u8 lx, .int .u16 cx]] w (NewInts w (belowL ls lx cx ls.length)) := by
  rcases h with ⟨a, cap, rfl, rfl⟩ | ⟨b, off, cap, rfl, hbl, _, h0, h1⟩
  · exact below_empty a cap lx cx w
  · exact below_some b off cap ls lx cx w hbl hm h0 h1

/-- is each label up to place k at or below the next? -/
def chainB (ls : List (Int × Int)) : Nat → Bool
  | 0 => true
  | k + 1 => chainB ls k && (k == 0 || leqB (ls.getD (k - 1) (0, 0)).1 (ls.getD (k - 1) (0, 0)).2 (ls.getD k (0, 0)).1 (ls.getD k (0, 0)).2)
theorem chainB_bad (ls : List (Int × Int)) (k : Nat) (h : chainB ls k = false) : ∀ n, k ≤ n → chainB ls n = false := by
  intro n hn
  induction n with
  | zero => obtain rfl : k = 0 := by omega
            exact h
  | succ n ih =>
    rcases Nat.lt_or_ge n k with h' | h'
    · obtain rfl : k = n + 1 := by omega
      exact h
    · rw [chainB, ih h']; rfl

set_option maxHeartbeats 1000000 in
set_option maxRecDepth 100000 in
theorem chain_some (b off cap : Nat) (ls : List (Int × Int)) (w : World) (hbl : b < w.heap.size) (hm : ls.length ≤ 60) (hpos : 0 < ls.length)
    (hc0 : ∀ i (h : i < ls.length), w.cell? ⟨b, off + i * 2, none⟩ = some (.int .u8 ls[i].1)) (hc1 : ∀ i (h : i < ls.length), w.cell? ⟨b, off + i * 2 + 1, none⟩ = some (.int .u16 ls[i].2)) :
    Calls Tryd.prog 28 #[.slice (some ⟨b, off, none⟩) ls.length cap] w fun e w' => e = .returned (.bool (chainB ls ls.length)) ∧ Below w.heap.size w w' := by
  have HC0 := Lib.hid hc0
  have HC1 := Lib.hid hc1
  clear hc0 hc1
  go_enter Tryd.func28, Tryd.ntmps28
  go_wp2
  go_loopw [3] (fun i wr => ∃ k : Nat, k < ls.length ∧ i = .int .i64 (k + 1) ∧ Below w.heap.size w wr ∧ chainB ls (k + 1) = true) (fun i _ => ls.length - (intOf i).toNat)
  case atStart => exact ⟨0, hpos, rfl, Below.refl _ _, by simp [chainB]⟩
  case round =>
    obtain ⟨k, hk, rfl, hb, hch⟩ := hrel
    have HCh := Lib.hid hch
    clear hch
    by_cases hlt : k + 1 < ls.length
    · have e0 := (hb.cell (p := ⟨b, off + k * 2, none⟩) hbl).trans (HC0.out k hk)
      have e1 := (hb.cell (p := ⟨b, off + k * 2 + 1, none⟩) hbl).trans (HC1.out k hk)
      have e2 := (hb.cell (p := ⟨b, off + (k + 1) * 2, none⟩) hbl).trans (HC0.out (k + 1) hlt)
      have e3 := (hb.cell (p := ⟨b, off + (k + 1) * 2 + 1, none⟩) hbl).trans (HC1.out (k + 1) hlt)
      have HS : Hid (chainB ls (k + 1 + 1) = leqB ls[k].1 ls[k].2 ls[k + 1].1 ls[k + 1].2) := by
        show chainB ls (k + 1 + 1) = _
        rw [chainB, HCh.out]
        have e4 : ls.getD k (0, 0) = ls[k] := by rw [List.getD_eq_getElem?_getD, List.getElem?_eq_getElem hk]; rfl
        have e5 : ls.getD (k + 1) (0, 0) = ls[k + 1] := by rw [List.getD_eq_getElem?_getD, List.getElem?_eq_getElem hlt]; rfl
        rw [Nat.add_sub_cancel, e4, e5]; simp
      generalize ls[k] = x at *
      generalize ls[k + 1] = y at *
      have k0 := cell_regrown e0
      have k1 := cell_regrown e1
      have k2 := cell_regrown e2
      have k3 := cell_regrown e3
      have hlt' : ((k : Int) + 1) < (ls.length : Int) := by omega
      have hk0 : (0 : Int) ≤ (k : Int) := by omega
      have hk1 : (k : Int) < (ls.length : Int) := by omega
      have q1 := fun d os => Calls.regrown_of (leq_any x.1 x.2 y.1 y.2 (Sort.grow (redrawn wr d) os))
      go_wp2_with fail
      refine wp_region_quiet_below (by kernel_rfl) (by kernel_rfl) ?_
      repeat (first | go_big_quiet_step (with_reducible exact q1 _ _) | quiet_step (with_reducible exact q1 _ _))
      refine wpQuiet_nil ?_
      intro _ hw'
      obtain ⟨⟨dq, osq⟩, rfl⟩ := hw'
      have hwy := below_regrown wr dq osq
      have hB2 := Lib.hid (hb.trans (hwy.mono hb.size))
      clear k0 k1 k2 k3 q1 e0 e1 e2 e3 hwy hb
      cases hh : leqB x.1 x.2 y.1 y.2
      · have HF : Hid (chainB ls ls.length = false) := by
          show chainB ls ls.length = false
          exact chainB_bad ls (k + 1 + 1) (HS.out.trans hh) _ (by omega)
        clear hh
        go_wp2
        go_ret
        exact ⟨by rw [HF.out]; rfl, hB2.out⟩
      · have HH := Lib.hid hh
        clear hh
        go_wp2
        go_roundw
        case rel => exact ⟨k + 1, by omega, by go_num, hB2.out, HS.out.trans HH.out⟩
        case measure => simp [intOf]; omega
    · have hkl : k + 1 = ls.length := by omega
      have HL : Hid (chainB ls ls.length = true) := by
        show chainB ls ls.length = true
        rw [← hkl]; exact HCh.out
      have hge : (ls.length : Int) ≤ (k : Int) + 1 := by omega
      clear hkl
      go_wp2
      go_ret
      exact ⟨by rw [HL.out]; rfl, hb⟩
set_option maxHeartbeats 400000 in
theorem chain_empty (a : Option Addr) (cap : Nat) (w : World) : Calls Tryd.prog 28 #[.slice a 0 cap] w fun e w' => e = .returned (.bool true) ∧ Below w.heap.size w w' := by
  go_enter Tryd.func28, Tryd.ntmps28
  go_wp2
  refine wp_loop_rounds 1 ?_
  rw [rounds_succ]
  go_wp2
  go_ret
  exact ⟨rfl, Below.refl _ _⟩
theorem chain_any (v : Value) (ls : List (Int × Int)) (w : World) (hm : ls.length ≤ 60) (h : Labs w v ls) : Calls Tryd.prog 28 #[v] w fun e w' => e = .returned (.bool (chainB ls ls.length)) ∧ Below w.heap.size w w' := by
  rcases h with ⟨a, cap, rfl, rfl⟩ | ⟨b, off, cap, rfl, hbl, _, h0, h1⟩
  · exact chain_empty a cap w
  · rcases Nat.eq_zero_or_pos ls.length with hz | hpos
    · obtain rfl := List.eq_nil_of_length_eq_zero hz
      exact chain_empty _ cap w
    · exact chain_some b off cap ls w hbl hm hpos h0 h1
end Go.Proofs.YthifnojdencobaaDoor
