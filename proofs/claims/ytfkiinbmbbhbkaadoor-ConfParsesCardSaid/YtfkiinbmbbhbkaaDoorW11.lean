import Derived.Test.YtfkiinbmbbhbkaaDoorW10
import Derived.OwnWalk
namespace Go.Proofs.YtfkiinbmbbhbkaaDoor
set_option linter.unusedSimpArgs false
set_option linter.unusedVariables false
open Go.RowKit

theorem ownsRow_below {w w' : World} {base : Nat} {e : TypeId} {size : Nat} {v : Value} {n : Nat} {xs : List Value} (h : w.ownsRow base e size v n xs) (hb : Below w.heap.size w w') : w'.ownsRow base e size v n xs := by
  obtain ⟨hl, h | ⟨g, cap, cur, hv, hg, hh, r⟩⟩ := h
  · exact ⟨hl, .inl h⟩
  · refine ⟨hl, .inr ⟨g, cap, cur, hv, hg, ?_, r⟩⟩
    have hlt : g < w.heap.size := by
      rcases Nat.lt_or_ge g w.heap.size with h' | h'
      · exact h'
      · rw [Array.getElem?_eq_none h'] at hh; simp at hh
    rw [hb.block g hlt]; exact hh
theorem ownsRow_block {w : World} {base : Nat} {e : TypeId} {size : Nat} {v : Value} {n : Nat} {xs : List Value} (h : w.ownsRow base e size v n xs) : ∀ k, v.ownBlock = some k → base ≤ k := by
  intro k hk
  obtain ⟨_, ⟨hv, _⟩ | ⟨g, cap, cur, hv, hg, _⟩⟩ := h
  · rw [hv] at hk; simp [Value.ownBlock] at hk
  · rw [hv] at hk; simp [Value.ownBlock] at hk; omega
theorem ownsRow_ints {w : World} {base : Nat} {v : Value} {zs : List Int} (h : w.ownsRow base 3 1 v zs.length (zs.map (Value.int .i64))) : Ints w v zs := by
  obtain ⟨hl, ⟨hv, hn⟩ | ⟨g, cap, cur, hv, hg, hh, hc, hm, hs, ht⟩⟩ := h
  · exact .inl ⟨none, 0, hv, List.eq_nil_of_length_eq_zero hn⟩
  · have hlt : g < w.heap.size := by
      rcases Nat.lt_or_ge g w.heap.size with h' | h'
      · exact h'
      · rw [Array.getElem?_eq_none h'] at hh; simp at hh
    refine .inr ⟨g, 0, cap, hv, hlt, Nat.le_trans hc hm, fun i hi => ?_⟩
    have hx : (cur.toList.take (zs.length * 1))[i]? = (zs.map (Value.int .i64))[i]? := by rw [ht]
    rw [List.getElem?_take_of_lt (by omega), List.getElem?_map, List.getElem?_eq_getElem hi] at hx
    simp only [World.cell?, hh]
    simpa using hx
theorem Tryd.info3 : (Tryd.prog.info? 3).map (fun i => (i.zero, i.size, i.bytes)) = some (some (.int .i64 0), 1, 8) := by kernel_rfl

/-- a label's categories below k -/
def catL (c : Int) (k : Nat) : List Int := ((List.range k).filter fun i : Nat => hasB c (i : Int)).map fun i : Nat => (i : Int)
theorem catL_succ (c : Int) (k : Nat) : catL c (k + 1) = if hasB c (k : Int) then catL c k ++ [(k : Int)] else catL c k := by
  unfold catL
  rw [List.range_succ, List.filter_append, List.map_append]
  cases h : hasB c (k : Int) <;> simp [h]
theorem catL_len (c : Int) (k : Nat) : (catL c k).length ≤ k := by
  unfold catL
  rw [List.length_map]
  exact Nat.le_trans (List.length_filter_le _ _) (by simp)

theorem catL_bit (c : Int) (k : Nat) (h0 : 0 ≤ c) (h1 : c < 65536) (hk : k < 16) : (bits .and .u16 (c / 2 ^ k) 1 != 0) = hasB c (k : Int) := by
  obtain ⟨C, rfl⟩ := Int.eq_ofNat_of_zero_le h0
  have h2 : ((C : Int) / 2 ^ k) = ((C / 2 ^ k : Nat) : Int) := by rw [Int.natCast_ediv, Int.natCast_pow]; rfl
  have h3 : C / 2 ^ k < 65536 := Nat.lt_of_le_of_lt (Nat.div_le_self _ _) (by omega)
  rw [h2, show (1 : Int) = ((1 : Nat) : Int) from rfl, u16_and_nat _ 1 h3 (by omega), hasB_nat C k hk, Nat.testBit_eq_decide_div_mod_eq, Nat.and_one_is_mod]
  generalize C / 2 ^ k = X
  rw [Bool.eq_iff_iff]
  simp
  omega
/-- what Cats leaves: a new slice of the categories -/
def NewInts (w : World) (zs : List Int) (e : Ending) (w' : World) : Prop := ∃ v, e = .returned v ∧ Ints w' v zs ∧ Below w.heap.size w w'

set_option maxHeartbeats 400000 in
set_option maxRecDepth 100000 in
theorem cats_any (la ca : Int) (w : World) (h0 : 0 ≤ ca) (h1 : ca < 65536) :
    Calls Tryd.prog 68 #[.agg #[.int .u8 la, .int .u16 ca]] w (NewInts w (catL ca 16)) := by
  obtain ⟨i0, hi, hz0, hz1, hz2⟩ := info_parts Tryd.info3
  go_enter Tryd.func68, Tryd.ntmps68
  go_wp2
  go_loopw [3, 4, 5] (fun v _ i wr => ∃ k : Nat, k ≤ 16 ∧ i = .int .i64 k ∧ wr.ownsRow (w.heap.size + 1) 3 1 v (catL ca k).length ((catL ca k).map (Value.int .i64)) ∧ Below (w.heap.size + 1) (w.alloc (.cells #[.int .u8 la, .int .u16 ca] 37)) wr) (fun _ _ i _ => 16 - (intOf i).toNat)
  case atStart => exact ⟨0, by omega, rfl, by simpa [catL] using World.ownsRow_nil _ _ _ _, Below.refl _ _⟩
  case round =>
    obtain ⟨k, hk, rfl, hown, hb⟩ := hrel
    have c1 : wr.cell? ⟨w.heap.size, 1, none⟩ = some (.int .u16 ca) := (hb.cell (p := ⟨w.heap.size, 1, none⟩) (by simp)).trans (Pair.new w _ _ _).c1
    have hsz := hb.size
    simp at hsz
    have hlen := catL_len ca k
    by_cases hlt : k < 16
    · have hS := Lib.hid (catL_succ ca k)
      have hB := catL_bit ca k h0 h1 hlt
      cases hh : hasB ca (k : Int)
      · rw [hh] at hB
        have HH := Lib.hid hh
        clear hh
        have HO := Lib.hid hown
        clear hown
        go_wp2
        go_roundw
        case rel => exact ⟨k + 1, by omega, by go_num, by rw [hS.out, HH.out]; exact HO.out, hb⟩
        case measure => simp [intOf]; omega
      · rw [hh] at hB
        have HH := Lib.hid hh
        clear hh
        have HO := Lib.hid hown
        clear hown
        go_wp2_with (first | (at_builtin; refine wpList_append_own _ rfl _ _ 111 rfl (w.heap.size + 1) 3 i0 (.int .i64 0) 1 8 Tryd.underlying111 hi hz0 hz1 hz2 rfl (by decide) _ _ _ rfl (HO.out.alloc _) ⟨wr.heap.size, 0, none⟩ 1 1 [.int .i64 (k : Int)] rfl rfl ?c1 ?c2 ?c3 ?c4 ?c5 ?_))
        case c1 =>
          intro j u hj
          match j, hj with
          | 0, hj => simp at hj; subst hj; simp [Addr.add]
        case c2 => intro u hu; simp at hu; subst hu; rfl
        case c3 => unfold maxLen; omega
        case c4 => omega
        case c5 => simp; omega
        intro v' w1 hown' hgrow _
        have hb2 : Below (w.heap.size + 1) (w.alloc (.cells #[.int .u8 la, .int .u16 ca] 37)) w1 :=
          (hb.alloc (by simpa using hb.size) _).grown hgrow (by simp; omega) (ownsRow_block HO.out)
        have HO2 : Hid (w1.ownsRow (w.heap.size + 1) 3 1 v' (catL ca (k + 1)).length ((catL ca (k + 1)).map (Value.int .i64))) := by
          show w1.ownsRow _ _ _ _ _ _
          rw [hS.out, HH.out]; simpa using hown'
        clear hown' hgrow HO c1
        go_wp2
        go_roundw
        case rel => exact ⟨k + 1, by omega, by go_num, HO2.out, hb2⟩
        case measure => simp [intOf]; omega
    · obtain rfl : k = 16 := by omega
      have HO := Lib.hid hown
      clear hown
      go_wp2
      go_ret
      exact ⟨_, rfl, ownsRow_ints HO.out, ((Below.refl _ _).alloc (Nat.le_refl _) _).trans (hb.mono (by omega))⟩

end Go.Proofs.YtfkiinbmbbhbkaaDoor
