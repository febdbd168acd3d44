import Derived.Test.YtlbfdmiihnlljaaE9
import Derived.Test.YtlbfdmiihnlljaaD8
import Derived.Test.YtlbfdmiihnlljaaShelf
import Derived.Sort.KeysCollected
import Derived.Sort.OwnSorted
/- Blocks. -/
namespace Go.Proofs.Ytlbfdmiihnlljaa
set_option linter.unusedSimpArgs false
set_option linter.unusedVariables false
open Go.RowKit Go.Maps Go.Sort

theorem keys_sorted (T : TS) (h : Rise T) (ss : List Int) (hp : ss.Perm (intKeys (dat T))) : ss.mergeSort (fun x y => decide (x ≤ y)) = (keys T).map fun (k : Nat) => (k : Int) := by
  rw [keys_dat] at hp
  refine (mergeSort_of_perm_i hp).trans ?_
  refine List.mergeSort_of_pairwise ?_
  rw [List.pairwise_map]
  unfold keys
  rw [List.pairwise_map]
  exact h.imp fun {p q} hpq => by simp; omega
theorem ownsRow_ns {w : World} {base : Nat} {v : Value} {ts : List Nat} (h : w.ownsRow base 3 1 v ts.length (ts.map fun (k : Nat) => Value.int .i64 (k : Int))) : Ns w v ts ∧ ∀ k, v.ownBlock = some k → base ≤ k := by
  refine ⟨?_, ownsRow_block h⟩
  obtain ⟨hl, ⟨hv, hn⟩ | ⟨g, cap, cur, hv, hg, hh, hc, hm, hs, ht⟩⟩ := h
  · exact .inl ⟨none, 0, hv, List.eq_nil_of_length_eq_zero hn⟩
  · have hlt : g < w.heap.size := (Array.getElem?_eq_some_iff.1 hh).1
    refine .inr ⟨g, 0, cap, hv, hlt, Nat.le_trans hc hm, fun i hi => ?_⟩
    have hx : (cur.toList.take (ts.length * 1))[i]? = (ts.map fun (k : Nat) => Value.int .i64 (k : Int))[i]? := by rw [ht]
    rw [List.getElem?_take_of_lt (by omega)] at hx
    simp only [World.cell?, hh]
    simpa [hi] using hx
theorem row_ne_iter {w : World} {base : Nat} {e k : TypeId} {size b r n N cnt : Nat} {v : Value} {xs : List Value} {R : Value → Option (DataW Value × List MemPlace)} {D : DataW Value} {left : Lit → Bool} (h : w.ownsRow base e size v n xs) (hr : w.ranges Try.prog k R b r N D left cnt) : some r ≠ v.ownBlock := by
  intro he
  obtain ⟨hl, ⟨hv, hn⟩ | ⟨g, cap, cur, hv, hg, hh, r'⟩⟩ := h
  · rw [hv] at he; simp [Value.ownBlock] at he
  · rw [hv] at he
    simp [Value.ownBlock] at he
    obtain ⟨es, clock, since, seen, c0, _, _, _, _, hrr, _⟩ := hr
    rw [he, hh] at hrr
    cases hrr
set_option maxHeartbeats 8000000 in
set_option maxRecDepth 100000 in
theorem blocks_any (t m d fi : Nat) (T : TS) (fa : Int) (hT : T.length ≤ 5000) (w : World) (h : Tx w t m d fi T fa) :
    Calls Try.prog 29 #[.pointer (some ⟨t, 0, none⟩)] w fun e w' => ∃ v, e = .returned v ∧ Ns w' v (keys T) ∧ (∀ k, v.ownBlock = some k → w.heap.size ≤ k) ∧ Below w.heap.size w w' := by
  have HT := Lib.hid h
  have c2 := h.c2
  have htl := h.lg.lt
  have hml := h.mp.lt
  have hown := h.mp.1
  have HRi := Lib.hid h.mp.2
  clear h
  obtain ⟨i0, hi, hz0, hz1, hz2⟩ := Try.info3i
  have HI := Lib.hid hi
  have HZ0 := Lib.hid hz0
  have HZ1 := Lib.hid hz1
  have HZ2 := Lib.hid hz2
  have HU : Hid (Try.prog.underlying 43 = some (.slice 3)) := by show _ = _; kernel_rfl
  have HO := Lib.hid hown
  clear hi hz0 hz1 hz2 hown
  go_enter Try.func29, Try.ntmps29
  go_wp2_with (first
    | (at_len; refine wpList_len_mp rfl _ rfl m T HT.out.mp rfl ?_)
    | (at_make; refine wpList_make_own _ rfl _ _ 43 rfl w.heap.size 3 i0 (.int .i64 0) 1 HU.out HI.out HZ0.out HZ1.out _ _ _ T.length rfl rfl rfl (by rw [HZ2.out]; omega) (by unfold maxLen; omega) (Nat.le_refl _) ?_; intro w1 hrow1 hg1; have HROW1 := Lib.hid hrow1; have HG1 := Lib.hid hg1; have HB1 := Lib.hid ((Below.refl w.heap.size w).grown hg1 (Nat.le_refl _) (fun j hj => (by cases hj))); have c2b := (HB1.out.cell (p := ⟨t, 2, none⟩) htl).trans c2; clear hrow1 hg1)
    | (at_range; refine wpList_range_own _ rfl _ 79 rfl 3 50 Try.lawInt Try.underlying79 RV m T.length (dat T) rfl (HO.out.kept HG1.out (by simp)) ?_; intro w0 hrg0 hg0 hs0; have HRG0 := Lib.hid hrg0; have HG0 := Lib.hid hg0; clear hrg0 hg0 hs0))
  go_frame
  obtain ⟨r, hr⟩ : ∃ r, w1.heap.size = r := ⟨_, rfl⟩
  have hrw : w.heap.size ≤ r := by have := HB1.out.size; omega
  rw [hr] at HRG0 ⊢
  have HB0 : Hid (Below w.heap.size w w0) := HB1.out.grown HG0.out HB1.out.size (fun j hj => (by cases hj))
  have HROW0 := Lib.hid (HROW1.out.kept HG0.out (Or.inr (by simp [Value.ownBlock])))
  clear hr HROW1 HG1 HG0 HB1
  go_loopw [3, 4] (fun v _ wr => ∃ (left : Lit → Bool) (cnt : Nat) (ss : List Int), wr.ranges Try.prog 3 RV m r T.length (dat T) left cnt ∧ ss.length + cnt ≤ T.length ∧
      wr.ownsRow w.heap.size 3 1 v ss.length (ss.map encZ) ∧ v ≠ .slice none 0 0 ∧ CollectedI (dat T) left ss ∧ Below w.heap.size w wr)
    (fun _ _ wr => wr.rangeLeft m r)
  case atStart =>
    exact ⟨_, _, [], HRG0.out, by simp [size_dat], HROW0.out, by simp, CollectedI.start (dat T), HB0.out⟩
  case round =>
    obtain ⟨left, cnt, ss, hrg, hcs, hrow, hnn, hC, hnx⟩ := hrel
    have HRG := Lib.hid hrg
    have HROW := Lib.hid hrow
    have HNN := Lib.hid hnn
    have HC := Lib.hid hC
    have HNX := Lib.hid hnx
    have hsz := hnx.size
    clear hrg hrow hnn hC hnx HRG0 HROW0 HB0
    go_wp2_with (at_next; refine wpList_next_ranges _ rfl _ rfl 3 Try.lawInt RV encZ (fun v : Value => v) (fun key kl hk => by obtain ⟨x, hx, _⟩ := Maps.keyOf_int_inv Try.underlying3 hk; exact ⟨x, hx⟩) (fun v y _ => ⟨v, rfl⟩) m r T.length (dat T) left cnt rfl HRG.out ?_ ?_)
    · intro hc0 hl0
      have HL0 := Lib.hid hl0
      clear hl0
      rcases HROW.out.2 with ⟨hnil, _⟩ | ⟨g, cap, cur, rfl, hbase, hb, h1, h2, h3, h4⟩
      · exact absurd hnil HNN.out
      have hH : Holds encZ wr g 0 ss.toArray := holds_of_block_i hb (by simpa using h4)
      have hgl : g < wr.heap.size := (Array.getElem?_eq_some_iff.1 hb).1
      have HSo := Lib.hid (Try.slices_Sort_int g 0 cap ss wr hH hgl (by omega))
      have HKS : Hid (ss.mergeSort (fun x y => decide (x ≤ y)) = (keys T).map fun (k : Nat) => (k : Int)) := keys_sorted T HRi.out ss (HC.out.perm HO.out Try.lawInt Try.underlying3 HL0.out)
      have HLEN : Hid (ss.length = (keys T).length) := by
        show ss.length = _
        have h5 := (HC.out.perm HO.out Try.lawInt Try.underlying3 HL0.out).length_eq
        rw [keys_dat, List.length_map] at h5
        exact h5
      rw [HKS.out] at HSo
      have HH : Hid (wr.heap[g]? = some (.cells cur 3 (0, 0)) ∧ ss.length ≤ cap ∧ cap ≤ maxLen ∧ cur.size = cap * 1) := ⟨hb, h1, h2, h3⟩
      clear hb h1 h2 h3 h4 hH
      go_wp2_with (go_at_call 48; refine HSo.out.mono ?_; rintro e w' ⟨rfl, hw'⟩; have HW' := Lib.hid hw'; clear hw')
      have hlen := HLEN.out
      obtain ⟨nn, os, hw'⟩ := HW'.out
      obtain ⟨hb, h1, h2, h3⟩ := HH.out
      have hown' := ownsRow_sorted_i (n := nn) (os := os) (ts := (keys T).map fun (k : Nat) => (k : Int)) (by rw [List.length_map]; exact hlen.symm) hbase hb h1 h2 h3
      have hgr := grownBy_sorted_i (w := wr) (g := g) (n := nn) (os := os) ((keys T).map fun (k : Nat) => (k : Int)).toArray
      rw [hlen, List.map_map] at hown'
      rw [← hw'] at hown' hgr
      go_ret
      obtain ⟨hN, hO⟩ := ownsRow_ns hown'
      refine ⟨_, rfl, ?_, ?_, HNX.out.grown hgr HNX.out.size (fun j hj => by cases hj; exact hbase)⟩
      · rw [hlen]; exact hN
      · intro k hk
        simp [Value.ownBlock] at hk
        omega
    · intro x c kl yd yp w2 cnt2 hkey hlk hv hat hrg2 hlt hg2 hs2 hen
      obtain ⟨x', ex, rfl, _⟩ := Maps.keyOf_int_inv Try.underlying3 hkey
      obtain rfl : x = x' := encZ_inj ex
      have HROW2 := Lib.hid (HROW.out.kept hg2 (Or.inr (row_ne_iter HROW.out HRG.out).symm))
      have HB2 := Lib.hid (HNX.out.grown hg2 HNX.out.size (fun j hj => by cases hj; exact hrw))
      have HRG2 := Lib.hid hrg2
      have HC2 := Lib.hid (HC.out.step hlk hat)
      have hz2 : w.heap.size ≤ w2.heap.size := HB2.out.size
      clear hs2 hlk hv hat hrg2 hg2 hkey ex HROW HNX HC HNN
      go_wp2_with (at_builtin; refine wpList_append_own _ rfl _ _ 43 rfl w.heap.size 3 i0 (.int .i64 0) 1 8 HU.out HI.out HZ0.out HZ1.out HZ2.out rfl (by decide) _ _ _ rfl (HROW2.out.alloc _) ⟨w2.heap.size, 0, none⟩ 1 1 [encZ x] rfl rfl (cell_one_new _ _ _) (by simp [Value.oneCell', encZ]) (by unfold maxLen; omega) (by omega) (by simp; omega) ?_; intro v' w3 hown' hg3 hnil3; have HOW3 := Lib.hid hown'; have HG3 := Lib.hid hg3; have HN3 := Lib.hid hnil3; clear hown' hg3 hnil3)
      have hrg3 := (HRG2.out.alloc (.cells #[encZ x] 3)).kept HG3.out (fun he => absurd (ownsRow_block HROW2.out m he.symm) (by omega)) (row_ne_iter (HROW2.out.alloc (.cells #[encZ x] 3)) (HRG2.out.alloc (.cells #[encZ x] 3)))
      have HRG3 := Lib.hid hrg3
      clear hrg3
      go_roundw
      case rel =>
        refine ⟨_, cnt2, ss ++ [x], HRG3.out, by simp; omega, by simpa using HOW3.out, fun hv' => by have := (HN3.out.1 hv').2; omega, HC2.out, ?_⟩
        exact (HB2.out.alloc hz2 _).grown HG3.out (by simp; omega) (fun j hj => ownsRow_block HROW2.out j hj)
      case measure => rw [HRG3.out.left_eq, HRG.out.left_eq]; exact hlt
end Go.Proofs.Ytlbfdmiihnlljaa
