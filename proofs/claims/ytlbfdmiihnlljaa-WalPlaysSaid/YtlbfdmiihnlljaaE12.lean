import Derived.Test.YtlbfdmiihnlljaaE11
/- A block of a number; Awake. -/
namespace Go.Proofs.Ytlbfdmiihnlljaa
set_option linter.unusedSimpArgs false
set_option linter.unusedVariables false
open Go.RowKit Go.Maps

/-- the bytes of a number's block -/
def blk (n : Int) : Nat → Int := fun i => bits BinOp.xor .u8 n (i : Int)
set_option maxHeartbeats 4000000 in
set_option maxRecDepth 100000 in
theorem block_any (n : Int) (h0 : 0 ≤ n) (h1 : n < 256) (w : World) :
    Calls Try.prog 25 #[.int .u8 n] w fun e w' => e = .returned (.agg (byts 64 (blk n)).toArray) ∧ Below w.heap.size w w' := by
  go_enter Try.func25, Try.ntmps25
  go_wp2_with (first | (refine wpList_alloc_byts (w := w) rfl 50 64 rfl Try.zero36 ?_; intro w1 F1 hb1 hz1; have HB1 := Lib.hid hb1; clear hb1) | (refine wpList_alloc_byts (w := w1) rfl 50 64 rfl Try.zero36 ?_; intro w2 F2 hb2 hz2; have HB2 := Lib.hid hb2; clear hb2))
  rw [hz1] at F2
  have HBB := Lib.hid (HB1.out.trans (HB2.out.mono (by omega)))
  have F1' := Lib.hid (F1.out.below HB2.out (by omega))
  have hsz : w.heap.size + 1 < w2.heap.size := by omega
  clear F1 HB1 HB2 hz2
  go_loopw [4, 5] (fun _ i wr => ∃ k : Nat, k ≤ 64 ∧ i = .int .i64 k ∧ Fl wr (w.heap.size + 1) 64 (fun j => if j < k then blk n j else 0) ∧ Fl wr w.heap.size 64 (fun _ => 0) ∧ Below w.heap.size w wr) (fun _ i _ => 64 - (Go.RowKit.intOf i).toNat)
  case atStart => exact ⟨0, by omega, rfl, F2.out.congr (fun j _ => by simp), F1'.out, HBB.out⟩
  case round =>
    obtain ⟨k, hk, rfl, hF, hA, hbr⟩ := hrel
    have HF := Lib.hid hF
    have HA := Lib.hid hA
    have HB := Lib.hid hbr
    have hk0 : (0 : Int) ≤ k := by omega
    by_cases hlt : k < 64
    · have ec := hF.c k hlt
      have ez := hF.z k hlt
      clear hF hA hbr
      go_wp2
      go_roundw
      case rel =>
        refine ⟨k + 1, by omega, by go_num, ?_, HA.out.far _ (by show w.heap.size + 1 ≠ w.heap.size; omega) _, HB.out.setCell (by show w.heap.size ≤ w.heap.size + 1; omega) _⟩
        refine (HF.out.set k hlt (bits BinOp.xor .u8 n k)).congr fun j _ => ?_
        by_cases hj : j = k
        · subst hj
          rw [if_pos rfl, if_pos (by omega)]
          rfl
        · rw [if_neg hj]
          by_cases hj2 : j < k
          · rw [if_pos hj2, if_pos (by omega)]
          · rw [if_neg hj2, if_neg (by omega)]
      case measure => simp [Go.RowKit.intOf]; omega
    · obtain rfl : k = 64 := by omega
      clear hF hA hbr
      have hR : Hid (wr.rangeAt (w.heap.size + 1) 0 (byts 64 (blk n))) := (HF.out.congr (fun j hj => if_pos hj)).range0
      clear HF
      go_wp2_with (first | (refine wpList_load_mid rfl 50 _ rfl (w.heap.size + 1) 0 rfl _ (.array 64 5) hR.out Try.arr36 rfl (size36 _) ?_) | (refine wpList_store_mid rfl 50 _ _ rfl w.heap.size 0 (byts 64 (blk n)).toArray rfl rfl (by rw [byts_size]; exact HA.out.there 0 64 (Nat.le_refl _)) (size36' _) (byts_all _ _) ?_))
      exact bodyPost_ret_by (results_mid rfl _ _ w.heap.size _ (.array 64 5) rfl (HA.out.stored (blk n)).range0 Try.arr36 rfl (size36 _)) rfl ⟨rfl, below_setCells HB.out _ _ (Nat.le_refl _) _⟩
end Go.Proofs.Ytlbfdmiihnlljaa
