import Derived.Test.YtdebkifnaiohcaaD2
/- Read. -/
namespace Go.Proofs.Ytdebkifnaiohcaa
set_option linter.unusedSimpArgs false
set_option linter.unusedVariables false
open Go.RowKit

theorem Kp.setCellsNew {w w' : World} {a b : Nat} (h : Kp w w' a b) (g o : Nat) (hg : w.heap.size ≤ g) (vs : List Value) : Kp w (w'.setCells g o vs) a b := by
  obtain ⟨h1, h2, h3, h4⟩ := setCells_rest g vs o w'
  exact ⟨h1.trans h.os, h2.trans h.tape, h3.trans h.output, by have := h.size; omega, fun k hk h5 h6 => (heap_setCells g vs o w' k (by omega)).trans (h.block k hk h5 h6)⟩
theorem Fl.stored {w : World} {g N : Nat} {f : Nat → Int} (h : Fl w g N f) (b : Nat → Int) : Fl (w.setCells g 0 (byts N b)) g N b := by
  refine (h.store 0 N (by omega) b).congr fun j hj => ?_
  unfold upd
  rw [if_pos (by omega), Nat.sub_zero]
theorem Fl.range0 {w : World} {g N : Nat} {f : Nat → Int} (h : Fl w g N f) : w.rangeAt g 0 (byts N f) := by
  have := h.range 0 N (by omega)
  rwa [byts_congr (fun i _ => by rw [Nat.zero_add])] at this

set_option maxHeartbeats 2000000 in
set_option maxRecDepth 100000 in
theorem read_in (d g : Nat) (s : DS) (k : Nat) (hk : k < s.n) (hn : s.n ≤ 65536) (hr0 : 0 ≤ s.rd) (hr1 : s.rd < 1000000) (w : World) (h : Dk w d g s) :
    Calls Try.prog 48 #[.pointer (some ⟨d, 0, none⟩), .int .i64 k] w fun e w' => e = .returned (.tuple #[.agg (byts 64 fun i => s.f (k * 64 + i)).toArray, .int .i64 0]) ∧ Dk w' d g { s with rd := s.rd + 1 } ∧ Kp w w' d g := by
  have H := Lib.hid h
  have hd0 := h.lt
  have hg0 := h.fl.lt
  clear h
  have h0 : (0 : Int) ≤ k := by omega
  have h1 : (k : Int) < s.n := by omega
  go_enter Try.func48, Try.ntmps48
  go_wp2_with (first | (refine wpList_alloc_byts rfl 96 64 rfl Try.zero36 ?_; intro w1 F1 hb1 hz1; have H1 := Lib.hid (H.out.keep hb1); have c0 := H1.out.c0; have c4 := H1.out.c4; have z4 := H1.out.z4; have hd1 := H1.out.lt; have hb1' := Lib.hid hb1; clear hb1) | (refine wpList_load_mid rfl 96 _ rfl g (k * 64) rfl (byts 64 fun i => s.f (k * 64 + i)) (.array 64 5) ((H1.out.set4 _).fl.range (k * 64) 64 (by show k * 64 + 64 ≤ s.n * 64; omega)) Try.arr36 rfl (size36 _) ?_) | (refine wpList_store_mid rfl 96 _ _ rfl w.heap.size 0 (byts 64 fun i => s.f (k * 64 + i)).toArray rfl rfl (by rw [byts_size]; exact (F1.out.far _ (by show d ≠ w.heap.size; omega) _).there 0 64 (Nat.le_refl _)) (size36' _) (byts_all _ _) ?_))
  have F2 := (F1.out.far ⟨d, 4, none⟩ (by show d ≠ w.heap.size; omega) (.int .i64 (s.rd + 1))).stored (fun i => s.f (k * 64 + i))
  refine bodyPost_ret_by (results_mid_tmp rfl _ _ w.heap.size _ (.array 64 5) rfl F2.range0 Try.arr36 rfl (size36 _)) rfl ⟨rfl, ?_, ?_⟩
  · exact (H1.out.set4 _).below (below_setCells (Below.refl w.heap.size _) _ _ (Nat.le_refl _) _) hd0 hg0
  · exact ((Kp.of_below hb1'.out _ _).setA _ _).setCellsNew _ _ (Nat.le_refl _) _

set_option maxHeartbeats 2000000 in
set_option maxRecDepth 100000 in
theorem read_out (d g : Nat) (s : DS) (x : Int) (hx : x < 0 ∨ (s.n : Int) ≤ x) (hn : s.n ≤ 65536) (w : World) (h : Dk w d g s) :
    Calls Try.prog 48 #[.pointer (some ⟨d, 0, none⟩), .int .i64 x] w fun e w' => e = .returned (.tuple #[.agg (byts 64 fun _ => 0).toArray, .int .i64 27]) ∧ Below w.heap.size w w' := by
  have H := Lib.hid h
  clear h
  rcases hx with hx | hx
  · go_enter Try.func48, Try.ntmps48
    go_wp2_with (first | (refine wpList_alloc_byts rfl 96 64 rfl Try.zero36 ?_; intro w1 F1 hb1 hz1; have H1 := Lib.hid (H.out.keep hb1); have c0 := H1.out.c0; have hb1' := Lib.hid hb1; clear hb1) | (refine wpList_build_byts rfl 96 5 64 rfl Try.arr36 Try.zero36 (by kernel_rfl) ?_) | (refine wpList_store_mid rfl 96 _ _ rfl w.heap.size 0 (byts 64 fun _ => 0).toArray rfl rfl (by rw [byts_size]; exact F1.out.there 0 64 (Nat.le_refl _)) (size36' _) (byts_all _ _) ?_))
    have F2 := F1.out.stored (fun _ => 0)
    exact bodyPost_ret_by (results_mid_tmp rfl _ _ w.heap.size _ (.array 64 5) rfl F2.range0 Try.arr36 rfl (size36 _)) rfl ⟨rfl, below_setCells hb1'.out _ _ (Nat.le_refl _) _⟩
  · by_cases hx0 : x < 0
    · exfalso; omega
    · go_enter Try.func48, Try.ntmps48
      go_wp2_with (first | (refine wpList_alloc_byts rfl 96 64 rfl Try.zero36 ?_; intro w1 F1 hb1 hz1; have H1 := Lib.hid (H.out.keep hb1); have c0 := H1.out.c0; have hb1' := Lib.hid hb1; clear hb1) | (refine wpList_build_byts rfl 96 5 64 rfl Try.arr36 Try.zero36 (by kernel_rfl) ?_) | (refine wpList_store_mid rfl 96 _ _ rfl w.heap.size 0 (byts 64 fun _ => 0).toArray rfl rfl (by rw [byts_size]; exact F1.out.there 0 64 (Nat.le_refl _)) (size36' _) (byts_all _ _) ?_))
      have F2 := F1.out.stored (fun _ => 0)
      exact bodyPost_ret_by (results_mid_tmp rfl _ _ w.heap.size _ (.array 64 5) rfl F2.range0 Try.arr36 rfl (size36 _)) rfl ⟨rfl, below_setCells hb1'.out _ _ (Nat.le_refl _) _⟩
end Go.Proofs.Ytdebkifnaiohcaa
