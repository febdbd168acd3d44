import Derived.Test.YtlbfdmiihnlljaaE13
/- An image, and where it lies. -/
namespace Go.Proofs.Ytlbfdmiihnlljaa
set_option linter.unusedSimpArgs false
set_option linter.unusedVariables false
open Go.RowKit Go.Maps

set_option maxHeartbeats 2000000 in
set_option maxRecDepth 100000 in
theorem image_own (d g : Nat) (s : DS) (hn : s.n ≤ 65536) (w : World) (h : Dk w d g s) :
    Calls Try.prog 12 #[.pointer (some ⟨d, 0, none⟩)] w fun e w' => e = .returned (.slice (some ⟨w.heap.size, 0, none⟩) s.n s.n) ∧ Fl w' w.heap.size (s.n * 64) s.f ∧ Below w.heap.size w w' := by
  have H := Lib.hid h
  have c0 := h.c0
  clear h
  go_enter Try.func12, Try.ntmps12
  go_wp2_with (first | (refine wpList_make36 rfl _ rfl s.n rfl hn ?_; intro w1 F1 hb1 hz1; have H1 := Lib.hid (H.out.keep hb1); have hb1' := Lib.hid hb1; replace c0 := H1.out.c0; clear hb1) | (refine wpList_copy_mid rfl (.tmp 12) (.tmp 16) 34 34 rfl 50 (by kernel_rfl) 64 Try.size36n w.heap.size 0 s.n s.n (some ⟨g, 0, none⟩) s.n s.n rfl rfl (byts (s.n * 64) s.f) (by rw [byts_len, show Nat.min s.n s.n = s.n from Nat.min_self s.n]) (Bs.src (c := s.n) (fun _ => ⟨g, rfl, H1.out.fl.lt, H1.out.fl.c⟩) _ (Below.refl _ _)) (by rw [byts_len]; exact F1.out.there 0 (s.n * 64) (by omega)) (byts_one _ _) ?_))
  go_ret
  exact ⟨rfl, F1.out.stored _, below_setCells hb1'.out _ _ (Nat.le_refl _) _⟩


/-- what an image answers, beside what it leaves -/
theorem image_at (d g N K : Nat) (s : DS) (hN : N ≤ 65536) (hs : Sane s N K) (w : World) (h : Dk w d g s) :
    Calls Try.prog 12 #[.pointer (some ⟨d, 0, none⟩)] w fun e w' => e = .returned (.slice (some ⟨w.heap.size, 0, none⟩) N N) ∧ Fl w' w.heap.size (N * 64) s.f ∧ Below w.heap.size w w' := by
  have := image_own d g s (by rw [hs.n]; exact hN) w h
  rwa [hs.n] at this
end Go.Proofs.Ytlbfdmiihnlljaa
