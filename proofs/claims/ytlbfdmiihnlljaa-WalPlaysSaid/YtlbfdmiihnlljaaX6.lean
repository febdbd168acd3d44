import Derived.Test.YtlbfdmiihnlljaaX5
import Derived.Test.YtlbfdmiihnlljaaX4
/- The answer's Put: what is not let through. -/
namespace Go.Proofs.Ytlbfdmiihnlljaa
set_option linter.unusedSimpArgs false
set_option linter.unusedVariables false
open Go.RowKit Go.Maps

theorem Rx.code {w : World} {x l : Nat} {va vb : Value} {T : TS} {co : Int} (h : Rx w x l va vb T co) (c : Int) (hva : Ns.off va x x) (hvb : Ns.off vb x x) : Rx (w.setCell ⟨x, 3, none⟩ (.int .i64 c)) x l va vb T c :=
  have hk : Kp w (w.setCell ⟨x, 3, none⟩ (.int .i64 c)) x x := (Kp.refl w x x).setCell ⟨x, 3, none⟩ (.inl rfl) _
  ⟨lt_set h.lt _ _, cell_set_other h.c0 _ (by decide), cell_set_other h.c1 _ (by decide), cell_set_other h.c2 _ (by decide), cell_set_same h.c3 _,
    frozen_set h.z1 _, frozen_set h.z2 _, frozen_set h.z3 _, h.ns.kp hk hva, h.bv.kp hk hvb⟩

set_option maxHeartbeats 8000000 in
set_option maxRecDepth 100000 in
theorem rput_out (x l d g fi N K : Nat) (va vb : Value) (T : TS) (co : Int) (s : DS) (n : Int) (f : Nat → Int) (hn0 : -9223372036854775808 ≤ n) (hn1 : n < 9223372036854775808) (hf : fi ≤ 65536) (hN : N ≤ 65536) (hs : Sane s N K) (w : World) (h : Rx w x l va vb T co) (hl : Lg w l d fi) (hd : Rk w d g s)
    (hva : Ns.off va x x) (hvb : Ns.off vb x x) (ho : outB N fi n = false) :
    Calls Try.prog 26 #[.pointer (some ⟨x, 0, none⟩), .int .i64 n, .agg (byts 64 f).toArray] w fun e w' => e = .returned (.int .i64 27) ∧ Rx w' x l va vb T (if co = 0 then 27 else co) ∧ Kp w w' x x := by
  have HX := Lib.hid h
  have HL := Lib.hid hl
  have HD := Lib.hid hd
  have HVA := Lib.hid hva
  have HVB := Lib.hid hvb
  have hxl := h.lt
  have hll := hl.lt
  have hdl := hd.lt
  have hsn := hs.n
  clear h hl hd hva hvb hs
  have hc : n < 0 ∨ (N : Int) ≤ n ∨ (0 ≤ n ∧ n < N ∧ (fi : Int) ≤ n ∧ n ≤ fi + 30) := by
    unfold outB at ho
    by_cases h1 : 0 ≤ n ∧ n < N
    · by_cases h2 : (fi : Int) ≤ n ∧ n ≤ fi + 30
      · exact .inr (.inr ⟨h1.1, h1.2, h2.1, h2.2⟩)
      · simp [h1, h2] at ho
    · omega
  clear ho
  have hNn : (N : Int) ≤ 65536 := by omega
  have hff : (fi : Int) ≤ 65536 := by omega
  have hwa : IntKind.i64.wrap ((fi : Int) + 30) = (fi : Int) + 30 := IntWalk.i64_in _ (by omega)
  subst hsn
  obtain ⟨u, hu⟩ : ∃ u : Bool, decide (co = 0) = u := ⟨_, rfl⟩
  rcases hc with hc | hc | ⟨hc0, hc1, hc2, hc3⟩ <;> cases u
  · have hco : ¬ co = 0 := of_decide_eq_false hu
    rw [if_neg hco]
    clear hu
    go_enter Try.func26, Try.ntmps26
    go_wp2_with (refine wpList_box_byts rfl 50 _ 64 rfl f rfl ?_; intro w1 F1 hb1 hz1; have HX1 := Lib.hid (HX.out.below hb1); have HB1 := Lib.hid hb1; have c0 := HX1.out.c0; have c3 := HX1.out.c3; have z3 := HX1.out.z3; have b0 := (HL.out.keep hb1).c0; have b1 := (HL.out.keep hb1).c1; have d0 := (HD.out.keep hb1).c0; clear hb1 hz1 F1)
    go_ret
    exact ⟨rfl, HX1.out, Kp.of_below HB1.out _ _⟩
  · have hco : co = 0 := of_decide_eq_true hu
    rw [if_pos hco]
    subst hco
    clear hu
    go_enter Try.func26, Try.ntmps26
    go_wp2_with (refine wpList_box_byts rfl 50 _ 64 rfl f rfl ?_; intro w1 F1 hb1 hz1; have HX1 := Lib.hid (HX.out.below hb1); have HB1 := Lib.hid hb1; have c0 := HX1.out.c0; have c3 := HX1.out.c3; have z3 := HX1.out.z3; have b0 := (HL.out.keep hb1).c0; have b1 := (HL.out.keep hb1).c1; have d0 := (HD.out.keep hb1).c0; clear hb1 hz1 F1)
    go_ret
    exact ⟨rfl, HX1.out.code 27 HVA.out HVB.out, (Kp.of_below HB1.out _ _).setCell ⟨x, 3, none⟩ (.inl rfl) _⟩
  · have hco : ¬ co = 0 := of_decide_eq_false hu
    rw [if_neg hco]
    clear hu
    go_enter Try.func26, Try.ntmps26
    go_wp2_with (refine wpList_box_byts rfl 50 _ 64 rfl f rfl ?_; intro w1 F1 hb1 hz1; have HX1 := Lib.hid (HX.out.below hb1); have HB1 := Lib.hid hb1; have c0 := HX1.out.c0; have c3 := HX1.out.c3; have z3 := HX1.out.z3; have b0 := (HL.out.keep hb1).c0; have b1 := (HL.out.keep hb1).c1; have d0 := (HD.out.keep hb1).c0; clear hb1 hz1 F1)
    go_ret
    exact ⟨rfl, HX1.out, Kp.of_below HB1.out _ _⟩
  · have hco : co = 0 := of_decide_eq_true hu
    rw [if_pos hco]
    subst hco
    clear hu
    go_enter Try.func26, Try.ntmps26
    go_wp2_with (refine wpList_box_byts rfl 50 _ 64 rfl f rfl ?_; intro w1 F1 hb1 hz1; have HX1 := Lib.hid (HX.out.below hb1); have HB1 := Lib.hid hb1; have c0 := HX1.out.c0; have c3 := HX1.out.c3; have z3 := HX1.out.z3; have b0 := (HL.out.keep hb1).c0; have b1 := (HL.out.keep hb1).c1; have d0 := (HD.out.keep hb1).c0; clear hb1 hz1 F1)
    go_ret
    exact ⟨rfl, HX1.out.code 27 HVA.out HVB.out, (Kp.of_below HB1.out _ _).setCell ⟨x, 3, none⟩ (.inl rfl) _⟩
  · have hco : ¬ co = 0 := of_decide_eq_false hu
    rw [if_neg hco]
    clear hu
    go_enter Try.func26, Try.ntmps26
    go_wp2_with (refine wpList_box_byts rfl 50 _ 64 rfl f rfl ?_; intro w1 F1 hb1 hz1; have HX1 := Lib.hid (HX.out.below hb1); have HB1 := Lib.hid hb1; have c0 := HX1.out.c0; have c3 := HX1.out.c3; have z3 := HX1.out.z3; have b0 := (HL.out.keep hb1).c0; have b1 := (HL.out.keep hb1).c1; have d0 := (HD.out.keep hb1).c0; clear hb1 hz1 F1)
    go_ret
    exact ⟨rfl, HX1.out, Kp.of_below HB1.out _ _⟩
  · have hco : co = 0 := of_decide_eq_true hu
    rw [if_pos hco]
    subst hco
    clear hu
    go_enter Try.func26, Try.ntmps26
    go_wp2_with (refine wpList_box_byts rfl 50 _ 64 rfl f rfl ?_; intro w1 F1 hb1 hz1; have HX1 := Lib.hid (HX.out.below hb1); have HB1 := Lib.hid hb1; have c0 := HX1.out.c0; have c3 := HX1.out.c3; have z3 := HX1.out.z3; have b0 := (HL.out.keep hb1).c0; have b1 := (HL.out.keep hb1).c1; have d0 := (HD.out.keep hb1).c0; clear hb1 hz1 F1)
    go_ret
    exact ⟨rfl, HX1.out.code 27 HVA.out HVB.out, (Kp.of_below HB1.out _ _).setCell ⟨x, 3, none⟩ (.inl rfl) _⟩
end Go.Proofs.Ytlbfdmiihnlljaa
