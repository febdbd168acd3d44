import Derived.Test.YtlbfdmiihnlljaaX6
/- The answer's Put: one block too many. -/
namespace Go.Proofs.Ytlbfdmiihnlljaa
set_option linter.unusedSimpArgs false
set_option linter.unusedVariables false
open Go.RowKit Go.Maps

set_option maxHeartbeats 8000000 in
set_option maxRecDepth 100000 in
theorem rput_many (x l d g fi N K : Nat) (va vb : Value) (T : TS) (co : Int) (s : DS) (n : Int) (f : Nat → Int) (hT : 30 ≤ T.length) (hT5 : T.length ≤ 5000) (hf : fi ≤ 65536) (hN : N ≤ 65536) (hs : Sane s N K) (w : World) (h : Rx w x l va vb T co) (hl : Lg w l d fi) (hd : Rk w d g s)
    (hva : Ns.off va x x) (hvb : Ns.off vb x x) (ho : outB N fi n = true) (hq : find T n = none) :
    Calls Try.prog 26 #[.pointer (some ⟨x, 0, none⟩), .int .i64 n, .agg (byts 64 f).toArray] w fun e w' => e = .returned (.int .i64 23) ∧ Rx w' x l va vb T (if co = 0 then 23 else co) ∧ Kp w w' x x := by
  obtain ⟨a, cap, hvf, hm⟩ := h.ns.form
  rw [keys_len] at hvf
  subst hvf
  unfold maxLen at hm
  clear hm
  have HX := Lib.hid h
  have HL := Lib.hid hl
  have HD := Lib.hid hd
  have HVA := Lib.hid hva
  have HVB := Lib.hid hvb
  have hxl := h.lt
  have hll := hl.lt
  have hdl := hd.lt
  have hsn := hs.n
  have HFi : Hid (∀ W, Rx W x l (.slice a T.length cap) vb T co → Calls Try.prog 38 #[.pointer (some ⟨x, 0, none⟩), .int .i64 n] W fun e w' => e = .returned (.int .i64 (-1)) ∧ w' = W) := fun W hW => by
    have := rfind_any x l _ vb T co n hT5 W hW
    rwa [pos_none n T 0 hq] at this
  clear h hl hd hva hvb hs hq
  have hc : 0 ≤ n ∧ n < (N : Int) ∧ (n < fi ∨ (fi : Int) ≤ n ∧ (fi : Int) + 30 < n) := by
    unfold outB at ho
    simp at ho
    omega
  clear ho
  obtain ⟨hc0, hc1, hc2⟩ := hc
  have hNn : (N : Int) ≤ 65536 := by omega
  have hff : (fi : Int) ≤ 65536 := by omega
  have h30 : (30 : Int) ≤ T.length := by omega
  have h50 : (T.length : Int) ≤ 5000 := by omega
  have hwa : IntKind.i64.wrap ((fi : Int) + 30) = (fi : Int) + 30 := IntWalk.i64_in _ (by omega)
  subst hsn
  obtain ⟨u, hu⟩ : ∃ u : Bool, decide (co = 0) = u := ⟨_, rfl⟩
  rcases hc2 with hc2 | ⟨hc2, hc3⟩ <;> cases u
  · have hco : ¬ co = 0 := of_decide_eq_false hu
    rw [if_neg hco]
    clear hu
    go_enter Try.func26, Try.ntmps26
    go_wp2_with (first | (refine wpList_box_byts rfl 50 _ 64 rfl f rfl ?_; intro w1 F1 hb1 hz1; have HX1 := Lib.hid (HX.out.below hb1); have HB1 := Lib.hid hb1; have c0 := HX1.out.c0; have c1 := HX1.out.c1; have c3 := HX1.out.c3; have z3 := HX1.out.z3; have b0 := (HL.out.keep hb1).c0; have b1 := (HL.out.keep hb1).c1; have d0 := (HD.out.keep hb1).c0; clear hb1 hz1 F1) | (go_at_call 38; refine (HFi.out w1 HX1.out).mono ?_; rintro e w' ⟨rfl, hww⟩; rw [hww]; clear hww))
    go_ret
    exact ⟨rfl, HX1.out, Kp.of_below HB1.out _ _⟩
  · have hco : co = 0 := of_decide_eq_true hu
    rw [if_pos hco]
    subst hco
    clear hu
    go_enter Try.func26, Try.ntmps26
    go_wp2_with (first | (refine wpList_box_byts rfl 50 _ 64 rfl f rfl ?_; intro w1 F1 hb1 hz1; have HX1 := Lib.hid (HX.out.below hb1); have HB1 := Lib.hid hb1; have c0 := HX1.out.c0; have c1 := HX1.out.c1; have c3 := HX1.out.c3; have z3 := HX1.out.z3; have b0 := (HL.out.keep hb1).c0; have b1 := (HL.out.keep hb1).c1; have d0 := (HD.out.keep hb1).c0; clear hb1 hz1 F1) | (go_at_call 38; refine (HFi.out w1 HX1.out).mono ?_; rintro e w' ⟨rfl, hww⟩; rw [hww]; clear hww))
    go_ret
    exact ⟨rfl, HX1.out.code 23 HVA.out HVB.out, (Kp.of_below HB1.out _ _).setCell ⟨x, 3, none⟩ (.inl rfl) _⟩
  · have hco : ¬ co = 0 := of_decide_eq_false hu
    rw [if_neg hco]
    clear hu
    go_enter Try.func26, Try.ntmps26
    go_wp2_with (first | (refine wpList_box_byts rfl 50 _ 64 rfl f rfl ?_; intro w1 F1 hb1 hz1; have HX1 := Lib.hid (HX.out.below hb1); have HB1 := Lib.hid hb1; have c0 := HX1.out.c0; have c1 := HX1.out.c1; have c3 := HX1.out.c3; have z3 := HX1.out.z3; have b0 := (HL.out.keep hb1).c0; have b1 := (HL.out.keep hb1).c1; have d0 := (HD.out.keep hb1).c0; clear hb1 hz1 F1) | (go_at_call 38; refine (HFi.out w1 HX1.out).mono ?_; rintro e w' ⟨rfl, hww⟩; rw [hww]; clear hww))
    go_ret
    exact ⟨rfl, HX1.out, Kp.of_below HB1.out _ _⟩
  · have hco : co = 0 := of_decide_eq_true hu
    rw [if_pos hco]
    subst hco
    clear hu
    go_enter Try.func26, Try.ntmps26
    go_wp2_with (first | (refine wpList_box_byts rfl 50 _ 64 rfl f rfl ?_; intro w1 F1 hb1 hz1; have HX1 := Lib.hid (HX.out.below hb1); have HB1 := Lib.hid hb1; have c0 := HX1.out.c0; have c1 := HX1.out.c1; have c3 := HX1.out.c3; have z3 := HX1.out.z3; have b0 := (HL.out.keep hb1).c0; have b1 := (HL.out.keep hb1).c1; have d0 := (HD.out.keep hb1).c0; clear hb1 hz1 F1) | (go_at_call 38; refine (HFi.out w1 HX1.out).mono ?_; rintro e w' ⟨rfl, hww⟩; rw [hww]; clear hww))
    go_ret
    exact ⟨rfl, HX1.out.code 23 HVA.out HVB.out, (Kp.of_below HB1.out _ _).setCell ⟨x, 3, none⟩ (.inl rfl) _⟩
end Go.Proofs.Ytlbfdmiihnlljaa
