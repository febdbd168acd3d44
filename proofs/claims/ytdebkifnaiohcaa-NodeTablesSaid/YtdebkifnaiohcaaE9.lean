import Derived.Test.YtdebkifnaiohcaaE8
/- Put, Get. -/
namespace Go.Proofs.Ytdebkifnaiohcaa
set_option linter.unusedSimpArgs false
set_option linter.unusedVariables false
open Go.RowKit Go.Maps

theorem Kp.after {w w1 w2 : World} {a b c : Nat} (h : Kp w w1 a b) (k : Kp w1 w2 c c) (hc : w.heap.size ≤ c) : Kp w w2 a b :=
  ⟨k.os.trans h.os, k.tape.trans h.tape, k.output.trans h.output, Nat.le_trans h.size k.size, fun i hi h1 h2 => (k.block i (Nat.lt_of_lt_of_le hi h.size) (by omega) (by omega)).trans (h.block i hi h1 h2)⟩
theorem mayB_cases (N fi : Nat) (T : TS) (x : Int) : mayB N fi T x = 27 ∨ mayB N fi T x = 23 ∨ mayB N fi T x = 0 ∧ 0 ≤ x ∧ x < N := by
  unfold mayB
  split
  · exact .inl rfl
  · rename_i h
    split
    · exact .inr (.inl rfl)
    · refine .inr (.inr ⟨rfl, ?_⟩)
      unfold outB at h
      simp at h
      exact ⟨h.1, h.2.1⟩
/-- Put: what it answers, and how the transaction stands then -/
def putT (N fi : Nat) (x : Int) (f : Nat → Int) (T : TS) (fa : Int) : Int × TS × Int :=
  if mayB N fi T x = 0 then (0, put x.toNat f T, fa) else (mayB N fi T x, T, if fa = 0 then mayB N fi T x else fa)

set_option maxHeartbeats 8000000 in
set_option maxRecDepth 100000 in
theorem put_any (t m d g fi N K : Nat) (T : TS) (fa : Int) (s : DS) (x : Int) (f : Nat → Int) (hx0 : -9223372036854775808 ≤ x) (hx1 : x < 9223372036854775808) (hT : T.length < 5000) (hf : fi ≤ 65536) (hN : N ≤ 65536) (hs : Sane s N K) (w : World) (h : Tx w t m d fi T fa) (hd : Dk w d g s) (hfa : 0 ≤ fa ∧ fa < 100) :
    Calls Try.prog 37 #[.pointer (some ⟨t, 0, none⟩), .int .i64 x, .agg (byts 64 f).toArray] w fun e w' => e = .returned (.int .i64 (putT N fi x f T fa).1) ∧ Tx w' t m d fi (putT N fi x f T fa).2.1 (putT N fi x f T fa).2.2 ∧ Kp w w' t m := by
  have HT := Lib.hid h
  have HD := Lib.hid hd
  have hc := mayB_cases N fi T x
  have HM := Lib.hid (fun W (h : Tx W t m d fi T fa) (hd : Dk W d g s) => mayput_any t m d g fi N K T fa s x hx0 hx1 (by omega) hf hN hs W h hd)
  have htl := h.lg.lt
  have hml := h.mp.lt
  clear h hd hs
  obtain ⟨c, hcq⟩ : ∃ c, mayB N fi T x = c := ⟨_, rfl⟩
  have HP : Hid (putT N fi x f T fa = if c = 0 then (0, put x.toNat f T, fa) else (c, T, if fa = 0 then c else fa)) := by
    show putT N fi x f T fa = _
    unfold putT
    rw [hcq]
  rw [hcq] at hc HM
  clear hcq
  obtain ⟨R, hR⟩ : ∃ R, putT N fi x f T fa = R := ⟨_, rfl⟩
  rw [hR] at HP ⊢
  clear hR
  have HX0 := Lib.hid hx0
  have HX1 := Lib.hid hx1
  clear hx0 hx1
  by_cases hc0 : c = 0
  · have hxr : 0 ≤ x ∧ x < N := by omega
    obtain ⟨k, rfl⟩ := Int.eq_ofNat_of_zero_le hxr.1
    have hk : k < N := by omega
    subst hc0
    have hr : R = (0, put k f T, fa) := by rw [HP.out, if_pos rfl, Int.toNat_natCast]
    subst hr
    clear HP hc hxr HX0 HX1
    go_enter Try.func37, Try.ntmps37
    go_wp2_with (refine wpList_box_byts rfl 96 _ 64 rfl f rfl ?_; intro w1 F1 hb1 hz1; have HB1 := Lib.hid hb1; have HT1 := Lib.hid (HT.out.keep hb1); have HD1 := Lib.hid (HD.out.keep hb1); clear hb1)
    refine (HM.out w1 HT1.out HD1.out).mono ?_
    rintro e w2 ⟨rfl, hb2⟩
    have HB2 := Lib.hid (HB1.out.trans (hb2.mono HB1.out.size))
    have HT2 := Lib.hid (HT1.out.keep hb2)
    have F2 := Lib.hid (F1.out.below hb2 F1.out.lt)
    clear hb2 HM HT1 HD1 F1 HB1
    go_wp2_with fail
    obtain ⟨b5, hb5⟩ : ∃ b5, w.heap.size = b5 := ⟨_, rfl⟩
    rw [hb5] at F2 htl hml ⊢
    refine wp_region_held (S := fun W => W.cell? ⟨t, 2, none⟩ = some (.map (some m)) ∧ Fl W b5 64 f) (by kernel_rfl) ?_
    change wpAnyH _ _ _ _ _ _ _ _ (World.drew _)
    have hS0 : (World.drew w2).cell? ⟨t, 2, none⟩ = some (.map (some m)) ∧ Fl (World.drew w2) b5 64 f := ⟨HT2.out.c2, F2.out.below (Below.refl _ _).drew F2.out.lt⟩
    refine wpAnyH_take (i := 0) (v := ?_) rfl (by kernel_rfl) (by kernel_rfl) (by kernel_rfl) (fun _ _ _ h => h) (Or.inl ⟨by rfl, ?_⟩) hS0 ?_
    rotate_left 1
    · intro W hW
      go_simp
      try with_reducible rfl
    simp only [Act.put, List.getElem_toArray, List.getElem_cons_zero, List.getElem_cons_succ, List.setIfInBounds_toArray, List.set_cons_zero, List.set_cons_succ]
    refine wpAnyH_take (i := 1) (v := ?_) rfl (by kernel_rfl) (by kernel_rfl) (by kernel_rfl) (fun _ _ _ h => h) (Or.inl ⟨by rfl, ?_⟩) hS0 ?_
    rotate_left 1
    · intro W hW
      go_simp
      try with_reducible rfl
    simp only [Act.put, List.getElem_toArray, List.getElem_cons_zero, List.getElem_cons_succ, List.setIfInBounds_toArray, List.set_cons_zero, List.set_cons_succ]
    refine wpAnyH_take (i := 2) (v := ?_) rfl (by kernel_rfl) (by kernel_rfl) (by kernel_rfl) (fun _ _ _ h => h) (Or.inl ⟨by rfl, ?_⟩) hS0 ?_
    rotate_left 1
    · intro W hW
      go_simp
      try with_reducible rfl
    simp only [Act.put, List.getElem_toArray, List.getElem_cons_zero, List.getElem_cons_succ, List.setIfInBounds_toArray, List.set_cons_zero, List.set_cons_succ]
    refine wpAnyH_take (i := 3) (v := ?_) rfl (by kernel_rfl) (by kernel_rfl) (by kernel_rfl) (fun _ _ _ h => h) (Or.inl ⟨by rfl, ?_⟩) hS0 ?_
    rotate_left 1
    · intro W hW
      have c2 := hW.1
      go_simp
      try with_reducible rfl
    simp only [Act.put, List.getElem_toArray, List.getElem_cons_zero, List.getElem_cons_succ, List.setIfInBounds_toArray, List.set_cons_zero, List.set_cons_succ]
    refine wpAnyH_take (i := 4) (v := ?_) rfl (by kernel_rfl) (by kernel_rfl) (by kernel_rfl) (fun _ _ _ h => h) (Or.inl ⟨by rfl, ?_⟩) hS0 ?_
    rotate_left 1
    · intro W hW
      go_simp
      try with_reducible rfl
    simp only [Act.put, List.getElem_toArray, List.getElem_cons_zero, List.getElem_cons_succ, List.setIfInBounds_toArray, List.set_cons_zero, List.set_cons_succ]
    refine wpAnyH_take (i := 5) (v := .agg (byts 64 f).toArray) rfl (by kernel_rfl) (by kernel_rfl) (by kernel_rfl) (fun _ _ _ h => h) ?_ hS0 ?_
    · exact yieldsIf_load_mid (by rfl) 96 _ rfl b5 0 rfl (byts 64 f) (.array 64 5) (fun _ h => h.2.range0) Try.arr36 rfl (size36 _)
    simp only [Act.put, List.getElem_toArray, List.getElem_cons_zero, List.getElem_cons_succ, List.setIfInBounds_toArray, List.set_cons_zero, List.set_cons_succ]
    refine wpAnyH_ready (rs := [6]) (by kernel_rfl) (by simp) (AllReadyH.cons rfl (fun KK hKK => ?_) AllReadyH.nil)
    refine step_put_mp rfl (.tmp 28) (.tmp 29) (.tmp 30) rfl m T (HT2.out.keep (Below.refl _ _).drew).mp rfl k rfl f rfl (by omega) (by omega) ?_
    intro w3 hM3 hk3
    have HT3 := Lib.hid ((HT2.out.keep (Below.refl _ _).drew).remap hk3 hM3)
    have HK3 : Hid (Kp w w3 t m) := by
      have h1 := (Kp.of_below HB2.out t m).trans (Kp.refl w2 t m).drew
      exact h1.trans ⟨hk3.os, hk3.tape, hk3.output, hk3.size, fun i hi _ h2 => hk3.block i hi h2 h2⟩
    have hF3 := hS0.2.kp hk3 (by omega) (by omega)
    clear hS0
    have hS0 : w3.cell? ⟨t, 2, none⟩ = some (.map (some m)) ∧ Fl w3 b5 64 f := ⟨HT3.out.c2, hF3⟩
    refine hKK _ _ hS0 ?_
    intro _
    clear hKK KK hM3 hk3 hF3
    refine wpAnyH_done (by kernel_rfl) ?_ _
    clear hS0
    go_wp2_with fail
    go_ret
    exact ⟨rfl, HT3.out, HK3.out⟩
  · have hr : R = (c, T, if fa = 0 then c else fa) := by rw [HP.out, if_neg hc0]
    subst hr
    clear HP
    have hcr : 0 ≤ c ∧ c < 100 := by omega
    obtain ⟨hcr0, hcr1⟩ := hcr
    obtain ⟨hfa0, hfa1⟩ := hfa
    clear hc
    by_cases hf0 : fa = 0
    · subst hf0
      go_enter Try.func37, Try.ntmps37
      go_wp2_with (refine wpList_box_byts rfl 96 _ 64 rfl f rfl ?_; intro w1 F1 hb1 hz1; have HB1 := Lib.hid hb1; have HT1 := Lib.hid (HT.out.keep hb1); have HD1 := Lib.hid (HD.out.keep hb1); clear hb1)
      refine (HM.out w1 HT1.out HD1.out).mono ?_
      rintro e w2 ⟨rfl, hb2⟩
      have HB2 := Lib.hid (HB1.out.trans (hb2.mono HB1.out.size))
      have HT2 := Lib.hid (HT1.out.keep hb2)
      have c3 := HT2.out.c3
      have z3 := HT2.out.z3
      clear hb2 HM HT1 HD1 F1 HB1
      go_wp2_with fail
      go_ret
      exact ⟨rfl, HT2.out.fail c, (Kp.of_below HB2.out t m).setCell ⟨t, 3, none⟩ (.inl rfl) _⟩
    · go_enter Try.func37, Try.ntmps37
      go_wp2_with (refine wpList_box_byts rfl 96 _ 64 rfl f rfl ?_; intro w1 F1 hb1 hz1; have HB1 := Lib.hid hb1; have HT1 := Lib.hid (HT.out.keep hb1); have HD1 := Lib.hid (HD.out.keep hb1); clear hb1)
      refine (HM.out w1 HT1.out HD1.out).mono ?_
      rintro e w2 ⟨rfl, hb2⟩
      have HB2 := Lib.hid (HB1.out.trans (hb2.mono HB1.out.size))
      have HT2 := Lib.hid (HT1.out.keep hb2)
      have c3 := HT2.out.c3
      clear hb2 HM HT1 HD1 F1 HB1
      go_wp2_with fail
      go_ret
      exact ⟨rfl, HT2.out, Kp.of_below HB2.out t m⟩
set_option maxHeartbeats 2000000 in
set_option maxRecDepth 100000 in
theorem put_nil (x : Int) (f : Nat → Int) (w : World) : Calls Try.prog 37 #[.pointer none, .int .i64 x, .agg (byts 64 f).toArray] w fun e w' => e = .returned (.int .i64 1) ∧ Below w.heap.size w w' := by
  go_enter Try.func37, Try.ntmps37
  go_wp2_with (refine wpList_box_byts rfl 96 _ 64 rfl f rfl ?_; intro w1 F1 hb1 hz1; have HB1 := Lib.hid hb1; clear hb1)
  go_ret
  exact ⟨rfl, HB1.out⟩

/-- Get: the block, the error's number; the disk -/
def getT (s : DS) (T : TS) (x : Int) : ((Nat → Int) × Int) × DS :=
  (find T x).elim (if 0 ≤ x ∧ x < s.n then ((s.blk x.toNat, 0), s.rdd) else ((fun _ => 0, 27), s)) fun f => ((f, 0), s)
set_option maxHeartbeats 8000000 in
set_option maxRecDepth 100000 in
theorem get_any (t m d g fi N K : Nat) (T : TS) (fa : Int) (s : DS) (x : Int) (hx0 : -9223372036854775808 ≤ x) (hx1 : x < 9223372036854775808) (hN : N ≤ 65536) (hK : K < 800000) (hs : Sane s N K) (w : World) (h : Tx w t m d fi T fa) (hd : Dk w d g s) (htd : t ≠ d) (htg : t ≠ g) :
    Calls Try.prog 36 #[.pointer (some ⟨t, 0, none⟩), .int .i64 x] w fun e w' => e = .returned (.tuple #[.agg (byts 64 (getT s T x).1.1).toArray, .int .i64 (getT s T x).1.2]) ∧ Dk w' d g (getT s T x).2 ∧ Kp w w' d g := by
  have HT := Lib.hid h
  have HD := Lib.hid hd
  have HS := Lib.hid hs
  have c2 := h.c2
  have htl := h.lg.lt
  have hdl := hd.lt
  have hgl := hd.fl.lt
  clear h hd hs
  have HX0 := Lib.hid hx0
  have HX1 := Lib.hid hx1
  clear hx0 hx1
  obtain ⟨R, hR⟩ : ∃ R, getT s T x = R := ⟨_, rfl⟩
  have HR := Lib.hid hR
  rw [hR]
  clear hR
  obtain ⟨u, hu⟩ : ∃ u, (find T x).isSome = u := ⟨_, rfl⟩
  obtain ⟨f, hf⟩ : ∃ f, ((find T x).getD fun _ => 0) = f := ⟨_, rfl⟩
  have HU := Lib.hid hu
  have HF := Lib.hid hf
  have HL : ∀ (ops : Array Oper) (rest : List Oper) (o : Oper) (a : Act) (W : World) (Q : Exit → Act → World → Prop), o.guard = none → o.op = .lookup 122 (.tmp 15) (.tmp 16) true → Tx W t m d fi T fa → a.eval (.tmp 15) = .map (some m) → a.eval (.tmp 16) = .int .i64 x →
      wpList Try.prog ops Q rest (a.put o.dst (.tuple #[.agg (byts 64 f).toArray, .bool u])) W → wpList Try.prog ops Q (o :: rest) a W := fun ops rest o a W Q h1 h2 h3 h4 h5 h6 => by
    refine wpList_look_mp h1 _ _ h2 m T h3.mp h4 x h5 HX0.out HX1.out ?_
    rw [hu, hf]
    exact h6
  have HLK := Lib.hid HL
  clear hu hf HL
  cases u with
  | true =>
    have hr : R = ((f, 0), s) := by
      rw [← HR.out]
      unfold getT
      have h1 := HU.out
      have h2 := HF.out
      cases hq : find T x with
      | none => rw [hq] at h1; cases h1
      | some f' =>
        rw [hq] at h2
        have : f' = f := by simpa using h2
        rw [this]
        rfl
    subst hr
    clear HR
    go_enter Try.func36, Try.ntmps36
    go_wp2_with (first | (at_lookup; refine HLK.out _ _ _ _ _ _ rfl rfl HT3.out rfl rfl ?_) | (refine wpList_alloc_byts (w := w) rfl 96 64 rfl Try.zero36 ?_; intro w3 F3 hb3 hz3; have HB3 := Lib.hid hb3; have HT3 := Lib.hid (HT.out.keep hb3); have HD3 := Lib.hid (HD.out.keep hb3); have hlt3 := F3.out.lt; replace c2 := HT3.out.c2; have hq3 : w.heap.size < w3.heap.size := (by omega); clear hb3 hz3) | (refine wpList_alloc_byts (w := w3) rfl 96 64 rfl Try.zero36 ?_; intro w4 F4 hb4 hz4; have HB4 := Lib.hid (HB3.out.trans (hb4.mono HB3.out.size)); have HT4 := Lib.hid (HT3.out.keep hb4); have HD4 := Lib.hid (HD3.out.keep hb4); have F34 := Lib.hid (F3.out.below hb4 hlt3); have hq4 : w3.heap.size < w4.heap.size := (by omega); clear hb4 hz4) | (refine wpList_store_blk rfl (.tmp 6) (.tmp 18) rfl w3.heap.size 0 64 (fun _ => 0) f F4.out (by omega) rfl rfl ?_; intro w5 F5 HK5; have hR5 := (F5.out.congr (f' := f) (fun j hj => by unfold upd; rw [if_pos (by omega), Nat.sub_zero])).range0; have HR5 := Lib.hid hR5; clear hR5) | (refine wpList_load_mid rfl 96 (.tmp 6) rfl w3.heap.size 0 rfl (byts 64 f) (.array 64 5) HR5.out Try.arr36 rfl (size36 _) ?_) | (refine wpList_store_blk rfl (.tmp 4) (.tmp 21) rfl w.heap.size 0 64 (fun _ => 0) f (F34.out.kp HK5.out (by omega) (by omega)) (by omega) rfl rfl ?_; intro w6 F6 HK6))
    have HR6 := Lib.hid (F6.out.congr (f' := f) (fun j hj => by unfold upd; rw [if_pos (by omega), Nat.sub_zero])).range0
    exact bodyPost_ret_by (results_mid_tmp rfl _ _ w.heap.size _ (.array 64 5) rfl HR6.out Try.arr36 rfl (size36 _)) rfl ⟨rfl, (HD4.out.kp HK5.out (by omega) (by omega) (by omega) (by omega)).kp HK6.out (by omega) (by omega) (by omega) (by omega), Kp.of_below ((HB4.out.trans (HK5.out.below (B := w.heap.size) (by omega) (by omega) HB4.out.size)).trans (HK6.out.below (B := w.heap.size) (by omega) (by omega) (HB4.out.trans (HK5.out.below (B := w.heap.size) (by omega) (by omega) HB4.out.size)).size)) _ _⟩
  | false =>
    have hfn : find T x = none := by
      have h1 := HU.out
      cases hq : find T x with
      | none => rfl
      | some f' => rw [hq] at h1; cases h1
    have HRr : Hid (R = if 0 ≤ x ∧ x < (N : Int) then ((s.blk x.toNat, 0), s.rdd) else ((fun _ => 0, 27), s)) := by
      show R = _
      rw [← HR.out]
      unfold getT
      rw [hfn, HS.out.n]
      rfl
    obtain ⟨V, c, s2, hV⟩ : ∃ V c s2, R = ((V, c), s2) := ⟨R.1.1, R.1.2, R.2, rfl⟩
    have HRd : Hid (∀ W, Dk W d g s → Calls Try.prog 48 #[.pointer (some ⟨d, 0, none⟩), .int .i64 x] W fun e w' => e = .returned (.tuple #[.agg (byts 64 V).toArray, .int .i64 c]) ∧ Dk w' d g s2 ∧ Kp W w' d g) := fun W hW => by
      have h1 := HRr.out
      rw [hV] at h1
      by_cases hin : 0 ≤ x ∧ x < (N : Int)
      · rw [if_pos hin] at h1
        obtain ⟨k, rfl⟩ := Int.eq_ofNat_of_zero_le hin.1
        rw [Int.toNat_natCast] at h1
        obtain ⟨⟨rfl, rfl⟩, rfl⟩ : (V = s.blk k ∧ c = 0) ∧ s2 = s.rdd := by simpa using h1
        exact read_any d g s k N K (by omega) hN (by omega) HS.out W hW
      · rw [if_neg hin] at h1
        obtain ⟨⟨rfl, rfl⟩, rfl⟩ : (V = (fun _ => 0) ∧ c = 27) ∧ s2 = s := by simpa using h1
        refine (read_out d g s2 x (by rw [HS.out.n]; omega) (by rw [HS.out.n]; exact hN) W hW).mono ?_
        rintro e w' ⟨he, hb⟩
        exact ⟨he, hW.keep hb, Kp.of_below hb _ _⟩
    subst hV
    clear HR HRr
    go_enter Try.func36, Try.ntmps36
    go_wp2_with (first | (at_lookup; refine HLK.out _ _ _ _ _ _ rfl rfl HT3.out rfl rfl ?_) | (refine wpList_alloc_byts (w := w) rfl 96 64 rfl Try.zero36 ?_; intro w3 F3 hb3 hz3; have HB3 := Lib.hid hb3; have HT3 := Lib.hid (HT.out.keep hb3); have HD3 := Lib.hid (HD.out.keep hb3); have hlt3 := F3.out.lt; replace c2 := HT3.out.c2; have hq3 : w.heap.size < w3.heap.size := (by omega); clear hb3 hz3) | (refine wpList_alloc_byts (w := w3) rfl 96 64 rfl Try.zero36 ?_; intro w4 F4 hb4 hz4; have HB4 := Lib.hid (HB3.out.trans (hb4.mono HB3.out.size)); have HT4 := Lib.hid (HT3.out.keep hb4); have HD4 := Lib.hid (HD3.out.keep hb4); have F34 := Lib.hid (F3.out.below hb4 hlt3); have hq4 : w3.heap.size < w4.heap.size := (by omega); clear hb4 hz4) | (refine wpList_store_blk rfl (.tmp 6) (.tmp 18) rfl w3.heap.size 0 64 (fun _ => 0) f F4.out (by omega) rfl rfl ?_; intro w5 F5 HK5; have HT5 := Lib.hid (HT4.out.kp HK5.out (by omega) (by omega) (by have := HT3.out.mp.lt; omega) (by have := HT3.out.mp.lt; omega)); have c0 := HT5.out.lg.c0))
    have HB5 := Lib.hid (HB4.out.trans (HK5.out.below (B := w.heap.size) (by omega) (by omega) HB4.out.size))
    refine (HRd.out w5 (HD4.out.kp HK5.out (by omega) (by omega) (by omega) (by omega))).mono ?_
    rintro e w6 ⟨rfl, hD6, hk6⟩
    have HD6 := Lib.hid hD6
    have HK6 := Lib.hid ((Kp.of_below HB5.out d g).trans hk6)
    have F6 := Lib.hid ((F34.out.kp HK5.out (by omega) (by omega)).kp hk6 (by omega) (by omega))
    clear hD6 hk6 HRd
    go_wp2_with (refine wpList_store_blk rfl (.tmp 4) (.tmp 29) rfl w.heap.size 0 64 (fun _ => 0) V F6.out (by omega) rfl rfl ?_; intro w7 F7 HK7)
    have HR7 := Lib.hid (F7.out.congr (f' := V) (fun j hj => by unfold upd; rw [if_pos (by omega), Nat.sub_zero])).range0
    exact bodyPost_ret_by (results_mid_tmp rfl _ _ w.heap.size _ (.array 64 5) rfl HR7.out Try.arr36 rfl (size36 _)) rfl ⟨rfl, HD6.out.kp HK7.out (by omega) (by omega) (by omega) (by omega), HK6.out.after HK7.out (Nat.le_refl _)⟩
end Go.Proofs.Ytdebkifnaiohcaa
