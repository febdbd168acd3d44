import Derived.Test.YtlbfdmiihnlljaaS1
/- WalWhole: the walk. -/
namespace Go.Proofs.Ytlbfdmiihnlljaa
set_option linter.unusedSimpArgs false
set_option linter.unusedVariables false
open Go.RowKit Go.Maps

theorem Fl.keep' {w w' : World} {g N : Nat} {f : Nat → Int} (h : Fl w g N f) (hb : Below w.heap.size w w') : Fl w' g N f := h.below hb h.lt
theorem find_put (k : Nat) (f : Nat → Int) (j : Int) : ∀ T : TS, Rise T → find (put k f T) j = if (k : Int) = j then some f else find T j
  | [], _ => by
    unfold put find
    by_cases h : (k : Int) = j <;> simp [h]
  | p :: r, h => by
    obtain ⟨h1, h2⟩ := List.pairwise_cons.1 h
    have hc : ∀ (q : Nat × (Nat → Int)) (L : TS), find (q :: L) j = if (q.1 : Int) = j then some q.2 else find L j := fun q L => by
      unfold find
      rw [List.find?_cons]
      by_cases c : (q.1 : Int) = j <;> simp [c]
    unfold put
    by_cases c1 : k < p.1
    · rw [if_pos c1, hc]
    · rw [if_neg c1]
      by_cases c2 : k = p.1
      · rw [if_pos c2, hc, hc]
        by_cases c3 : (k : Int) = j
        · rw [if_pos c3, if_pos c3]
        · rw [if_neg c3, if_neg c3, if_neg (show ¬ (p.1 : Int) = j by omega)]
      · rw [if_neg c2, hc, hc, find_put k f j r h2]
        by_cases c3 : (p.1 : Int) = j
        · rw [if_pos c3, if_pos c3, if_neg (show ¬ (k : Int) = j by omega)]
        · rw [if_neg c3, if_neg c3]
theorem over_put {T : TS} (h : Rise T) (k : Nat) (f : Nat → Int) (W : Nat → Nat → Int) (j : Nat) : over (put k f T) W j = if k = j then f else over T W j := by
  unfold over
  rw [find_put k f _ T h]
  by_cases c : k = j
  · rw [if_pos c, if_pos (show (k : Int) = j by omega)]
    rfl
  · rw [if_neg c, if_neg (show ¬ (k : Int) = j by omega)]
theorem tok_put {T : TS} {N fi : Nat} (h : TOk T N fi) (k : Nat) (f : Nat → Int) (hk : Out N fi k) (hf : Byt f) (hl : (put k f T).length ≤ 30) : TOk (put k f T) N fi := by
  refine ⟨put_rise k f T h.rise, hl, fun p hp => ?_, fun p hp => ?_⟩
  · rcases mem_put k f T p hp with rfl | hp
    · exact hk
    · exact h.out p hp
  · rcases mem_put k f T p hp with rfl | hp
    · exact hf
    · exact h.byt p hp
/-- a put that is let in -/
theorem putT_good {T : TS} {N fi : Nat} (h : TOk T N fi) (k : Nat) (f : Nat → Int) (hk : Out N fi k) (hl : T.length < 30) : putT N fi (k : Int) f T 0 = (0, put k f T, 0) := by
  have hm : mayB N fi T (k : Int) = 0 := by
    unfold mayB
    rw [if_neg, if_neg (by omega)]
    rw [outB_nat, decide_eq_true (show k < N ∧ ¬ (fi ≤ k ∧ k ≤ fi + 30) from hk)]
    decide
  unfold putT
  rw [if_pos hm, Int.toNat_natCast]
theorem putLen (k : Nat) (f : Nat → Int) (T : TS) (h : Rise T) : (put k f T).length ≤ T.length + 1 := by
  rw [put_len k f T h]
  split <;> omega
/-- the disk behind the commit, and behind each beginning anew -/
def Fini (s : DS) (T : TS) (W : Nat → Nat → Int) (c : Int) : Prop := StA s 80 2 (over T W) ∨ c = 24 ∧ (StA s 80 2 W ∨ 0 < T.length ∧ StB s 80 2 T W (over T W))
theorem Fini.congr {s s' : DS} {T : TS} {W : Nat → Nat → Int} {c : Int} (h : Fini s T W c) (hn : s'.n = s.n) (hf : s'.f = s.f) : Fini s' T W c := by
  rcases h with h | ⟨hc, h | ⟨h0, h⟩⟩
  · exact .inl ⟨hn.trans h.n, by rw [hf]; exact h.head, fun k hk => by rw [hf]; exact h.out k hk⟩
  · exact .inr ⟨hc, .inl ⟨hn.trans h.n, by rw [hf]; exact h.head, fun k hk => by rw [hf]; exact h.out k hk⟩⟩
  · exact .inr ⟨hc, .inr ⟨h0, hn.trans h.n, by rw [hf]; exact h.head, fun i hi => by rw [hf]; exact h.log i hi, fun k hk => by rw [hf]; exact h.out k hk⟩⟩
theorem fini_recover {s : DS} {T : TS} {W : Nat → Nat → Int} {c : Int} (hT : TOk T 80 2) (h : Fini s T W c) : Fini (recover 2 s).2 T W c := by
  rcases h with h | ⟨hc, h | ⟨h0, h⟩⟩
  · rw [recover_A (by decide) h]
    exact .inl h.rdd
  · rw [recover_A (by decide) h]
    exact .inr ⟨hc, .inl h.rdd⟩
  · rcases recover_B hT W (by decide) (by decide) h h0 with ⟨_, h2, _⟩ | ⟨_, h2, _⟩
    · exact .inl h2
    · exact .inr ⟨hc, .inr ⟨h0, h2⟩⟩
theorem fini_last {s : DS} {T : TS} {W : Nat → Nat → Int} {c : Int} (hT : TOk T 80 2) (h : Fini s T W c) (ha : Awk s) : (recover 2 s).1.2 = 0 ∧ (StA (recover 2 s).2 80 2 (over T W) ∨ c = 24 ∧ StA (recover 2 s).2 80 2 W) := by
  rcases h with h | ⟨hc, h | ⟨h0, h⟩⟩
  · rw [recover_A (by decide) h]
    exact ⟨rfl, .inl h.rdd⟩
  · rw [recover_A (by decide) h]
    exact ⟨rfl, .inr ⟨hc, h.rdd⟩⟩
  · rcases recover_B hT W (by decide) (by decide) h h0 with ⟨h1, h2, _⟩ | ⟨_, _, h3⟩
    · exact ⟨h1, .inl h2⟩
    · exact absurd ha h3
theorem Fini.of_commit {s : DS} {T : TS} {W : Nat → Nat → Int} (hT : TOk T 80 2) (h : StA s 80 2 W) : ((commit 2 T 0 s).1 = 0 ∨ (commit 2 T 0 s).1 = 24) ∧ Fini (commit 2 T 0 s).2.2 T W (commit 2 T 0 s).1 := by
  rcases commit_whole hT W (by decide) s h with ⟨h1, _, h2, _⟩ | ⟨h1, h2, _⟩
  · exact ⟨.inl h1, .inl h2⟩
  · exact ⟨.inr h1, .inr ⟨h1, h2⟩⟩
/-- where two disks have the same blocks from one on -/
theorem eqb_part {f g : Nat → Int} (a n : Nat) (h : ∀ k, a ≤ k → k < a + n → ∀ i, i < 64 → f (k * 64 + i) = g (k * 64 + i)) : eqb (n * 64) (fun j => f (a * 64 + j)) (fun j => g (a * 64 + j)) = true :=
  eqb_same fun j hj => by
    have := h (a + j / 64) (by omega) (by omega) (j % 64) (Nat.mod_lt _ (by decide))
    rwa [show (a + j / 64) * 64 + j % 64 = a * 64 + j by omega] at this

set_option maxHeartbeats 80000000 in
set_option maxRecDepth 100000 in
theorem whole_walk (v0 v1 v2 v4 : Value) (xs0 xs1 xs2 xs4 : List Int) (h0 : ∀ x ∈ xs0, 0 ≤ x ∧ x < 256) (h1 : ∀ x ∈ xs1, 0 ≤ x ∧ x < 256) (h2 : ∀ x ∈ xs2, 0 ≤ x ∧ x < 256) (h4 : ∀ x ∈ xs4, 0 ≤ x ∧ x < 256) (y : Int) (hy0 : 0 ≤ y) (hy1 : y < 256) (w : World)
    (hv0 : U8s w v0 xs0) (hv1 : U8s w v1 xs1) (hv2 : U8s w v2 xs2) (hv4 : U8s w v4 xs4) :
    Calls Try.prog 4 #[v0, v1, v2, .int .u8 y, v4] w fun e w' => e = .returned (.bool true) ∧ Below w.heap.size w w' := by
  obtain ⟨a0, cap0, rfl, hm0⟩ := hv0.form
  obtain ⟨a1, cap1, rfl, hm1⟩ := hv1.form
  obtain ⟨a2, cap2, rfl, hm2⟩ := hv2.form
  obtain ⟨a4, cap4, rfl, hm4⟩ := hv4.form
  have HV0 := Lib.hid hv0
  have HV1 := Lib.hid hv1
  have HV2 := Lib.hid hv2
  have HV4 := Lib.hid hv4
  have HX0 := Lib.hid h0
  have HX1 := Lib.hid h1
  have HX2 := Lib.hid h2
  have HX4 := Lib.hid h4
  unfold maxLen at hm0 hm1 hm2 hm4
  have HA := Lib.hid (awake_any w)
  have HN := Lib.hid (fun W => new_any 80 (by decide) W)
  clear hv0 hv1 hv2 hv4 h0 h1 h2 h4
  by_cases hL0 : 40 < xs0.length
  · have hL : (40 : Int) < xs0.length := by omega
    go_enter Try.func4, Try.ntmps4
    go_wp2_with fail
    refine HA.out.mono ?_
    rintro e w1 ⟨rfl, hb⟩
    have HB1 := Lib.hid hb
    clear HA hb
    go_wp2
    go_ret
    exact ⟨rfl, HB1.out⟩
  have hL0' : ¬ ((40 : Int) < xs0.length) := by omega
  by_cases hL2 : 30 < xs2.length
  · have hL : (30 : Int) < xs2.length := by omega
    go_enter Try.func4, Try.ntmps4
    go_wp2_with fail
    refine HA.out.mono ?_
    rintro e w1 ⟨rfl, hb⟩
    have HB1 := Lib.hid hb
    clear HA hb
    go_wp2
    go_ret
    exact ⟨rfl, HB1.out⟩
  have hL2' : ¬ ((30 : Int) < xs2.length) := by omega
  by_cases hL4 : 20 < xs4.length
  · have hL : (20 : Int) < xs4.length := by omega
    go_enter Try.func4, Try.ntmps4
    go_wp2_with fail
    refine HA.out.mono ?_
    rintro e w1 ⟨rfl, hb⟩
    have HB1 := Lib.hid hb
    clear HA hb
    go_wp2
    go_ret
    exact ⟨rfl, HB1.out⟩
  have hL4' : ¬ ((20 : Int) < xs4.length) := by omega
  obtain ⟨y7, hy7⟩ : ∃ y7, y % 100 = y7 := ⟨_, rfl⟩
  have HY := Lib.hid hy7
  have hy70 : 0 ≤ y7 := by omega
  have hy71 : y7 < 100 := by omega
  clear hy7
  go_enter Try.func4, Try.ntmps4
  go_wp2_with fail
  refine HA.out.mono ?_
  rintro e w0 ⟨rfl, hb⟩
  have HB0 := Lib.hid hb
  clear HA hb
  go_wp2_with fail
  refine (HN.out w0).mono ?_
  rintro e w1 ⟨d, g, rfl, hd, hg, hD, hb⟩
  have HD1 := Lib.hid hD
  have HB1 := Lib.hid (HB0.out.trans (hb.mono HB0.out.size))
  have h01 := HB0.out.size
  have hdl := hD.lt
  have hgl := hD.fl.lt
  clear hD hb HN HB0
  go_wp2_with fail
  refine (open_in d g _ 2 (by decide) (by decide) w1 HD1.out).mono ?_
  rintro e w2 ⟨l, rfl, hl, hL, hb⟩
  have HL2 := Lib.hid hL
  have HD2 := Lib.hid (HD1.out.keep hb)
  have HB2 := Lib.hid (HB1.out.trans (hb.mono HB1.out.size))
  have h12 := hb.size
  have hll := hL.lt
  clear hL hb HD1 HB1
  have hS0 : Sane (DS.new 80) 80 0 := Sane.new 80
  go_wp2_with fail
  refine (format_any l d g 2 80 0 _ (by decide) (by decide) (by decide) hS0 w2 HL2.out HD2.out (by omega) (by omega)).mono ?_
  have hw0 : (DS.new 80).write 2 (headF []) = (0, ⟨80, upd (fun _ => 0) (2 * 64) 64 (headF []), false, 0, false, 0, 1⟩) := by simp [DS.write, DS.new]
  rw [hw0]
  rintro e w3 ⟨rfl, hD3, hk3⟩
  obtain ⟨f, hf⟩ : ∃ f, upd (fun _ => 0) (2 * 64) 64 (headF []) = f := ⟨_, rfl⟩
  obtain ⟨s, hs⟩ : ∃ s : DS, (⟨80, f, false, 0, false, 0, 1⟩ : DS) = s := ⟨_, rfl⟩
  have HS3 : Hid (Sane s 80 1) := by
    have := hS0.write 2 (headF []) (headF_byt _)
    rw [hw0, hf] at this
    rw [← hs]
    exact this
  have HsA : Hid (Awk s) := by rw [← hs]; exact ⟨rfl, rfl⟩
  have HsF : Hid (SB s.f 2 (headF [])) := by rw [← hs]; show SB f _ _; rw [← hf]; exact SB.upd_same _ _ _
  rw [hf, hs] at hD3
  have HD3 := Lib.hid hD3
  have HL3 := Lib.hid (HL2.out.kp hk3 (by omega) (by omega))
  have HB3 := Lib.hid (HB2.out.trans (hk3.below (B := w.heap.size) (by omega) (by omega) HB2.out.size))
  have h23 := hk3.size
  clear hD3 hk3 HD2 HB2 hf hw0 hS0 HL2 hs
  go_wp2_with fail
  go_loopw [15, 16, 63] (fun _ _ i wr => ∃ (k : Nat) (s : DS), k ≤ xs0.length ∧ i = .int .i64 k ∧ Sane s 80 (1 + k) ∧ Awk s ∧ SB s.f 2 (headF []) ∧ Dk wr d g s ∧ Lg wr l d 2 ∧ Below w.heap.size w wr ∧ w3.heap.size ≤ wr.heap.size) (fun _ _ i _ => xs0.length - (Go.RowKit.intOf i).toNat)
  case atStart => exact ⟨0, s, by omega, rfl, HS3.out, HsA.out, HsF.out, HD3.out, HL3.out, HB3.out, Nat.le_refl _⟩
  case round =>
    clear HS3 HsA HsF HD3 HL3 HB3
    obtain ⟨k, s, hk, rfl, hS, hAw, hF, hD, hL, hB, hz⟩ := hrel
    have HS := Lib.hid hS
    have HAw := Lib.hid hAw
    have HF := Lib.hid hF
    have HD := Lib.hid hD
    have HL := Lib.hid hL
    have HB := Lib.hid hB
    clear hS hAw hF hD hL hB
    have hk0 : (0 : Int) ≤ k := by omega
    obtain ⟨wX, rfl⟩ : ∃ x, x = wr := ⟨wr, rfl⟩
    by_cases hlt : k < xs0.length
    · have hkk : (k : Int) < xs0.length := by omega
      obtain ⟨b, off, rfl, hbl, hbc⟩ := HV0.out.at k hlt
      have ec := (HB.out.cell (p := ⟨b, off + k, none⟩) hbl).trans hbc
      have hx := HX0.out xs0[k] (List.getElem_mem hlt)
      clear hbc
      generalize xs0[k] = x at *
      obtain ⟨hxx0, hxx1⟩ := hx
      obtain ⟨B, hBq⟩ : ∃ B, blk x = B := ⟨_, rfl⟩
      have HBy : Hid (Byt B) := by rw [← hBq]; exact blk_byt x
      have HBk : Hid (∀ W, Calls Try.prog 25 #[.int .u8 x] W fun e w' => e = .returned (.agg (byts 64 B).toArray) ∧ Below W.heap.size W w') := fun W => by
        rw [← hBq]; exact block_any x hxx0 hxx1 W
      have hwr := write_awk HAw.out (33 + k) B
      have HWr : Hid (∀ W, Dk W d g s → Calls Try.prog 32 #[.pointer (some ⟨d, 0, none⟩), .int .i64 (33 + (k : Int)), .agg (byts 64 B).toArray] W fun e w' => e = .returned (.int .i64 0) ∧ Dk w' d g { s with f := upd s.f ((33 + k) * 64) 64 B, wr := s.wr + 1 } ∧ Kp W w' d g) := fun W h => by
        have h1 := write_any d g s B (33 + k) 80 (1 + k) (by omega) (by decide) (by omega) HS.out W h
        rw [hwr] at h1
        rwa [show ((33 + k : Nat) : Int) = 33 + (k : Int) by omega] at h1
      have HS2 : Hid (Sane { s with f := upd s.f ((33 + k) * 64) 64 B, wr := s.wr + 1 } 80 (1 + k + 1)) := by
        have h1 := HS.out.write (33 + k) B HBy.out
        rwa [hwr] at h1
      clear hBq hwr
      go_wp2_with fail
      refine (HBk.out wX).mono ?_
      rintro e w6 ⟨rfl, hb⟩
      have HD6 := Lib.hid (HD.out.keep hb)
      have HL6 := Lib.hid (HL.out.keep hb)
      have HB6 := Lib.hid (HB.out.trans (hb.mono HB.out.size))
      have h56 := hb.size
      clear hb HD HL HB HBk
      go_wp2_with fail
      refine (HWr.out w6 HD6.out).mono ?_
      rintro e w7 ⟨rfl, hD7, hk7⟩
      have HD7 := Lib.hid hD7
      have HL7 := Lib.hid (HL6.out.kp hk7 (by omega) (by omega))
      have HB7 := Lib.hid (HB6.out.trans (hk7.below (B := w.heap.size) (by omega) (by omega) HB6.out.size))
      have h67 := hk7.size
      clear hD7 hk7 HD6 HL6 HB6 HWr
      go_wp2_with fail
      go_roundw
      case rel => exact ⟨k + 1, _, by omega, by go_num, HS2.out, HAw.out, HF.out.upd_other (by omega), HD7.out, HL7.out, HB7.out, by omega⟩
      case measure => simp [Go.RowKit.intOf]; omega
    · have hK40 : 1 + k ≤ 41 := by omega
      have HS41 := Lib.hid (HS.out.mono hK40)
      clear HS hK40
      go_wp2_with fail
      refine (image_at d g 80 41 s (by decide) HS41.out wX HD.out).mono ?_
      rintro e w4 ⟨rfl, hI4, hb⟩
      have HIW4 := Lib.hid hI4
      have hiw := hI4.lt
      have HD4 := Lib.hid (HD.out.keep hb)
      have HL4 := Lib.hid (HL.out.keep hb)
      have HB4 := Lib.hid (HB.out.trans (hb.mono HB.out.size))
      have h34 := hb.size
      obtain ⟨bW, hbW⟩ : ∃ bW, wX.heap.size = bW := ⟨_, rfl⟩
      have hdX := HD.out.lt
      have hgX := HD.out.fl.lt
      have hlX := HL.out.lt
      rw [hbW] at HIW4 hiw hdX hgX hlX h34 hz ⊢
      clear hI4 hb HD HL HB hbW
      go_wp2_with fail
      refine (begin_any l d 2 (by decide) w4 HL4.out).mono ?_
      rintro e w5 ⟨t, m, rfl, ht, hm, hT, hb⟩
      have HT5 := Lib.hid hT
      have HD5 := Lib.hid (HD4.out.keep hb)
      have HL5 := Lib.hid (HL4.out.keep hb)
      have HIW5 := Lib.hid (HIW4.out.below hb hiw)
      have HB5 := Lib.hid (HB4.out.trans (hb.mono HB4.out.size))
      have htl := hT.lg.lt
      have hml := hT.mp.lt
      have h45 := hb.size
      clear hT hb HD4 HIW4 HL4 HB4
      go_wp2_with fail
      refine (image_at d g 80 41 s (by decide) HS41.out w5 HD5.out).mono ?_
      rintro e w6 ⟨rfl, hI6, hb⟩
      have HII6 := Lib.hid hI6
      have hii := hI6.lt
      have HT6 := Lib.hid (HT5.out.keep hb)
      have HD6 := Lib.hid (HD5.out.keep hb)
      have HL6 := Lib.hid (HL5.out.keep hb)
      have HIW6 := Lib.hid (HIW5.out.keep' hb)
      have HB6 := Lib.hid (HB5.out.trans (hb.mono HB5.out.size))
      have h56 := hb.size
      obtain ⟨bI, hbI⟩ : ∃ bI, w5.heap.size = bI := ⟨_, rfl⟩
      rw [hbI] at HII6 hii htl hml h45 h56 ⊢
      clear hI6 hb HT5 HD5 HL5 HIW5 HB5 hbI
      obtain ⟨W, hW⟩ : ∃ W : Nat → Nat → Int, (fun k i => s.f (k * 64 + i)) = W := ⟨_, rfl⟩
      have HW := Lib.hid hW
      have HStA : Hid (StA s 80 2 W) := by rw [← hW]; exact ⟨HS41.out.n, HF.out, fun k _ i _ => rfl⟩
      have HJ0 : Hid (∀ j, SB s.f j (over [] W j)) := fun j i hi => by rw [← hW]; rfl
      clear hW HF
      clear hlt hk hk0
      go_wp2_with fail
      go_loopw [20, 21, 22, 23, 83] (fun _ _ _ _ i wr => ∃ (k : Nat) (T : TS) (J : Nat → Int), k ≤ xs2.length ∧ i = .int .i64 k ∧ T.length ≤ k ∧ TOk T 80 2 ∧ (∀ p ∈ T, 33 ≤ p.1) ∧ (∀ j, SB J j (over T W j)) ∧ Tx wr t m d 2 T 0 ∧ Dk wr d g s ∧ Lg wr l d 2 ∧ Fl wr bW (80 * 64) s.f ∧ Fl wr bI (80 * 64) J ∧ Below w.heap.size w wr ∧ w6.heap.size ≤ wr.heap.size) (fun _ _ _ _ i _ => xs2.length - (Go.RowKit.intOf i).toNat)
      case atStart => exact ⟨0, [], s.f, by omega, rfl, Nat.le_refl _, ⟨List.Pairwise.nil, by decide, by simp, by simp⟩, by simp, HJ0.out, HT6.out, HD6.out, HL6.out, HIW6.out, HII6.out, HB6.out, Nat.le_refl _⟩
      case round =>
        clear HT6 HD6 HL6 HIW6 HII6 HB6 HJ0
        obtain ⟨k, T, J, hk, rfl, hTl, hTO, hTp, hJ, hT, hD, hL, hIW, hII, hB, hz6⟩ := hrel
        have HTO := Lib.hid hTO
        have HTp := Lib.hid hTp
        have HJ := Lib.hid hJ
        have HT := Lib.hid hT
        have HD := Lib.hid hD
        have HL := Lib.hid hL
        have HIW := Lib.hid hIW
        have HII := Lib.hid hII
        have HB := Lib.hid hB
        clear hTO hTp hJ hT hD hL hIW hII hB
        have hk0 : (0 : Int) ≤ k := by omega
        obtain ⟨wX2, rfl⟩ : ∃ x, x = wr := ⟨wr, rfl⟩
        by_cases hlt : k < xs2.length
        · have hkk : (k : Int) < xs2.length := by omega
          have hk30 : (k : Int) < 30 := by omega
          obtain ⟨b, off, rfl, hbl, hbc⟩ := HV2.out.at k hlt
          have ec := (HB.out.cell (p := ⟨b, off + k, none⟩) hbl).trans hbc
          have hx := HX2.out xs2[k] (List.getElem_mem hlt)
          clear hbc
          generalize xs2[k] = x at *
          obtain ⟨hxx0, hxx1⟩ := hx
          obtain ⟨p, hp⟩ := Int.eq_ofNat_of_zero_le (show 0 ≤ x % 47 by omega)
          have hp47 : p < 47 := by omega
          have HP := Lib.hid hp
          clear hp
          have hpI : (p : Int) < 47 := by omega
          have hpI0 : (0 : Int) ≤ p := by omega
          go_upto_if 93 with fail
          go_cut [22] (fun q wc => wc = wX2 ∧ ∃ z : Int, q = .int .u8 z ∧ 0 ≤ z ∧ z < 256)
          case first =>
            by_cases hk1 : k < xs1.length
            · have hk1' : (k : Int) < xs1.length := by omega
              obtain ⟨b', off', rfl, hbl', hbc'⟩ := HV1.out.at k hk1
              have ec1 := (HB.out.cell (p := ⟨b', off' + k, none⟩) hbl').trans hbc'
              have hx1 := HX1.out xs1[k] (List.getElem_mem hk1)
              clear hbc'
              generalize xs1[k] = x1 at *
              go_wp2_with fail
              go_meet
              case rel => exact ⟨rfl, _, rfl, hx1.1, hx1.2⟩
            · have hk1' : ¬ ((k : Int) < xs1.length) := by omega
              go_wp2_with fail
              go_meet
              case rel => exact ⟨rfl, _, rfl, by omega, by omega⟩
          case rest =>
            obtain ⟨rfl, z, rfl, hz0, hz1⟩ := hcut
            obtain ⟨wX2, rfl⟩ : ∃ x, x = wc := ⟨wc, rfl⟩
            obtain ⟨B, hBq⟩ : ∃ B, blk z = B := ⟨_, rfl⟩
            have HBy : Hid (Byt B) := by rw [← hBq]; exact blk_byt z
            have HBk : Hid (∀ W, Calls Try.prog 25 #[.int .u8 z] W fun e w' => e = .returned (.agg (byts 64 B).toArray) ∧ Below W.heap.size W w') := fun W => by
              rw [← hBq]; exact block_any z hz0 hz1 W
            have hOut : Out 80 2 (33 + p) := ⟨by omega, by omega⟩
            have hpt := putT_good HTO.out (33 + p) B hOut (by omega)
            have HPu : Hid (∀ W, Tx W t m d 2 T 0 → Dk W d g s → Calls Try.prog 24 #[.pointer (some ⟨t, 0, none⟩), .int .i64 (33 + (p : Int)), .agg (byts 64 B).toArray] W fun e w' => e = .returned (.int .i64 0) ∧ Tx w' t m d 2 (put (33 + p) B T) 0 ∧ Kp W w' t m) := fun W h1 h2 => by
              have h := put_any t m d g 2 80 41 T 0 s ((33 + p : Nat) : Int) B (by omega) (by omega) (by omega) (by decide) (by decide) HS41.out W h1 h2 (by decide)
              rw [hpt] at h
              rwa [show ((33 + p : Nat) : Int) = 33 + (p : Int) by omega] at h
            have hpl := putLen (33 + p) B T HTO.out.rise
            have HTO2 := Lib.hid (tok_put HTO.out (33 + p) B hOut HBy.out (by omega))
            have HTp2 : Hid (∀ q ∈ put (33 + p) B T, 33 ≤ q.1) := fun q hq => by
              rcases mem_put _ _ _ _ hq with rfl | hq
              · show 33 ≤ 33 + p
                omega
              · exact HTp.out q hq
            have HJ2 : Hid (∀ j, SB (upd J ((33 + p) * 64) 64 B) j (over (put (33 + p) B T) W j)) := fun j => by
              rw [over_put HTO.out.rise]
              by_cases c : 33 + p = j
              · rw [if_pos c, ← c]
                exact SB.upd_same _ _ _
              · rw [if_neg c]
                exact (HJ.out j).upd_other (fun e => c e.symm)
            have HPI : Hid ((33 + (p : Int)).toNat = 33 + p) := by show (33 + (p : Int)).toNat = _; omega
            clear hBq hpt hOut
            have hpe := HP.out
            go_wp2_with fail
            clear hpe
            refine (HBk.out wX2).mono ?_
            rintro e w7 ⟨rfl, hb⟩
            have HT7 := Lib.hid (HT.out.keep hb)
            have HD7 := Lib.hid (HD.out.keep hb)
            have HL7 := Lib.hid (HL.out.keep hb)
            have HIW7 := Lib.hid (HIW.out.keep' hb)
            have HII7 := Lib.hid (HII.out.keep' hb)
            have HB7 := Lib.hid (HB.out.trans (hb.mono HB.out.size))
            have h67 := hb.size
            clear hb HT HD HL HIW HII HB
            go_wp2_with fail
            refine (HPu.out w7 HT7.out HD7.out).mono ?_
            rintro e w8 ⟨rfl, hT8, hk8⟩
            have HT8 := Lib.hid hT8
            have HD8 := Lib.hid (HD7.out.kp hk8 (by omega) (by omega) (by omega) (by omega))
            have HL8 := Lib.hid (HL7.out.kp hk8 (by omega) (by omega))
            have HIW8 := Lib.hid (HIW7.out.kp hk8 (by omega) (by omega))
            have HII8 := Lib.hid (HII7.out.kp hk8 (by omega) (by omega))
            have HB8 := Lib.hid (HB7.out.trans (hk8.below (B := w.heap.size) (by omega) (by omega) HB7.out.size))
            have h78 := hk8.size
            clear hT8 hk8 HT7 HD7 HL7 HIW7 HII7 HB7 HPu
            go_wp2_with fail
            refine (HBk.out w8).mono ?_
            rintro e w9 ⟨rfl, hb⟩
            have HT9 := Lib.hid (HT8.out.keep hb)
            have HD9 := Lib.hid (HD8.out.keep hb)
            have HL9 := Lib.hid (HL8.out.keep hb)
            have HIW9 := Lib.hid (HIW8.out.keep' hb)
            have HII9 := Lib.hid (HII8.out.keep' hb)
            have HB9 := Lib.hid (HB8.out.trans (hb.mono HB8.out.size))
            have h89 := hb.size
            have hpw := HB9.out.size
            have hpn := HPI.out
            clear hb HT8 HD8 HL8 HIW8 HII8 HB8
            go_wp2_with (refine wpList_store_blk rfl (.tmp 112) (.tmp 111) rfl bI ((33 + p) * 64) (80 * 64) J B HII9.out (by omega) rfl rfl ?_; intro w10 HF10 HK10)
            go_roundw
            case rel =>
              exact ⟨k + 1, put (33 + p) B T, _, by omega, by go_num, by omega, HTO2.out, HTp2.out, HJ2.out, HT9.out.kp HK10.out (by omega) (by omega) (by omega) (by omega), HD9.out.kp HK10.out (by omega) (by omega) (by omega) (by omega), HL9.out.kp HK10.out (by omega) (by omega), HIW9.out.kp HK10.out (by omega) (by omega), HF10.out, HB9.out.trans (HK10.out.below (by omega) (by omega) hpw), by have := HK10.out.size; omega⟩
            case measure => simp [Go.RowKit.intOf]; omega
        · have hfa : (0 : Int) ≤ 0 ∧ (0 : Int) < 100 := by decide
          have hA1 := HTO.out.len
          obtain ⟨wX2, rfl⟩ : ∃ x, x = wX2 := ⟨wX2, rfl⟩
          have HSa : Hid (Sane { s with ar := decide (0 ≤ y7), lf := y7 } 80 41) := ⟨HS41.out.n, HS41.out.r0, HS41.out.r1, HS41.out.w0, HS41.out.w1, fun _ => hy70, by show y7 < 9223372036854775808; omega, HS41.out.byt⟩
          have HSt : Hid (StA { s with ar := decide (0 ≤ y7), lf := y7 } 80 2 W) := ⟨HStA.out.n, HStA.out.head, HStA.out.out⟩
          have hyy := HY.out
          go_wp2_with fail
          clear hyy
          refine (arm_any d g s y7 wX2 HD.out).mono ?_
          rintro e w7 ⟨rfl, hD7, hk7⟩
          obtain ⟨s1, hs1⟩ : ∃ s1 : DS, ({ s with ar := decide (0 ≤ y7), lf := y7 } : DS) = s1 := ⟨_, rfl⟩
          rw [hs1] at hD7 HSa HSt
          have HT7 := Lib.hid (HT.out.kp hk7 (by omega) (by omega) (by omega) (by omega))
          have HD7 := Lib.hid hD7
          have HL7 := Lib.hid (HL.out.kp hk7 (by omega) (by omega))
          have HIW7 := Lib.hid (HIW.out.kp hk7 (by omega) (by omega))
          have HII7 := Lib.hid (HII.out.kp hk7 (by omega) (by omega))
          have HB7 := Lib.hid (HB.out.trans (hk7.below (B := w.heap.size) (by omega) (by omega) HB.out.size))
          have h67 := hk7.size
          clear hD7 hk7 HT HD HL HIW HII HB hs1
          have HCo := Lib.hid (commit_any t m d g 2 80 41 T 0 s1 hA1 (fun p hp => ⟨(HTO.out.out p hp).1, HTO.out.byt p hp⟩) (by decide) (by decide) (by decide) hfa HSa.out w7 HT7.out HD7.out (by omega) (by omega) (by omega) (by omega))
          have HSC := Lib.hid (Sane.commit (fi := 2) T 0 41 s1 hA1 HTO.out.byt HSa.out)
          obtain ⟨hcode, hfin⟩ := Fini.of_commit HTO.out HSt.out
          obtain ⟨R, hR⟩ : ∃ R, commit 2 T 0 s1 = R := ⟨_, rfl⟩
          rw [hR] at HCo HSC hcode hfin
          clear hR
          obtain ⟨c, T', s2⟩ := R
          simp only at hcode
          have HFin : Hid (Fini s2 T W c) := hfin
          have HCode := Lib.hid hcode
          clear hfin hcode
          go_wp2_with fail
          refine HCo.out.mono ?_
          rintro e w8 ⟨rfl, -, hD8, hkc⟩
          have HD8 := Lib.hid hD8
          obtain ⟨u1, u2, k1, k2, k3⟩ := id hkc
          have HL8 := Lib.hid (((HL7.out.kp k1 (by omega) (by omega)).kp k2 (by omega) (by omega)).kp k3 (by omega) (by omega))
          have HIW8 := Lib.hid (((HIW7.out.kp k1 (by omega) (by omega)).kp k2 (by omega) (by omega)).kp k3 (by omega) (by omega))
          have HII8 := Lib.hid (((HII7.out.kp k1 (by omega) (by omega)).kp k2 (by omega) (by omega)).kp k3 (by omega) (by omega))
          have HB8 := Lib.hid (HB7.out.trans (hkc.below (B := w.heap.size) (by omega) (by omega) (by omega) HB7.out.size))
          have h78 : w7.heap.size ≤ w8.heap.size := Nat.le_trans k1.size (Nat.le_trans k2.size k3.size)
          clear hD8 hkc k1 k2 k3 HCo HT7 HD7 HL7 HIW7 HII7 HB7 u1 u2 hlt hk hk0
          go_wp2_with fail
          go_loopw [26, 123] (fun _ i wr => ∃ (k : Nat) (s3 : DS), k ≤ xs4.length ∧ i = .int .i64 k ∧ Sane s3 80 (133 + 62 * k) ∧ Fini s3 T W c ∧ Dk wr d g s3 ∧ Lg wr l d 2 ∧ Fl wr bW (80 * 64) s.f ∧ Fl wr bI (80 * 64) J ∧ Below w.heap.size w wr ∧ w8.heap.size ≤ wr.heap.size) (fun _ i _ => xs4.length - (Go.RowKit.intOf i).toNat)
          case atStart => exact ⟨0, s2, by omega, rfl, HSC.out, HFin.out, HD8.out, HL8.out, HIW8.out, HII8.out, HB8.out, Nat.le_refl _⟩
          case round =>
            clear HSC HFin HD8 HL8 HIW8 HII8 HB8 HSa HSt
            obtain ⟨k, s3, hk, rfl, hS3, hFn, hD, hL, hIW, hII, hB, hz8⟩ := hrel
            have HS3 := Lib.hid hS3
            have HFn := Lib.hid hFn
            have HD := Lib.hid hD
            have HL := Lib.hid hL
            have HIW := Lib.hid hIW
            have HII := Lib.hid hII
            have HB := Lib.hid hB
            clear hS3 hFn hD hL hIW hII hB
            have hk0 : (0 : Int) ≤ k := by omega
            obtain ⟨wX3, rfl⟩ : ∃ x, x = wr := ⟨wr, rfl⟩
            have HSw : Hid (Sane { s3 with de := false, ar := false } 80 (133 + 62 * k)) := ⟨HS3.out.n, HS3.out.r0, HS3.out.r1, HS3.out.w0, HS3.out.w1, (fun h => by cases h), HS3.out.l1, HS3.out.byt⟩
            have HFw : Hid (Fini { s3 with de := false, ar := false } T W c) := HFn.out.congr rfl rfl
            by_cases hlt : k < xs4.length
            · have hkk : (k : Int) < xs4.length := by omega
              obtain ⟨b, off, rfl, hbl, hbc⟩ := HV4.out.at k hlt
              have ec := (HB.out.cell (p := ⟨b, off + k, none⟩) hbl).trans hbc
              have hx := HX4.out xs4[k] (List.getElem_mem hlt)
              clear hbc
              generalize xs4[k] = x at *
              obtain ⟨hxx0, hxx1⟩ := hx
              obtain ⟨z, hz⟩ : ∃ z, x % 40 = z := ⟨_, rfl⟩
              have HZ := Lib.hid hz
              have hz0 : 0 ≤ z := by omega
              have hz1 : z < 40 := by omega
              clear hz
              have HSa : Hid (Sane { s3 with de := false, ar := decide (0 ≤ z), lf := z } 80 (133 + 62 * k)) := ⟨HS3.out.n, HS3.out.r0, HS3.out.r1, HS3.out.w0, HS3.out.w1, (fun _ => hz0), by show z < 9223372036854775808; omega, HS3.out.byt⟩
              have HFa : Hid (Fini { s3 with de := false, ar := decide (0 ≤ z), lf := z } T W c) := HFn.out.congr rfl rfl
              obtain ⟨s5, hs5⟩ : ∃ s5 : DS, ({ s3 with de := false, ar := decide (0 ≤ z), lf := z } : DS) = s5 := ⟨_, rfl⟩
              have HS5 := Lib.hid hs5
              rw [hs5] at HSa HFa
              have HSr : Hid (Sane (recover 2 s5).2 80 (133 + 62 * k + 62)) := HSa.out.recover
              have HFr := Lib.hid (fini_recover HTO.out HFa.out)
              clear hs5
              go_wp2_with fail
              refine (wake_any d g s3 wX3 HD.out).mono ?_
              rintro e w9 ⟨rfl, hD9, hk9⟩
              have HD9 := Lib.hid hD9
              have HL9 := Lib.hid (HL.out.kp hk9 (by omega) (by omega))
              have HIW9 := Lib.hid (HIW.out.kp hk9 (by omega) (by omega))
              have HII9 := Lib.hid (HII.out.kp hk9 (by omega) (by omega))
              have HB9 := Lib.hid (HB.out.trans (hk9.below (B := w.heap.size) (by omega) (by omega) HB.out.size))
              have h89 := hk9.size
              clear hD9 hk9 HD HL HIW HII HB
              have hzz := HZ.out
              go_wp2_with fail
              clear hzz
              refine (arm_any d g _ z w9 HD9.out).mono ?_
              rintro e w10 ⟨rfl, hD10, hk10⟩
              have HD10 : Hid (Dk w10 d g s5) := by rw [← HS5.out]; exact hD10
              have HL10 := Lib.hid (HL9.out.kp hk10 (by omega) (by omega))
              have HIW10 := Lib.hid (HIW9.out.kp hk10 (by omega) (by omega))
              have HII10 := Lib.hid (HII9.out.kp hk10 (by omega) (by omega))
              have HB10 := Lib.hid (HB9.out.trans (hk10.below (B := w.heap.size) (by omega) (by omega) HB9.out.size))
              have h910 := hk10.size
              clear hD10 hk10 HD9 HL9 HIW9 HII9 HB9
              go_wp2_with fail
              refine (recover_any l d g 2 80 (133 + 62 * k) s5 (by decide) (by decide) (by omega) HSa.out w10 HL10.out HD10.out (by omega) (by omega)).mono ?_
              rintro e w11 ⟨rfl, hD11, hk11⟩
              have HD11 := Lib.hid hD11
              have HL11 := Lib.hid (HL10.out.kp hk11 (by omega) (by omega))
              have HIW11 := Lib.hid (HIW10.out.kp hk11 (by omega) (by omega))
              have HII11 := Lib.hid (HII10.out.kp hk11 (by omega) (by omega))
              have HB11 := Lib.hid (HB10.out.trans (hk11.below (B := w.heap.size) (by omega) (by omega) HB10.out.size))
              have h1011 := hk11.size
              clear hD11 hk11 HD10 HL10 HIW10 HII10 HB10
              go_wp2_with fail
              go_roundw
              case rel => exact ⟨k + 1, _, by omega, by go_num, by rw [show 133 + 62 * (k + 1) = 133 + 62 * k + 62 by omega]; exact HSr.out, HFr.out, HD11.out, HL11.out, HIW11.out, HII11.out, HB11.out, by omega⟩
              case measure => simp [Go.RowKit.intOf]; omega
            · have hAw : Awk { s3 with de := false, ar := false } := ⟨rfl, rfl⟩
              obtain ⟨hl1, hl2⟩ := fini_last HTO.out HFw.out hAw
              have HSr : Hid (Sane (recover 2 { s3 with de := false, ar := false }).2 80 (133 + 62 * k + 62)) := HSw.out.recover
              obtain ⟨s5, hs5⟩ : ∃ s5 : DS, ({ s3 with de := false, ar := false } : DS) = s5 := ⟨_, rfl⟩
              have HS5 := Lib.hid hs5
              rw [hs5] at hl1 hl2 HSr HSw
              have HRc := Lib.hid (fun W' (h1 : Lg W' l d 2) (h2 : Dk W' d g s5) => recover_any l d g 2 80 (133 + 62 * k) s5 (by decide) (by decide) (by omega) HSw.out W' h1 h2 (by omega) (by omega))
              obtain ⟨R, hR⟩ : ∃ R, recover 2 s5 = R := ⟨_, rfl⟩
              rw [hR] at HRc hl1 hl2 HSr
              clear hR hs5 hAw HFw
              obtain ⟨⟨r1, r2⟩, s6⟩ := R
              simp only at hl1 hl2
              subst hl1
              have HEnd := Lib.hid hl2
              have hre : recover 2 s6 = ((0, 0), s6.rdd) := by
                rcases HEnd.out with h | ⟨_, h⟩
                · exact recover_A (by decide) h
                · exact recover_A (by decide) h
              have HRc2 : Hid (∀ W', Lg W' l d 2 → Dk W' d g s6 → Calls Try.prog 22 #[.pointer (some ⟨l, 0, none⟩)] W' fun e w' => e = .returned (.tuple #[.int .i64 0, .int .i64 0]) ∧ Dk w' d g s6.rdd ∧ Kp W' w' d g) := fun W' h1 h2 => by
                have h := recover_any l d g 2 80 (133 + 62 * k + 62) s6 (by decide) (by decide) (by omega) HSr.out W' h1 h2 (by omega) (by omega)
                rw [hre] at h
                exact h
              clear hl2 hre
              go_wp2_with fail
              refine (wake_any d g s3 wX3 HD.out).mono ?_
              rintro e w9 ⟨rfl, hD9, hk9⟩
              have HD9 : Hid (Dk w9 d g s5) := by rw [← HS5.out]; exact hD9
              have HL9 := Lib.hid (HL.out.kp hk9 (by omega) (by omega))
              have HIW9 := Lib.hid (HIW.out.kp hk9 (by omega) (by omega))
              have HII9 := Lib.hid (HII.out.kp hk9 (by omega) (by omega))
              have HB9 := Lib.hid (HB.out.trans (hk9.below (B := w.heap.size) (by omega) (by omega) HB.out.size))
              have h89 := hk9.size
              clear hD9 hk9 HD HL HIW HII HB
              go_wp2_with fail
              refine (HRc.out w9 HL9.out HD9.out).mono ?_
              rintro e w10 ⟨rfl, hD10, hk10⟩
              have HD10 := Lib.hid hD10
              have HL10 := Lib.hid (HL9.out.kp hk10 (by omega) (by omega))
              have HIW10 := Lib.hid (HIW9.out.kp hk10 (by omega) (by omega))
              have HII10 := Lib.hid (HII9.out.kp hk10 (by omega) (by omega))
              have HB10 := Lib.hid (HB9.out.trans (hk10.below (B := w.heap.size) (by omega) (by omega) HB9.out.size))
              have h910 := hk10.size
              clear hD10 hk10 HD9 HL9 HIW9 HII9 HB9 HRc
              go_wp2_with fail
              refine (image_at d g 80 _ s6 (by decide) HSr.out w10 HD10.out).mono ?_
              rintro e w11 ⟨rfl, hX11, hb⟩
              have HX11 := Lib.hid hX11
              have hxl := hX11.lt
              have HD11 := Lib.hid (HD10.out.keep hb)
              have HL11 := Lib.hid (HL10.out.keep hb)
              have HIW11 := Lib.hid (HIW10.out.keep' hb)
              have HII11 := Lib.hid (HII10.out.keep' hb)
              have HB11 := Lib.hid (HB10.out.trans (hb.mono HB10.out.size))
              obtain ⟨bX, hbX⟩ : ∃ bX, w10.heap.size = bX := ⟨_, rfl⟩
              have hdX' := HD10.out.lt
              have hgX' := HD10.out.fl.lt
              rw [hbX] at HX11 hxl hdX' hgX' h910 ⊢
              clear hX11 hb HD10 HL10 HIW10 HII10 HB10 hbX
              go_wp2_with fail
              refine (HRc2.out w11 HL11.out HD11.out).mono ?_
              rintro e w12 ⟨rfl, hD12, hk12⟩
              have HD12 := Lib.hid hD12
              have HX12 := Lib.hid (HX11.out.kp hk12 (by omega) (by omega))
              have HIW12 := Lib.hid (HIW11.out.kp hk12 (by omega) (by omega))
              have HII12 := Lib.hid (HII11.out.kp hk12 (by omega) (by omega))
              have HB12 := Lib.hid (HB11.out.trans (hk12.below (B := w.heap.size) (by omega) (by omega) HB11.out.size))
              clear hD12 hk12 HD11 HL11 HIW11 HII11 HB11 HRc2 HX11
              have HSr2 : Hid (Sane s6.rdd 80 (133 + 62 * k + 62 + 1)) := HSr.out.rdd
              go_wp2_with fail
              refine (image_at d g 80 _ s6.rdd (by decide) HSr2.out w12 HD12.out).mono ?_
              rintro e w13 ⟨rfl, hY13, hb⟩
              have HY13 : Hid (Fl w13 w12.heap.size (80 * 64) s6.f) := hY13
              have hyl := hY13.lt
              have HX13 := Lib.hid (HX12.out.keep' hb)
              have HIW13 := Lib.hid (HIW12.out.keep' hb)
              have HII13 := Lib.hid (HII12.out.keep' hb)
              have HB13 := Lib.hid (HB12.out.trans (hb.mono HB12.out.size))
              obtain ⟨bY, hbY⟩ : ∃ bY, w12.heap.size = bY := ⟨_, rfl⟩
              rw [hbY] at HY13 hyl ⊢
              clear hY13 hb HD12 HX12 HIW12 HII12 HB12 hbY
              have hWk : ∀ k i, W k i = s.f (k * 64 + i) := fun k i => by rw [← HW.out]
              have hq1 : ∀ (hc : StA s6 80 2 W), eqb (47 * 64) (fun j => s6.f (33 * 64 + j)) (fun j => s.f (33 * 64 + j)) = true := fun hc =>
                eqb_part 33 47 (fun k h1 h2 i hi => (hc.out k ⟨by omega, by omega⟩ i hi).trans (hWk k i))
              have hq2 : ∀ (hc : StA s6 80 2 (over T W)), eqb (47 * 64) (fun j => s6.f (33 * 64 + j)) (fun j => J (33 * 64 + j)) = true := fun hc =>
                eqb_part 33 47 (fun k h1 h2 i hi => (hc.out k ⟨by omega, by omega⟩ i hi).trans (HJ.out k i hi).symm)
              have hq3 : eqb (2 * 64) (fun j => s6.f (0 + j)) (fun j => s.f (0 + j)) = true := by
                refine eqb_part 0 2 (fun k h1 h2 i hi => ?_)
                rcases HEnd.out with hc | ⟨_, hc⟩
                · have h3 := hc.out k ⟨by omega, by omega⟩ i hi
                  rw [over_not W (fun hm => by obtain ⟨p, hp, hpk⟩ := List.mem_map.1 hm; have := HTp.out p hp; omega)] at h3
                  exact h3.trans (hWk k i)
                · exact (hc.out k ⟨by omega, by omega⟩ i hi).trans (hWk k i)
              obtain ⟨q1, hq1e⟩ : ∃ q, eqb (47 * 64) (fun j => s6.f (33 * 64 + j)) (fun j => s.f (33 * 64 + j)) = q := ⟨_, rfl⟩
              obtain ⟨q2, hq2e⟩ : ∃ q, eqb (47 * 64) (fun j => s6.f (33 * 64 + j)) (fun j => J (33 * 64 + j)) = q := ⟨_, rfl⟩
              have HS1 : Hid (∀ W', Below w13.heap.size w13 W' → Calls Try.prog 30 #[.slice (some ⟨bX, 2112, none⟩) 47 47, .slice (some ⟨bW, 2112, none⟩) 47 47] W' fun e w' => e = .returned (.bool q1) ∧ Below W'.heap.size W' w') := fun W' h => by
                have h1 := same_off _ _ 47 _ _ (by decide) W' ((HX13.out.keep' h).bo (33 * 64) 47 47 (by decide)) ((HIW13.out.keep' h).bo (33 * 64) 47 47 (by decide))
                rwa [hq1e] at h1
              have HS2 : Hid (∀ W', Below w13.heap.size w13 W' → Calls Try.prog 30 #[.slice (some ⟨bX, 2112, none⟩) 47 47, .slice (some ⟨bI, 2112, none⟩) 47 47] W' fun e w' => e = .returned (.bool q2) ∧ Below W'.heap.size W' w') := fun W' h => by
                have h1 := same_off _ _ 47 _ _ (by decide) W' ((HX13.out.keep' h).bo (33 * 64) 47 47 (by decide)) ((HII13.out.keep' h).bo (33 * 64) 47 47 (by decide))
                rwa [hq2e] at h1
              have HS3' : Hid (∀ W', Below w13.heap.size w13 W' → Calls Try.prog 30 #[.slice (some ⟨bX, 0, none⟩) 2 80, .slice (some ⟨bW, 0, none⟩) 2 80] W' fun e w' => e = .returned (.bool true) ∧ Below W'.heap.size W' w') := fun W' h => by
                have h1 := same_off _ _ 2 _ _ (by decide) W' ((HX13.out.keep' h).bo 0 2 80 (by decide)) ((HIW13.out.keep' h).bo 0 2 80 (by decide))
                rwa [hq3] at h1
              have HS4 : Hid (∀ W', Below w13.heap.size w13 W' → Calls Try.prog 30 #[.slice (some ⟨bX, 0, none⟩) 80 80, .slice (some ⟨bY, 0, none⟩) 80 80] W' fun e w' => e = .returned (.bool true) ∧ Below W'.heap.size W' w') := fun W' h => by
                have h1 := same_off _ _ 80 _ _ (by decide) W' ((HX13.out.keep' h).bo 0 80 80 (by decide)) ((HY13.out.keep' h).bo 0 80 80 (by decide))
                rwa [eqb_same fun _ _ => rfl] at h1
              have HQ : Hid (q2 = true ∨ q1 = true ∧ c = 24) := by
                show _ ∨ _
                rcases HEnd.out with hc | ⟨hc24, hc⟩
                · exact .inl (by rw [← hq2e]; exact hq2 hc)
                · exact .inr ⟨by rw [← hq1e]; exact hq1 hc, hc24⟩
              clear hq1 hq2 hq3 hq1e hq2e hWk HX13 HIW13 HII13 HY13 HJ HEnd HTp HStA HW
              clear hlt hk hk0
              go_upto_region 41 with fail
              go_cut [33] (fun x wc => x = .bool q1 ∧ Below w13.heap.size w13 wc)
              case first =>
                refine wp_region_held (S := fun W' => Below w13.heap.size w13 W') (by kernel_rfl) ?_
                change wpAnyH _ _ _ _ _ _ _ _ (World.drew _)
                have hS0 : Below w13.heap.size w13 (World.drew w13) := (Below.refl w13.heap.size w13).drew
                refine wpAnyH_take (i := 0) (v := ?_) rfl (by kernel_rfl) (by kernel_rfl) (by kernel_rfl) (fun _ _ _ h => h) (Or.inl ⟨by rfl, ?_⟩) hS0 ?_
                rotate_left 1
                · intro W hW
                  go_simp
                  try with_reducible rfl
                simp only [Act.put, List.getElem_toArray, List.getElem_cons_zero, List.getElem_cons_succ, List.setIfInBounds_toArray, List.set_cons_zero, List.set_cons_succ]
                refine wpAnyH_take (i := 1) (v := ?_) rfl (by kernel_rfl) (by kernel_rfl) (by kernel_rfl) (fun _ _ _ h => h) (Or.inl ⟨by rfl, ?_⟩) hS0 ?_
                rotate_left 1
                · intro W hW
                  go_simp
                  try with_reducible rfl
                simp only [Act.put, List.getElem_toArray, List.getElem_cons_zero, List.getElem_cons_succ, List.setIfInBounds_toArray, List.set_cons_zero, List.set_cons_succ]
                refine wpAnyH_take (i := 2) (v := ?_) rfl (by kernel_rfl) (by kernel_rfl) (by kernel_rfl) (fun _ _ _ h => h) (Or.inl ⟨by rfl, ?_⟩) hS0 ?_
                rotate_left 1
                · intro W hW
                  go_simp
                  try with_reducible rfl
                simp only [Act.put, List.getElem_toArray, List.getElem_cons_zero, List.getElem_cons_succ, List.setIfInBounds_toArray, List.set_cons_zero, List.set_cons_succ]
                refine wpAnyH_take (i := 3) (v := ?_) rfl (by kernel_rfl) (by kernel_rfl) (by kernel_rfl) (fun _ _ _ h => h) (Or.inl ⟨by rfl, ?_⟩) hS0 ?_
                rotate_left 1
                · intro W hW
                  go_simp
                  try with_reducible rfl
                simp only [Act.put, List.getElem_toArray, List.getElem_cons_zero, List.getElem_cons_succ, List.setIfInBounds_toArray, List.set_cons_zero, List.set_cons_succ]
                refine wpAnyH_ready (rs := [4]) (by kernel_rfl) (by simp) (AllReadyH.cons rfl (fun KK hKK => ?_) AllReadyH.nil)
                go_simp
                refine (HS1.out _ hS0).mono ?_
                rintro e w14 ⟨rfl, hb⟩
                have hS1 := hS0.trans (hb.mono hS0.size)
                clear hS0
                have hS0 : Below w13.heap.size w13 w14 := hS1
                refine hKK _ _ hS0 ?_
                intro _
                clear hKK KK hb
                refine wpAnyH_take (i := 5) (v := ?_) rfl (by kernel_rfl) (by kernel_rfl) (by kernel_rfl) (fun _ _ _ h => h) (Or.inl ⟨by rfl, ?_⟩) hS0 ?_
                rotate_left 1
                · intro W hW
                  go_simp
                  try with_reducible rfl
                simp only [Act.put, List.getElem_toArray, List.getElem_cons_zero, List.getElem_cons_succ, List.setIfInBounds_toArray, List.set_cons_zero, List.set_cons_succ]
                refine wpAnyH_done (by kernel_rfl) ?_ _
                clear hS0
                go_wp2_with fail
                go_meet
                case rel => exact ⟨rfl, hS1⟩
              case rest =>
                obtain ⟨rfl, hc1⟩ := hcut
                obtain ⟨wA, rfl⟩ : ∃ x, x = wc := ⟨wc, rfl⟩
                have HBA := Lib.hid hc1
                clear hc1
                go_upto_region 42 with fail
                go_cut [34] (fun x wc => x = .bool q2 ∧ Below w13.heap.size w13 wc)
                case first =>
                  refine wp_region_held (S := fun W' => Below w13.heap.size w13 W') (by kernel_rfl) ?_
                  change wpAnyH _ _ _ _ _ _ _ _ (World.drew _)
                  have hS0 : Below w13.heap.size w13 (World.drew wA) := HBA.out.drew
                  refine wpAnyH_take (i := 0) (v := ?_) rfl (by kernel_rfl) (by kernel_rfl) (by kernel_rfl) (fun _ _ _ h => h) (Or.inl ⟨by rfl, ?_⟩) hS0 ?_
                  rotate_left 1
                  · intro W hW
                    go_simp
                    try with_reducible rfl
                  simp only [Act.put, List.getElem_toArray, List.getElem_cons_zero, List.getElem_cons_succ, List.setIfInBounds_toArray, List.set_cons_zero, List.set_cons_succ]
                  refine wpAnyH_take (i := 1) (v := ?_) rfl (by kernel_rfl) (by kernel_rfl) (by kernel_rfl) (fun _ _ _ h => h) (Or.inl ⟨by rfl, ?_⟩) hS0 ?_
                  rotate_left 1
                  · intro W hW
                    go_simp
                    try with_reducible rfl
                  simp only [Act.put, List.getElem_toArray, List.getElem_cons_zero, List.getElem_cons_succ, List.setIfInBounds_toArray, List.set_cons_zero, List.set_cons_succ]
                  refine wpAnyH_take (i := 2) (v := ?_) rfl (by kernel_rfl) (by kernel_rfl) (by kernel_rfl) (fun _ _ _ h => h) (Or.inl ⟨by rfl, ?_⟩) hS0 ?_
                  rotate_left 1
                  · intro W hW
                    go_simp
                    try with_reducible rfl
                  simp only [Act.put, List.getElem_toArray, List.getElem_cons_zero, List.getElem_cons_succ, List.setIfInBounds_toArray, List.set_cons_zero, List.set_cons_succ]
                  refine wpAnyH_take (i := 3) (v := ?_) rfl (by kernel_rfl) (by kernel_rfl) (by kernel_rfl) (fun _ _ _ h => h) (Or.inl ⟨by rfl, ?_⟩) hS0 ?_
                  rotate_left 1
                  · intro W hW
                    go_simp
                    try with_reducible rfl
                  simp only [Act.put, List.getElem_toArray, List.getElem_cons_zero, List.getElem_cons_succ, List.setIfInBounds_toArray, List.set_cons_zero, List.set_cons_succ]
                  refine wpAnyH_ready (rs := [4]) (by kernel_rfl) (by simp) (AllReadyH.cons rfl (fun KK hKK => ?_) AllReadyH.nil)
                  go_simp
                  refine (HS2.out _ hS0).mono ?_
                  rintro e w14 ⟨rfl, hb⟩
                  have hS1 := hS0.trans (hb.mono hS0.size)
                  clear hS0
                  have hS0 : Below w13.heap.size w13 w14 := hS1
                  refine hKK _ _ hS0 ?_
                  intro _
                  clear hKK KK hb
                  refine wpAnyH_take (i := 5) (v := ?_) rfl (by kernel_rfl) (by kernel_rfl) (by kernel_rfl) (fun _ _ _ h => h) (Or.inl ⟨by rfl, ?_⟩) hS0 ?_
                  rotate_left 1
                  · intro W hW
                    go_simp
                    try with_reducible rfl
                  simp only [Act.put, List.getElem_toArray, List.getElem_cons_zero, List.getElem_cons_succ, List.setIfInBounds_toArray, List.set_cons_zero, List.set_cons_succ]
                  refine wpAnyH_done (by kernel_rfl) ?_ _
                  clear hS0
                  go_wp2_with fail
                  go_meet
                  case rel => exact ⟨rfl, hS1⟩
                case rest =>
                  obtain ⟨rfl, hc1⟩ := hcut
                  obtain ⟨wB, rfl⟩ : ∃ x, x = wc := ⟨wc, rfl⟩
                  have HBB := Lib.hid hc1
                  have hcc := HCode.out
                  have hqq := HQ.out
                  clear hc1
                  go_upto_region 43 with fail
                  have hWays : ∀ Z : Prop, (q2 = true → q1 = true → c = 0 → Z) → (q2 = true → q1 = false → c = 0 → Z) → (q2 = true → q1 = true → c = 24 → Z) → (q2 = true → q1 = false → c = 24 → Z) → (q2 = false → q1 = true → c = 24 → Z) → Z := fun Z h1 h2 h3 h4 h5 => by
                    cases q2
                    · rcases hqq with h | ⟨h, h'⟩
                      · cases h
                      · exact h5 rfl h h'
                    · cases q1
                      · rcases hcc with h | h
                        · exact h2 rfl rfl h
                        · exact h4 rfl rfl h
                      · rcases hcc with h | h
                        · exact h1 rfl rfl h
                        · exact h3 rfl rfl h
                  clear hcc hqq
                  refine hWays _ (fun e1 e2 e3 => ?_) (fun e1 e2 e3 => ?_) (fun e1 e2 e3 => ?_) (fun e1 e2 e3 => ?_) (fun e1 e2 e3 => ?_)
                  · clear hWays
                    subst e1 e2 e3
                    refine wp_region_held (S := fun W' => Below w13.heap.size w13 W') (by kernel_rfl) ?_
                    change wpAnyH _ _ _ _ _ _ _ _ (World.drew _)
                    have hS0 : Below w13.heap.size w13 (World.drew wB) := HBB.out.drew
                    refine wpAnyH_take (i := 0) (v := ?_) rfl (by kernel_rfl) (by kernel_rfl) (by kernel_rfl) (fun _ _ _ h => h) (Or.inl ⟨by rfl, ?_⟩) hS0 ?_
                    rotate_left 1
                    · intro W hW
                      go_simp
                      try with_reducible rfl
                    simp only [Act.put, List.getElem_toArray, List.getElem_cons_zero, List.getElem_cons_succ, List.setIfInBounds_toArray, List.set_cons_zero, List.set_cons_succ]
                    refine wpAnyH_take (i := 1) (v := ?_) rfl (by kernel_rfl) (by kernel_rfl) (by kernel_rfl) (fun _ _ _ h => h) (Or.inl ⟨by rfl, ?_⟩) hS0 ?_
                    rotate_left 1
                    · intro W hW
                      go_simp
                      try with_reducible rfl
                    simp only [Act.put, List.getElem_toArray, List.getElem_cons_zero, List.getElem_cons_succ, List.setIfInBounds_toArray, List.set_cons_zero, List.set_cons_succ]
                    refine wpAnyH_take (i := 2) (v := ?_) rfl (by kernel_rfl) (by kernel_rfl) (by kernel_rfl) (fun _ _ _ h => h) (Or.inl ⟨by rfl, ?_⟩) hS0 ?_
                    rotate_left 1
                    · intro W hW
                      go_simp
                      try with_reducible rfl
                    simp only [Act.put, List.getElem_toArray, List.getElem_cons_zero, List.getElem_cons_succ, List.setIfInBounds_toArray, List.set_cons_zero, List.set_cons_succ]
                    refine wpAnyH_take (i := 3) (v := ?_) rfl (by kernel_rfl) (by kernel_rfl) (by kernel_rfl) (fun _ _ _ h => h) (Or.inl ⟨by rfl, ?_⟩) hS0 ?_
                    rotate_left 1
                    · intro W hW
                      go_simp
                      try with_reducible rfl
                    simp only [Act.put, List.getElem_toArray, List.getElem_cons_zero, List.getElem_cons_succ, List.setIfInBounds_toArray, List.set_cons_zero, List.set_cons_succ]
                    refine wpAnyH_take (i := 4) (v := ?_) rfl (by kernel_rfl) (by kernel_rfl) (by kernel_rfl) (fun _ _ _ h => h) (Or.inl ⟨by rfl, ?_⟩) hS0 ?_
                    rotate_left 1
                    · intro W hW
                      go_simp
                      try with_reducible rfl
                    simp only [Act.put, List.getElem_toArray, List.getElem_cons_zero, List.getElem_cons_succ, List.setIfInBounds_toArray, List.set_cons_zero, List.set_cons_succ]
                    refine wpAnyH_take (i := 5) (v := ?_) rfl (by kernel_rfl) (by kernel_rfl) (by kernel_rfl) (fun _ _ _ h => h) (Or.inl ⟨by rfl, ?_⟩) hS0 ?_
                    rotate_left 1
                    · intro W hW
                      go_simp
                      try with_reducible rfl
                    simp only [Act.put, List.getElem_toArray, List.getElem_cons_zero, List.getElem_cons_succ, List.setIfInBounds_toArray, List.set_cons_zero, List.set_cons_succ]
                    refine wpAnyH_take (i := 6) (v := ?_) rfl (by kernel_rfl) (by kernel_rfl) (by kernel_rfl) (fun _ _ _ h => h) (Or.inl ⟨by rfl, ?_⟩) hS0 ?_
                    rotate_left 1
                    · intro W hW
                      go_simp
                      try with_reducible rfl
                    simp only [Act.put, List.getElem_toArray, List.getElem_cons_zero, List.getElem_cons_succ, List.setIfInBounds_toArray, List.set_cons_zero, List.set_cons_succ]
                    refine wpAnyH_take (i := 7) (v := ?_) rfl (by kernel_rfl) (by kernel_rfl) (by kernel_rfl) (fun _ _ _ h => h) (Or.inl ⟨by rfl, ?_⟩) hS0 ?_
                    rotate_left 1
                    · intro W hW
                      go_simp
                      try with_reducible rfl
                    simp only [Act.put, List.getElem_toArray, List.getElem_cons_zero, List.getElem_cons_succ, List.setIfInBounds_toArray, List.set_cons_zero, List.set_cons_succ]
                    refine wpAnyH_take (i := 8) (v := ?_) rfl (by kernel_rfl) (by kernel_rfl) (by kernel_rfl) (fun _ _ _ h => h) (Or.inl ⟨by rfl, ?_⟩) hS0 ?_
                    rotate_left 1
                    · intro W hW
                      go_simp
                      try with_reducible rfl
                    simp only [Act.put, List.getElem_toArray, List.getElem_cons_zero, List.getElem_cons_succ, List.setIfInBounds_toArray, List.set_cons_zero, List.set_cons_succ]
                    refine wpAnyH_ready (rs := [9]) (by kernel_rfl) (by simp) (AllReadyH.cons rfl (fun KK hKK => ?_) AllReadyH.nil)
                    go_simp
                    refine (HS4.out _ hS0).mono ?_
                    rintro e w15 ⟨rfl, hb⟩
                    have hS1 := hS0.trans (hb.mono hS0.size)
                    clear hS0
                    have hS0 : Below w13.heap.size w13 w15 := hS1
                    refine hKK _ _ hS0 ?_
                    intro _
                    clear hKK KK hb hS1
                    refine wpAnyH_take (i := 10) (v := ?_) rfl (by kernel_rfl) (by kernel_rfl) (by kernel_rfl) (fun _ _ _ h => h) (Or.inl ⟨by rfl, ?_⟩) hS0 ?_
                    rotate_left 1
                    · intro W hW
                      go_simp
                      try with_reducible rfl
                    simp only [Act.put, List.getElem_toArray, List.getElem_cons_zero, List.getElem_cons_succ, List.setIfInBounds_toArray, List.set_cons_zero, List.set_cons_succ]
                    refine wpAnyH_take (i := 11) (v := ?_) rfl (by kernel_rfl) (by kernel_rfl) (by kernel_rfl) (fun _ _ _ h => h) (Or.inl ⟨by rfl, ?_⟩) hS0 ?_
                    rotate_left 1
                    · intro W hW
                      go_simp
                      try with_reducible rfl
                    simp only [Act.put, List.getElem_toArray, List.getElem_cons_zero, List.getElem_cons_succ, List.setIfInBounds_toArray, List.set_cons_zero, List.set_cons_succ]
                    refine wpAnyH_take (i := 12) (v := ?_) rfl (by kernel_rfl) (by kernel_rfl) (by kernel_rfl) (fun _ _ _ h => h) (Or.inl ⟨by rfl, ?_⟩) hS0 ?_
                    rotate_left 1
                    · intro W hW
                      go_simp
                      try with_reducible rfl
                    simp only [Act.put, List.getElem_toArray, List.getElem_cons_zero, List.getElem_cons_succ, List.setIfInBounds_toArray, List.set_cons_zero, List.set_cons_succ]
                    refine wpAnyH_take (i := 13) (v := ?_) rfl (by kernel_rfl) (by kernel_rfl) (by kernel_rfl) (fun _ _ _ h => h) (Or.inl ⟨by rfl, ?_⟩) hS0 ?_
                    rotate_left 1
                    · intro W hW
                      go_simp
                      try with_reducible rfl
                    simp only [Act.put, List.getElem_toArray, List.getElem_cons_zero, List.getElem_cons_succ, List.setIfInBounds_toArray, List.set_cons_zero, List.set_cons_succ]
                    refine wpAnyH_take (i := 14) (v := undef) rfl (by kernel_rfl) (by kernel_rfl) (by kernel_rfl) (fun _ _ _ h => h) ?_ hS0 ?_
                    · exact Or.inr ⟨by rfl, rfl⟩
                    simp only [Act.put, List.getElem_toArray, List.getElem_cons_zero, List.getElem_cons_succ, List.setIfInBounds_toArray, List.set_cons_zero, List.set_cons_succ]
                    refine wpAnyH_take (i := 15) (v := ?_) rfl (by kernel_rfl) (by kernel_rfl) (by kernel_rfl) (fun _ _ _ h => h) (Or.inl ⟨by rfl, ?_⟩) hS0 ?_
                    rotate_left 1
                    · intro W hW
                      go_simp
                      try with_reducible rfl
                    simp only [Act.put, List.getElem_toArray, List.getElem_cons_zero, List.getElem_cons_succ, List.setIfInBounds_toArray, List.set_cons_zero, List.set_cons_succ]
                    refine wpAnyH_take (i := 16) (v := ?_) rfl (by kernel_rfl) (by kernel_rfl) (by kernel_rfl) (fun _ _ _ h => h) (Or.inl ⟨by rfl, ?_⟩) hS0 ?_
                    rotate_left 1
                    · intro W hW
                      go_simp
                      try with_reducible rfl
                    simp only [Act.put, List.getElem_toArray, List.getElem_cons_zero, List.getElem_cons_succ, List.setIfInBounds_toArray, List.set_cons_zero, List.set_cons_succ]
                    refine wpAnyH_take (i := 17) (v := ?_) rfl (by kernel_rfl) (by kernel_rfl) (by kernel_rfl) (fun _ _ _ h => h) (Or.inl ⟨by rfl, ?_⟩) hS0 ?_
                    rotate_left 1
                    · intro W hW
                      go_simp
                      try with_reducible rfl
                    simp only [Act.put, List.getElem_toArray, List.getElem_cons_zero, List.getElem_cons_succ, List.setIfInBounds_toArray, List.set_cons_zero, List.set_cons_succ]
                    refine wpAnyH_take (i := 18) (v := ?_) rfl (by kernel_rfl) (by kernel_rfl) (by kernel_rfl) (fun _ _ _ h => h) (Or.inl ⟨by rfl, ?_⟩) hS0 ?_
                    rotate_left 1
                    · intro W hW
                      go_simp
                      try with_reducible rfl
                    simp only [Act.put, List.getElem_toArray, List.getElem_cons_zero, List.getElem_cons_succ, List.setIfInBounds_toArray, List.set_cons_zero, List.set_cons_succ]
                    refine wpAnyH_take (i := 19) (v := ?_) rfl (by kernel_rfl) (by kernel_rfl) (by kernel_rfl) (fun _ _ _ h => h) (Or.inl ⟨by rfl, ?_⟩) hS0 ?_
                    rotate_left 1
                    · intro W hW
                      go_simp
                      try with_reducible rfl
                    simp only [Act.put, List.getElem_toArray, List.getElem_cons_zero, List.getElem_cons_succ, List.setIfInBounds_toArray, List.set_cons_zero, List.set_cons_succ]
                    refine wpAnyH_take (i := 20) (v := ?_) rfl (by kernel_rfl) (by kernel_rfl) (by kernel_rfl) (fun _ _ _ h => h) (Or.inl ⟨by rfl, ?_⟩) hS0 ?_
                    rotate_left 1
                    · intro W hW
                      go_simp
                      try with_reducible rfl
                    simp only [Act.put, List.getElem_toArray, List.getElem_cons_zero, List.getElem_cons_succ, List.setIfInBounds_toArray, List.set_cons_zero, List.set_cons_succ]
                    refine wpAnyH_take (i := 21) (v := ?_) rfl (by kernel_rfl) (by kernel_rfl) (by kernel_rfl) (fun _ _ _ h => h) (Or.inl ⟨by rfl, ?_⟩) hS0 ?_
                    rotate_left 1
                    · intro W hW
                      go_simp
                      try with_reducible rfl
                    simp only [Act.put, List.getElem_toArray, List.getElem_cons_zero, List.getElem_cons_succ, List.setIfInBounds_toArray, List.set_cons_zero, List.set_cons_succ]
                    refine wpAnyH_take (i := 22) (v := ?_) rfl (by kernel_rfl) (by kernel_rfl) (by kernel_rfl) (fun _ _ _ h => h) (Or.inl ⟨by rfl, ?_⟩) hS0 ?_
                    rotate_left 1
                    · intro W hW
                      go_simp
                      try with_reducible rfl
                    simp only [Act.put, List.getElem_toArray, List.getElem_cons_zero, List.getElem_cons_succ, List.setIfInBounds_toArray, List.set_cons_zero, List.set_cons_succ]
                    refine wpAnyH_take (i := 23) (v := ?_) rfl (by kernel_rfl) (by kernel_rfl) (by kernel_rfl) (fun _ _ _ h => h) (Or.inl ⟨by rfl, ?_⟩) hS0 ?_
                    rotate_left 1
                    · intro W hW
                      go_simp
                      try with_reducible rfl
                    simp only [Act.put, List.getElem_toArray, List.getElem_cons_zero, List.getElem_cons_succ, List.setIfInBounds_toArray, List.set_cons_zero, List.set_cons_succ]
                    refine wpAnyH_take (i := 24) (v := ?_) rfl (by kernel_rfl) (by kernel_rfl) (by kernel_rfl) (fun _ _ _ h => h) (Or.inl ⟨by rfl, ?_⟩) hS0 ?_
                    rotate_left 1
                    · intro W hW
                      go_simp
                      try with_reducible rfl
                    simp only [Act.put, List.getElem_toArray, List.getElem_cons_zero, List.getElem_cons_succ, List.setIfInBounds_toArray, List.set_cons_zero, List.set_cons_succ]
                    refine wpAnyH_take (i := 25) (v := ?_) rfl (by kernel_rfl) (by kernel_rfl) (by kernel_rfl) (fun _ _ _ h => h) (Or.inl ⟨by rfl, ?_⟩) hS0 ?_
                    rotate_left 1
                    · intro W hW
                      go_simp
                      try with_reducible rfl
                    simp only [Act.put, List.getElem_toArray, List.getElem_cons_zero, List.getElem_cons_succ, List.setIfInBounds_toArray, List.set_cons_zero, List.set_cons_succ]
                    refine wpAnyH_take (i := 26) (v := ?_) rfl (by kernel_rfl) (by kernel_rfl) (by kernel_rfl) (fun _ _ _ h => h) (Or.inl ⟨by rfl, ?_⟩) hS0 ?_
                    rotate_left 1
                    · intro W hW
                      go_simp
                      try with_reducible rfl
                    simp only [Act.put, List.getElem_toArray, List.getElem_cons_zero, List.getElem_cons_succ, List.setIfInBounds_toArray, List.set_cons_zero, List.set_cons_succ]
                    refine wpAnyH_take (i := 27) (v := ?_) rfl (by kernel_rfl) (by kernel_rfl) (by kernel_rfl) (fun _ _ _ h => h) (Or.inl ⟨by rfl, ?_⟩) hS0 ?_
                    rotate_left 1
                    · intro W hW
                      go_simp
                      try with_reducible rfl
                    simp only [Act.put, List.getElem_toArray, List.getElem_cons_zero, List.getElem_cons_succ, List.setIfInBounds_toArray, List.set_cons_zero, List.set_cons_succ]
                    refine wpAnyH_take (i := 28) (v := ?_) rfl (by kernel_rfl) (by kernel_rfl) (by kernel_rfl) (fun _ _ _ h => h) (Or.inl ⟨by rfl, ?_⟩) hS0 ?_
                    rotate_left 1
                    · intro W hW
                      go_simp
                      try with_reducible rfl
                    simp only [Act.put, List.getElem_toArray, List.getElem_cons_zero, List.getElem_cons_succ, List.setIfInBounds_toArray, List.set_cons_zero, List.set_cons_succ]
                    refine wpAnyH_ready (rs := [29]) (by kernel_rfl) (by simp) (AllReadyH.cons rfl (fun KK hKK => ?_) AllReadyH.nil)
                    go_simp
                    refine (HS3'.out _ hS0).mono ?_
                    rintro e w16 ⟨rfl, hb⟩
                    have hS1 := hS0.trans (hb.mono hS0.size)
                    clear hS0
                    have hS0 : Below w13.heap.size w13 w16 := hS1
                    refine hKK _ _ hS0 ?_
                    intro _
                    clear hKK KK hb hS1
                    refine wpAnyH_take (i := 30) (v := ?_) rfl (by kernel_rfl) (by kernel_rfl) (by kernel_rfl) (fun _ _ _ h => h) (Or.inl ⟨by rfl, ?_⟩) hS0 ?_
                    rotate_left 1
                    · intro W hW
                      go_simp
                      try with_reducible rfl
                    simp only [Act.put, List.getElem_toArray, List.getElem_cons_zero, List.getElem_cons_succ, List.setIfInBounds_toArray, List.set_cons_zero, List.set_cons_succ]
                    refine wpAnyH_take (i := 31) (v := ?_) rfl (by kernel_rfl) (by kernel_rfl) (by kernel_rfl) (fun _ _ _ h => h) (Or.inl ⟨by rfl, ?_⟩) hS0 ?_
                    rotate_left 1
                    · intro W hW
                      go_simp
                      try with_reducible rfl
                    simp only [Act.put, List.getElem_toArray, List.getElem_cons_zero, List.getElem_cons_succ, List.setIfInBounds_toArray, List.set_cons_zero, List.set_cons_succ]
                    refine wpAnyH_done (by kernel_rfl) ?_ _
                    have HBE := Lib.hid hS0
                    clear hS0
                    go_wp2_with fail
                    go_ret
                    exact ⟨rfl, HB13.out.trans (HBE.out.mono HB13.out.size)⟩
                  · clear hWays
                    subst e1 e2 e3
                    refine wp_region_held (S := fun W' => Below w13.heap.size w13 W') (by kernel_rfl) ?_
                    change wpAnyH _ _ _ _ _ _ _ _ (World.drew _)
                    have hS0 : Below w13.heap.size w13 (World.drew wB) := HBB.out.drew
                    refine wpAnyH_take (i := 0) (v := ?_) rfl (by kernel_rfl) (by kernel_rfl) (by kernel_rfl) (fun _ _ _ h => h) (Or.inl ⟨by rfl, ?_⟩) hS0 ?_
                    rotate_left 1
                    · intro W hW
                      go_simp
                      try with_reducible rfl
                    simp only [Act.put, List.getElem_toArray, List.getElem_cons_zero, List.getElem_cons_succ, List.setIfInBounds_toArray, List.set_cons_zero, List.set_cons_succ]
                    refine wpAnyH_take (i := 1) (v := ?_) rfl (by kernel_rfl) (by kernel_rfl) (by kernel_rfl) (fun _ _ _ h => h) (Or.inl ⟨by rfl, ?_⟩) hS0 ?_
                    rotate_left 1
                    · intro W hW
                      go_simp
                      try with_reducible rfl
                    simp only [Act.put, List.getElem_toArray, List.getElem_cons_zero, List.getElem_cons_succ, List.setIfInBounds_toArray, List.set_cons_zero, List.set_cons_succ]
                    refine wpAnyH_take (i := 2) (v := ?_) rfl (by kernel_rfl) (by kernel_rfl) (by kernel_rfl) (fun _ _ _ h => h) (Or.inl ⟨by rfl, ?_⟩) hS0 ?_
                    rotate_left 1
                    · intro W hW
                      go_simp
                      try with_reducible rfl
                    simp only [Act.put, List.getElem_toArray, List.getElem_cons_zero, List.getElem_cons_succ, List.setIfInBounds_toArray, List.set_cons_zero, List.set_cons_succ]
                    refine wpAnyH_take (i := 3) (v := ?_) rfl (by kernel_rfl) (by kernel_rfl) (by kernel_rfl) (fun _ _ _ h => h) (Or.inl ⟨by rfl, ?_⟩) hS0 ?_
                    rotate_left 1
                    · intro W hW
                      go_simp
                      try with_reducible rfl
                    simp only [Act.put, List.getElem_toArray, List.getElem_cons_zero, List.getElem_cons_succ, List.setIfInBounds_toArray, List.set_cons_zero, List.set_cons_succ]
                    refine wpAnyH_take (i := 4) (v := ?_) rfl (by kernel_rfl) (by kernel_rfl) (by kernel_rfl) (fun _ _ _ h => h) (Or.inl ⟨by rfl, ?_⟩) hS0 ?_
                    rotate_left 1
                    · intro W hW
                      go_simp
                      try with_reducible rfl
                    simp only [Act.put, List.getElem_toArray, List.getElem_cons_zero, List.getElem_cons_succ, List.setIfInBounds_toArray, List.set_cons_zero, List.set_cons_succ]
                    refine wpAnyH_take (i := 5) (v := ?_) rfl (by kernel_rfl) (by kernel_rfl) (by kernel_rfl) (fun _ _ _ h => h) (Or.inl ⟨by rfl, ?_⟩) hS0 ?_
                    rotate_left 1
                    · intro W hW
                      go_simp
                      try with_reducible rfl
                    simp only [Act.put, List.getElem_toArray, List.getElem_cons_zero, List.getElem_cons_succ, List.setIfInBounds_toArray, List.set_cons_zero, List.set_cons_succ]
                    refine wpAnyH_take (i := 6) (v := ?_) rfl (by kernel_rfl) (by kernel_rfl) (by kernel_rfl) (fun _ _ _ h => h) (Or.inl ⟨by rfl, ?_⟩) hS0 ?_
                    rotate_left 1
                    · intro W hW
                      go_simp
                      try with_reducible rfl
                    simp only [Act.put, List.getElem_toArray, List.getElem_cons_zero, List.getElem_cons_succ, List.setIfInBounds_toArray, List.set_cons_zero, List.set_cons_succ]
                    refine wpAnyH_take (i := 7) (v := ?_) rfl (by kernel_rfl) (by kernel_rfl) (by kernel_rfl) (fun _ _ _ h => h) (Or.inl ⟨by rfl, ?_⟩) hS0 ?_
                    rotate_left 1
                    · intro W hW
                      go_simp
                      try with_reducible rfl
                    simp only [Act.put, List.getElem_toArray, List.getElem_cons_zero, List.getElem_cons_succ, List.setIfInBounds_toArray, List.set_cons_zero, List.set_cons_succ]
                    refine wpAnyH_take (i := 8) (v := ?_) rfl (by kernel_rfl) (by kernel_rfl) (by kernel_rfl) (fun _ _ _ h => h) (Or.inl ⟨by rfl, ?_⟩) hS0 ?_
                    rotate_left 1
                    · intro W hW
                      go_simp
                      try with_reducible rfl
                    simp only [Act.put, List.getElem_toArray, List.getElem_cons_zero, List.getElem_cons_succ, List.setIfInBounds_toArray, List.set_cons_zero, List.set_cons_succ]
                    refine wpAnyH_ready (rs := [9]) (by kernel_rfl) (by simp) (AllReadyH.cons rfl (fun KK hKK => ?_) AllReadyH.nil)
                    go_simp
                    refine (HS4.out _ hS0).mono ?_
                    rintro e w15 ⟨rfl, hb⟩
                    have hS1 := hS0.trans (hb.mono hS0.size)
                    clear hS0
                    have hS0 : Below w13.heap.size w13 w15 := hS1
                    refine hKK _ _ hS0 ?_
                    intro _
                    clear hKK KK hb hS1
                    refine wpAnyH_take (i := 10) (v := ?_) rfl (by kernel_rfl) (by kernel_rfl) (by kernel_rfl) (fun _ _ _ h => h) (Or.inl ⟨by rfl, ?_⟩) hS0 ?_
                    rotate_left 1
                    · intro W hW
                      go_simp
                      try with_reducible rfl
                    simp only [Act.put, List.getElem_toArray, List.getElem_cons_zero, List.getElem_cons_succ, List.setIfInBounds_toArray, List.set_cons_zero, List.set_cons_succ]
                    refine wpAnyH_take (i := 11) (v := ?_) rfl (by kernel_rfl) (by kernel_rfl) (by kernel_rfl) (fun _ _ _ h => h) (Or.inl ⟨by rfl, ?_⟩) hS0 ?_
                    rotate_left 1
                    · intro W hW
                      go_simp
                      try with_reducible rfl
                    simp only [Act.put, List.getElem_toArray, List.getElem_cons_zero, List.getElem_cons_succ, List.setIfInBounds_toArray, List.set_cons_zero, List.set_cons_succ]
                    refine wpAnyH_take (i := 12) (v := ?_) rfl (by kernel_rfl) (by kernel_rfl) (by kernel_rfl) (fun _ _ _ h => h) (Or.inl ⟨by rfl, ?_⟩) hS0 ?_
                    rotate_left 1
                    · intro W hW
                      go_simp
                      try with_reducible rfl
                    simp only [Act.put, List.getElem_toArray, List.getElem_cons_zero, List.getElem_cons_succ, List.setIfInBounds_toArray, List.set_cons_zero, List.set_cons_succ]
                    refine wpAnyH_take (i := 13) (v := ?_) rfl (by kernel_rfl) (by kernel_rfl) (by kernel_rfl) (fun _ _ _ h => h) (Or.inl ⟨by rfl, ?_⟩) hS0 ?_
                    rotate_left 1
                    · intro W hW
                      go_simp
                      try with_reducible rfl
                    simp only [Act.put, List.getElem_toArray, List.getElem_cons_zero, List.getElem_cons_succ, List.setIfInBounds_toArray, List.set_cons_zero, List.set_cons_succ]
                    refine wpAnyH_take (i := 14) (v := ?_) rfl (by kernel_rfl) (by kernel_rfl) (by kernel_rfl) (fun _ _ _ h => h) (Or.inl ⟨by rfl, ?_⟩) hS0 ?_
                    rotate_left 1
                    · intro W hW
                      go_simp
                      try with_reducible rfl
                    simp only [Act.put, List.getElem_toArray, List.getElem_cons_zero, List.getElem_cons_succ, List.setIfInBounds_toArray, List.set_cons_zero, List.set_cons_succ]
                    refine wpAnyH_take (i := 15) (v := ?_) rfl (by kernel_rfl) (by kernel_rfl) (by kernel_rfl) (fun _ _ _ h => h) (Or.inl ⟨by rfl, ?_⟩) hS0 ?_
                    rotate_left 1
                    · intro W hW
                      go_simp
                      try with_reducible rfl
                    simp only [Act.put, List.getElem_toArray, List.getElem_cons_zero, List.getElem_cons_succ, List.setIfInBounds_toArray, List.set_cons_zero, List.set_cons_succ]
                    refine wpAnyH_take (i := 16) (v := ?_) rfl (by kernel_rfl) (by kernel_rfl) (by kernel_rfl) (fun _ _ _ h => h) (Or.inl ⟨by rfl, ?_⟩) hS0 ?_
                    rotate_left 1
                    · intro W hW
                      go_simp
                      try with_reducible rfl
                    simp only [Act.put, List.getElem_toArray, List.getElem_cons_zero, List.getElem_cons_succ, List.setIfInBounds_toArray, List.set_cons_zero, List.set_cons_succ]
                    refine wpAnyH_take (i := 17) (v := ?_) rfl (by kernel_rfl) (by kernel_rfl) (by kernel_rfl) (fun _ _ _ h => h) (Or.inl ⟨by rfl, ?_⟩) hS0 ?_
                    rotate_left 1
                    · intro W hW
                      go_simp
                      try with_reducible rfl
                    simp only [Act.put, List.getElem_toArray, List.getElem_cons_zero, List.getElem_cons_succ, List.setIfInBounds_toArray, List.set_cons_zero, List.set_cons_succ]
                    refine wpAnyH_take (i := 18) (v := ?_) rfl (by kernel_rfl) (by kernel_rfl) (by kernel_rfl) (fun _ _ _ h => h) (Or.inl ⟨by rfl, ?_⟩) hS0 ?_
                    rotate_left 1
                    · intro W hW
                      go_simp
                      try with_reducible rfl
                    simp only [Act.put, List.getElem_toArray, List.getElem_cons_zero, List.getElem_cons_succ, List.setIfInBounds_toArray, List.set_cons_zero, List.set_cons_succ]
                    refine wpAnyH_take (i := 19) (v := ?_) rfl (by kernel_rfl) (by kernel_rfl) (by kernel_rfl) (fun _ _ _ h => h) (Or.inl ⟨by rfl, ?_⟩) hS0 ?_
                    rotate_left 1
                    · intro W hW
                      go_simp
                      try with_reducible rfl
                    simp only [Act.put, List.getElem_toArray, List.getElem_cons_zero, List.getElem_cons_succ, List.setIfInBounds_toArray, List.set_cons_zero, List.set_cons_succ]
                    refine wpAnyH_take (i := 20) (v := ?_) rfl (by kernel_rfl) (by kernel_rfl) (by kernel_rfl) (fun _ _ _ h => h) (Or.inl ⟨by rfl, ?_⟩) hS0 ?_
                    rotate_left 1
                    · intro W hW
                      go_simp
                      try with_reducible rfl
                    simp only [Act.put, List.getElem_toArray, List.getElem_cons_zero, List.getElem_cons_succ, List.setIfInBounds_toArray, List.set_cons_zero, List.set_cons_succ]
                    refine wpAnyH_take (i := 21) (v := ?_) rfl (by kernel_rfl) (by kernel_rfl) (by kernel_rfl) (fun _ _ _ h => h) (Or.inl ⟨by rfl, ?_⟩) hS0 ?_
                    rotate_left 1
                    · intro W hW
                      go_simp
                      try with_reducible rfl
                    simp only [Act.put, List.getElem_toArray, List.getElem_cons_zero, List.getElem_cons_succ, List.setIfInBounds_toArray, List.set_cons_zero, List.set_cons_succ]
                    refine wpAnyH_take (i := 22) (v := ?_) rfl (by kernel_rfl) (by kernel_rfl) (by kernel_rfl) (fun _ _ _ h => h) (Or.inl ⟨by rfl, ?_⟩) hS0 ?_
                    rotate_left 1
                    · intro W hW
                      go_simp
                      try with_reducible rfl
                    simp only [Act.put, List.getElem_toArray, List.getElem_cons_zero, List.getElem_cons_succ, List.setIfInBounds_toArray, List.set_cons_zero, List.set_cons_succ]
                    refine wpAnyH_take (i := 23) (v := ?_) rfl (by kernel_rfl) (by kernel_rfl) (by kernel_rfl) (fun _ _ _ h => h) (Or.inl ⟨by rfl, ?_⟩) hS0 ?_
                    rotate_left 1
                    · intro W hW
                      go_simp
                      try with_reducible rfl
                    simp only [Act.put, List.getElem_toArray, List.getElem_cons_zero, List.getElem_cons_succ, List.setIfInBounds_toArray, List.set_cons_zero, List.set_cons_succ]
                    refine wpAnyH_take (i := 24) (v := ?_) rfl (by kernel_rfl) (by kernel_rfl) (by kernel_rfl) (fun _ _ _ h => h) (Or.inl ⟨by rfl, ?_⟩) hS0 ?_
                    rotate_left 1
                    · intro W hW
                      go_simp
                      try with_reducible rfl
                    simp only [Act.put, List.getElem_toArray, List.getElem_cons_zero, List.getElem_cons_succ, List.setIfInBounds_toArray, List.set_cons_zero, List.set_cons_succ]
                    refine wpAnyH_take (i := 25) (v := ?_) rfl (by kernel_rfl) (by kernel_rfl) (by kernel_rfl) (fun _ _ _ h => h) (Or.inl ⟨by rfl, ?_⟩) hS0 ?_
                    rotate_left 1
                    · intro W hW
                      go_simp
                      try with_reducible rfl
                    simp only [Act.put, List.getElem_toArray, List.getElem_cons_zero, List.getElem_cons_succ, List.setIfInBounds_toArray, List.set_cons_zero, List.set_cons_succ]
                    refine wpAnyH_take (i := 26) (v := ?_) rfl (by kernel_rfl) (by kernel_rfl) (by kernel_rfl) (fun _ _ _ h => h) (Or.inl ⟨by rfl, ?_⟩) hS0 ?_
                    rotate_left 1
                    · intro W hW
                      go_simp
                      try with_reducible rfl
                    simp only [Act.put, List.getElem_toArray, List.getElem_cons_zero, List.getElem_cons_succ, List.setIfInBounds_toArray, List.set_cons_zero, List.set_cons_succ]
                    refine wpAnyH_take (i := 27) (v := ?_) rfl (by kernel_rfl) (by kernel_rfl) (by kernel_rfl) (fun _ _ _ h => h) (Or.inl ⟨by rfl, ?_⟩) hS0 ?_
                    rotate_left 1
                    · intro W hW
                      go_simp
                      try with_reducible rfl
                    simp only [Act.put, List.getElem_toArray, List.getElem_cons_zero, List.getElem_cons_succ, List.setIfInBounds_toArray, List.set_cons_zero, List.set_cons_succ]
                    refine wpAnyH_take (i := 28) (v := ?_) rfl (by kernel_rfl) (by kernel_rfl) (by kernel_rfl) (fun _ _ _ h => h) (Or.inl ⟨by rfl, ?_⟩) hS0 ?_
                    rotate_left 1
                    · intro W hW
                      go_simp
                      try with_reducible rfl
                    simp only [Act.put, List.getElem_toArray, List.getElem_cons_zero, List.getElem_cons_succ, List.setIfInBounds_toArray, List.set_cons_zero, List.set_cons_succ]
                    refine wpAnyH_ready (rs := [29]) (by kernel_rfl) (by simp) (AllReadyH.cons rfl (fun KK hKK => ?_) AllReadyH.nil)
                    go_simp
                    refine (HS3'.out _ hS0).mono ?_
                    rintro e w16 ⟨rfl, hb⟩
                    have hS1 := hS0.trans (hb.mono hS0.size)
                    clear hS0
                    have hS0 : Below w13.heap.size w13 w16 := hS1
                    refine hKK _ _ hS0 ?_
                    intro _
                    clear hKK KK hb hS1
                    refine wpAnyH_take (i := 30) (v := ?_) rfl (by kernel_rfl) (by kernel_rfl) (by kernel_rfl) (fun _ _ _ h => h) (Or.inl ⟨by rfl, ?_⟩) hS0 ?_
                    rotate_left 1
                    · intro W hW
                      go_simp
                      try with_reducible rfl
                    simp only [Act.put, List.getElem_toArray, List.getElem_cons_zero, List.getElem_cons_succ, List.setIfInBounds_toArray, List.set_cons_zero, List.set_cons_succ]
                    refine wpAnyH_take (i := 31) (v := ?_) rfl (by kernel_rfl) (by kernel_rfl) (by kernel_rfl) (fun _ _ _ h => h) (Or.inl ⟨by rfl, ?_⟩) hS0 ?_
                    rotate_left 1
                    · intro W hW
                      go_simp
                      try with_reducible rfl
                    simp only [Act.put, List.getElem_toArray, List.getElem_cons_zero, List.getElem_cons_succ, List.setIfInBounds_toArray, List.set_cons_zero, List.set_cons_succ]
                    refine wpAnyH_done (by kernel_rfl) ?_ _
                    have HBE := Lib.hid hS0
                    clear hS0
                    go_wp2_with fail
                    go_ret
                    exact ⟨rfl, HB13.out.trans (HBE.out.mono HB13.out.size)⟩
                  · clear hWays
                    subst e1 e2 e3
                    refine wp_region_held (S := fun W' => Below w13.heap.size w13 W') (by kernel_rfl) ?_
                    change wpAnyH _ _ _ _ _ _ _ _ (World.drew _)
                    have hS0 : Below w13.heap.size w13 (World.drew wB) := HBB.out.drew
                    refine wpAnyH_take (i := 0) (v := ?_) rfl (by kernel_rfl) (by kernel_rfl) (by kernel_rfl) (fun _ _ _ h => h) (Or.inl ⟨by rfl, ?_⟩) hS0 ?_
                    rotate_left 1
                    · intro W hW
                      go_simp
                      try with_reducible rfl
                    simp only [Act.put, List.getElem_toArray, List.getElem_cons_zero, List.getElem_cons_succ, List.setIfInBounds_toArray, List.set_cons_zero, List.set_cons_succ]
                    refine wpAnyH_take (i := 1) (v := ?_) rfl (by kernel_rfl) (by kernel_rfl) (by kernel_rfl) (fun _ _ _ h => h) (Or.inl ⟨by rfl, ?_⟩) hS0 ?_
                    rotate_left 1
                    · intro W hW
                      go_simp
                      try with_reducible rfl
                    simp only [Act.put, List.getElem_toArray, List.getElem_cons_zero, List.getElem_cons_succ, List.setIfInBounds_toArray, List.set_cons_zero, List.set_cons_succ]
                    refine wpAnyH_take (i := 2) (v := ?_) rfl (by kernel_rfl) (by kernel_rfl) (by kernel_rfl) (fun _ _ _ h => h) (Or.inl ⟨by rfl, ?_⟩) hS0 ?_
                    rotate_left 1
                    · intro W hW
                      go_simp
                      try with_reducible rfl
                    simp only [Act.put, List.getElem_toArray, List.getElem_cons_zero, List.getElem_cons_succ, List.setIfInBounds_toArray, List.set_cons_zero, List.set_cons_succ]
                    refine wpAnyH_take (i := 3) (v := ?_) rfl (by kernel_rfl) (by kernel_rfl) (by kernel_rfl) (fun _ _ _ h => h) (Or.inl ⟨by rfl, ?_⟩) hS0 ?_
                    rotate_left 1
                    · intro W hW
                      go_simp
                      try with_reducible rfl
                    simp only [Act.put, List.getElem_toArray, List.getElem_cons_zero, List.getElem_cons_succ, List.setIfInBounds_toArray, List.set_cons_zero, List.set_cons_succ]
                    refine wpAnyH_take (i := 4) (v := ?_) rfl (by kernel_rfl) (by kernel_rfl) (by kernel_rfl) (fun _ _ _ h => h) (Or.inl ⟨by rfl, ?_⟩) hS0 ?_
                    rotate_left 1
                    · intro W hW
                      go_simp
                      try with_reducible rfl
                    simp only [Act.put, List.getElem_toArray, List.getElem_cons_zero, List.getElem_cons_succ, List.setIfInBounds_toArray, List.set_cons_zero, List.set_cons_succ]
                    refine wpAnyH_take (i := 5) (v := ?_) rfl (by kernel_rfl) (by kernel_rfl) (by kernel_rfl) (fun _ _ _ h => h) (Or.inl ⟨by rfl, ?_⟩) hS0 ?_
                    rotate_left 1
                    · intro W hW
                      go_simp
                      try with_reducible rfl
                    simp only [Act.put, List.getElem_toArray, List.getElem_cons_zero, List.getElem_cons_succ, List.setIfInBounds_toArray, List.set_cons_zero, List.set_cons_succ]
                    refine wpAnyH_take (i := 6) (v := ?_) rfl (by kernel_rfl) (by kernel_rfl) (by kernel_rfl) (fun _ _ _ h => h) (Or.inl ⟨by rfl, ?_⟩) hS0 ?_
                    rotate_left 1
                    · intro W hW
                      go_simp
                      try with_reducible rfl
                    simp only [Act.put, List.getElem_toArray, List.getElem_cons_zero, List.getElem_cons_succ, List.setIfInBounds_toArray, List.set_cons_zero, List.set_cons_succ]
                    refine wpAnyH_take (i := 7) (v := ?_) rfl (by kernel_rfl) (by kernel_rfl) (by kernel_rfl) (fun _ _ _ h => h) (Or.inl ⟨by rfl, ?_⟩) hS0 ?_
                    rotate_left 1
                    · intro W hW
                      go_simp
                      try with_reducible rfl
                    simp only [Act.put, List.getElem_toArray, List.getElem_cons_zero, List.getElem_cons_succ, List.setIfInBounds_toArray, List.set_cons_zero, List.set_cons_succ]
                    refine wpAnyH_take (i := 8) (v := ?_) rfl (by kernel_rfl) (by kernel_rfl) (by kernel_rfl) (fun _ _ _ h => h) (Or.inl ⟨by rfl, ?_⟩) hS0 ?_
                    rotate_left 1
                    · intro W hW
                      go_simp
                      try with_reducible rfl
                    simp only [Act.put, List.getElem_toArray, List.getElem_cons_zero, List.getElem_cons_succ, List.setIfInBounds_toArray, List.set_cons_zero, List.set_cons_succ]
                    refine wpAnyH_ready (rs := [9]) (by kernel_rfl) (by simp) (AllReadyH.cons rfl (fun KK hKK => ?_) AllReadyH.nil)
                    go_simp
                    refine (HS4.out _ hS0).mono ?_
                    rintro e w15 ⟨rfl, hb⟩
                    have hS1 := hS0.trans (hb.mono hS0.size)
                    clear hS0
                    have hS0 : Below w13.heap.size w13 w15 := hS1
                    refine hKK _ _ hS0 ?_
                    intro _
                    clear hKK KK hb hS1
                    refine wpAnyH_take (i := 10) (v := ?_) rfl (by kernel_rfl) (by kernel_rfl) (by kernel_rfl) (fun _ _ _ h => h) (Or.inl ⟨by rfl, ?_⟩) hS0 ?_
                    rotate_left 1
                    · intro W hW
                      go_simp
                      try with_reducible rfl
                    simp only [Act.put, List.getElem_toArray, List.getElem_cons_zero, List.getElem_cons_succ, List.setIfInBounds_toArray, List.set_cons_zero, List.set_cons_succ]
                    refine wpAnyH_take (i := 11) (v := ?_) rfl (by kernel_rfl) (by kernel_rfl) (by kernel_rfl) (fun _ _ _ h => h) (Or.inl ⟨by rfl, ?_⟩) hS0 ?_
                    rotate_left 1
                    · intro W hW
                      go_simp
                      try with_reducible rfl
                    simp only [Act.put, List.getElem_toArray, List.getElem_cons_zero, List.getElem_cons_succ, List.setIfInBounds_toArray, List.set_cons_zero, List.set_cons_succ]
                    refine wpAnyH_take (i := 12) (v := ?_) rfl (by kernel_rfl) (by kernel_rfl) (by kernel_rfl) (fun _ _ _ h => h) (Or.inl ⟨by rfl, ?_⟩) hS0 ?_
                    rotate_left 1
                    · intro W hW
                      go_simp
                      try with_reducible rfl
                    simp only [Act.put, List.getElem_toArray, List.getElem_cons_zero, List.getElem_cons_succ, List.setIfInBounds_toArray, List.set_cons_zero, List.set_cons_succ]
                    refine wpAnyH_take (i := 13) (v := ?_) rfl (by kernel_rfl) (by kernel_rfl) (by kernel_rfl) (fun _ _ _ h => h) (Or.inl ⟨by rfl, ?_⟩) hS0 ?_
                    rotate_left 1
                    · intro W hW
                      go_simp
                      try with_reducible rfl
                    simp only [Act.put, List.getElem_toArray, List.getElem_cons_zero, List.getElem_cons_succ, List.setIfInBounds_toArray, List.set_cons_zero, List.set_cons_succ]
                    refine wpAnyH_take (i := 14) (v := undef) rfl (by kernel_rfl) (by kernel_rfl) (by kernel_rfl) (fun _ _ _ h => h) ?_ hS0 ?_
                    · exact Or.inr ⟨by rfl, rfl⟩
                    simp only [Act.put, List.getElem_toArray, List.getElem_cons_zero, List.getElem_cons_succ, List.setIfInBounds_toArray, List.set_cons_zero, List.set_cons_succ]
                    refine wpAnyH_take (i := 15) (v := ?_) rfl (by kernel_rfl) (by kernel_rfl) (by kernel_rfl) (fun _ _ _ h => h) (Or.inl ⟨by rfl, ?_⟩) hS0 ?_
                    rotate_left 1
                    · intro W hW
                      go_simp
                      try with_reducible rfl
                    simp only [Act.put, List.getElem_toArray, List.getElem_cons_zero, List.getElem_cons_succ, List.setIfInBounds_toArray, List.set_cons_zero, List.set_cons_succ]
                    refine wpAnyH_take (i := 16) (v := ?_) rfl (by kernel_rfl) (by kernel_rfl) (by kernel_rfl) (fun _ _ _ h => h) (Or.inl ⟨by rfl, ?_⟩) hS0 ?_
                    rotate_left 1
                    · intro W hW
                      go_simp
                      try with_reducible rfl
                    simp only [Act.put, List.getElem_toArray, List.getElem_cons_zero, List.getElem_cons_succ, List.setIfInBounds_toArray, List.set_cons_zero, List.set_cons_succ]
                    refine wpAnyH_take (i := 17) (v := ?_) rfl (by kernel_rfl) (by kernel_rfl) (by kernel_rfl) (fun _ _ _ h => h) (Or.inl ⟨by rfl, ?_⟩) hS0 ?_
                    rotate_left 1
                    · intro W hW
                      go_simp
                      try with_reducible rfl
                    simp only [Act.put, List.getElem_toArray, List.getElem_cons_zero, List.getElem_cons_succ, List.setIfInBounds_toArray, List.set_cons_zero, List.set_cons_succ]
                    refine wpAnyH_take (i := 18) (v := ?_) rfl (by kernel_rfl) (by kernel_rfl) (by kernel_rfl) (fun _ _ _ h => h) (Or.inl ⟨by rfl, ?_⟩) hS0 ?_
                    rotate_left 1
                    · intro W hW
                      go_simp
                      try with_reducible rfl
                    simp only [Act.put, List.getElem_toArray, List.getElem_cons_zero, List.getElem_cons_succ, List.setIfInBounds_toArray, List.set_cons_zero, List.set_cons_succ]
                    refine wpAnyH_take (i := 19) (v := ?_) rfl (by kernel_rfl) (by kernel_rfl) (by kernel_rfl) (fun _ _ _ h => h) (Or.inl ⟨by rfl, ?_⟩) hS0 ?_
                    rotate_left 1
                    · intro W hW
                      go_simp
                      try with_reducible rfl
                    simp only [Act.put, List.getElem_toArray, List.getElem_cons_zero, List.getElem_cons_succ, List.setIfInBounds_toArray, List.set_cons_zero, List.set_cons_succ]
                    refine wpAnyH_take (i := 20) (v := ?_) rfl (by kernel_rfl) (by kernel_rfl) (by kernel_rfl) (fun _ _ _ h => h) (Or.inl ⟨by rfl, ?_⟩) hS0 ?_
                    rotate_left 1
                    · intro W hW
                      go_simp
                      try with_reducible rfl
                    simp only [Act.put, List.getElem_toArray, List.getElem_cons_zero, List.getElem_cons_succ, List.setIfInBounds_toArray, List.set_cons_zero, List.set_cons_succ]
                    refine wpAnyH_take (i := 21) (v := undef) rfl (by kernel_rfl) (by kernel_rfl) (by kernel_rfl) (fun _ _ _ h => h) ?_ hS0 ?_
                    · exact Or.inr ⟨by rfl, rfl⟩
                    simp only [Act.put, List.getElem_toArray, List.getElem_cons_zero, List.getElem_cons_succ, List.setIfInBounds_toArray, List.set_cons_zero, List.set_cons_succ]
                    refine wpAnyH_take (i := 22) (v := ?_) rfl (by kernel_rfl) (by kernel_rfl) (by kernel_rfl) (fun _ _ _ h => h) (Or.inl ⟨by rfl, ?_⟩) hS0 ?_
                    rotate_left 1
                    · intro W hW
                      go_simp
                      try with_reducible rfl
                    simp only [Act.put, List.getElem_toArray, List.getElem_cons_zero, List.getElem_cons_succ, List.setIfInBounds_toArray, List.set_cons_zero, List.set_cons_succ]
                    refine wpAnyH_take (i := 23) (v := ?_) rfl (by kernel_rfl) (by kernel_rfl) (by kernel_rfl) (fun _ _ _ h => h) (Or.inl ⟨by rfl, ?_⟩) hS0 ?_
                    rotate_left 1
                    · intro W hW
                      go_simp
                      try with_reducible rfl
                    simp only [Act.put, List.getElem_toArray, List.getElem_cons_zero, List.getElem_cons_succ, List.setIfInBounds_toArray, List.set_cons_zero, List.set_cons_succ]
                    refine wpAnyH_take (i := 24) (v := ?_) rfl (by kernel_rfl) (by kernel_rfl) (by kernel_rfl) (fun _ _ _ h => h) (Or.inl ⟨by rfl, ?_⟩) hS0 ?_
                    rotate_left 1
                    · intro W hW
                      go_simp
                      try with_reducible rfl
                    simp only [Act.put, List.getElem_toArray, List.getElem_cons_zero, List.getElem_cons_succ, List.setIfInBounds_toArray, List.set_cons_zero, List.set_cons_succ]
                    refine wpAnyH_take (i := 25) (v := ?_) rfl (by kernel_rfl) (by kernel_rfl) (by kernel_rfl) (fun _ _ _ h => h) (Or.inl ⟨by rfl, ?_⟩) hS0 ?_
                    rotate_left 1
                    · intro W hW
                      go_simp
                      try with_reducible rfl
                    simp only [Act.put, List.getElem_toArray, List.getElem_cons_zero, List.getElem_cons_succ, List.setIfInBounds_toArray, List.set_cons_zero, List.set_cons_succ]
                    refine wpAnyH_take (i := 26) (v := ?_) rfl (by kernel_rfl) (by kernel_rfl) (by kernel_rfl) (fun _ _ _ h => h) (Or.inl ⟨by rfl, ?_⟩) hS0 ?_
                    rotate_left 1
                    · intro W hW
                      go_simp
                      try with_reducible rfl
                    simp only [Act.put, List.getElem_toArray, List.getElem_cons_zero, List.getElem_cons_succ, List.setIfInBounds_toArray, List.set_cons_zero, List.set_cons_succ]
                    refine wpAnyH_take (i := 27) (v := ?_) rfl (by kernel_rfl) (by kernel_rfl) (by kernel_rfl) (fun _ _ _ h => h) (Or.inl ⟨by rfl, ?_⟩) hS0 ?_
                    rotate_left 1
                    · intro W hW
                      go_simp
                      try with_reducible rfl
                    simp only [Act.put, List.getElem_toArray, List.getElem_cons_zero, List.getElem_cons_succ, List.setIfInBounds_toArray, List.set_cons_zero, List.set_cons_succ]
                    refine wpAnyH_take (i := 28) (v := ?_) rfl (by kernel_rfl) (by kernel_rfl) (by kernel_rfl) (fun _ _ _ h => h) (Or.inl ⟨by rfl, ?_⟩) hS0 ?_
                    rotate_left 1
                    · intro W hW
                      go_simp
                      try with_reducible rfl
                    simp only [Act.put, List.getElem_toArray, List.getElem_cons_zero, List.getElem_cons_succ, List.setIfInBounds_toArray, List.set_cons_zero, List.set_cons_succ]
                    refine wpAnyH_ready (rs := [29]) (by kernel_rfl) (by simp) (AllReadyH.cons rfl (fun KK hKK => ?_) AllReadyH.nil)
                    go_simp
                    refine (HS3'.out _ hS0).mono ?_
                    rintro e w16 ⟨rfl, hb⟩
                    have hS1 := hS0.trans (hb.mono hS0.size)
                    clear hS0
                    have hS0 : Below w13.heap.size w13 w16 := hS1
                    refine hKK _ _ hS0 ?_
                    intro _
                    clear hKK KK hb hS1
                    refine wpAnyH_take (i := 30) (v := ?_) rfl (by kernel_rfl) (by kernel_rfl) (by kernel_rfl) (fun _ _ _ h => h) (Or.inl ⟨by rfl, ?_⟩) hS0 ?_
                    rotate_left 1
                    · intro W hW
                      go_simp
                      try with_reducible rfl
                    simp only [Act.put, List.getElem_toArray, List.getElem_cons_zero, List.getElem_cons_succ, List.setIfInBounds_toArray, List.set_cons_zero, List.set_cons_succ]
                    refine wpAnyH_take (i := 31) (v := ?_) rfl (by kernel_rfl) (by kernel_rfl) (by kernel_rfl) (fun _ _ _ h => h) (Or.inl ⟨by rfl, ?_⟩) hS0 ?_
                    rotate_left 1
                    · intro W hW
                      go_simp
                      try with_reducible rfl
                    simp only [Act.put, List.getElem_toArray, List.getElem_cons_zero, List.getElem_cons_succ, List.setIfInBounds_toArray, List.set_cons_zero, List.set_cons_succ]
                    refine wpAnyH_done (by kernel_rfl) ?_ _
                    have HBE := Lib.hid hS0
                    clear hS0
                    go_wp2_with fail
                    go_ret
                    exact ⟨rfl, HB13.out.trans (HBE.out.mono HB13.out.size)⟩
                  · clear hWays
                    subst e1 e2 e3
                    refine wp_region_held (S := fun W' => Below w13.heap.size w13 W') (by kernel_rfl) ?_
                    change wpAnyH _ _ _ _ _ _ _ _ (World.drew _)
                    have hS0 : Below w13.heap.size w13 (World.drew wB) := HBB.out.drew
                    refine wpAnyH_take (i := 0) (v := ?_) rfl (by kernel_rfl) (by kernel_rfl) (by kernel_rfl) (fun _ _ _ h => h) (Or.inl ⟨by rfl, ?_⟩) hS0 ?_
                    rotate_left 1
                    · intro W hW
                      go_simp
                      try with_reducible rfl
                    simp only [Act.put, List.getElem_toArray, List.getElem_cons_zero, List.getElem_cons_succ, List.setIfInBounds_toArray, List.set_cons_zero, List.set_cons_succ]
                    refine wpAnyH_take (i := 1) (v := ?_) rfl (by kernel_rfl) (by kernel_rfl) (by kernel_rfl) (fun _ _ _ h => h) (Or.inl ⟨by rfl, ?_⟩) hS0 ?_
                    rotate_left 1
                    · intro W hW
                      go_simp
                      try with_reducible rfl
                    simp only [Act.put, List.getElem_toArray, List.getElem_cons_zero, List.getElem_cons_succ, List.setIfInBounds_toArray, List.set_cons_zero, List.set_cons_succ]
                    refine wpAnyH_take (i := 2) (v := ?_) rfl (by kernel_rfl) (by kernel_rfl) (by kernel_rfl) (fun _ _ _ h => h) (Or.inl ⟨by rfl, ?_⟩) hS0 ?_
                    rotate_left 1
                    · intro W hW
                      go_simp
                      try with_reducible rfl
                    simp only [Act.put, List.getElem_toArray, List.getElem_cons_zero, List.getElem_cons_succ, List.setIfInBounds_toArray, List.set_cons_zero, List.set_cons_succ]
                    refine wpAnyH_take (i := 3) (v := ?_) rfl (by kernel_rfl) (by kernel_rfl) (by kernel_rfl) (fun _ _ _ h => h) (Or.inl ⟨by rfl, ?_⟩) hS0 ?_
                    rotate_left 1
                    · intro W hW
                      go_simp
                      try with_reducible rfl
                    simp only [Act.put, List.getElem_toArray, List.getElem_cons_zero, List.getElem_cons_succ, List.setIfInBounds_toArray, List.set_cons_zero, List.set_cons_succ]
                    refine wpAnyH_take (i := 4) (v := ?_) rfl (by kernel_rfl) (by kernel_rfl) (by kernel_rfl) (fun _ _ _ h => h) (Or.inl ⟨by rfl, ?_⟩) hS0 ?_
                    rotate_left 1
                    · intro W hW
                      go_simp
                      try with_reducible rfl
                    simp only [Act.put, List.getElem_toArray, List.getElem_cons_zero, List.getElem_cons_succ, List.setIfInBounds_toArray, List.set_cons_zero, List.set_cons_succ]
                    refine wpAnyH_take (i := 5) (v := ?_) rfl (by kernel_rfl) (by kernel_rfl) (by kernel_rfl) (fun _ _ _ h => h) (Or.inl ⟨by rfl, ?_⟩) hS0 ?_
                    rotate_left 1
                    · intro W hW
                      go_simp
                      try with_reducible rfl
                    simp only [Act.put, List.getElem_toArray, List.getElem_cons_zero, List.getElem_cons_succ, List.setIfInBounds_toArray, List.set_cons_zero, List.set_cons_succ]
                    refine wpAnyH_take (i := 6) (v := ?_) rfl (by kernel_rfl) (by kernel_rfl) (by kernel_rfl) (fun _ _ _ h => h) (Or.inl ⟨by rfl, ?_⟩) hS0 ?_
                    rotate_left 1
                    · intro W hW
                      go_simp
                      try with_reducible rfl
                    simp only [Act.put, List.getElem_toArray, List.getElem_cons_zero, List.getElem_cons_succ, List.setIfInBounds_toArray, List.set_cons_zero, List.set_cons_succ]
                    refine wpAnyH_take (i := 7) (v := ?_) rfl (by kernel_rfl) (by kernel_rfl) (by kernel_rfl) (fun _ _ _ h => h) (Or.inl ⟨by rfl, ?_⟩) hS0 ?_
                    rotate_left 1
                    · intro W hW
                      go_simp
                      try with_reducible rfl
                    simp only [Act.put, List.getElem_toArray, List.getElem_cons_zero, List.getElem_cons_succ, List.setIfInBounds_toArray, List.set_cons_zero, List.set_cons_succ]
                    refine wpAnyH_take (i := 8) (v := ?_) rfl (by kernel_rfl) (by kernel_rfl) (by kernel_rfl) (fun _ _ _ h => h) (Or.inl ⟨by rfl, ?_⟩) hS0 ?_
                    rotate_left 1
                    · intro W hW
                      go_simp
                      try with_reducible rfl
                    simp only [Act.put, List.getElem_toArray, List.getElem_cons_zero, List.getElem_cons_succ, List.setIfInBounds_toArray, List.set_cons_zero, List.set_cons_succ]
                    refine wpAnyH_ready (rs := [9]) (by kernel_rfl) (by simp) (AllReadyH.cons rfl (fun KK hKK => ?_) AllReadyH.nil)
                    go_simp
                    refine (HS4.out _ hS0).mono ?_
                    rintro e w15 ⟨rfl, hb⟩
                    have hS1 := hS0.trans (hb.mono hS0.size)
                    clear hS0
                    have hS0 : Below w13.heap.size w13 w15 := hS1
                    refine hKK _ _ hS0 ?_
                    intro _
                    clear hKK KK hb hS1
                    refine wpAnyH_take (i := 10) (v := ?_) rfl (by kernel_rfl) (by kernel_rfl) (by kernel_rfl) (fun _ _ _ h => h) (Or.inl ⟨by rfl, ?_⟩) hS0 ?_
                    rotate_left 1
                    · intro W hW
                      go_simp
                      try with_reducible rfl
                    simp only [Act.put, List.getElem_toArray, List.getElem_cons_zero, List.getElem_cons_succ, List.setIfInBounds_toArray, List.set_cons_zero, List.set_cons_succ]
                    refine wpAnyH_take (i := 11) (v := ?_) rfl (by kernel_rfl) (by kernel_rfl) (by kernel_rfl) (fun _ _ _ h => h) (Or.inl ⟨by rfl, ?_⟩) hS0 ?_
                    rotate_left 1
                    · intro W hW
                      go_simp
                      try with_reducible rfl
                    simp only [Act.put, List.getElem_toArray, List.getElem_cons_zero, List.getElem_cons_succ, List.setIfInBounds_toArray, List.set_cons_zero, List.set_cons_succ]
                    refine wpAnyH_take (i := 12) (v := ?_) rfl (by kernel_rfl) (by kernel_rfl) (by kernel_rfl) (fun _ _ _ h => h) (Or.inl ⟨by rfl, ?_⟩) hS0 ?_
                    rotate_left 1
                    · intro W hW
                      go_simp
                      try with_reducible rfl
                    simp only [Act.put, List.getElem_toArray, List.getElem_cons_zero, List.getElem_cons_succ, List.setIfInBounds_toArray, List.set_cons_zero, List.set_cons_succ]
                    refine wpAnyH_take (i := 13) (v := ?_) rfl (by kernel_rfl) (by kernel_rfl) (by kernel_rfl) (fun _ _ _ h => h) (Or.inl ⟨by rfl, ?_⟩) hS0 ?_
                    rotate_left 1
                    · intro W hW
                      go_simp
                      try with_reducible rfl
                    simp only [Act.put, List.getElem_toArray, List.getElem_cons_zero, List.getElem_cons_succ, List.setIfInBounds_toArray, List.set_cons_zero, List.set_cons_succ]
                    refine wpAnyH_take (i := 14) (v := ?_) rfl (by kernel_rfl) (by kernel_rfl) (by kernel_rfl) (fun _ _ _ h => h) (Or.inl ⟨by rfl, ?_⟩) hS0 ?_
                    rotate_left 1
                    · intro W hW
                      go_simp
                      try with_reducible rfl
                    simp only [Act.put, List.getElem_toArray, List.getElem_cons_zero, List.getElem_cons_succ, List.setIfInBounds_toArray, List.set_cons_zero, List.set_cons_succ]
                    refine wpAnyH_take (i := 15) (v := ?_) rfl (by kernel_rfl) (by kernel_rfl) (by kernel_rfl) (fun _ _ _ h => h) (Or.inl ⟨by rfl, ?_⟩) hS0 ?_
                    rotate_left 1
                    · intro W hW
                      go_simp
                      try with_reducible rfl
                    simp only [Act.put, List.getElem_toArray, List.getElem_cons_zero, List.getElem_cons_succ, List.setIfInBounds_toArray, List.set_cons_zero, List.set_cons_succ]
                    refine wpAnyH_take (i := 16) (v := ?_) rfl (by kernel_rfl) (by kernel_rfl) (by kernel_rfl) (fun _ _ _ h => h) (Or.inl ⟨by rfl, ?_⟩) hS0 ?_
                    rotate_left 1
                    · intro W hW
                      go_simp
                      try with_reducible rfl
                    simp only [Act.put, List.getElem_toArray, List.getElem_cons_zero, List.getElem_cons_succ, List.setIfInBounds_toArray, List.set_cons_zero, List.set_cons_succ]
                    refine wpAnyH_take (i := 17) (v := ?_) rfl (by kernel_rfl) (by kernel_rfl) (by kernel_rfl) (fun _ _ _ h => h) (Or.inl ⟨by rfl, ?_⟩) hS0 ?_
                    rotate_left 1
                    · intro W hW
                      go_simp
                      try with_reducible rfl
                    simp only [Act.put, List.getElem_toArray, List.getElem_cons_zero, List.getElem_cons_succ, List.setIfInBounds_toArray, List.set_cons_zero, List.set_cons_succ]
                    refine wpAnyH_take (i := 18) (v := ?_) rfl (by kernel_rfl) (by kernel_rfl) (by kernel_rfl) (fun _ _ _ h => h) (Or.inl ⟨by rfl, ?_⟩) hS0 ?_
                    rotate_left 1
                    · intro W hW
                      go_simp
                      try with_reducible rfl
                    simp only [Act.put, List.getElem_toArray, List.getElem_cons_zero, List.getElem_cons_succ, List.setIfInBounds_toArray, List.set_cons_zero, List.set_cons_succ]
                    refine wpAnyH_take (i := 19) (v := ?_) rfl (by kernel_rfl) (by kernel_rfl) (by kernel_rfl) (fun _ _ _ h => h) (Or.inl ⟨by rfl, ?_⟩) hS0 ?_
                    rotate_left 1
                    · intro W hW
                      go_simp
                      try with_reducible rfl
                    simp only [Act.put, List.getElem_toArray, List.getElem_cons_zero, List.getElem_cons_succ, List.setIfInBounds_toArray, List.set_cons_zero, List.set_cons_succ]
                    refine wpAnyH_take (i := 20) (v := ?_) rfl (by kernel_rfl) (by kernel_rfl) (by kernel_rfl) (fun _ _ _ h => h) (Or.inl ⟨by rfl, ?_⟩) hS0 ?_
                    rotate_left 1
                    · intro W hW
                      go_simp
                      try with_reducible rfl
                    simp only [Act.put, List.getElem_toArray, List.getElem_cons_zero, List.getElem_cons_succ, List.setIfInBounds_toArray, List.set_cons_zero, List.set_cons_succ]
                    refine wpAnyH_take (i := 21) (v := undef) rfl (by kernel_rfl) (by kernel_rfl) (by kernel_rfl) (fun _ _ _ h => h) ?_ hS0 ?_
                    · exact Or.inr ⟨by rfl, rfl⟩
                    simp only [Act.put, List.getElem_toArray, List.getElem_cons_zero, List.getElem_cons_succ, List.setIfInBounds_toArray, List.set_cons_zero, List.set_cons_succ]
                    refine wpAnyH_take (i := 22) (v := ?_) rfl (by kernel_rfl) (by kernel_rfl) (by kernel_rfl) (fun _ _ _ h => h) (Or.inl ⟨by rfl, ?_⟩) hS0 ?_
                    rotate_left 1
                    · intro W hW
                      go_simp
                      try with_reducible rfl
                    simp only [Act.put, List.getElem_toArray, List.getElem_cons_zero, List.getElem_cons_succ, List.setIfInBounds_toArray, List.set_cons_zero, List.set_cons_succ]
                    refine wpAnyH_take (i := 23) (v := ?_) rfl (by kernel_rfl) (by kernel_rfl) (by kernel_rfl) (fun _ _ _ h => h) (Or.inl ⟨by rfl, ?_⟩) hS0 ?_
                    rotate_left 1
                    · intro W hW
                      go_simp
                      try with_reducible rfl
                    simp only [Act.put, List.getElem_toArray, List.getElem_cons_zero, List.getElem_cons_succ, List.setIfInBounds_toArray, List.set_cons_zero, List.set_cons_succ]
                    refine wpAnyH_take (i := 24) (v := ?_) rfl (by kernel_rfl) (by kernel_rfl) (by kernel_rfl) (fun _ _ _ h => h) (Or.inl ⟨by rfl, ?_⟩) hS0 ?_
                    rotate_left 1
                    · intro W hW
                      go_simp
                      try with_reducible rfl
                    simp only [Act.put, List.getElem_toArray, List.getElem_cons_zero, List.getElem_cons_succ, List.setIfInBounds_toArray, List.set_cons_zero, List.set_cons_succ]
                    refine wpAnyH_take (i := 25) (v := ?_) rfl (by kernel_rfl) (by kernel_rfl) (by kernel_rfl) (fun _ _ _ h => h) (Or.inl ⟨by rfl, ?_⟩) hS0 ?_
                    rotate_left 1
                    · intro W hW
                      go_simp
                      try with_reducible rfl
                    simp only [Act.put, List.getElem_toArray, List.getElem_cons_zero, List.getElem_cons_succ, List.setIfInBounds_toArray, List.set_cons_zero, List.set_cons_succ]
                    refine wpAnyH_take (i := 26) (v := ?_) rfl (by kernel_rfl) (by kernel_rfl) (by kernel_rfl) (fun _ _ _ h => h) (Or.inl ⟨by rfl, ?_⟩) hS0 ?_
                    rotate_left 1
                    · intro W hW
                      go_simp
                      try with_reducible rfl
                    simp only [Act.put, List.getElem_toArray, List.getElem_cons_zero, List.getElem_cons_succ, List.setIfInBounds_toArray, List.set_cons_zero, List.set_cons_succ]
                    refine wpAnyH_take (i := 27) (v := ?_) rfl (by kernel_rfl) (by kernel_rfl) (by kernel_rfl) (fun _ _ _ h => h) (Or.inl ⟨by rfl, ?_⟩) hS0 ?_
                    rotate_left 1
                    · intro W hW
                      go_simp
                      try with_reducible rfl
                    simp only [Act.put, List.getElem_toArray, List.getElem_cons_zero, List.getElem_cons_succ, List.setIfInBounds_toArray, List.set_cons_zero, List.set_cons_succ]
                    refine wpAnyH_take (i := 28) (v := ?_) rfl (by kernel_rfl) (by kernel_rfl) (by kernel_rfl) (fun _ _ _ h => h) (Or.inl ⟨by rfl, ?_⟩) hS0 ?_
                    rotate_left 1
                    · intro W hW
                      go_simp
                      try with_reducible rfl
                    simp only [Act.put, List.getElem_toArray, List.getElem_cons_zero, List.getElem_cons_succ, List.setIfInBounds_toArray, List.set_cons_zero, List.set_cons_succ]
                    refine wpAnyH_ready (rs := [29]) (by kernel_rfl) (by simp) (AllReadyH.cons rfl (fun KK hKK => ?_) AllReadyH.nil)
                    go_simp
                    refine (HS3'.out _ hS0).mono ?_
                    rintro e w16 ⟨rfl, hb⟩
                    have hS1 := hS0.trans (hb.mono hS0.size)
                    clear hS0
                    have hS0 : Below w13.heap.size w13 w16 := hS1
                    refine hKK _ _ hS0 ?_
                    intro _
                    clear hKK KK hb hS1
                    refine wpAnyH_take (i := 30) (v := ?_) rfl (by kernel_rfl) (by kernel_rfl) (by kernel_rfl) (fun _ _ _ h => h) (Or.inl ⟨by rfl, ?_⟩) hS0 ?_
                    rotate_left 1
                    · intro W hW
                      go_simp
                      try with_reducible rfl
                    simp only [Act.put, List.getElem_toArray, List.getElem_cons_zero, List.getElem_cons_succ, List.setIfInBounds_toArray, List.set_cons_zero, List.set_cons_succ]
                    refine wpAnyH_take (i := 31) (v := ?_) rfl (by kernel_rfl) (by kernel_rfl) (by kernel_rfl) (fun _ _ _ h => h) (Or.inl ⟨by rfl, ?_⟩) hS0 ?_
                    rotate_left 1
                    · intro W hW
                      go_simp
                      try with_reducible rfl
                    simp only [Act.put, List.getElem_toArray, List.getElem_cons_zero, List.getElem_cons_succ, List.setIfInBounds_toArray, List.set_cons_zero, List.set_cons_succ]
                    refine wpAnyH_done (by kernel_rfl) ?_ _
                    have HBE := Lib.hid hS0
                    clear hS0
                    go_wp2_with fail
                    go_ret
                    exact ⟨rfl, HB13.out.trans (HBE.out.mono HB13.out.size)⟩
                  · clear hWays
                    subst e1 e2 e3
                    refine wp_region_held (S := fun W' => Below w13.heap.size w13 W') (by kernel_rfl) ?_
                    change wpAnyH _ _ _ _ _ _ _ _ (World.drew _)
                    have hS0 : Below w13.heap.size w13 (World.drew wB) := HBB.out.drew
                    refine wpAnyH_take (i := 0) (v := ?_) rfl (by kernel_rfl) (by kernel_rfl) (by kernel_rfl) (fun _ _ _ h => h) (Or.inl ⟨by rfl, ?_⟩) hS0 ?_
                    rotate_left 1
                    · intro W hW
                      go_simp
                      try with_reducible rfl
                    simp only [Act.put, List.getElem_toArray, List.getElem_cons_zero, List.getElem_cons_succ, List.setIfInBounds_toArray, List.set_cons_zero, List.set_cons_succ]
                    refine wpAnyH_take (i := 1) (v := ?_) rfl (by kernel_rfl) (by kernel_rfl) (by kernel_rfl) (fun _ _ _ h => h) (Or.inl ⟨by rfl, ?_⟩) hS0 ?_
                    rotate_left 1
                    · intro W hW
                      go_simp
                      try with_reducible rfl
                    simp only [Act.put, List.getElem_toArray, List.getElem_cons_zero, List.getElem_cons_succ, List.setIfInBounds_toArray, List.set_cons_zero, List.set_cons_succ]
                    refine wpAnyH_take (i := 2) (v := ?_) rfl (by kernel_rfl) (by kernel_rfl) (by kernel_rfl) (fun _ _ _ h => h) (Or.inl ⟨by rfl, ?_⟩) hS0 ?_
                    rotate_left 1
                    · intro W hW
                      go_simp
                      try with_reducible rfl
                    simp only [Act.put, List.getElem_toArray, List.getElem_cons_zero, List.getElem_cons_succ, List.setIfInBounds_toArray, List.set_cons_zero, List.set_cons_succ]
                    refine wpAnyH_take (i := 3) (v := ?_) rfl (by kernel_rfl) (by kernel_rfl) (by kernel_rfl) (fun _ _ _ h => h) (Or.inl ⟨by rfl, ?_⟩) hS0 ?_
                    rotate_left 1
                    · intro W hW
                      go_simp
                      try with_reducible rfl
                    simp only [Act.put, List.getElem_toArray, List.getElem_cons_zero, List.getElem_cons_succ, List.setIfInBounds_toArray, List.set_cons_zero, List.set_cons_succ]
                    refine wpAnyH_take (i := 4) (v := ?_) rfl (by kernel_rfl) (by kernel_rfl) (by kernel_rfl) (fun _ _ _ h => h) (Or.inl ⟨by rfl, ?_⟩) hS0 ?_
                    rotate_left 1
                    · intro W hW
                      go_simp
                      try with_reducible rfl
                    simp only [Act.put, List.getElem_toArray, List.getElem_cons_zero, List.getElem_cons_succ, List.setIfInBounds_toArray, List.set_cons_zero, List.set_cons_succ]
                    refine wpAnyH_take (i := 5) (v := ?_) rfl (by kernel_rfl) (by kernel_rfl) (by kernel_rfl) (fun _ _ _ h => h) (Or.inl ⟨by rfl, ?_⟩) hS0 ?_
                    rotate_left 1
                    · intro W hW
                      go_simp
                      try with_reducible rfl
                    simp only [Act.put, List.getElem_toArray, List.getElem_cons_zero, List.getElem_cons_succ, List.setIfInBounds_toArray, List.set_cons_zero, List.set_cons_succ]
                    refine wpAnyH_take (i := 6) (v := ?_) rfl (by kernel_rfl) (by kernel_rfl) (by kernel_rfl) (fun _ _ _ h => h) (Or.inl ⟨by rfl, ?_⟩) hS0 ?_
                    rotate_left 1
                    · intro W hW
                      go_simp
                      try with_reducible rfl
                    simp only [Act.put, List.getElem_toArray, List.getElem_cons_zero, List.getElem_cons_succ, List.setIfInBounds_toArray, List.set_cons_zero, List.set_cons_succ]
                    refine wpAnyH_take (i := 7) (v := ?_) rfl (by kernel_rfl) (by kernel_rfl) (by kernel_rfl) (fun _ _ _ h => h) (Or.inl ⟨by rfl, ?_⟩) hS0 ?_
                    rotate_left 1
                    · intro W hW
                      go_simp
                      try with_reducible rfl
                    simp only [Act.put, List.getElem_toArray, List.getElem_cons_zero, List.getElem_cons_succ, List.setIfInBounds_toArray, List.set_cons_zero, List.set_cons_succ]
                    refine wpAnyH_take (i := 8) (v := ?_) rfl (by kernel_rfl) (by kernel_rfl) (by kernel_rfl) (fun _ _ _ h => h) (Or.inl ⟨by rfl, ?_⟩) hS0 ?_
                    rotate_left 1
                    · intro W hW
                      go_simp
                      try with_reducible rfl
                    simp only [Act.put, List.getElem_toArray, List.getElem_cons_zero, List.getElem_cons_succ, List.setIfInBounds_toArray, List.set_cons_zero, List.set_cons_succ]
                    refine wpAnyH_ready (rs := [9]) (by kernel_rfl) (by simp) (AllReadyH.cons rfl (fun KK hKK => ?_) AllReadyH.nil)
                    go_simp
                    refine (HS4.out _ hS0).mono ?_
                    rintro e w15 ⟨rfl, hb⟩
                    have hS1 := hS0.trans (hb.mono hS0.size)
                    clear hS0
                    have hS0 : Below w13.heap.size w13 w15 := hS1
                    refine hKK _ _ hS0 ?_
                    intro _
                    clear hKK KK hb hS1
                    refine wpAnyH_take (i := 10) (v := ?_) rfl (by kernel_rfl) (by kernel_rfl) (by kernel_rfl) (fun _ _ _ h => h) (Or.inl ⟨by rfl, ?_⟩) hS0 ?_
                    rotate_left 1
                    · intro W hW
                      go_simp
                      try with_reducible rfl
                    simp only [Act.put, List.getElem_toArray, List.getElem_cons_zero, List.getElem_cons_succ, List.setIfInBounds_toArray, List.set_cons_zero, List.set_cons_succ]
                    refine wpAnyH_take (i := 11) (v := ?_) rfl (by kernel_rfl) (by kernel_rfl) (by kernel_rfl) (fun _ _ _ h => h) (Or.inl ⟨by rfl, ?_⟩) hS0 ?_
                    rotate_left 1
                    · intro W hW
                      go_simp
                      try with_reducible rfl
                    simp only [Act.put, List.getElem_toArray, List.getElem_cons_zero, List.getElem_cons_succ, List.setIfInBounds_toArray, List.set_cons_zero, List.set_cons_succ]
                    refine wpAnyH_take (i := 12) (v := ?_) rfl (by kernel_rfl) (by kernel_rfl) (by kernel_rfl) (fun _ _ _ h => h) (Or.inl ⟨by rfl, ?_⟩) hS0 ?_
                    rotate_left 1
                    · intro W hW
                      go_simp
                      try with_reducible rfl
                    simp only [Act.put, List.getElem_toArray, List.getElem_cons_zero, List.getElem_cons_succ, List.setIfInBounds_toArray, List.set_cons_zero, List.set_cons_succ]
                    refine wpAnyH_take (i := 13) (v := ?_) rfl (by kernel_rfl) (by kernel_rfl) (by kernel_rfl) (fun _ _ _ h => h) (Or.inl ⟨by rfl, ?_⟩) hS0 ?_
                    rotate_left 1
                    · intro W hW
                      go_simp
                      try with_reducible rfl
                    simp only [Act.put, List.getElem_toArray, List.getElem_cons_zero, List.getElem_cons_succ, List.setIfInBounds_toArray, List.set_cons_zero, List.set_cons_succ]
                    refine wpAnyH_take (i := 14) (v := undef) rfl (by kernel_rfl) (by kernel_rfl) (by kernel_rfl) (fun _ _ _ h => h) ?_ hS0 ?_
                    · exact Or.inr ⟨by rfl, rfl⟩
                    simp only [Act.put, List.getElem_toArray, List.getElem_cons_zero, List.getElem_cons_succ, List.setIfInBounds_toArray, List.set_cons_zero, List.set_cons_succ]
                    refine wpAnyH_take (i := 15) (v := ?_) rfl (by kernel_rfl) (by kernel_rfl) (by kernel_rfl) (fun _ _ _ h => h) (Or.inl ⟨by rfl, ?_⟩) hS0 ?_
                    rotate_left 1
                    · intro W hW
                      go_simp
                      try with_reducible rfl
                    simp only [Act.put, List.getElem_toArray, List.getElem_cons_zero, List.getElem_cons_succ, List.setIfInBounds_toArray, List.set_cons_zero, List.set_cons_succ]
                    refine wpAnyH_take (i := 16) (v := ?_) rfl (by kernel_rfl) (by kernel_rfl) (by kernel_rfl) (fun _ _ _ h => h) (Or.inl ⟨by rfl, ?_⟩) hS0 ?_
                    rotate_left 1
                    · intro W hW
                      go_simp
                      try with_reducible rfl
                    simp only [Act.put, List.getElem_toArray, List.getElem_cons_zero, List.getElem_cons_succ, List.setIfInBounds_toArray, List.set_cons_zero, List.set_cons_succ]
                    refine wpAnyH_take (i := 17) (v := ?_) rfl (by kernel_rfl) (by kernel_rfl) (by kernel_rfl) (fun _ _ _ h => h) (Or.inl ⟨by rfl, ?_⟩) hS0 ?_
                    rotate_left 1
                    · intro W hW
                      go_simp
                      try with_reducible rfl
                    simp only [Act.put, List.getElem_toArray, List.getElem_cons_zero, List.getElem_cons_succ, List.setIfInBounds_toArray, List.set_cons_zero, List.set_cons_succ]
                    refine wpAnyH_take (i := 18) (v := ?_) rfl (by kernel_rfl) (by kernel_rfl) (by kernel_rfl) (fun _ _ _ h => h) (Or.inl ⟨by rfl, ?_⟩) hS0 ?_
                    rotate_left 1
                    · intro W hW
                      go_simp
                      try with_reducible rfl
                    simp only [Act.put, List.getElem_toArray, List.getElem_cons_zero, List.getElem_cons_succ, List.setIfInBounds_toArray, List.set_cons_zero, List.set_cons_succ]
                    refine wpAnyH_take (i := 19) (v := ?_) rfl (by kernel_rfl) (by kernel_rfl) (by kernel_rfl) (fun _ _ _ h => h) (Or.inl ⟨by rfl, ?_⟩) hS0 ?_
                    rotate_left 1
                    · intro W hW
                      go_simp
                      try with_reducible rfl
                    simp only [Act.put, List.getElem_toArray, List.getElem_cons_zero, List.getElem_cons_succ, List.setIfInBounds_toArray, List.set_cons_zero, List.set_cons_succ]
                    refine wpAnyH_take (i := 20) (v := ?_) rfl (by kernel_rfl) (by kernel_rfl) (by kernel_rfl) (fun _ _ _ h => h) (Or.inl ⟨by rfl, ?_⟩) hS0 ?_
                    rotate_left 1
                    · intro W hW
                      go_simp
                      try with_reducible rfl
                    simp only [Act.put, List.getElem_toArray, List.getElem_cons_zero, List.getElem_cons_succ, List.setIfInBounds_toArray, List.set_cons_zero, List.set_cons_succ]
                    refine wpAnyH_take (i := 21) (v := undef) rfl (by kernel_rfl) (by kernel_rfl) (by kernel_rfl) (fun _ _ _ h => h) ?_ hS0 ?_
                    · exact Or.inr ⟨by rfl, rfl⟩
                    simp only [Act.put, List.getElem_toArray, List.getElem_cons_zero, List.getElem_cons_succ, List.setIfInBounds_toArray, List.set_cons_zero, List.set_cons_succ]
                    refine wpAnyH_take (i := 22) (v := ?_) rfl (by kernel_rfl) (by kernel_rfl) (by kernel_rfl) (fun _ _ _ h => h) (Or.inl ⟨by rfl, ?_⟩) hS0 ?_
                    rotate_left 1
                    · intro W hW
                      go_simp
                      try with_reducible rfl
                    simp only [Act.put, List.getElem_toArray, List.getElem_cons_zero, List.getElem_cons_succ, List.setIfInBounds_toArray, List.set_cons_zero, List.set_cons_succ]
                    refine wpAnyH_take (i := 23) (v := ?_) rfl (by kernel_rfl) (by kernel_rfl) (by kernel_rfl) (fun _ _ _ h => h) (Or.inl ⟨by rfl, ?_⟩) hS0 ?_
                    rotate_left 1
                    · intro W hW
                      go_simp
                      try with_reducible rfl
                    simp only [Act.put, List.getElem_toArray, List.getElem_cons_zero, List.getElem_cons_succ, List.setIfInBounds_toArray, List.set_cons_zero, List.set_cons_succ]
                    refine wpAnyH_take (i := 24) (v := ?_) rfl (by kernel_rfl) (by kernel_rfl) (by kernel_rfl) (fun _ _ _ h => h) (Or.inl ⟨by rfl, ?_⟩) hS0 ?_
                    rotate_left 1
                    · intro W hW
                      go_simp
                      try with_reducible rfl
                    simp only [Act.put, List.getElem_toArray, List.getElem_cons_zero, List.getElem_cons_succ, List.setIfInBounds_toArray, List.set_cons_zero, List.set_cons_succ]
                    refine wpAnyH_take (i := 25) (v := ?_) rfl (by kernel_rfl) (by kernel_rfl) (by kernel_rfl) (fun _ _ _ h => h) (Or.inl ⟨by rfl, ?_⟩) hS0 ?_
                    rotate_left 1
                    · intro W hW
                      go_simp
                      try with_reducible rfl
                    simp only [Act.put, List.getElem_toArray, List.getElem_cons_zero, List.getElem_cons_succ, List.setIfInBounds_toArray, List.set_cons_zero, List.set_cons_succ]
                    refine wpAnyH_take (i := 26) (v := ?_) rfl (by kernel_rfl) (by kernel_rfl) (by kernel_rfl) (fun _ _ _ h => h) (Or.inl ⟨by rfl, ?_⟩) hS0 ?_
                    rotate_left 1
                    · intro W hW
                      go_simp
                      try with_reducible rfl
                    simp only [Act.put, List.getElem_toArray, List.getElem_cons_zero, List.getElem_cons_succ, List.setIfInBounds_toArray, List.set_cons_zero, List.set_cons_succ]
                    refine wpAnyH_take (i := 27) (v := ?_) rfl (by kernel_rfl) (by kernel_rfl) (by kernel_rfl) (fun _ _ _ h => h) (Or.inl ⟨by rfl, ?_⟩) hS0 ?_
                    rotate_left 1
                    · intro W hW
                      go_simp
                      try with_reducible rfl
                    simp only [Act.put, List.getElem_toArray, List.getElem_cons_zero, List.getElem_cons_succ, List.setIfInBounds_toArray, List.set_cons_zero, List.set_cons_succ]
                    refine wpAnyH_take (i := 28) (v := ?_) rfl (by kernel_rfl) (by kernel_rfl) (by kernel_rfl) (fun _ _ _ h => h) (Or.inl ⟨by rfl, ?_⟩) hS0 ?_
                    rotate_left 1
                    · intro W hW
                      go_simp
                      try with_reducible rfl
                    simp only [Act.put, List.getElem_toArray, List.getElem_cons_zero, List.getElem_cons_succ, List.setIfInBounds_toArray, List.set_cons_zero, List.set_cons_succ]
                    refine wpAnyH_ready (rs := [29]) (by kernel_rfl) (by simp) (AllReadyH.cons rfl (fun KK hKK => ?_) AllReadyH.nil)
                    go_simp
                    refine (HS3'.out _ hS0).mono ?_
                    rintro e w16 ⟨rfl, hb⟩
                    have hS1 := hS0.trans (hb.mono hS0.size)
                    clear hS0
                    have hS0 : Below w13.heap.size w13 w16 := hS1
                    refine hKK _ _ hS0 ?_
                    intro _
                    clear hKK KK hb hS1
                    refine wpAnyH_take (i := 30) (v := ?_) rfl (by kernel_rfl) (by kernel_rfl) (by kernel_rfl) (fun _ _ _ h => h) (Or.inl ⟨by rfl, ?_⟩) hS0 ?_
                    rotate_left 1
                    · intro W hW
                      go_simp
                      try with_reducible rfl
                    simp only [Act.put, List.getElem_toArray, List.getElem_cons_zero, List.getElem_cons_succ, List.setIfInBounds_toArray, List.set_cons_zero, List.set_cons_succ]
                    refine wpAnyH_take (i := 31) (v := ?_) rfl (by kernel_rfl) (by kernel_rfl) (by kernel_rfl) (fun _ _ _ h => h) (Or.inl ⟨by rfl, ?_⟩) hS0 ?_
                    rotate_left 1
                    · intro W hW
                      go_simp
                      try with_reducible rfl
                    simp only [Act.put, List.getElem_toArray, List.getElem_cons_zero, List.getElem_cons_succ, List.setIfInBounds_toArray, List.set_cons_zero, List.set_cons_succ]
                    refine wpAnyH_done (by kernel_rfl) ?_ _
                    have HBE := Lib.hid hS0
                    clear hS0
                    go_wp2_with fail
                    go_ret
                    exact ⟨rfl, HB13.out.trans (HBE.out.mono HB13.out.size)⟩
end Go.Proofs.Ytlbfdmiihnlljaa
