import Derived.Test.YtlbfdmiihnlljaaR5
/- WalHeads: the walk. -/
namespace Go.Proofs.Ytlbfdmiihnlljaa
set_option linter.unusedSimpArgs false
set_option linter.unusedVariables false
open Go.RowKit Go.Maps

/-- the same disk, but for what was counted -/
structure Eqv (s s' : DS) : Prop where
  n : s.n = s'.n
  f : s.f = s'.f
  ar : s.ar = s'.ar
  lf : s.lf = s'.lf
  de : s.de = s'.de
theorem Eqv.blk {s s' : DS} (h : Eqv s s') (k : Nat) : s.blk k = s'.blk k := by unfold DS.blk; rw [h.f]
theorem Eqv.rdd {s s' : DS} (h : Eqv s s') : Eqv s.rdd s'.rdd := ⟨h.n, h.f, h.ar, h.lf, h.de⟩
theorem Eqv.write {s s' : DS} (h : Eqv s s') (k : Nat) (b : Nat → Int) : (s.write k b).1 = (s'.write k b).1 ∧ Eqv (s.write k b).2 (s'.write k b).2 := by
  unfold DS.write
  rw [← h.ar, ← h.lf, ← h.de]
  split
  · exact ⟨rfl, h.n, h.f, rfl, rfl, rfl⟩
  · exact ⟨rfl, h.n, by show upd s.f _ _ _ = upd s'.f _ _ _; rw [h.f], rfl, rfl, rfl⟩
theorem eqv_inst (fi : Nat) : ∀ (ts : List Nat) (i : Nat) (s s' : DS), Eqv s s' → (inst fi i ts s).1 = (inst fi i ts s').1 ∧ Eqv (inst fi i ts s).2 (inst fi i ts s').2
  | [], i, s, s', h => ⟨rfl, h⟩
  | p :: r, i, s, s', h => by
    have h1 := h.rdd.write p (s.blk (fi + 1 + i))
    unfold inst
    rw [← h.blk]
    by_cases c : (s.rdd.write p (s.blk (fi + 1 + i))).1 = 0
    · rw [if_pos c, if_pos (h1.1.symm.trans c)]
      exact eqv_inst fi r (i + 1) _ _ h1.2
    · rw [if_neg c, if_neg (fun e => c (h1.1.trans e))]
      exact h1
theorem Eqv.install {s s' : DS} (h : Eqv s s') (fi : Nat) (ts : List Nat) : (install fi ts s).1 = (install fi ts s').1 ∧ Eqv (install fi ts s).2 (install fi ts s').2 := by
  unfold Ytlbfdmiihnlljaa.install
  by_cases c0 : ts = []
  · rw [if_pos c0, if_pos c0]
    exact ⟨rfl, h⟩
  · rw [if_neg c0, if_neg c0]
    have h1 := eqv_inst fi ts 0 s s' h
    by_cases c : (inst fi 0 ts s).1 = 0
    · rw [if_pos c, if_pos (h1.1.symm.trans c)]
      exact h1.2.write fi _
    · rw [if_neg c, if_neg (fun e => c (h1.1.trans e))]
      exact h1
theorem Eqv.recover {s s' : DS} (h : Eqv s s') (fi : Nat) : (recover fi s).1 = (recover fi s').1 ∧ Eqv (recover fi s).2 (recover fi s').2 := by
  have hr : rightF s.n fi (s.blk fi) = rightF s'.n fi (s'.blk fi) := by rw [h.n, h.blk]
  cases hq : rightF s.n fi (s.blk fi) with
  | none =>
    rw [recover_none hq, recover_none (hr.symm.trans hq)]
    exact ⟨rfl, h.rdd⟩
  | some ts =>
    rw [recover_some hq, recover_some (hr.symm.trans hq)]
    have h1 := h.rdd.install fi ts
    exact ⟨by rw [h1.1], h1.2⟩
theorem Rk.at {w : World} {g : Nat} (n : Nat) (f : Nat → Int) (h : Fl w g (n * 64) f) : Rk (w.alloc (.cells #[.slice (some ⟨g, 0, none⟩) n n, .int .i64 (-1), .bool false, .int .i64 0, .int .i64 0] 37)) w.heap.size g ⟨n, f, false, 0, false, 0, 0⟩ := by
  have hlt := h.lt
  refine ⟨by simp, by omega, ?_, ?_, ?_, ?_, ?_, ?_, ?_, ?_, ?_, h.below ((Below.refl _ _).alloc (Nat.le_refl _) _) h.lt⟩
  all_goals first | (rw [World.cell?_alloc_at _ _ _ _ rfl]; rfl) | simp
theorem wpList_copy_u8 {ops : Array Oper} {rest : List Oper} {o : Oper} {a : Act} {w : World} {Q : Exit → Act → World → Prop} (hgd : o.guard = none) (d s : Operand) (ho : o.op = .call { callee := .builtin .copy, args := #[d, s], argTypes := #[68, 68] })
    (b N dcap : Nat) (f : Nat → Int) (F : Fl w b N f) (hd : a.eval d = .slice (some ⟨b, 0, none⟩) N dcap) (p : Option Addr) (scap : Nat) (xs : List Int) (hs : a.eval s = .slice p xs.length scap) (hU : U8s w (.slice p xs.length scap) xs) (hle : xs.length ≤ N)
    (h : ∀ w', Hid (Fl w' b N (upd f 0 xs.length fun i => xs[i]?.getD 0)) → Hid (Kp w w' b b) → wpList Try.prog ops Q rest (a.put o.dst (goInt (Nat.min xs.length N))) w') : wpList Try.prog ops Q (o :: rest) a w := by
  refine wpList_copy_mid hgd d s 68 68 ho 5 (by kernel_rfl) 1 Try.info5 b 0 N dcap p xs.length scap hd hs (byts xs.length fun i => xs[i]?.getD 0) (by rw [byts_len, show Nat.min xs.length N = xs.length from Nat.min_eq_left hle, Nat.mul_one]) ?_ (by rw [byts_len]; exact F.there 0 xs.length (by omega)) (byts_one _ _) ?_
  · intro hp
    rw [byts_len] at hp
    obtain ⟨b', off, rfl, hbl, -⟩ := hU.at 0 hp
    refine ⟨_, rfl, fun j v hj => ?_⟩
    obtain ⟨hj1, rfl⟩ := byts_of hj
    obtain ⟨b'', off', he, -, hc⟩ := hU.at j hj1
    obtain ⟨rfl, rfl⟩ : b' = b'' ∧ off = off' := by simpa using he
    rw [Addr.add_mid, hc, List.getElem?_eq_getElem hj1]
    rfl
  · exact h _ (F.store 0 xs.length (by omega) _) ((Kp.refl w b b).setCells b 0 (.inl rfl) _)
theorem upd_byt {f : Nat → Int} {xs : List Int} (hf : Byt f) (hx : ∀ x ∈ xs, 0 ≤ x ∧ x < 256) : Byt (upd f 0 xs.length fun i => xs[i]?.getD 0) := by
  intro j hj
  unfold upd
  split
  · rename_i hc
    simp only [Nat.sub_zero]
    rw [List.getElem?_eq_getElem (by omega)]
    exact hx _ (List.getElem_mem _)
  · exact hf j hj

set_option maxHeartbeats 80000000 in
set_option maxRecDepth 2000000 in
theorem heads_walk (v0 v1 : Value) (xs0 xs1 : List Int) (h0 : ∀ x ∈ xs0, 0 ≤ x ∧ x < 256) (h1 : ∀ x ∈ xs1, 0 ≤ x ∧ x < 256) (y : Int) (hy0 : 0 ≤ y) (hy1 : y < 256) (q : Bool) (w : World) (hv0 : U8s w v0 xs0) (hv1 : U8s w v1 xs1) :
    Calls Try.prog 6 #[v0, v1, .int .u8 y, .bool q] w fun e w' => e = .returned (.bool true) ∧ Below w.heap.size w w' := by
  obtain ⟨a0, cap0, rfl, hm0⟩ := hv0.form
  obtain ⟨a1, cap1, rfl, hm1⟩ := hv1.form
  obtain ⟨i0, hi, hz0, hz1, hz2⟩ := Try.info3i
  have HI := Lib.hid hi
  have HZ0 := Lib.hid hz0
  have HZ1 := Lib.hid hz1
  have HZ2 := Lib.hid hz2
  have HU : Hid (Try.prog.underlying 43 = some (.slice 3)) := by show _ = _; kernel_rfl
  have HV0 := Lib.hid hv0
  have HV1 := Lib.hid hv1
  have HX0 := Lib.hid h0
  have HX1 := Lib.hid h1
  unfold maxLen at hm0 hm1
  have HA := Lib.hid (awake_any w)
  have HN := Lib.hid (fun W => new_any 90 (by decide) W)
  clear hv0 hv1 h0 h1 hi hz0 hz1 hz2
  by_cases hL0 : 64 < xs0.length
  · have hL : (64 : Int) < xs0.length := by omega
    go_enter Try.func6, Try.ntmps6
    go_wp2_with fail
    refine HA.out.mono ?_
    rintro e w1 ⟨rfl, hb⟩
    have HB1 := Lib.hid hb
    clear HA hb
    go_wp2
    go_ret
    exact ⟨rfl, HB1.out⟩
  have hL0' : ¬ ((64 : Int) < xs0.length) := by omega
  by_cases hL1 : 30 < xs1.length
  · have hL : (30 : Int) < xs1.length := by omega
    go_enter Try.func6, Try.ntmps6
    go_wp2_with fail
    refine HA.out.mono ?_
    rintro e w1 ⟨rfl, hb⟩
    have HB1 := Lib.hid hb
    clear HA hb
    go_wp2
    go_ret
    exact ⟨rfl, HB1.out⟩
  have hL1' : ¬ ((30 : Int) < xs1.length) := by omega
  go_enter Try.func6, Try.ntmps6
  go_wp2_with fail
  refine HA.out.mono ?_
  rintro e w0 ⟨rfl, hb⟩
  have HB0 := Lib.hid hb
  clear HA hb
  go_upto_if 36 with (first | (refine wpList_alloc_byts (w := w0) rfl 50 64 rfl Try.zero36 ?_; intro w1 F1 hb1 hz1; have HB1 := Lib.hid (HB0.out.trans (hb1.mono HB0.out.size)); have HV1' := Lib.hid (HV0.out.below HB1.out); have hq1 : w0.heap.size < w1.heap.size := (by omega); clear hb1 hz1) | (refine wpList_copy_u8 rfl (.tmp 33) (.tmp 34) rfl w0.heap.size 64 64 (fun _ => 0) F1.out rfl a0 cap0 xs0 rfl HV1'.out (by omega) ?_; intro w2 F2 HK2))
  have h00 := HB0.out.size
  obtain ⟨b9, hb9⟩ : ∃ b9, w0.heap.size = b9 := ⟨_, rfl⟩
  rw [hb9] at F2 HK2 hq1 h00 ⊢
  have HB2 := Lib.hid (HB1.out.trans (HK2.out.below (B := w.heap.size) (by omega) (by omega) HB1.out.size))
  obtain ⟨f0, hf0⟩ : ∃ f0 : Nat → Int, upd (fun _ => 0) 0 xs0.length (fun i => xs0[i]?.getD 0) = f0 := ⟨_, rfl⟩
  have HBy0 : Hid (Byt f0) := by rw [← hf0]; exact upd_byt byt_zero HX0.out
  rw [hf0] at F2
  have h12 := HK2.out.size
  clear hb9 HB0 HB1 HV1' hf0 HK2 F1
  go_cut [10, 12] (fun _ _ wc => ∃ f, Byt f ∧ Fl wc b9 64 f ∧ Below w.heap.size w wc ∧ b9 < wc.heap.size)
  case first =>
    cases q
    · go_wp2_with fail
      go_meet
      case rel => exact ⟨_, HBy0.out, F2.out, HB2.out, by omega⟩
    · go_wp2_with fail
      go_loopw [10, 12, 39] (fun v _ i wr => ∃ (k : Nat) (ys : List Nat), k ≤ xs1.length ∧ i = .int .i64 k ∧ ys.length = k ∧ (∀ t ∈ ys, t < 65536) ∧ wr.ownsRow w2.heap.size 3 1 v k (ys.map fun (x : Nat) => Value.int .i64 (x : Int)) ∧ Below w2.heap.size w2 wr) (fun _ _ i _ => xs1.length - (Go.RowKit.intOf i).toNat)
      case atStart => exact ⟨0, [], by omega, rfl, rfl, by simp, by simpa using World.ownsRow_nil w2 w2.heap.size 3 1, Below.refl _ _⟩
      case round =>
        obtain ⟨k, ys, hk, rfl, hyl, hyt, hown, hBr⟩ := hrel
        have HYL := Lib.hid hyl
        have HYT := Lib.hid hyt
        have HOw := Lib.hid hown
        have HBr := Lib.hid hBr
        have hzr := hBr.size
        clear hyl hyt hown hBr
        have hk0 : (0 : Int) ≤ k := by omega
        obtain ⟨wX, rfl⟩ : ∃ x, x = wr := ⟨wr, rfl⟩
        by_cases hlt : k < xs1.length
        · have hkk : (k : Int) < xs1.length := by omega
          obtain ⟨b, off, rfl, hbl, hbc⟩ := HV1.out.at k hlt
          have ec := ((HB2.out.trans (HBr.out.mono HB2.out.size)).cell (p := ⟨b, off + k, none⟩) hbl).trans hbc
          have hx := HX1.out xs1[k] (List.getElem_mem hlt)
          clear hbc
          generalize xs1[k] = x at *
          obtain ⟨hxx0, hxx1⟩ := hx
          obtain ⟨t, ht⟩ := Int.eq_ofNat_of_zero_le (show 0 ≤ x % 100 by omega)
          obtain ⟨z, hz⟩ : ∃ z, x % 100 = z := ⟨_, rfl⟩
          have HZT : Hid ((t : Int) = z) := by show (t : Int) = z; omega
          have ht65 : t < 65536 := by omega
          have hz00 : 0 ≤ z := by omega
          have hz99 : z < 100 := by omega
          clear ht
          go_wp2_with (at_builtin; refine wpList_append_own _ rfl _ _ 43 rfl w2.heap.size 3 i0 (.int .i64 0) 1 8 HU.out HI.out HZ0.out HZ1.out HZ2.out rfl (by decide) _ _ _ rfl (HOw.out.alloc _) ⟨wX.heap.size, 0, none⟩ 1 1 [Value.int .i64 z] rfl rfl (cell_one_new _ _ _) (by simp [Value.oneCell']) (by unfold maxLen; omega) (by omega) (by simp; omega) ?_; intro v' w3 hown' hg3 hnil3; have HOW3 := Lib.hid hown'; have HG3 := Lib.hid hg3; clear hown' hg3 hnil3)
          have HB3 : Hid (Below w2.heap.size w2 w3) := (HBr.out.alloc hzr _).grown HG3.out (by simp; omega) (fun j hj => ownsRow_block HOw.out j hj)
          clear hz
          go_roundw
          case rel =>
            refine ⟨k + 1, ys ++ [t], by omega, by go_num, by rw [List.length_append, HYL.out]; rfl, fun u hu => ?_, ?_, HB3.out⟩
            · rcases List.mem_append.1 hu with hu | hu
              · exact HYT.out u hu
              · have : u = t := by simpa using hu
                omega
            · rw [List.map_append]
              show w3.ownsRow _ _ _ _ _ (_ ++ [Value.int .i64 (t : Int)])
              rw [HZT.out]
              exact HOW3.out
          case measure => simp [Go.RowKit.intOf]; omega
        · obtain rfl : k = xs1.length := by omega
          have how := HOw.out
          rw [← HYL.out] at how
          obtain ⟨hNs, hOw⟩ := ownsRow_ns how
          have HNs := Lib.hid hNs
          have hy30 : ys.length ≤ 30 := by rw [HYL.out]; omega
          have HRH := Lib.hid (rhead_any _ ys hy30 HYT.out wX HNs.out)
          have HFX := Lib.hid (F2.out.below HBr.out F2.out.lt)
          have HBX := Lib.hid (HB2.out.trans (HBr.out.mono HB2.out.size))
          clear how hNs hOw
          go_wp2_with fail
          refine HRH.out.mono ?_
          rintro e w3 ⟨rfl, hb⟩
          have HF3 := Lib.hid (HFX.out.below hb HFX.out.lt)
          have HB3 := Lib.hid (HBX.out.trans (hb.mono HBX.out.size))
          have h3 := hb.size
          clear hb HFX HBX HRH
          go_upto_region 15 with (refine wpList_store_blk rfl (.tmp 9) (.tmp 51) rfl b9 0 64 f0 (headF ys) HF3.out (by omega) rfl rfl ?_; intro w4 F4 HK4)
          have HF4 := Lib.hid (F4.out.congr (f' := headF ys) (fun j hj => by unfold upd; rw [if_pos (by omega), Nat.sub_zero]))
          have HB4 := Lib.hid (HB3.out.trans (HK4.out.below (B := w.heap.size) (by omega) (by omega) HB3.out.size))
          have h34 := HK4.out.size
          clear F4 HK4 HF3 HB3
          by_cases hyc : 0 < y
          · have c2 := HF4.out.c 2 (by decide)
            have z2 := HF4.out.z 2 (by decide)
            obtain ⟨yy, hyy⟩ : ∃ yy, y % 34 = yy := ⟨_, rfl⟩
            have hyy0 : 0 ≤ yy := by omega
            have hyy1 : yy < 256 := by omega
            go_wp2_with fail
            go_meet
            case rel =>
              refine ⟨_, fun j hj => ?_, HF4.out.set 2 (by decide) yy, HB4.out.setCell (by show w.heap.size ≤ b9; omega) _, by simp [World.setCell]; omega⟩
              show 0 ≤ (if j = 2 then yy else headF ys j) ∧ (if j = 2 then yy else headF ys j) < 256
              split
              · exact ⟨hyy0, hyy1⟩
              · exact headF_byt ys j hj
          · go_wp2_with fail
            go_meet
            case rel => exact ⟨_, headF_byt ys, HF4.out, HB4.out, by omega⟩
  case rest =>
    obtain ⟨F, hFb, hF, hB, hb9c⟩ := hcut
    obtain ⟨wA, rfl⟩ : ∃ x, x = wc := ⟨wc, rfl⟩
    have HFb := Lib.hid hFb
    have HF := Lib.hid hF
    have HB := Lib.hid hB
    clear hFb hF hB F2 HB2 HBy0
    go_wp2_with fail
    refine (HN.out wA).mono ?_
    rintro e w1 ⟨d, g, rfl, hd, hg, hD, hb⟩
    have HD1 := Lib.hid hD
    have HF1 := Lib.hid (HF.out.below hb HF.out.lt)
    have HB1 := Lib.hid (HB.out.trans (hb.mono HB.out.size))
    have h01 := HB.out.size
    have hdl := hD.lt
    have hgl := hD.fl.lt
    clear hD hb HN HB HF
    have HS0 : Hid (Sane (DS.new 90) 90 0) := Sane.new 90
    go_wp2_with fail
    go_loopw [15, 61] (fun _ i wr => ∃ (k : Nat) (s : DS), k ≤ 40 ∧ i = .int .i64 k ∧ Sane s 90 k ∧ Awk s ∧ s.lf = 0 ∧ Dk wr d g s ∧ Fl wr b9 64 F ∧ Below w.heap.size w wr ∧ w1.heap.size ≤ wr.heap.size) (fun _ i _ => 40 - (Go.RowKit.intOf i).toNat)
    case atStart => exact ⟨0, DS.new 90, by omega, rfl, HS0.out, ⟨rfl, rfl⟩, rfl, HD1.out, HF1.out, HB1.out, Nat.le_refl _⟩
    case round =>
      clear HS0 HD1 HF1 HB1
      obtain ⟨k, s, hk, rfl, hS, hAw, hlf, hD, hF, hB, hz⟩ := hrel
      have HS := Lib.hid hS
      have HAw := Lib.hid hAw
      have HLf := Lib.hid hlf
      have HD := Lib.hid hD
      have HF := Lib.hid hF
      have HB := Lib.hid hB
      clear hS hAw hlf hD hF hB
      have hk0 : (0 : Int) ≤ k := by omega
      obtain ⟨wX, rfl⟩ : ∃ x, x = wr := ⟨wr, rfl⟩
      by_cases hlt : k < 40
      · have hkk : (k : Int) < 40 := by omega
        obtain ⟨B, hBq⟩ : ∃ B, blk (k : Int) = B := ⟨_, rfl⟩
        have HBy : Hid (Byt B) := by rw [← hBq]; exact blk_byt _
        have HBk : Hid (∀ W, Calls Try.prog 25 #[.int .u8 (k : Int)] W fun e w' => e = .returned (.agg (byts 64 B).toArray) ∧ Below W.heap.size W w') := fun W => by
          rw [← hBq]; exact block_any _ hk0 (by omega) W
        have hwr := write_awk HAw.out (3 + k) B
        have HWr : Hid (∀ W, Dk W d g s → Calls Try.prog 32 #[.pointer (some ⟨d, 0, none⟩), .int .i64 (3 + (k : Int)), .agg (byts 64 B).toArray] W fun e w' => e = .returned (.int .i64 0) ∧ Dk w' d g { s with f := upd s.f ((3 + k) * 64) 64 B, wr := s.wr + 1 } ∧ Kp W w' d g) := fun W h => by
          have h1 := write_any d g s B (3 + k) 90 k (by omega) (by decide) (by omega) HS.out W h
          rw [hwr] at h1
          rwa [show ((3 + k : Nat) : Int) = 3 + (k : Int) by omega] at h1
        have HS2 : Hid (Sane { s with f := upd s.f ((3 + k) * 64) 64 B, wr := s.wr + 1 } 90 (k + 1)) := by
          have h1 := HS.out.write (3 + k) B HBy.out
          rwa [hwr] at h1
        clear hBq hwr
        go_wp2_with fail
        refine (HBk.out wX).mono ?_
        rintro e w6 ⟨rfl, hb⟩
        have HD6 := Lib.hid (HD.out.keep hb)
        have HF6 := Lib.hid (HF.out.below hb HF.out.lt)
        have HB6 := Lib.hid (HB.out.trans (hb.mono HB.out.size))
        have h56 := hb.size
        clear hb HD HF HB HBk
        go_wp2_with fail
        refine (HWr.out w6 HD6.out).mono ?_
        rintro e w7 ⟨rfl, hD7, hk7⟩
        have HD7 := Lib.hid hD7
        have HF7 := Lib.hid (HF6.out.kp hk7 (by omega) (by omega))
        have HB7 := Lib.hid (HB6.out.trans (hk7.below (B := w.heap.size) (by omega) (by omega) HB6.out.size))
        have h67 := hk7.size
        clear hD7 hk7 HD6 HF6 HB6 HWr
        go_wp2_with fail
        go_roundw
        case rel => exact ⟨k + 1, _, by omega, by go_num, HS2.out, HAw.out, HLf.out, HD7.out, HF7.out, HB7.out, by omega⟩
        case measure => simp [Go.RowKit.intOf]; omega
      · obtain rfl : k = 40 := by omega
        have hwr := write_awk HAw.out 2 F
        obtain ⟨s2, hs2⟩ : ∃ s2 : DS, ({ s with f := upd s.f (2 * 64) 64 F, wr := s.wr + 1 } : DS) = s2 := ⟨_, rfl⟩
        rw [hs2] at hwr
        have HWr : Hid (∀ W, Dk W d g s → Calls Try.prog 32 #[.pointer (some ⟨d, 0, none⟩), .int .i64 2, .agg (byts 64 F).toArray] W fun e w' => e = .returned (.int .i64 0) ∧ Dk w' d g s2 ∧ Kp W w' d g) := fun W h => by
          have h1 := write_any d g s F 2 90 40 (by decide) (by decide) (by decide) HS.out W h
          rw [hwr] at h1
          exact h1
        have HS2 : Hid (Sane s2 90 41) := by
          have h1 := HS.out.write 2 F HFb.out
          rwa [hwr] at h1
        have HE2 : Hid (Eqv s2 ⟨90, s2.f, false, 0, false, 0, 0⟩) := by
          refine ⟨HS2.out.n, rfl, ?_, ?_, ?_⟩
          · rw [← hs2]; exact HAw.out.1
          · rw [← hs2]; exact HLf.out
          · rw [← hs2]; exact HAw.out.2
        have HR2 : Hid (Sane ⟨90, s2.f, false, 0, false, 0, 0⟩ 90 0) := ⟨rfl, Int.le_refl _, Int.le_refl _, Int.le_refl _, Int.le_refl _, (fun h => by cases h), (by show (0 : Int) < 9223372036854775808; decide), HS2.out.byt⟩
        clear hwr hs2
        go_wp2_with (refine wpList_load_mid rfl 50 (.tmp 9) rfl b9 0 rfl (byts 64 F) (.array 64 5) HF.out.range0 Try.arr36 rfl (size36 _) ?_)
        refine (HWr.out wX HD.out).mono ?_
        rintro e w7 ⟨rfl, hD7, hk7⟩
        have HD7 := Lib.hid hD7
        have HB7 := Lib.hid (HB.out.trans (hk7.below (B := w.heap.size) (by omega) (by omega) HB.out.size))
        have h67 := hk7.size
        clear hD7 hk7 HD HF HB HWr
        go_wp2_with fail
        refine (open_in d g s2 2 (by rw [HS2.out.n]; decide) (by rw [HS2.out.n]; decide) w7 HD7.out).mono ?_
        rintro e w8 ⟨l, rfl, hl, hL, hb⟩
        have HL8 := Lib.hid hL
        have HD8 := Lib.hid (HD7.out.keep hb)
        have HB8 := Lib.hid (HB7.out.trans (hb.mono HB7.out.size))
        have h78 := hb.size
        have hll := hL.lt
        clear hL hb HD7 HB7
        go_wp2_with fail
        refine (image_at d g 90 41 s2 (by decide) HS2.out w8 HD8.out).mono ?_
        rintro e w9 ⟨rfl, hI, hb⟩
        have HI9 := Lib.hid hI
        have hil := hI.lt
        have HD9 := Lib.hid (HD8.out.keep hb)
        have HL9 := Lib.hid (HL8.out.keep hb)
        have HB9 := Lib.hid (HB8.out.trans (hb.mono HB8.out.size))
        have h89 := hb.size
        obtain ⟨bh, hbh⟩ : ∃ bh, w8.heap.size = bh := ⟨_, rfl⟩
        rw [hbh] at HI9 hil hll h78 h89 ⊢
        clear hI hb HD8 HL8 HB8 hbh
        go_upto_region 26 with fail
        have HR1 := Lib.hid (Rk.at 90 s2.f HI9.out)
        have HK1 := Lib.hid ((Below.refl w9.heap.size w9).alloc (Nat.le_refl _) (.cells #[.slice (some ⟨bh, 0, none⟩) 90 90, .int .i64 (-1), .bool false, .int .i64 0, .int .i64 0] 37))
        obtain ⟨wP, hwP⟩ : ∃ x, w9.alloc (.cells #[.slice (some ⟨bh, 0, none⟩) 90 90, .int .i64 (-1), .bool false, .int .i64 0, .int .i64 0] 37) = x := ⟨_, rfl⟩
        have hPs : w9.heap.size + 1 = wP.heap.size := by rw [← hwP]; simp
        rw [hwP] at HR1 HK1 ⊢
        have hK2 : Below wP.heap.size wP (wP.alloc (.cells #[.pointer (some ⟨w9.heap.size, 0, none⟩), .int .i64 2] 39)) := (Below.refl _ _).alloc (Nat.le_refl _) _
        have hL2 : Lg (wP.alloc (.cells #[.pointer (some ⟨w9.heap.size, 0, none⟩), .int .i64 2] 39)) wP.heap.size w9.heap.size 2 := ⟨by simp, by rw [World.cell?_alloc_at _ _ _ _ rfl]; rfl, by rw [World.cell?_alloc_at _ _ _ _ rfl]; rfl⟩
        obtain ⟨wQ, hwQ⟩ : ∃ x, wP.alloc (.cells #[.pointer (some ⟨w9.heap.size, 0, none⟩), .int .i64 2] 39) = x := ⟨_, rfl⟩
        have hQs : wP.heap.size + 1 = wQ.heap.size := by rw [← hwQ]; simp
        try rw [hPs]
        rw [hwQ] at hK2 hL2 ⊢
        have hPl : w9.heap.size < wP.heap.size := by omega
        have hQl : wP.heap.size < wQ.heap.size := by omega
        have HRL := Lib.hid hL2
        have HRk := Lib.hid (HR1.out.keep hK2)
        have HDQ := Lib.hid ((HD9.out.keep HK1.out).keep hK2)
        have HLQ := Lib.hid ((HL9.out.keep HK1.out).keep hK2)
        have HBQ := Lib.hid ((HB9.out.trans (HK1.out.mono HB9.out.size)).trans (hK2.mono (by have := HB9.out.size; omega)))
        have hd9 := HD9.out.lt
        have hg9 := HD9.out.fl.lt
        have hl9 := HL9.out.lt
        obtain ⟨rm, hrm⟩ : ∃ x, w9.heap.size = x := ⟨_, rfl⟩
        obtain ⟨rl, hrl⟩ : ∃ x, wP.heap.size = x := ⟨_, rfl⟩
        rw [hrm] at HRk HRL hPl hd9 hg9 hl9 hil ⊢
        rw [hrl] at HRL hPl hQl ⊢
        clear hwP hwQ hPs hQs hrm hrl hK2 hL2 HR1 HK1 HI9 HD9 HL9 HB9 h89
        go_wp2_with fail
        refine (recover_any l d g 2 90 41 s2 (by decide) (by decide) (by decide) HS2.out wQ HLQ.out HDQ.out (by omega) (by omega)).mono ?_
        have hEq := HE2.out.recover 2
        have HSa := Lib.hid (Sane.recover (fi := 2) HS2.out)
        have HSb := Lib.hid (Sane.recover (fi := 2) HR2.out)
        have HRr := Lib.hid (fun W (h1 : Lg W rl rm 2) (h2 : Rk W rm bh ⟨90, s2.f, false, 0, false, 0, 0⟩) => rrecover_any rl rm bh 2 90 0 _ (by decide) (by decide) (by decide) HR2.out W h1 h2 (by omega) (by omega))
        obtain ⟨RA, hRA⟩ : ∃ RA, recover 2 s2 = RA := ⟨_, rfl⟩
        obtain ⟨RB, hRB⟩ : ∃ RB, recover 2 ⟨90, s2.f, false, 0, false, 0, 0⟩ = RB := ⟨_, rfl⟩
        rw [hRA, hRB] at hEq
        rw [hRA] at HSa ⊢
        rw [hRB] at HSb HRr
        clear hRA hRB
        obtain ⟨⟨r1, r2⟩, s4⟩ := RA
        obtain ⟨⟨r1', r2'⟩, s4'⟩ := RB
        obtain ⟨he1, he2⟩ := hEq
        simp only [Prod.mk.injEq] at he1
        obtain ⟨rfl, rfl⟩ := he1
        have HE4 := Lib.hid he2
        clear he2
        rintro e wR ⟨rfl, hDR, hkR⟩
        have HDR := Lib.hid hDR
        have HRLR := Lib.hid (HRL.out.kp hkR (by omega) (by omega))
        have HRkR := Lib.hid (HRk.out.kp hkR (by omega) (by omega) (by omega) (by omega))
        have HBR := Lib.hid (HBQ.out.trans (hkR.below (B := w.heap.size) (by omega) (by omega) HBQ.out.size))
        have hqr := hkR.size
        clear hDR hkR HDQ HLQ HRL HRk HBQ
        go_wp2_with fail
        refine (HRr.out wR HRLR.out HRkR.out).mono ?_
        rintro e wS ⟨rfl, hRS, hkS⟩
        have HRS := Lib.hid hRS
        have HDS := Lib.hid (HDR.out.kp hkS (by omega) (by omega) (by omega) (by omega))
        have HRLS := Lib.hid (HRLR.out.kp hkS (by omega) (by omega))
        have HBS := Lib.hid (HBR.out.trans (hkS.below (B := w.heap.size) (by omega) (by omega) HBR.out.size))
        have hrs := hkS.size
        have hsn : s4'.n = 90 := HSb.out.n
        have HSn := Lib.hid hsn
        clear hRS hkS HDR HRLR HRkR HBR hsn
        go_upto_region 28 with fail
        refine wp_region_held (S := fun W => Lg W rl rm 2 ∧ Rk W rm bh s4' ∧ Below wS.heap.size wS W) (by kernel_rfl) ?_
        change wpAnyH _ _ _ _ _ _ _ _ (World.drew _)
        have hS0 : Lg wS.drew rl rm 2 ∧ Rk wS.drew rm bh s4' ∧ Below wS.heap.size wS wS.drew := ⟨HRLS.out.keep (Below.refl _ _).drew, HRS.out.keep (Below.refl _ _).drew, (Below.refl _ _).drew⟩
        refine wpAnyH_take (i := 0) (v := ?_) rfl (by kernel_rfl) (by kernel_rfl) (by kernel_rfl) (fun _ _ _ h => h) (Or.inl ⟨by rfl, ?_⟩) hS0 ?_
        rotate_left 1
        · intro W hW
          go_simp
          try with_reducible rfl
        simp only [Act.put, List.getElem_toArray, List.getElem_cons_zero, List.getElem_cons_succ, List.setIfInBounds_toArray, List.set_cons_zero, List.set_cons_succ]
        refine wpAnyH_take (i := 1) (v := ?_) rfl (by kernel_rfl) (by kernel_rfl) (by kernel_rfl) (fun _ _ _ h => h) (Or.inl ⟨by rfl, ?_⟩) hS0 ?_
        rotate_left 1
        · intro W hW
          go_simp
          try with_reducible rfl
        simp only [Act.put, List.getElem_toArray, List.getElem_cons_zero, List.getElem_cons_succ, List.setIfInBounds_toArray, List.set_cons_zero, List.set_cons_succ]
        refine wpAnyH_take (i := 2) (v := ?_) rfl (by kernel_rfl) (by kernel_rfl) (by kernel_rfl) (fun _ _ _ h => h) (Or.inl ⟨by rfl, ?_⟩) hS0 ?_
        rotate_left 1
        · intro W hW
          go_simp
          try with_reducible rfl
        simp only [Act.put, List.getElem_toArray, List.getElem_cons_zero, List.getElem_cons_succ, List.setIfInBounds_toArray, List.set_cons_zero, List.set_cons_succ]
        refine wpAnyH_take (i := 3) (v := ?_) rfl (by kernel_rfl) (by kernel_rfl) (by kernel_rfl) (fun _ _ _ h => h) (Or.inl ⟨by rfl, ?_⟩) hS0 ?_
        rotate_left 1
        · intro W hW
          go_simp
          try with_reducible rfl
        simp only [Act.put, List.getElem_toArray, List.getElem_cons_zero, List.getElem_cons_succ, List.setIfInBounds_toArray, List.set_cons_zero, List.set_cons_succ]
        refine wpAnyH_take (i := 4) (v := ?_) rfl (by kernel_rfl) (by kernel_rfl) (by kernel_rfl) (fun _ _ _ h => h) (Or.inl ⟨by rfl, ?_⟩) hS0 ?_
        rotate_left 1
        · intro W hW
          go_simp
          try with_reducible rfl
        simp only [Act.put, List.getElem_toArray, List.getElem_cons_zero, List.getElem_cons_succ, List.setIfInBounds_toArray, List.set_cons_zero, List.set_cons_succ]
        refine wpAnyH_take (i := 5) (v := ?_) rfl (by kernel_rfl) (by kernel_rfl) (by kernel_rfl) (fun _ _ _ h => h) (Or.inl ⟨by rfl, ?_⟩) hS0 ?_
        rotate_left 1
        · intro W hW
          go_simp
          try with_reducible rfl
        simp only [Act.put, List.getElem_toArray, List.getElem_cons_zero, List.getElem_cons_succ, List.setIfInBounds_toArray, List.set_cons_zero, List.set_cons_succ]
        refine wpAnyH_take (i := 6) (v := ?_) rfl (by kernel_rfl) (by kernel_rfl) (by kernel_rfl) (fun _ _ _ h => h) (Or.inl ⟨by rfl, ?_⟩) hS0 ?_
        rotate_left 1
        · intro W hW
          go_simp
          try with_reducible rfl
        simp only [Act.put, List.getElem_toArray, List.getElem_cons_zero, List.getElem_cons_succ, List.setIfInBounds_toArray, List.set_cons_zero, List.set_cons_succ]
        refine wpAnyH_take (i := 7) (v := ?_) rfl (by kernel_rfl) (by kernel_rfl) (by kernel_rfl) (fun _ _ _ h => h) (Or.inl ⟨by rfl, ?_⟩) hS0 ?_
        rotate_left 1
        · intro W hW
          go_simp
          try with_reducible rfl
        simp only [Act.put, List.getElem_toArray, List.getElem_cons_zero, List.getElem_cons_succ, List.setIfInBounds_toArray, List.set_cons_zero, List.set_cons_succ]
        refine wpAnyH_take (i := 8) (v := ?_) rfl (by kernel_rfl) (by kernel_rfl) (by kernel_rfl) (fun _ _ _ h => h) (Or.inl ⟨by rfl, ?_⟩) hS0 ?_
        rotate_left 1
        · intro W hW
          go_simp
          try with_reducible rfl
        simp only [Act.put, List.getElem_toArray, List.getElem_cons_zero, List.getElem_cons_succ, List.setIfInBounds_toArray, List.set_cons_zero, List.set_cons_succ]
        refine wpAnyH_take (i := 9) (v := ?_) rfl (by kernel_rfl) (by kernel_rfl) (by kernel_rfl) (fun _ _ _ h => h) (Or.inl ⟨by rfl, ?_⟩) hS0 ?_
        rotate_left 1
        · intro W hW
          go_simp
          try with_reducible rfl
        simp only [Act.put, List.getElem_toArray, List.getElem_cons_zero, List.getElem_cons_succ, List.setIfInBounds_toArray, List.set_cons_zero, List.set_cons_succ]
        refine wpAnyH_take (i := 10) (v := ?_) rfl (by kernel_rfl) (by kernel_rfl) (by kernel_rfl) (fun _ _ _ h => h) (Or.inl ⟨by rfl, ?_⟩) hS0 ?_
        rotate_left 1
        · intro W hW
          go_simp
          try with_reducible rfl
        simp only [Act.put, List.getElem_toArray, List.getElem_cons_zero, List.getElem_cons_succ, List.setIfInBounds_toArray, List.set_cons_zero, List.set_cons_succ]
        refine wpAnyH_take (i := 11) (v := ?_) rfl (by kernel_rfl) (by kernel_rfl) (by kernel_rfl) (fun _ _ _ h => h) (Or.inl ⟨by rfl, ?_⟩) hS0 ?_
        rotate_left 1
        · intro W hW
          go_simp
          try with_reducible rfl
        simp only [Act.put, List.getElem_toArray, List.getElem_cons_zero, List.getElem_cons_succ, List.setIfInBounds_toArray, List.set_cons_zero, List.set_cons_succ]
        refine wpAnyH_take (i := 12) (v := ?_) rfl (by kernel_rfl) (by kernel_rfl) (by kernel_rfl) (fun _ _ _ h => h) (Or.inl ⟨by rfl, ?_⟩) hS0 ?_
        rotate_left 1
        · intro W hW
          go_simp
          try with_reducible rfl
        simp only [Act.put, List.getElem_toArray, List.getElem_cons_zero, List.getElem_cons_succ, List.setIfInBounds_toArray, List.set_cons_zero, List.set_cons_succ]
        refine wpAnyH_take (i := 13) (v := ?_) rfl (by kernel_rfl) (by kernel_rfl) (by kernel_rfl) (fun _ _ _ h => h) (Or.inl ⟨by rfl, ?_⟩) hS0 ?_
        rotate_left 1
        · intro W hW
          go_simp
          try with_reducible rfl
        simp only [Act.put, List.getElem_toArray, List.getElem_cons_zero, List.getElem_cons_succ, List.setIfInBounds_toArray, List.set_cons_zero, List.set_cons_succ]
        refine wpAnyH_take (i := 15) (v := ?_) rfl (by kernel_rfl) (by kernel_rfl) (by kernel_rfl) (fun _ _ _ h => h) (Or.inl ⟨by rfl, ?_⟩) hS0 ?_
        rotate_left 1
        · intro W hW
          go_simp
          try with_reducible rfl
        simp only [Act.put, List.getElem_toArray, List.getElem_cons_zero, List.getElem_cons_succ, List.setIfInBounds_toArray, List.set_cons_zero, List.set_cons_succ]
        refine wpAnyH_take (i := 16) (v := ?_) rfl (by kernel_rfl) (by kernel_rfl) (by kernel_rfl) (fun _ _ _ h => h) (Or.inl ⟨by rfl, ?_⟩) hS0 ?_
        rotate_left 1
        · intro W hW
          go_simp
          try with_reducible rfl
        simp only [Act.put, List.getElem_toArray, List.getElem_cons_zero, List.getElem_cons_succ, List.setIfInBounds_toArray, List.set_cons_zero, List.set_cons_succ]
        refine wpAnyH_take (i := 17) (v := ?_) rfl (by kernel_rfl) (by kernel_rfl) (by kernel_rfl) (fun _ _ _ h => h) (Or.inl ⟨by rfl, ?_⟩) hS0 ?_
        rotate_left 1
        · intro W hW
          go_simp
          try with_reducible rfl
        simp only [Act.put, List.getElem_toArray, List.getElem_cons_zero, List.getElem_cons_succ, List.setIfInBounds_toArray, List.set_cons_zero, List.set_cons_succ]
        refine wpAnyH_take (i := 18) (v := ?_) rfl (by kernel_rfl) (by kernel_rfl) (by kernel_rfl) (fun _ _ _ h => h) (Or.inl ⟨by rfl, ?_⟩) hS0 ?_
        rotate_left 1
        · intro W hW
          have c0 := hW.1.c0
          go_simp
          try with_reducible rfl
        simp only [Act.put, List.getElem_toArray, List.getElem_cons_zero, List.getElem_cons_succ, List.setIfInBounds_toArray, List.set_cons_zero, List.set_cons_succ]
        refine wpAnyH_take (i := 19) (v := ?_) rfl (by kernel_rfl) (by kernel_rfl) (by kernel_rfl) (fun _ _ _ h => h) (Or.inl ⟨by rfl, ?_⟩) hS0 ?_
        rotate_left 1
        · intro W hW
          go_simp
          try with_reducible rfl
        simp only [Act.put, List.getElem_toArray, List.getElem_cons_zero, List.getElem_cons_succ, List.setIfInBounds_toArray, List.set_cons_zero, List.set_cons_succ]
        refine wpAnyH_take (i := 20) (v := ?_) rfl (by kernel_rfl) (by kernel_rfl) (by kernel_rfl) (fun _ _ _ h => h) (Or.inl ⟨by rfl, ?_⟩) hS0 ?_
        rotate_left 1
        · intro W hW
          go_simp
          try with_reducible rfl
        simp only [Act.put, List.getElem_toArray, List.getElem_cons_zero, List.getElem_cons_succ, List.setIfInBounds_toArray, List.set_cons_zero, List.set_cons_succ]
        refine wpAnyH_take (i := 21) (v := ?_) rfl (by kernel_rfl) (by kernel_rfl) (by kernel_rfl) (fun _ _ _ h => h) (Or.inl ⟨by rfl, ?_⟩) hS0 ?_
        rotate_left 1
        · intro W hW
          have c0 := hW.2.1.c0
          rw [HSn.out] at c0
          go_simp
          try with_reducible rfl
        simp only [Act.put, List.getElem_toArray, List.getElem_cons_zero, List.getElem_cons_succ, List.setIfInBounds_toArray, List.set_cons_zero, List.set_cons_succ]
        refine wpAnyH_ready (rs := [14]) (by kernel_rfl) (by simp) (AllReadyH.cons rfl (fun KK hKK => ?_) AllReadyH.nil)
        go_simp
        refine (image_at d g 90 _ s4 (by decide) HSa.out _ (HDS.out.keep (Below.refl _ _).drew)).mono ?_
        rintro e wT ⟨rfl, hIT, hb⟩
        have HIT := Lib.hid hIT
        have hS1 := hS0
        clear hS0
        have hS0 : Lg wT rl rm 2 ∧ Rk wT rm bh s4' ∧ Below wS.heap.size wS wT := ⟨hS1.1.keep hb, hS1.2.1.keep hb, hS1.2.2.trans (hb.mono (Nat.le_refl _))⟩
        refine hKK _ _ hS0 ?_
        intro _
        clear hKK KK hb hS1 hIT
        refine wpAnyH_ready (rs := [22]) (by kernel_rfl) (by simp) (AllReadyH.cons rfl (fun KK hKK => ?_) AllReadyH.nil)
        go_simp
        have hfl := hS0.2.1.fl
        rw [HSn.out] at hfl
        refine (same_any _ _ 90 90 s4.f s4'.f (by decide) (by decide) wT (Bs.of_fl HIT.out 90) (Bs.of_fl hfl 90)).mono ?_
        rintro e wU ⟨rfl, hb⟩
        rw [show (decide (90 = 90) && eqb (90 * 64) s4.f s4'.f) = true by rw [HE4.out.f, eqb_same fun _ _ => rfl]; rfl]
        have hS1 := hS0
        clear hS0 hfl
        have hS0 : Lg wU rl rm 2 ∧ Rk wU rm bh s4' ∧ Below wS.heap.size wS wU := ⟨hS1.1.keep hb, hS1.2.1.keep hb, hS1.2.2.trans (hb.mono hS1.2.2.size)⟩
        refine hKK _ _ hS0 ?_
        intro _
        have HEnd := Lib.hid hS0.2.2
        clear hKK KK hb hS1
        refine wpAnyH_take (i := 23) (v := ?_) rfl (by kernel_rfl) (by kernel_rfl) (by kernel_rfl) (fun _ _ _ h => h) (Or.inl ⟨by rfl, ?_⟩) hS0 ?_
        rotate_left 1
        · intro W hW
          go_simp
          try with_reducible rfl
        simp only [Act.put, List.getElem_toArray, List.getElem_cons_zero, List.getElem_cons_succ, List.setIfInBounds_toArray, List.set_cons_zero, List.set_cons_succ]
        refine wpAnyH_take (i := 24) (v := ?_) rfl (by kernel_rfl) (by kernel_rfl) (by kernel_rfl) (fun _ _ _ h => h) (Or.inl ⟨by rfl, ?_⟩) hS0 ?_
        rotate_left 1
        · intro W hW
          go_simp
          try with_reducible rfl
        simp only [Act.put, List.getElem_toArray, List.getElem_cons_zero, List.getElem_cons_succ, List.setIfInBounds_toArray, List.set_cons_zero, List.set_cons_succ]
        refine wpAnyH_done (by kernel_rfl) ?_ _
        clear hS0
        go_wp2_with fail
        go_ret
        exact ⟨rfl, HBS.out.trans (HEnd.out.mono HBS.out.size)⟩
end Go.Proofs.Ytlbfdmiihnlljaa
