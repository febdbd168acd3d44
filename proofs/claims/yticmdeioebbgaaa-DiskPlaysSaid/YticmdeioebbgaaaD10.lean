import Derived.Test.YticmdeioebbgaaaD8
import Derived.Laws.AppendOwnNone
/- DiskOwn: the walk. -/
namespace Go.Proofs.Yticmdeioebbgaaa
set_option linter.unusedSimpArgs false
set_option linter.unusedVariables false
open Go.RowKit

/-- a slice of blocks that lies in another block than b -/
def Bsx (w : World) (v : Value) (n : Nat) (f : Nat → Int) (b : Nat) : Prop := ∃ p c, v = .slice p n c ∧ (0 < n → ∃ h, p = some ⟨h, 0, none⟩ ∧ h < w.heap.size ∧ h ≠ b ∧ ∀ j, j < n * 64 → w.cell? ⟨h, j, none⟩ = some (.int .u8 (f j)))
theorem Bsx.bs {w : World} {v : Value} {n : Nat} {f : Nat → Int} {b : Nat} (h : Bsx w v n f b) : Bs w v n f := by
  obtain ⟨p, c, hv, hp⟩ := h
  refine ⟨p, c, hv, fun h0 => ?_⟩
  obtain ⟨h, h1, h2, _, h4⟩ := hp h0
  exact ⟨h, h1, h2, h4⟩
theorem Bsx.kp {w w' : World} {v : Value} {n : Nat} {f : Nat → Int} {b : Nat} (h : Bsx w v n f b) (hk : Kp w w' b b) : Bsx w' v n f b := by
  obtain ⟨p, c, hv, hp⟩ := h
  refine ⟨p, c, hv, fun h0 => ?_⟩
  obtain ⟨h, h1, h2, h3, h4⟩ := hp h0
  exact ⟨h, h1, Nat.lt_of_lt_of_le h2 hk.size, h3, fun j hj => (hk.cell (p := ⟨h, j, none⟩) h2 h3 h3).trans (h4 j hj)⟩
theorem Bs.far {w : World} {v : Value} {n : Nat} {f : Nat → Int} (h : Bs w v n f) (b : Nat) (hb : w.heap.size ≤ b) : Bsx w v n f b := by
  obtain ⟨p, c, hv, hp⟩ := h
  refine ⟨p, c, hv, fun h0 => ?_⟩
  obtain ⟨h, h1, h2, h4⟩ := hp h0
  exact ⟨h, h1, h2, by omega, h4⟩
/-- a row of one's own that has blocks: where it lies, and that it may be written -/
theorem ownsRow_fl {w : World} {base : Nat} {v : Value} {n : Nat} {f : Nat → Int} (h : w.ownsRow base 36 64 v n (byts (n * 64) f)) (h0 : 0 < n) : ∃ b c, v = .slice (some ⟨b, 0, none⟩) n c ∧ base ≤ b ∧ Fl w b (n * 64) f := by
  obtain ⟨hl, ⟨hv, hn⟩ | ⟨g, cap, cur, hv, hg, hh, hc, hm, hs, ht⟩⟩ := h
  · omega
  · have hlt : g < w.heap.size := by
      rcases Nat.lt_or_ge g w.heap.size with h' | h'
      · exact h'
      · rw [Array.getElem?_eq_none h'] at hh; simp at hh
    refine ⟨g, cap, hv, hg, hlt, fun j hj => ?_, fun j _ => frozen_of_row w g j cur 36 hh⟩
    have hx : (cur.toList.take (n * 64))[j]? = (byts (n * 64) f)[j]? := by rw [ht]
    rw [List.getElem?_take_of_lt hj, byts_get _ hj] at hx
    simp only [World.cell?, hh]
    simpa using hx
theorem ownsRow_bsx {w : World} {base : Nat} {v : Value} {n : Nat} {f : Nat → Int} (h : w.ownsRow base 36 64 v n (byts (n * 64) f)) (b : Nat) (hb : b < base) : Bsx w v n f b := by
  rcases Nat.eq_zero_or_pos n with h0 | h0
  · obtain ⟨p, c, hv, hp⟩ := ownsRow_bs h
    exact ⟨p, c, hv, fun h1 => by omega⟩
  · obtain ⟨g, c, hv, hg, hf⟩ := ownsRow_fl h h0
    exact ⟨_, c, hv, fun _ => ⟨g, rfl, hf.lt, by omega, hf.c⟩⟩
theorem wpList_append_bs {ops : Array Oper} {rest : List Oper} {o : Oper} {a : Act} {w : World} {Q : Exit → Act → World → Prop} (hgd : o.guard = none) (s x : Operand) (ho : o.op = .call { callee := .builtin .append, args := #[s, x], argTypes := #[29, 29] })
    (base : Nat) (v : Value) (hs : a.eval s = v) (hown : w.ownsRow base 36 64 v 0 []) (vx : Value) (hx : a.eval x = vx) (K : Nat) (f : Nat → Int) (b2 : Nat) (hB : w.ownsRow b2 36 64 vx K (byts (K * 64) f)) (hK : K ≤ 65536) (hbase : base ≤ w.heap.size)
    (h : ∀ v' w', w'.ownsRow base 36 64 v' K (byts (K * 64) f) → w.grownBy w' v.ownBlock → wpList Try.prog ops Q rest (a.put o.dst v') w') : wpList Try.prog ops Q (o :: rest) a w := by
  obtain ⟨i, hi, hz, hsz, hb⟩ := Try.info36i
  have hu : Try.prog.underlying 29 = some (.slice 36) := by kernel_rfl
  rcases id hB.2 with ⟨hv, hn⟩ | ⟨g, cap, cur, hv, hg, hh, hc, hm, hcs, ht⟩
  · subst hn
    refine wpList_append_own_none hgd s x 29 ho base 36 i 64 hu hi v 0 [] hs hown (hx.trans hv) ?_
    exact h v w (by simpa [byts] using hown) ⟨rfl, rfl, rfl, Nat.le_refl _, fun _ _ _ => rfl⟩
  · have hbs := hB.cells (g := g) (by rw [hv]; rfl)
    refine wpList_append_own _ hgd s x 29 ho base 36 i _ 64 64 hu hi hz hsz hb (byts_size 64 _) (by decide) v 0 [] hs hown ⟨g, 0, none⟩ K cap (byts (K * 64) f) (hx.trans hv) (by rw [byts_len]) (fun j u hj => hbs j u hj) (byts_one _ _) (by unfold maxLen; omega) (by omega) hbase ?_
    intro v' w' h1 h2 _
    rw [Nat.zero_add, List.nil_append] at h1
    exact h v' w' h1 h2
theorem wpList_store_blk {ops : Array Oper} {rest : List Oper} {op : Oper} {a : Act} {w : World} {Q : Exit → Act → World → Prop} (hgd : op.guard = none) (x y : Operand) (ho : op.op = .store 36 x y) (g off N : Nat) (f b : Nat → Int) (hF : Fl w g N f) (hn : off + 64 ≤ N)
    (hx : a.eval x = .pointer (some ⟨g, off, none⟩)) (hy : a.eval y = .agg (byts 64 b).toArray) (h : ∀ w', Hid (Fl w' g N (upd f off 64 b)) → Hid (Kp w w' g g) → wpList Try.prog ops Q rest (a.put op.dst undef) w') : wpList Try.prog ops Q (op :: rest) a w := by
  refine wpList_store_mid hgd 36 x y ho g off _ hx hy (by rw [byts_size]; exact hF.there off 64 hn) (size36' _) (byts_all _ _) ?_
  rw [List.toList_toArray]
  exact h _ (hF.store off 64 hn b) ((Kp.refl w g g).setCells g off (.inl rfl) _)
theorem wpList_slice0 {ops : Array Oper} {rest : List Oper} {op : Oper} {a : Act} {w : World} {Q : Exit → Act → World → Prop} (hgd : op.guard = none) (ho : op.op = .buildSlice 29 0 #[])
    (h : ∀ w', Hid (w'.ownsRow w.heap.size 36 64 (.slice (some ⟨w.heap.size, 0, none⟩) 0 0) 0 []) → Below w.heap.size w w' → w'.heap.size = w.heap.size + 1 → wpList Try.prog ops Q rest (a.put op.dst (.slice (some ⟨w.heap.size, 0, none⟩) 0 0)) w') : wpList Try.prog ops Q (op :: rest) a w := by
  refine wpList_plain hgd fun K hK => ?_
  obtain ⟨i, hi, hz, hs, hb⟩ := Try.info36i
  have hu : Try.prog.underlying 29 = some (.slice 36) := by kernel_rfl
  have hr : (Instr.buildSlice 29 0 #[]).run Try.prog w = .ok (.slice (some ⟨w.heap.size, 0, none⟩) 0 0) (w.alloc (.cells #[] 36)) := by
    simp [Instr.buildSlice, sizeOf, typeInfo, hi, hs, run_underlying hu, newRow, Instr.fill, show Array.range 0 = #[] from rfl]
  unfold Oper.wp
  simp [execOp, ho, hr, Result.andThen]
  exact hK _ _ (h _ (World.ownsRow_made w #[] 0 (Nat.le_refl _) (Nat.zero_le _) rfl) ((Below.refl _ _).alloc (Nat.le_refl _) _) (by simp))

set_option maxHeartbeats 2000000 in
set_option maxRecDepth 100000 in
theorem image_own (d g : Nat) (s : DS) (hn : s.n ≤ 65536) (w : World) (h : Dk w d g s) :
    Calls Try.prog 19 #[.pointer (some ⟨d, 0, none⟩)] w fun e w' => e = .returned (.slice (some ⟨w.heap.size, 0, none⟩) s.n s.n) ∧ Fl w' w.heap.size (s.n * 64) s.f ∧ Below w.heap.size w w' := by
  have H := Lib.hid h
  have c0 := h.c0
  clear h
  go_enter Try.func19, Try.ntmps19
  go_wp2_with (first | (refine wpList_make36 rfl _ rfl s.n rfl hn ?_; intro w1 F1 hb1 hz1; have H1 := Lib.hid (H.out.keep hb1); have hb1' := Lib.hid hb1; replace c0 := H1.out.c0; clear hb1) | (refine wpList_copy_mid rfl (.tmp 12) (.tmp 16) 29 29 rfl 36 (by kernel_rfl) 64 Try.size36n w.heap.size 0 s.n s.n (some ⟨g, 0, none⟩) s.n s.n rfl rfl (byts (s.n * 64) s.f) (by rw [byts_len, show Nat.min s.n s.n = s.n from Nat.min_self s.n]) (Bs.src (c := s.n) (fun _ => ⟨g, rfl, H1.out.fl.lt, H1.out.fl.c⟩) _ (Below.refl _ _)) (by rw [byts_len]; exact F1.out.there 0 (s.n * 64) (by omega)) (byts_one _ _) ?_))
  go_ret
  exact ⟨rfl, F1.out.stored _, below_setCells hb1'.out _ _ (Nat.le_refl _) _⟩

set_option maxHeartbeats 40000000 in
set_option maxRecDepth 100000 in
theorem own_walk (n : Int) (v : Value) (xs : List Int) (hxs : ∀ x ∈ xs, 0 ≤ x ∧ x < 256) (w : World) (hv : U8s w v xs) :
    Calls Try.prog 6 #[v, .int .i64 n] w fun e w' => e = .returned (.bool true) ∧ Below w.heap.size w w' := by
  obtain ⟨a, cap, rfl, hm⟩ := hv.form
  have HV := Lib.hid hv
  have HX := Lib.hid hxs
  have HA := Lib.hid (awake_any w)
  have HM := Lib.hid hm
  unfold maxLen at hm
  obtain ⟨i0, hi0, hz0, hs0, hb0⟩ := Try.info36i
  have hu29 : Try.prog.underlying 29 = some (.slice 36) := by kernel_rfl
  have HI := Lib.hid hi0
  have HZ := Lib.hid hz0
  have HS := Lib.hid hs0
  have HBY := Lib.hid hb0
  have HU := Lib.hid hu29
  clear hv hxs hi0 hz0 hs0 hb0 hu29
  by_cases hL : 100 < xs.length
  · have hL' : (100 : Int) < xs.length := by omega
    go_enter Try.func6, Try.ntmps6
    go_wp2_with fail
    refine HA.out.mono ?_
    rintro e w1 ⟨rfl, hb1⟩
    have HB1 := Lib.hid hb1
    clear HA hb1
    go_wp2
    go_ret
    exact ⟨rfl, HB1.out⟩
  have hL' : ¬ ((100 : Int) < xs.length) := by omega
  go_enter Try.func6, Try.ntmps6
  go_wp2_with fail
  refine HA.out.mono ?_
  rintro e w1 ⟨rfl, hb1⟩
  have HB1 := Lib.hid hb1
  clear HA hb1
  go_wp2
  go_loopw [5, 7, 26] (fun v _ i wr => ∃ k : Nat, k ≤ xs.length ∧ i = .int .i64 k ∧ wr.ownsRow w1.heap.size 36 64 v k (byts (k * 64) (flat xs)) ∧ Below w1.heap.size w1 wr) (fun _ _ i _ => xs.length - (intOf i).toNat)
  case atStart => exact ⟨0, by omega, rfl, by simpa [byts] using World.ownsRow_nil _ _ _ _, Below.refl _ _⟩
  case round =>
    obtain ⟨k, hk, rfl, hown, hbr⟩ := hrel
    have HO := Lib.hid hown
    have HB := Lib.hid hbr
    clear hown hbr
    have hzr := HB.out.size
    by_cases hlt : k < xs.length
    · have hk0 : (0 : Int) ≤ k := by omega
      have hkk : (k : Int) < xs.length := by omega
      obtain ⟨b, off, rfl, hbl, hbc⟩ := HV.out.at k hlt
      have ec := ((HB1.out.trans (HB.out.mono HB1.out.size)).cell (p := ⟨b, off + k, none⟩) hbl).trans hbc
      have hx := HX.out xs[k] (List.getElem_mem hlt)
      have HF := Lib.hid (flat_succ xs k hlt)
      clear hbc
      generalize xs[k] = x at *
      go_wp2_with fail
      refine (block_any x hx.1 hx.2 wr).mono ?_
      rintro e w3 ⟨rfl, hb3⟩
      have HB3 := Lib.hid (HB.out.trans (hb3.mono hzr))
      have HO3 := Lib.hid (ownsRow_below HO.out hb3)
      clear hb3
      go_wp2_with (first | (refine wpList_slice1 rfl _ rfl (blk x) rfl ?_; intro w4 F4 hb4 hz4; have HB4 := Lib.hid (HB3.out.trans (hb4.mono HB3.out.size)); have HO4 := Lib.hid (ownsRow_below HO3.out hb4); clear hb4) | (at_builtin; refine wpList_append_own _ rfl _ _ 29 rfl w1.heap.size 36 i0 _ 64 64 HU.out HI.out HZ.out HS.out HBY.out (byts_size 64 _) (by decide) _ _ _ rfl HO4.out ⟨w3.heap.size, 0, none⟩ 1 1 (byts 64 (blk x)) rfl (by rw [byts_len]) ?c1 (byts_one _ _) (by unfold maxLen; omega) (by omega) HB4.out.size ?_))
      case c1 =>
        intro j u hj
        obtain ⟨hj1, rfl⟩ := byts_of hj
        rw [Addr.add_mid, Nat.zero_add]
        exact F4.out.c j hj1
      intro v' w5 hown5 hgrow _
      have HB5 := Lib.hid (HB4.out.grown hgrow HB4.out.size (ownsRow_block HO4.out))
      have HO5 : Hid (w5.ownsRow w1.heap.size 36 64 v' (k + 1) (byts ((k + 1) * 64) (flat xs))) := by
        show w5.ownsRow _ _ _ _ _ _
        rw [HF.out]; exact hown5
      clear hown5 hgrow HO4 HO3
      go_wp2
      go_roundw
      case rel => exact ⟨k + 1, by omega, by go_num, HO5.out, HB5.out⟩
      case measure => simp [intOf]; omega
    · obtain rfl : k = xs.length := by omega
      have HBs := Lib.hid (ownsRow_bs HO.out)
      go_wp2_with fail
      refine (of_any _ _ _ (by omega) wr HBs.out).mono ?_
      rintro e w3 ⟨d3, g3, rfl, hd3, hg3, hD3, hb3⟩
      have HD3 := Lib.hid hD3
      have HB3 := Lib.hid (HB.out.trans (hb3.mono hzr))
      have HBs3 := Lib.hid (HBs.out.below hb3)
      have h3z := hb3.size
      clear hD3
      obtain ⟨wX, rfl⟩ : ∃ x, x = wr := ⟨wr, rfl⟩
      have HO3 := Lib.hid (ownsRow_below HO.out hb3)
      have HFX := Lib.hid (fun h0 => ownsRow_fl HO.out h0)
      obtain ⟨p, c, hu5, -⟩ := HBs.out
      subst hu5
      have HFP : Hid (0 < xs.length → ∃ b, p = some ⟨b, 0, none⟩ ∧ w1.heap.size ≤ b ∧ Fl wX b (xs.length * 64) (flat xs)) := fun h0 => by
        obtain ⟨b, c', he, h1, h2⟩ := HFX.out h0
        exact ⟨b, by injection he, h1, h2⟩
      have Hb3 := Lib.hid hb3
      clear hb3 HFX HO HBs HBs3 HB
      have hdl := HD3.out.lt
      have hgl := HD3.out.fl.lt
      go_wp2_with (first | (refine wpList_slice0 rfl rfl ?_; intro w4 O4 hb4 hz4; have HO4 := Lib.hid (ownsRow_below HO3.out hb4); have Hb4 := Lib.hid hb4; clear hb4) | (at_builtin; refine wpList_append_bs rfl _ _ rfl w3.heap.size _ rfl O4.out _ rfl xs.length (flat xs) w1.heap.size HO4.out (by omega) (by omega) ?_))
      intro v10 w5 hown5 hgrow
      have Hb5 := Lib.hid (Hb4.out.grown hgrow Hb4.out.size (ownsRow_block O4.out))
      have HW5 := Lib.hid (fun b hb => ownsRow_bsx hown5 b hb)
      have HBs5 := Lib.hid (ownsRow_bs hown5)
      have HD5 := Lib.hid (HD3.out.below Hb5.out hdl hgl)
      have HB5 := Lib.hid (HB3.out.trans (Hb5.out.mono (by omega)))
      have HF5 : Hid (0 < xs.length → ∃ b f, p = some ⟨b, 0, none⟩ ∧ w1.heap.size ≤ b ∧ b < wX.heap.size ∧ Bsx w5 v10 xs.length (flat xs) b ∧ Fl w5 b (xs.length * 64) f) := fun h0 => by
        obtain ⟨b, h1, h2, h3⟩ := HFP.out h0
        have hlt := h3.lt
        exact ⟨b, _, h1, h2, hlt, HW5.out b (by omega), (h3.below Hb3.out hlt).below Hb5.out (by omega)⟩
      clear hown5 hgrow HO4 O4 Hb4 HO3 HFP HD3 HB3 HW5 Hb3
      go_wp2_with fail
      go_loopw [11, 46] (fun _ i wr => ∃ j : Nat, j ≤ xs.length ∧ i = .int .i64 j ∧ Dk wr d3 g3 ⟨xs.length, flat xs, false, 0, false, 0, 0⟩ ∧ Below w1.heap.size w1 wr ∧ Bs wr v10 xs.length (flat xs) ∧ (0 < xs.length → ∃ b f, p = some ⟨b, 0, none⟩ ∧ w1.heap.size ≤ b ∧ b < wX.heap.size ∧ Bsx wr v10 xs.length (flat xs) b ∧ Fl wr b (xs.length * 64) f)) (fun _ i _ => xs.length - (intOf i).toNat)
      case atStart => exact ⟨0, by omega, rfl, HD5.out, HB5.out, HBs5.out, HF5.out⟩
      case round =>
        obtain ⟨j, hj, rfl, hD, hB, hBs, hF⟩ := hrel
        have HD := Lib.hid hD
        have HB := Lib.hid hB
        have HBs := Lib.hid hBs
        have HF := Lib.hid hF
        have hzq := hB.size
        clear hD hB hBs hF HD5 HB5 HBs5 HF5 Hb5
        by_cases hlt : j < xs.length
        · obtain ⟨b, f, rfl, hb0, hbX, hbx, hbf⟩ := HF.out (by omega)
          have Hbx := Lib.hid hbx
          have Hbf := Lib.hid hbf
          clear hbx hbf
          have hj0 : (0 : Int) ≤ j := by omega
          have hjj : (j : Int) < xs.length := by omega
          go_wp2_with (first | (refine wpList_yields _ (yields_build0 rfl rfl) ?_) | (refine wpList_store_blk rfl (.tmp 52) (.tmp 51) rfl b (j * 64) (xs.length * 64) f (fun _ => 0) Hbf.out (by omega) rfl rfl ?_; intro w6 HF6 HK6))
          go_roundw
          case rel =>
            have HK := HK6.out
            refine ⟨j + 1, by omega, by go_num, HD.out.kp HK (by omega) (by omega) (by omega) (by omega), HB.out.trans (HK.below hb0 hb0 (by omega)), (Hbx.out.kp HK).bs, fun _ => ⟨b, _, rfl, hb0, hbX, Hbx.out.kp HK, HF6.out⟩⟩
          case measure => simp [intOf]; omega
        · obtain rfl : j = xs.length := by omega
          obtain ⟨wY, rfl⟩ : ∃ x, x = wr := ⟨wr, rfl⟩
          clear HF
          go_wp2_with fail
          refine (image_own d3 g3 _ (by show xs.length ≤ 65536; omega) wY HD.out).mono ?_
          rintro e w6 ⟨rfl, hF6, hb6⟩
          have hY0 := HB.out.size
          have HF6 := Lib.hid hF6
          have HB6 := Lib.hid (HB.out.trans (hb6.mono hY0))
          have HD6 := Lib.hid (HD.out.keep hb6)
          have HBx6 : Hid (Bsx w6 v10 xs.length (flat xs) wY.heap.size) := by
            obtain ⟨p', c', h1, h2⟩ := HBs.out
            refine ⟨p', c', h1, fun h0 => ?_⟩
            obtain ⟨h, h3, h4, h5⟩ := h2 h0
            exact ⟨h, h3, Nat.lt_of_lt_of_le h4 hb6.size, by omega, fun i hi => (hb6.cell (p := ⟨h, i, none⟩) h4).trans (h5 i hi)⟩
          have hdY := HD.out.lt
          have hgY := HD.out.fl.lt
          simp only at hF6
          clear hF6 hb6 HB HBs HD
          simp only
          go_wp2_with fail
          go_loopw [13, 58] (fun _ i wr => ∃ j : Nat, j ≤ xs.length ∧ i = .int .i64 j ∧ Dk wr d3 g3 ⟨xs.length, flat xs, false, 0, false, 0, 0⟩ ∧ Below w1.heap.size w1 wr ∧ Bsx wr v10 xs.length (flat xs) wY.heap.size ∧ ∃ f, Fl wr wY.heap.size (xs.length * 64) f) (fun _ i _ => xs.length - (intOf i).toNat)
          case atStart => exact ⟨0, by omega, rfl, HD6.out, HB6.out, HBx6.out, _, HF6.out⟩
          case round =>
            obtain ⟨j, hj, rfl, hD, hB, hBs, f, hF⟩ := hrel
            have HD := Lib.hid hD
            have HB := Lib.hid hB
            have HBs := Lib.hid hBs
            have HF := Lib.hid hF
            have hzq := hB.size
            clear hD hB hBs hF HD6 HB6 HBx6 HF6
            by_cases hlt : j < xs.length
            · have hj0 : (0 : Int) ≤ j := by omega
              have hjj : (j : Int) < xs.length := by omega
              go_wp2_with (first | (refine wpList_yields _ (yields_build1 rfl 9 rfl) ?_) | (refine wpList_store_blk rfl (.tmp 64) (.tmp 63) rfl wY.heap.size (j * 64) (xs.length * 64) f (one 9) HF.out (by omega) rfl rfl ?_; intro w7 HF7 HK7))
              go_roundw
              case rel =>
                have HK := HK7.out
                exact ⟨j + 1, by omega, by go_num, HD.out.kp HK (by omega) (by omega) (by omega) (by omega), HB.out.trans (HK.below hY0 hY0 (by omega)), HBs.out.kp HK, _, HF7.out⟩
              case measure => simp [intOf]; omega
            · obtain rfl : j = xs.length := by omega
              obtain ⟨wZ, rfl⟩ : ∃ x, x = wr := ⟨wr, rfl⟩
              have HSM : Hid (∀ v6 W6, Bs W6 v6 xs.length (flat xs) → Bs W6 v10 xs.length (flat xs) → Calls Try.prog 18 #[v6, v10] W6 fun e w' => e = .returned (.bool true) ∧ Below W6.heap.size W6 w') := by
                intro v6 W6 h1 h2
                have h := same_any v6 v10 _ _ _ _ (by show xs.length ≤ 65536; omega) (by omega) W6 h1 h2
                rw [show (decide (xs.length = xs.length) && eqb (xs.length * 64) (flat xs) (flat xs)) = true by rw [eqb_same fun _ _ => rfl]; simp] at h
                exact h
              have HZB := Lib.hid HBs.out.bs
              clear HF HBs
              go_wp2_with fail
              refine (nil_arm n wZ).mono ?_
              rintro e w8 ⟨rfl, rfl⟩
              go_wp2_with fail
              refine (nil_wake w8).mono ?_
              rintro e w9 ⟨rfl, rfl⟩
              go_wp2_with fail
              refine (nil_read n w9).mono ?_
              rintro e w10 ⟨rfl, hb10⟩
              have HD10 := Lib.hid (HD.out.keep hb10)
              have HB10 := Lib.hid (HB.out.trans (hb10.mono hzq))
              have HZ10 := Lib.hid (HZB.out.below hb10)
              clear hb10 HD HB HZB
              go_wp2_with (first | (refine wpList_alloc_byts (w := w10) rfl 36 64 rfl Try.zero36 ?_; intro w11 F11 hb11 hz11; have HD11 := Lib.hid (HD10.out.keep hb11); have HB11 := Lib.hid (HB10.out.trans (hb11.mono HB10.out.size)); have HZ11 := Lib.hid (HZ10.out.below hb11); have HB1011 := Lib.hid hb11; clear hb11) | (refine wpList_store_blk rfl (.tmp 15) (.tmp 75) rfl w10.heap.size 0 64 (fun _ => 0) (fun _ => 0) F11.out (by omega) rfl rfl ?_; intro w12 F12 HK12))
              have hdz := HD10.out.lt
              have hgz := HD10.out.fl.lt
              have HD12 := Lib.hid (HD11.out.kp HK12.out (by omega) (by omega) (by omega) (by omega))
              have HB12 := Lib.hid (HB11.out.trans (HK12.out.below HB10.out.size HB10.out.size HB11.out.size))
              have HZ12 : Hid (Bs w12 v10 xs.length (flat xs)) := (((HZ10.out.far w10.heap.size (Nat.le_refl _)).kp (Kp.of_below HB1011.out _ _)).kp HK12.out).bs
              have HR12 : Hid (Fl w12 w10.heap.size 64 (fun _ => 0)) := F12.out.congr fun j hj => by unfold upd; split <;> rfl
              clear F12 HK12 HD11 HB11 HZ11 HD10 HZ10
              go_wp2_with fail
              refine (nil_counts w12).mono ?_
              rintro e w13 ⟨rfl, rfl⟩
              go_wp2_with fail
              refine (image_any d3 g3 _ (by show xs.length ≤ 65536; omega) w13 HD12.out).mono ?_
              rintro e w14 ⟨v14, rfl, hB14, hb14⟩
              have HX14 := Lib.hid hB14
              have HZ14 := Lib.hid (HZ12.out.below hb14)
              have HB14 := Lib.hid (HB12.out.trans (hb14.mono HB12.out.size))
              have HR14 := Lib.hid (HR12.out.below hb14 HR12.out.lt)
              clear hB14 hb14 HD12 HZ12 HB12 HR12
              go_wp2_with fail
              refine (HSM.out v14 w14 HX14.out HZ14.out).mono ?_
              rintro e w15 ⟨rfl, hb15⟩
              have HB15 := Lib.hid (HB14.out.trans (hb15.mono HB14.out.size))
              have HR15 := Lib.hid (HR14.out.below hb15 HR14.out.lt)
              clear hb15 HB14 HR14 HX14 HZ14 HSM
              go_wp2_with fail
              refine (nil_len w15).mono ?_
              rintro e w16 ⟨rfl, rfl⟩
              go_wp2_with fail
              refine (nil_dead w16).mono ?_
              rintro e w17 ⟨rfl, rfl⟩
              have e36 : ∀ W, (Op.equalIn 10000 36 (.agg (byts 64 fun _ => 0).toArray) (.agg (byts 64 fun _ => 0).toArray)).run Try.prog W = .ok true W := fun W => by rw [eq36, eqb_same fun _ _ => rfl]
              go_wp2_with (first | (refine wpList_yields _ (yields_build0 rfl rfl) ?_) | (refine wpList_yields _ (yieldsIf_load_mid rfl 36 (.tmp 15) rfl w10.heap.size 0 rfl (byts 64 fun _ => 0) (.array 64 5) (fun W h => by subst h; exact HR15.out.range0) Try.arr36 rfl (size36 _)) ?_))
              refine (nil_write n (fun _ => 0) w17).mono ?_
              rintro e w18 ⟨rfl, hb18⟩
              have HB18 := Lib.hid (HB15.out.trans (hb18.mono HB15.out.size))
              clear hb18 HB15 HR15 e36
              go_wp2_with fail
              refine (nil_image w18).mono ?_
              rintro e w19 ⟨rfl, rfl⟩
              go_wp2
              go_ret
              exact ⟨rfl, HB1.out.trans (HB18.out.mono HB1.out.size)⟩
end Go.Proofs.Yticmdeioebbgaaa
