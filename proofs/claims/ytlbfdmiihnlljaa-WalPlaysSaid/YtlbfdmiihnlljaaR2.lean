import Derived.Test.YtlbfdmiihnlljaaS1
import Derived.Test.YtlbfdmiihnlljaaD13
/- The answer's head. -/
namespace Go.Proofs.Ytlbfdmiihnlljaa
set_option linter.unusedSimpArgs false
set_option linter.unusedVariables false
open Go.RowKit Go.Maps

theorem putA (f : Nat → Int) (i : Nat) (x : Int) : (fun j => if j = i then x else f j) = upd f i 1 (fun _ => x) := by
  funext j
  unfold upd
  by_cases h : j = i
  · rw [if_pos h, if_pos (by omega)]
  · rw [if_neg h, if_neg (by omega)]
theorem rhead_first (ts : List Nat) (h30 : ts.length ≤ 30) (j : Nat) : (if j = 2 then (ts.length : Int) else if j = 1 then 103 else if j = 0 then 161 else 0) = if j < 4 then headF ts j else 0 := by
  unfold headF
  by_cases h0 : j = 0
  · subst h0; rfl
  by_cases h1 : j = 1
  · subst h1; rfl
  by_cases h2 : j = 2
  · subst h2
    simp
    omega
  by_cases h3 : j = 3
  · subst h3
    simp
    omega
  simp only [h0, h1, h2, h3, if_false]
  rw [if_neg (by omega)]
theorem rhead_step (ts : List Nat) (k : Nat) (hk : k < ts.length) (h : ts[k] < 65536) (j : Nat) :
    (if j = 5 + 2 * k then (ts[k] : Int) / 256 else if j = 4 + 2 * k then (ts[k] : Int) % 256 else if j < 4 + 2 * k then headF ts j else 0) = if j < 4 + 2 * (k + 1) then headF ts j else 0 := by
  have := headF_step ts k hk j
  unfold putN at this
  rw [← this, show 5 + 2 * k = 4 + 2 * k + 1 by omega, show (ts[k] : Int) / 256 % 256 = (ts[k] : Int) / 256 by omega]

set_option maxHeartbeats 4000000 in
set_option maxRecDepth 100000 in
theorem rhead_any (v : Value) (ts : List Nat) (h30 : ts.length ≤ 30) (hts : ∀ t ∈ ts, t < 65536) (w : World) (hv : Ns w v ts) :
    Calls Try.prog 33 #[v] w fun e w' => e = .returned (.agg (byts 64 (headF ts)).toArray) ∧ Below w.heap.size w w' := by
  obtain ⟨a, cap, rfl, hm⟩ := hv.form
  unfold maxLen at hm
  have HV := Lib.hid hv
  have HT := Lib.hid hts
  clear hv hts
  have hl30 : (ts.length : Int) ≤ 30 := by omega
  have hl0 : (0 : Int) ≤ ts.length := by omega
  go_enter Try.func33, Try.ntmps33
  go_upto_region 2 with (first | (refine wpList_alloc_byts (w := w) rfl 50 64 rfl Try.zero36 ?_; intro w1 F1 hb1 hz1; have HB1 := Lib.hid hb1; have hq1 : w.heap.size < w1.heap.size := (by omega); clear hb1 hz1) | (refine wpList_alloc_byts (w := w1) rfl 50 64 rfl Try.zero36 ?_; intro w2 F2 hb2 hz2; have HB2 := Lib.hid hb2; have hq2 : w1.heap.size < w2.heap.size := (by omega); clear hb2 hz2))
  have F1' := Lib.hid (F1.out.below HB2.out (by omega))
  have HBB := Lib.hid (HB1.out.trans (HB2.out.mono (by omega)))
  obtain ⟨b, hb⟩ : ∃ b, w1.heap.size = b := ⟨_, rfl⟩
  rw [hb] at F2 hq1 hq2 ⊢
  clear F1 HB1 HB2 hb
  have c0 := F2.out.c 0 (by decide)
  have z0 := F2.out.z 0 (by decide)
  have c1 := F2.out.c 1 (by decide)
  have z1 := F2.out.z 1 (by decide)
  have c2 := F2.out.c 2 (by decide)
  have z2 := F2.out.z 2 (by decide)
  go_upto_region 4 with fail
  have F3 := ((F2.out.set 0 (by decide) 161).set 1 (by decide) 103).set 2 (by decide) (ts.length : Int)
  have A3 := ((F1'.out.far ⟨b, 0, none⟩ (by show b ≠ w.heap.size; omega) (.int .u8 161)).far ⟨b, 1, none⟩ (by show b ≠ w.heap.size; omega) (.int .u8 103)).far ⟨b, 2, none⟩ (by show b ≠ w.heap.size; omega) (.int .u8 ts.length)
  have B3 := ((HBB.out.setCell (p := ⟨b, 0, none⟩) (by show w.heap.size ≤ b; omega) (.int .u8 161)).setCell (p := ⟨b, 1, none⟩) (by show w.heap.size ≤ b; omega) (.int .u8 103)).setCell (p := ⟨b, 2, none⟩) (by show w.heap.size ≤ b; omega) (.int .u8 ts.length)
  have hz3 : b < (((w2.setCell ⟨b, 0, none⟩ (.int .u8 161)).setCell ⟨b, 1, none⟩ (.int .u8 103)).setCell ⟨b, 2, none⟩ (.int .u8 ts.length)).heap.size := by simpa [World.setCell] using hq2
  obtain ⟨w3, hw3⟩ : ∃ x, ((w2.setCell ⟨b, 0, none⟩ (.int .u8 161)).setCell ⟨b, 1, none⟩ (.int .u8 103)).setCell ⟨b, 2, none⟩ (.int .u8 ts.length) = x := ⟨_, rfl⟩
  rw [hw3] at F3 A3 B3 hz3 ⊢
  have HF3 := Lib.hid (F3.congr (fun j _ => rhead_first ts h30 j))
  have HA3 := Lib.hid A3
  have HB3 := Lib.hid B3
  clear F3 A3 B3 c0 z0 c1 z1 c2 z2 F2 F1' HBB hw3
  go_wp2_with fail
  go_loopw [4] (fun i wr => ∃ k : Nat, k ≤ ts.length ∧ i = .int .i64 k ∧ Fl wr b 64 (fun j => if j < 4 + 2 * k then headF ts j else 0) ∧ Fl wr w.heap.size 64 (fun _ => 0) ∧ Below w.heap.size w wr) (fun i _ => ts.length - (Go.RowKit.intOf i).toNat)
  case atStart => exact ⟨0, by omega, rfl, HF3.out, HA3.out, HB3.out⟩
  case round =>
    obtain ⟨k, hk, rfl, hF, hA, hbr⟩ := hrel
    have HF := Lib.hid hF
    have HA := Lib.hid hA
    have HB := Lib.hid hbr
    have hFl := hF.lt
    clear hF hA hbr HF3 HA3 HB3
    have hk0 : (0 : Int) ≤ k := by omega
    by_cases hlt : k < ts.length
    · have hkk : (k : Int) < ts.length := by omega
      have hk30 : (k : Int) ≤ 30 := by omega
      obtain ⟨b', off, rfl, hbl, hbc⟩ := HV.out.at k hlt
      have ec := (HB.out.cell (p := ⟨b', off + k, none⟩) hbl).trans hbc
      have hne : b' ≠ b := by omega
      have HTk := Lib.hid (HT.out ts[k] (List.getElem_mem hlt))
      have HS := Lib.hid (rhead_step ts k hlt HTk.out)
      clear hbc
      generalize ts[k] = t at *
      have ht0 : (0 : Int) ≤ t := by omega
      have ht1 : (t : Int) < 65536 := by have := HTk.out; omega
      have c0 := HF.out.c (4 + 2 * k) (by omega)
      have z0 := HF.out.z (4 + 2 * k) (by omega)
      have c1 := HF.out.c (5 + 2 * k) (by omega)
      have z1 := HF.out.z (5 + 2 * k) (by omega)
      have hd1 : (t : Int) / 256 < 256 := by omega
      have hd0 : (0 : Int) ≤ (t : Int) / 256 := by omega
      go_wp2_with fail
      go_roundw
      case rel =>
        refine ⟨k + 1, by omega, by go_num, ((HF.out.set (4 + 2 * k) (by omega) ((t : Int) % 256)).set (5 + 2 * k) (by omega) ((t : Int) / 256)).congr (fun j _ => HS.out j), (HA.out.far _ (by show b ≠ w.heap.size; omega) _).far _ (by show b ≠ w.heap.size; omega) _, (HB.out.setCell (by show w.heap.size ≤ b; omega) _).setCell (by show w.heap.size ≤ b; omega) _⟩
      case measure => simp [Go.RowKit.intOf]; omega
    · obtain rfl : k = ts.length := by omega
      have HR : Hid (wr.rangeAt b 0 (byts 64 (headF ts))) := (HF.out.congr (fun j _ => headF_above ts j)).range0
      clear HF
      go_wp2_with (first | (refine wpList_load_mid rfl 50 (.tmp 3) rfl b 0 rfl _ (.array 64 5) HR.out Try.arr36 rfl (size36 _) ?_) | (refine wpList_store_mid rfl 50 (.tmp 2) (.tmp 37) rfl w.heap.size 0 (byts 64 (headF ts)).toArray rfl rfl (by rw [byts_size]; exact HA.out.there 0 64 (Nat.le_refl _)) (size36' _) (byts_all _ _) ?_))
      exact bodyPost_ret_by (results_mid rfl _ _ w.heap.size _ (.array 64 5) rfl (HA.out.stored (headF ts)).range0 Try.arr36 rfl (size36 _)) rfl ⟨rfl, below_setCells HB.out _ _ (Nat.le_refl _) _⟩
end Go.Proofs.Ytlbfdmiihnlljaa
