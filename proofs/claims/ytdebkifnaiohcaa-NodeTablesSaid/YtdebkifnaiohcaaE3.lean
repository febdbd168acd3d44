import Derived.Test.YtdebkifnaiohcaaE2
import Derived.IntWalk
import Derived.Lib.EndianBits
/- A head: its bytes, its numbers. -/
namespace Go.Proofs.Ytdebkifnaiohcaa
set_option linter.unusedSimpArgs false
set_option linter.unusedVariables false
open Go.RowKit Go.Maps

/-- two bytes, the lowest first -/
def num (f : Nat → Int) (i : Nat) : Int := f i + 256 * f (i + 1)
def putN (f : Nat → Int) (i n : Nat) : Nat → Int := fun j => if j = i + 1 then (n : Int) / 256 % 256 else if j = i then (n : Int) % 256 else f j
def Byt (f : Nat → Int) : Prop := ∀ j, j < 64 → 0 ≤ f j ∧ f j < 256

theorem num_or (a b : Int) (ha : 0 ≤ a ∧ a < 256) (hb : 0 ≤ b ∧ b < 256) : bits BinOp.or .i64 (IntKind.i64.wrap a) (IntKind.i64.wrap (IntKind.i64.wrap b * 256)) = a + 256 * b := by
  rw [IntWalk.i64_in a (by omega), IntWalk.i64_in b (by omega), IntWalk.i64_in (b * 256) (by omega)]
  rw [bits_join_low .i64 63 (by decide) (fun n h0 h1 => IntWalk.i64_in n (by omega)) 8 a (b * 256) ha.1 (by omega) (by omega) (by omega) (by omega) (by omega)]
  omega

set_option maxHeartbeats 2000000 in
set_option maxRecDepth 100000 in
theorem putnumber_any (g i n : Nat) (f : Nat → Int) (hi : i + 1 < 64) (hn : n ≤ 65536) (w : World) (F : Fl w g 64 f) :
    Calls Try.prog 59 #[.pointer (some ⟨g, 0, none⟩), .int .i64 i, .int .i64 n] w fun e w' => e = .returned (.tuple #[]) ∧ Fl w' g 64 (putN f i n) ∧ Kp w w' g g := by
  have HF := Lib.hid F
  have c0 := F.c i (by omega)
  have z0 := F.z i (by omega)
  have c1 := F.c (i + 1) (by omega)
  have z1 := F.z (i + 1) (by omega)
  clear F
  have h0 : (0 : Int) ≤ i := by omega
  have h1 : (i : Int) < 63 := by omega
  have h2 : (0 : Int) ≤ n := by omega
  have h3 : (n : Int) ≤ 65536 := by omega
  have HT : Hid (((i : Int) + 1).toNat = i + 1) := by show _ = _; omega
  have ht := HT.out
  go_enter Try.func59, Try.ntmps59
  go_wp2
  go_end0
  exact ⟨rfl, (HF.out.set i (by omega) _).set (i + 1) hi _, ((Kp.refl _ _ _).setA _ _).setA _ _⟩
/-- the bytes of a head that says where blocks belong -/
def headF (ts : List Nat) : Nat → Int := fun j =>
  if j = 0 then 161 else if j = 1 then 103 else if j = 2 then (ts.length : Int) % 256 else if j = 3 then (ts.length : Int) / 256 % 256
  else if j < 4 + 2 * ts.length then (if j % 2 = 0 then ((ts[(j - 4) / 2]?.getD 0 : Nat) : Int) % 256 else ((ts[(j - 4) / 2]?.getD 0 : Nat) : Int) / 256 % 256) else 0
theorem headF_first (ts : List Nat) (j : Nat) : putN (putN (fun _ => 0) 0 26529) 2 ts.length j = if j < 4 then headF ts j else 0 := by
  unfold putN headF
  by_cases h0 : j = 0
  · subst h0; rfl
  by_cases h1 : j = 1
  · subst h1; rfl
  by_cases h2 : j = 2
  · subst h2; rfl
  by_cases h3 : j = 3
  · subst h3; rfl
  simp only [h0, h1, h2, h3, if_false]
  rw [if_neg (by omega)]
theorem headF_step (ts : List Nat) (k : Nat) (hk : k < ts.length) (j : Nat) : putN (fun j => if j < 4 + 2 * k then headF ts j else 0) (4 + 2 * k) ts[k] j = if j < 4 + 2 * (k + 1) then headF ts j else 0 := by
  unfold putN
  by_cases h1 : j = 4 + 2 * k + 1
  · rw [if_pos h1, if_pos (by omega)]
    subst h1
    unfold headF
    rw [if_neg (by omega), if_neg (by omega), if_neg (by omega), if_neg (by omega), if_pos (by omega), if_neg (by omega), show (4 + 2 * k + 1 - 4) / 2 = k by omega, List.getElem?_eq_getElem hk]
    rfl
  · rw [if_neg h1]
    by_cases h2 : j = 4 + 2 * k
    · rw [if_pos h2, if_pos (by omega)]
      subst h2
      unfold headF
      rw [if_neg (by omega), if_neg (by omega), if_neg (by omega), if_neg (by omega), if_pos (by omega), if_pos (by omega), show (4 + 2 * k - 4) / 2 = k by omega, List.getElem?_eq_getElem hk]
      rfl
    · rw [if_neg h2]
      show (if j < 4 + 2 * k then headF ts j else 0) = _
      by_cases h3 : j < 4 + 2 * k
      · rw [if_pos h3, if_pos (by omega)]
      · rw [if_neg h3, if_neg (by omega)]
theorem headF_above (ts : List Nat) (j : Nat) : (if j < 4 + 2 * ts.length then headF ts j else 0) = headF ts j := by
  by_cases h : j < 4 + 2 * ts.length
  · rw [if_pos h]
  · rw [if_neg h]
    unfold headF
    rw [if_neg (by omega), if_neg (by omega), if_neg (by omega), if_neg (by omega), if_neg h]
theorem headF_byt (ts : List Nat) : Byt (headF ts) := by
  intro j _
  unfold headF
  repeat' split
  all_goals omega

set_option maxHeartbeats 4000000 in
set_option maxRecDepth 100000 in
theorem headof_any (v : Value) (ts : List Nat) (h30 : ts.length ≤ 30) (hts : ∀ t ∈ ts, t ≤ 65536) (w : World) (hv : Ns w v ts) :
    Calls Try.prog 56 #[v] w fun e w' => e = .returned (.agg (byts 64 (headF ts)).toArray) ∧ Below w.heap.size w w' := by
  obtain ⟨a, cap, rfl, hm⟩ := hv.form
  unfold maxLen at hm
  have HV := Lib.hid hv
  have HT := Lib.hid hts
  clear hv hts
  have HP0 : Hid (∀ g f W, Fl W g 64 f → Calls Try.prog 59 #[.pointer (some ⟨g, 0, none⟩), .int .i64 0, .int .i64 26529] W fun e w' => e = .returned (.tuple #[]) ∧ Fl w' g 64 (putN f 0 26529) ∧ Kp W w' g g) := fun g f W F => putnumber_any g 0 26529 f (by decide) (by decide) W F
  have HP2 : Hid (∀ g f W, Fl W g 64 f → Calls Try.prog 59 #[.pointer (some ⟨g, 0, none⟩), .int .i64 2, .int .i64 ts.length] W fun e w' => e = .returned (.tuple #[]) ∧ Fl w' g 64 (putN f 2 ts.length) ∧ Kp W w' g g) := fun g f W F => putnumber_any g 2 ts.length f (by decide) (by omega) W F
  go_enter Try.func56, Try.ntmps56
  go_wp2_with (first | (refine wpList_alloc_byts (w := w) rfl 96 64 rfl Try.zero36 ?_; intro w1 F1 hb1 hz1; have HB1 := Lib.hid hb1; clear hb1) | (refine wpList_alloc_byts (w := w1) rfl 96 64 rfl Try.zero36 ?_; intro w2 F2 hb2 hz2; have HB2 := Lib.hid hb2; clear hb2))
  rw [hz1] at F2
  have HBB := Lib.hid (HB1.out.trans (HB2.out.mono (by omega)))
  have F1' := Lib.hid (F1.out.below HB2.out (by omega))
  have hsz : w.heap.size + 1 < w2.heap.size := by omega
  clear F1 HB1 HB2 hz2
  try rw [hz1]
  go_wp2_with fail
  refine (HP0.out _ _ w2 F2.out).mono ?_
  rintro e w3 ⟨rfl, hF3, hk3⟩
  have HF3 := Lib.hid hF3
  have HA3 := Lib.hid (F1'.out.kp hk3 (by omega) (by omega))
  have HB3 := Lib.hid (HBB.out.trans (hk3.below (B := w.heap.size) (by omega) (by omega) HBB.out.size))
  have hsz3 := hk3.size
  clear hF3 hk3 F2 F1' HBB HP0
  go_wp2_with fail
  refine (HP2.out _ _ w3 HF3.out).mono ?_
  rintro e w4 ⟨rfl, hF4, hk4⟩
  have HF4 := Lib.hid (hF4.congr (fun j _ => headF_first ts j))
  have HA4 := Lib.hid (HA3.out.kp hk4 (by omega) (by omega))
  have HB4 := Lib.hid (HB3.out.trans (hk4.below (B := w.heap.size) (by omega) (by omega) HB3.out.size))
  have hsz4 := hk4.size
  clear hF4 hk4 HF3 HA3 HB3 HP2
  go_wp2_with fail
  go_loopw [4, 5, 12] (fun _ _ i wr => ∃ k : Nat, k ≤ ts.length ∧ i = .int .i64 k ∧ Fl wr (w.heap.size + 1) 64 (fun j => if j < 4 + 2 * k then headF ts j else 0) ∧ Fl wr w.heap.size 64 (fun _ => 0) ∧ Below w.heap.size w wr) (fun _ _ i _ => ts.length - (Go.RowKit.intOf i).toNat)
  case atStart => exact ⟨0, by omega, rfl, HF4.out, HA4.out, HB4.out⟩
  case round =>
    obtain ⟨k, hk, rfl, hF, hA, hbr⟩ := hrel
    have HF := Lib.hid hF
    have HA := Lib.hid hA
    have HB := Lib.hid hbr
    have hFl := hF.lt
    clear hF hA hbr HF4 HA4 HB4
    have hk0 : (0 : Int) ≤ k := by omega
    by_cases hlt : k < ts.length
    · have hkk : (k : Int) < ts.length := by omega
      have hk30 : (k : Int) ≤ 30 := by omega
      obtain ⟨b, off, rfl, hbl, hbc⟩ := HV.out.at k hlt
      have ec := (HB.out.cell (p := ⟨b, off + k, none⟩) hbl).trans hbc
      have HS := Lib.hid (headF_step ts k hlt)
      have HTk := Lib.hid (HT.out ts[k] (List.getElem_mem hlt))
      clear hbc
      generalize ts[k] = t at *
      have HP : Hid (∀ f W, Fl W (w.heap.size + 1) 64 f → Calls Try.prog 59 #[.pointer (some ⟨w.heap.size + 1, 0, none⟩), .int .i64 (4 + 2 * (k : Int)), .int .i64 t] W fun e w' => e = .returned (.tuple #[]) ∧ Fl w' (w.heap.size + 1) 64 (putN f (4 + 2 * k) t) ∧ Kp W w' (w.heap.size + 1) (w.heap.size + 1)) := fun f W F => by
        have h := putnumber_any (w.heap.size + 1) (4 + 2 * k) t f (by omega) HTk.out W F
        rwa [show ((4 + 2 * k : Nat) : Int) = 4 + 2 * (k : Int) by omega] at h
      go_wp2_with fail
      refine (HP.out _ wr HF.out).mono ?_
      rintro e w5 ⟨rfl, hF5, hk5⟩
      have HF5 := Lib.hid (hF5.congr (fun j _ => HS.out j))
      have HA5 := Lib.hid (HA.out.kp hk5 (by omega) (by omega))
      have HB5 := Lib.hid (HB.out.trans (hk5.below (B := w.heap.size) (by omega) (by omega) HB.out.size))
      clear hF5 hk5 HF HA HB HS HTk HP
      go_wp2
      go_roundw
      case rel => exact ⟨k + 1, by omega, by go_num, HF5.out, HA5.out, HB5.out⟩
      case measure => simp [Go.RowKit.intOf]; omega
    · obtain rfl : k = ts.length := by omega
      have HR : Hid (wr.rangeAt (w.heap.size + 1) 0 (byts 64 (headF ts))) := (HF.out.congr (fun j _ => headF_above ts j)).range0
      clear HF
      go_wp2_with (first | (refine wpList_load_mid rfl 96 _ rfl (w.heap.size + 1) 0 rfl _ (.array 64 5) HR.out Try.arr36 rfl (size36 _) ?_) | (refine wpList_store_mid rfl 96 _ _ rfl w.heap.size 0 (byts 64 (headF ts)).toArray rfl rfl (by rw [byts_size]; exact HA.out.there 0 64 (Nat.le_refl _)) (size36' _) (byts_all _ _) ?_))
      exact bodyPost_ret_by (results_mid rfl _ _ w.heap.size _ (.array 64 5) rfl (HA.out.stored (headF ts)).range0 Try.arr36 rfl (size36 _)) rfl ⟨rfl, below_setCells HB.out _ _ (Nat.le_refl _) _⟩
end Go.Proofs.Ytdebkifnaiohcaa
