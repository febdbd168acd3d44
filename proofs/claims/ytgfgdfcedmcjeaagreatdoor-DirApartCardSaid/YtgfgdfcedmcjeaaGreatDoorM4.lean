import Derived.Test.YtgfgdfcedmcjeaaGreatDoorM3
import Derived.Shelf.Strings.Trim
import Derived.Shelf.Sort.Plain
import Derived.Test.YtgfgdfcedmcjeaaGreatDoorProg
/- Directories: names. -/
/- Files: ways. -/
/- Files: ways: first, up, passes. -/
/-
  DERIVED: THE SHELF's CONTRACTS AT THIS DUMP, IN PLAIN WORDS (tools/lay-plain.mjs out of 'TryzShelf.lean', which tools/lay-shelf.mjs wrote): THE SAME DECLARATIONS UNDER THE SAME NAMES: 'import', 'namespace', 'open', 'def', 'theorem' AND NOTHING ELSE: no command of the shelf's: FOR A HAND-IN. Each laying: the table of numbers ('.._ren') and one theorem, a field a fact of the dump's own or the kernel's comparison; each contract: ONE APPLICATION.
-/

namespace Go.Proofs.YtgfgdfcedmcjeaaGreatDoor
set_option linter.unusedSimpArgs false
set_option linter.unusedVariables false
open Go.RowKit Go.Maps

def maySt (b : UInt8) : Bool := decide (33 ≤ b.toNat) && (decide (b.toNat ≤ 126) && (!decide (b.toNat = 47) && !decide (b.toNat = 64)))
/-- what Name tells of a text -/
def nameC (s : ByteArray) : Int := if s.size = 0 ∨ s = ⟨#[46]⟩ ∨ s = ⟨#[46, 46]⟩ then 7 else if 14 < s.size then 8 else if s.data.toList.all maySt = true then 0 else 7
set_option maxHeartbeats 4000000 in
theorem maystand_any (x : UInt8) (w : World) : Calls Tryz.prog 81 #[.int .u8 x.toNat] w fun e w' => e = .returned (.bool (maySt x)) ∧ w' = w := by
  unfold maySt
  obtain ⟨n, hn⟩ : ∃ n, x.toNat = n := ⟨_, rfl⟩
  rw [hn]
  clear hn
  by_cases h1 : 33 ≤ n
  · by_cases h2 : n ≤ 126
    · by_cases h3 : n = 47
      · subst h3
        go_enter Tryz.func81, Tryz.ntmps81
        go_wp2_with fail
        go_ret
        exact ⟨rfl, rfl⟩
      · by_cases h4 : n = 64
        · subst h4
          go_enter Tryz.func81, Tryz.ntmps81
          go_wp2_with fail
          go_ret
          exact ⟨rfl, rfl⟩
        · have h1' : (33 : Int) ≤ n := by omega
          have h2' : (n : Int) ≤ 126 := by omega
          have h3' : ¬ ((n : Int) = 47) := by omega
          have h4' : ¬ ((n : Int) = 64) := by omega
          go_enter Tryz.func81, Tryz.ntmps81
          go_wp2_with fail
          go_ret
          exact ⟨by simp [h1, h2, h3, h4]; omega, rfl⟩
    · have h1' : (33 : Int) ≤ n := by omega
      have h2' : ¬ (n : Int) ≤ 126 := by omega
      go_enter Tryz.func81, Tryz.ntmps81
      go_wp2_with fail
      go_ret
      exact ⟨by simp [h1, h2], rfl⟩
  · have h1' : ¬ (33 : Int) ≤ n := by omega
    go_enter Tryz.func81, Tryz.ntmps81
    go_wp2_with fail
    go_ret
    exact ⟨by simp [h1], rfl⟩
theorem may_upto (s : ByteArray) (h : ∀ j (hj : j < s.size), maySt s[j] = true) : s.data.toList.all maySt = true := by
  rw [List.all_eq_true]
  intro x hx
  obtain ⟨j, hj, rfl⟩ := List.mem_iff_getElem.1 hx
  have hj' : j < s.size := by simpa using hj
  exact h j hj'
theorem may_bad (s : ByteArray) (j : Nat) (hj : j < s.size) (h : maySt s[j] = false) : s.data.toList.all maySt = false := by
  rw [← Bool.not_eq_true, List.all_eq_true]
  intro hh
  have := hh s[j] (by
    have : j < s.data.toList.length := by simpa using hj
    exact List.mem_iff_getElem.2 ⟨j, this, rfl⟩)
  rw [h] at this
  cases this
theorem ba_ext {s : ByteArray} {d : Array UInt8} (h : s.toList = d.toList) : s = ⟨d⟩ := by
  rw [ByteArray.toList_eq] at h
  obtain ⟨a⟩ := s
  congr 1
  exact Array.ext' h
set_option maxHeartbeats 8000000 in
theorem name_any (s : ByteArray) (w : World) : Calls Tryz.prog 45 #[.string s] w fun e w' => e = .returned (.int .i64 (nameC s)) ∧ w' = w := by
  by_cases h0 : s = ⟨#[]⟩
  · subst h0
    go_enter Tryz.func45, Tryz.ntmps45
    go_wp2_with fail
    go_ret
    exact ⟨rfl, rfl⟩
  by_cases h1 : s = ⟨#[46]⟩
  · subst h1
    go_enter Tryz.func45, Tryz.ntmps45
    go_wp2_with fail
    go_ret
    exact ⟨rfl, rfl⟩
  by_cases h2 : s = ⟨#[46, 46]⟩
  · subst h2
    go_enter Tryz.func45, Tryz.ntmps45
    go_wp2_with fail
    go_ret
    exact ⟨by unfold nameC; rw [if_pos (.inr (.inr rfl))]; rfl, rfl⟩
  have hz : ¬ (s.size = 0 ∨ s = ⟨#[46]⟩ ∨ s = ⟨#[46, 46]⟩) := by
    rintro (h | h | h)
    · refine h0 ?_
      obtain ⟨d⟩ := s
      congr 1
      exact Array.size_eq_zero_iff.1 h
    · exact h1 h
    · exact h2 h
  have HZ := Lib.hid hz
  clear hz
  have q0 : s.toList.isEmpty = false := by
    rw [← Bool.not_eq_true, List.isEmpty_iff]
    exact fun h => h0 (ba_ext h)
  have q1 : (s.toList == [46]) = false := by
    rw [← Bool.not_eq_true, beq_iff_eq]
    exact fun h => h1 (ba_ext h)
  have q2 : (s.toList == [46, 46]) = false := by
    rw [← Bool.not_eq_true, beq_iff_eq]
    exact fun h => h2 (ba_ext h)
  clear h0 h1 h2
  by_cases h14 : 14 < s.size
  · have h14' : (14 : Int) < s.size := by omega
    have HL := Lib.hid h14
    go_enter Tryz.func45, Tryz.ntmps45
    go_wp2_with fail
    go_ret
    exact ⟨by unfold nameC; rw [if_neg HZ.out, if_pos HL.out]; rfl, rfl⟩
  · have h14' : ¬ (14 : Int) < s.size := by omega
    have HL := Lib.hid h14
    have hl : (s.size : Int) ≤ 14 := by omega
    go_enter Tryz.func45, Tryz.ntmps45
    go_wp2_with fail
    go_loop [3, 19] (fun _ i => ∃ k : Nat, k ≤ s.size ∧ i = .int .i64 k ∧ ∀ j (hj : j < s.size), j < k → maySt s[j] = true) (fun _ i => s.size - (Go.RowKit.intOf i).toNat)
    case atStart => exact ⟨0, Nat.zero_le _, rfl, fun j _ h => absurd h (Nat.not_lt_zero _)⟩
    case round =>
      obtain ⟨k, hk, rfl, hall⟩ := hrel
      have HA := Lib.hid hall
      clear hall
      by_cases hlt : k < s.size
      · have hlt' : (k : Int) < s.size := by omega
        have hk0 : (0 : Int) ≤ k := by omega
        have HM := Lib.hid (fun W => maystand_any s[k] W)
        go_wp2_with fail
        refine (HM.out w).mono ?_
        rintro e wz ⟨rfl, hwz⟩
        rw [hwz]
        clear hwz
        cases hm : maySt s[k]
        · have HF := Lib.hid (may_bad s k hlt hm)
          clear HM
          go_wp2_with fail
          go_ret
          exact ⟨by unfold nameC; rw [if_neg HZ.out, if_neg HL.out, if_neg (by rw [HF.out]; decide)]; rfl, rfl⟩
        · have HT := Lib.hid hm
          clear HM
          go_wp2_with fail
          go_round
          case rel =>
            refine ⟨k + 1, by omega, by go_num, fun j hj hjk => ?_⟩
            by_cases e : j = k
            · subst e
              exact HT.out
            · exact HA.out j hj (by omega)
          case measure => simp [Go.RowKit.intOf]; omega
      · obtain rfl : k = s.size := by omega
        have HT := Lib.hid (may_upto s (fun j hj => HA.out j hj hj))
        clear HA
        go_wp2_with fail
        go_ret
        exact ⟨by unfold nameC; rw [if_neg HZ.out, if_neg HL.out, if_pos HT.out]; rfl, rfl⟩
end Go.Proofs.YtgfgdfcedmcjeaaGreatDoor

namespace Go.Proofs.YtgfgdfcedmcjeaaGreatDoor
set_option linter.unusedSimpArgs false
set_option linter.unusedVariables false
open Go.RowKit Go.Maps

/-- a way: three steps -/
def wyc (a b c : Int) : List Value := [.int .i64 a, .int .i64 b, .int .i64 c]
theorem wyc_one (a b c : Int) : ∀ v ∈ wyc a b c, v.oneCell' = true := by
  intro v hv
  simp only [wyc, List.mem_cons, List.not_mem_nil, or_false] at hv
  rcases hv with rfl | rfl | rfl <;> rfl
theorem Tryz.zeroWy : (Tryz.prog.info? 209).map (fun i => i.zero) = some (some (.agg (wyc 0 0 0).toArray)) := by kernel_rfl
theorem Tryz.isizeWy : (Tryz.prog.info? 209).map (·.size) = some 3 := by kernel_rfl
theorem sizeWy (a b c : Int) : (Tryz.prog.info? 209).map (·.size) = some (wyc a b c).length := Tryz.isizeWy
theorem Tryz.descWy : ∃ d, Tryz.prog.underlying 209 = some d ∧ d.isRow = true := by
  have h : (Tryz.prog.underlying 209).map (·.isRow) = some true := by kernel_rfl
  obtain ⟨d, hu, hd⟩ := Option.map_eq_some_iff.1 h
  exact ⟨d, hu, hd⟩
set_option maxHeartbeats 4000000 in
theorem wayto_out (x : Int) (hx : x < 0 ∨ 256 ≤ x) (w : World) : Calls Tryz.prog 104 #[.int .i64 x] w fun e w' => e = .returned (.agg (wyc 0 0 0).toArray) ∧ Below w.heap.size w w' := by
  by_cases h0 : x < 0
  · clear hx
    go_enter Tryz.func104, Tryz.ntmps104
    go_wp2
    exact bodyPost_ret (v := .agg (wyc 0 0 0).toArray) (by simp [results, Tryz.results104, go_sem, wyc]) rfl ⟨rfl, (Below.refl _ _).alloc (Nat.le_refl _) _⟩
  · have h1 : 256 ≤ x := by omega
    clear hx
    go_enter Tryz.func104, Tryz.ntmps104
    go_wp2
    exact bodyPost_ret (v := .agg (wyc 0 0 0).toArray) (by simp [results, Tryz.results104, go_sem, wyc]) rfl ⟨rfl, (Below.refl _ _).alloc (Nat.le_refl _) _⟩
set_option maxHeartbeats 4000000 in
theorem wayto_dir (x : Int) (h0 : 0 ≤ x) (h1 : x < 6) (w : World) : Calls Tryz.prog 104 #[.int .i64 x] w fun e w' => e = .returned (.agg (wyc (x + 1) 0 0).toArray) ∧ Below w.heap.size w w' := by
  have h2 : ¬ 256 ≤ x := by omega
  go_enter Tryz.func104, Tryz.ntmps104
  go_wp2
  exact bodyPost_ret (v := .agg (wyc (x + 1) 0 0).toArray) (by simp [results, Tryz.results104, go_sem, wyc]) rfl ⟨rfl, (Below.refl _ _).alloc (Nat.le_refl _) _⟩
set_option maxHeartbeats 4000000 in
theorem wayto_sin (x : Int) (h0 : 6 ≤ x) (h1 : x < 38) (w : World) : Calls Tryz.prog 104 #[.int .i64 x] w fun e w' => e = .returned (.agg (wyc 7 (x - 6 + 1) 0).toArray) ∧ Below w.heap.size w w' := by
  have h2 : ¬ 256 ≤ x := by omega
  have h3 : 0 ≤ x := by omega
  have h4 : ¬ x < 6 := by omega
  have h5 : x - 6 < 32 := by omega
  go_enter Tryz.func104, Tryz.ntmps104
  go_wp2
  exact bodyPost_ret (v := .agg (wyc 7 (x - 6 + 1) 0).toArray) (by simp [results, Tryz.results104, go_sem, wyc]) rfl ⟨rfl, (Below.refl _ _).alloc (Nat.le_refl _) _⟩
set_option maxHeartbeats 4000000 in
theorem wayto_dbl (x : Int) (h0 : 38 ≤ x) (h1 : x < 256) (w : World) : Calls Tryz.prog 104 #[.int .i64 x] w fun e w' => e = .returned (.agg (wyc 8 ((x - 6 - 32) / 32 + 1) ((x - 6) % 32 + 1)).toArray) ∧ Below w.heap.size w w' := by
  have h2 : ¬ 256 ≤ x := by omega
  have h3 : 0 ≤ x := by omega
  have h4 : ¬ x < 6 := by omega
  have h5 : ¬ x - 6 < 32 := by omega
  go_enter Tryz.func104, Tryz.ntmps104
  go_wp2
  exact bodyPost_ret (v := .agg (wyc 8 ((x - 6 - 32) / 32 + 1) ((x - 6) % 32 + 1)).toArray) (by simp [results, Tryz.results104, go_sem, wyc]) rfl ⟨rfl, (Below.refl _ _).alloc (Nat.le_refl _) _⟩
set_option maxHeartbeats 8000000 in
theorem steps0 (w : World) : Calls Tryz.prog 126 #[.agg (wyc 0 0 0).toArray] w fun e w' => e = .returned (.int .i64 0) ∧ Below w.heap.size w w' := by
  go_enter Tryz.func126, Tryz.ntmps126
  go_upto_region 1 with (first | (refine wpList_box_list (w := w) rfl 209 _ rfl (wyc 0 0 0) rfl ?_; intro w1 F1 hb1 hz1))
  have HB1 := Lib.hid hb1
  have e0 := F1.out.c 0 _ rfl
  have e1 := F1.out.c 1 _ rfl
  have e2 := F1.out.c 2 _ rfl
  clear hb1 hz1 F1
  go_wp2_with fail
  go_loop [3] (fun x => ∃ k : Nat, k ≤ 0 ∧ x = .int .i64 k) (fun x => 0 - (Go.RowKit.intOf x).toNat)
  case atStart => exact ⟨0, Nat.zero_le _, rfl⟩
  case round =>
    obtain ⟨k, hk, rfl⟩ := hrel
    have hc : k = 0 := by omega
    rcases hc with rfl
    · go_wp2_with fail
      go_ret
      exact ⟨rfl, HB1.out⟩
set_option maxHeartbeats 8000000 in
theorem steps1 (a : Int) (ha : 0 < a) (w : World) : Calls Tryz.prog 126 #[.agg (wyc a 0 0).toArray] w fun e w' => e = .returned (.int .i64 1) ∧ Below w.heap.size w w' := by
  go_enter Tryz.func126, Tryz.ntmps126
  go_upto_region 1 with (first | (refine wpList_box_list (w := w) rfl 209 _ rfl (wyc a 0 0) rfl ?_; intro w1 F1 hb1 hz1))
  have HB1 := Lib.hid hb1
  have e0 := F1.out.c 0 _ rfl
  have e1 := F1.out.c 1 _ rfl
  have e2 := F1.out.c 2 _ rfl
  clear hb1 hz1 F1
  go_wp2_with fail
  go_loop [3] (fun x => ∃ k : Nat, k ≤ 1 ∧ x = .int .i64 k) (fun x => 1 - (Go.RowKit.intOf x).toNat)
  case atStart => exact ⟨0, Nat.zero_le _, rfl⟩
  case round =>
    obtain ⟨k, hk, rfl⟩ := hrel
    have hc : k = 0 ∨ k = 1 := by omega
    rcases hc with rfl | rfl
    · go_wp2_with fail
      go_round
      case rel => exact ⟨1, by decide, by go_num⟩
      case measure => simp [Go.RowKit.intOf]
    · go_wp2_with fail
      go_ret
      exact ⟨rfl, HB1.out⟩
set_option maxHeartbeats 8000000 in
theorem steps2 (a b : Int) (ha : 0 < a) (hb : 0 < b) (w : World) : Calls Tryz.prog 126 #[.agg (wyc a b 0).toArray] w fun e w' => e = .returned (.int .i64 2) ∧ Below w.heap.size w w' := by
  go_enter Tryz.func126, Tryz.ntmps126
  go_upto_region 1 with (first | (refine wpList_box_list (w := w) rfl 209 _ rfl (wyc a b 0) rfl ?_; intro w1 F1 hb1 hz1))
  have HB1 := Lib.hid hb1
  have e0 := F1.out.c 0 _ rfl
  have e1 := F1.out.c 1 _ rfl
  have e2 := F1.out.c 2 _ rfl
  clear hb1 hz1 F1
  go_wp2_with fail
  go_loop [3] (fun x => ∃ k : Nat, k ≤ 2 ∧ x = .int .i64 k) (fun x => 2 - (Go.RowKit.intOf x).toNat)
  case atStart => exact ⟨0, Nat.zero_le _, rfl⟩
  case round =>
    obtain ⟨k, hk, rfl⟩ := hrel
    have hc : k = 0 ∨ k = 1 ∨ k = 2 := by omega
    rcases hc with rfl | rfl | rfl
    · go_wp2_with fail
      go_round
      case rel => exact ⟨1, by decide, by go_num⟩
      case measure => simp [Go.RowKit.intOf]
    · go_wp2_with fail
      go_round
      case rel => exact ⟨2, by decide, by go_num⟩
      case measure => simp [Go.RowKit.intOf]
    · go_wp2_with fail
      go_ret
      exact ⟨rfl, HB1.out⟩
set_option maxHeartbeats 8000000 in
theorem steps3 (a b c : Int) (ha : 0 < a) (hb : 0 < b) (hc : 0 < c) (w : World) : Calls Tryz.prog 126 #[.agg (wyc a b c).toArray] w fun e w' => e = .returned (.int .i64 3) ∧ Below w.heap.size w w' := by
  go_enter Tryz.func126, Tryz.ntmps126
  go_upto_region 1 with (first | (refine wpList_box_list (w := w) rfl 209 _ rfl (wyc a b c) rfl ?_; intro w1 F1 hb1 hz1))
  have HB1 := Lib.hid hb1
  have e0 := F1.out.c 0 _ rfl
  have e1 := F1.out.c 1 _ rfl
  have e2 := F1.out.c 2 _ rfl
  clear hb1 hz1 F1
  go_wp2_with fail
  go_loop [3] (fun x => ∃ k : Nat, k ≤ 3 ∧ x = .int .i64 k) (fun x => 3 - (Go.RowKit.intOf x).toNat)
  case atStart => exact ⟨0, Nat.zero_le _, rfl⟩
  case round =>
    obtain ⟨k, hk, rfl⟩ := hrel
    have hc : k = 0 ∨ k = 1 ∨ k = 2 ∨ k = 3 := by omega
    rcases hc with rfl | rfl | rfl | rfl
    · go_wp2_with fail
      go_round
      case rel => exact ⟨1, by decide, by go_num⟩
      case measure => simp [Go.RowKit.intOf]
    · go_wp2_with fail
      go_round
      case rel => exact ⟨2, by decide, by go_num⟩
      case measure => simp [Go.RowKit.intOf]
    · go_wp2_with fail
      go_round
      case rel => exact ⟨3, by decide, by go_num⟩
      case measure => simp [Go.RowKit.intOf]
    · go_wp2_with fail
      go_ret
      exact ⟨rfl, HB1.out⟩
end Go.Proofs.YtgfgdfcedmcjeaaGreatDoor

namespace Go.Proofs.YtgfgdfcedmcjeaaGreatDoor
set_option linter.unusedSimpArgs false
set_option linter.unusedVariables false
open Go.RowKit Go.Maps

theorem Tryz.slInt : Tryz.prog.underlying 133 = some (.slice 3) := Tryz.underlying133
theorem Tryz.isizeInt : (Tryz.prog.info? 3).map (·.size) = some 1 := by kernel_rfl
set_option maxHeartbeats 8000000 in
set_option maxRecDepth 100000 in
theorem first0 (a b c : Int) (w : World) : Calls Tryz.prog 125 #[.agg (wyc a b c).toArray, .int .i64 0] w fun e w' => e = .returned (.agg (wyc 0 0 0).toArray) ∧ Below w.heap.size w w' := by
  obtain ⟨d, hu, hd⟩ := Tryz.descWy
  have HU := Lib.hid hu
  have HD := Lib.hid hd
  clear hu hd
  go_enter Tryz.func125, Tryz.ntmps125
  go_upto_region 2 with (first | (refine wpList_box_list (w := w) rfl 209 _ rfl (wyc a b c) rfl ?_; intro w1 F1 hb1 hz1; have HB1 := Lib.hid hb1; have hq1 : w.heap.size < w1.heap.size := (by omega); clear hb1 hz1) | (refine wpList_alloc_list (w := w1) rfl 209 rfl (wyc 0 0 0) Tryz.zeroWy ?_; intro w2 F2 hb2 hz2; have HB2 := Lib.hid hb2; have hq2 : w1.heap.size < w2.heap.size := (by omega); clear hb2 hz2) | (refine wpList_alloc_list (w := w2) rfl 209 rfl (wyc 0 0 0) Tryz.zeroWy ?_; intro w3 F3 hb3 hz3; have HB3 := Lib.hid hb3; have hq3 : w2.heap.size < w3.heap.size := (by omega); clear hb3 hz3))
  obtain ⟨b1, hb1⟩ : ∃ b, w.heap.size = b := ⟨_, rfl⟩
  obtain ⟨b2, hb2⟩ : ∃ b, w1.heap.size = b := ⟨_, rfl⟩
  obtain ⟨b3, hb3⟩ : ∃ b, w2.heap.size = b := ⟨_, rfl⟩
  have G1 := Lib.hid ((F1.out.keep HB2.out).keep HB3.out)
  have G2 := Lib.hid (F2.out.keep HB3.out)
  have HB := Lib.hid ((HB1.out.trans (HB2.out.mono HB1.out.size)).trans (HB3.out.mono (Nat.le_trans HB1.out.size HB2.out.size)))
  rw [hb1, hb2] at hq1
  rw [hb2, hb3] at hq2
  rw [hb3] at hq3
  rw [hb1] at G1 HB
  rw [hb2] at G2
  rw [hb3] at F3
  have HW := Lib.hid hb1
  try rw [hb1]
  try rw [hb2]
  try rw [hb3]
  clear hb1 hb2 hb3 HB1 HB2 HB3 F1 F2
  go_still_tail 3, (by kernel_rfl)
  have D1 := Lib.hid (G1.out.keep (Below.refl w3.heap.size w3).drew)
  have D2 := Lib.hid (G2.out.keep (Below.refl w3.heap.size w3).drew)
  have D3 := Lib.hid (F3.out.keep (Below.refl w3.heap.size w3).drew)
  have DB := Lib.hid (HB.out.drew)
  change wpList _ _ _ _ _ (World.drew w3)
  have hq4 : b3 < (World.drew w3).heap.size := hq3
  obtain ⟨w4, hw4⟩ : ∃ x, World.drew w3 = x := ⟨_, rfl⟩
  rw [hw4] at D1 D2 D3 DB hq4 ⊢
  clear hw4 G1 G2 F3 HB hq3
  refine wpList_copy_mid rfl (.tmp 7) (.tmp 8) 133 133 rfl 3 Tryz.slInt 1 Tryz.isizeInt b3 0 0 3 (some ⟨b1, 0, none⟩) 3 3 rfl rfl [] rfl (fun hh => ⟨_, rfl, fun j v hj => ?_⟩) ?_ (fun v hv => ?_) ?_
  · rw [Addr.add_mid, Nat.zero_add]
    exact D1.out.c j v (by
      match j, hj with

      | (n + 0), hj => cases hj)
  · exact fun j hj => D3.out.there0 3 rfl j (Nat.lt_of_lt_of_le hj (by show 0 ≤ 3; decide))
  · cases hv
  have E3 : Hid (Vl (w4.setCells b3 0 []) b3 (wyc 0 0 0)) := D3
  have hk : Kp w4 (w4.setCells b3 0 []) b3 b3 := (Kp.refl w4 b3 b3).setCells b3 0 (.inl rfl) _
  have E2 := Lib.hid (D2.out.kp hk (by omega) (by omega))
  have EB := Lib.hid (DB.out.trans (hk.below (by omega) (by omega) (by omega)))
  obtain ⟨w5, hw5⟩ : ∃ x, w4.setCells b3 0 [] = x := ⟨_, rfl⟩
  rw [hw5] at E2 E3 EB hk ⊢
  have hq5 := hk.size
  clear hw5 hk D1 D2 D3 DB
  have HR := Lib.hid E3.out.range0
  have PF := Lib.hid (E2.out.stored (wyc 0 0 0) rfl)
  go_wp2_with (first | (refine wpList_load_mid rfl 209 _ rfl b3 0 rfl (wyc 0 0 0) d HR.out HU.out HD.out (sizeWy _ _ _) ?_) | (refine wpList_store_mid rfl 209 _ _ rfl b2 0 (wyc 0 0 0).toArray rfl rfl (E2.out.there0 3 rfl) (sizeWy _ _ _) (all_oneCell_toArray (wyc_one _ _ _)) ?_))
  exact bodyPost_ret_by (results_mid rfl _ _ b2 _ d rfl PF.out.range0 HU.out HD.out (sizeWy _ _ _)) rfl ⟨rfl, by rw [HW.out]; exact below_setCells EB.out b2 0 (by omega) _⟩
set_option maxHeartbeats 8000000 in
set_option maxRecDepth 100000 in
theorem first1 (a b c : Int) (w : World) : Calls Tryz.prog 125 #[.agg (wyc a b c).toArray, .int .i64 1] w fun e w' => e = .returned (.agg (wyc a 0 0).toArray) ∧ Below w.heap.size w w' := by
  obtain ⟨d, hu, hd⟩ := Tryz.descWy
  have HU := Lib.hid hu
  have HD := Lib.hid hd
  clear hu hd
  go_enter Tryz.func125, Tryz.ntmps125
  go_upto_region 2 with (first | (refine wpList_box_list (w := w) rfl 209 _ rfl (wyc a b c) rfl ?_; intro w1 F1 hb1 hz1; have HB1 := Lib.hid hb1; have hq1 : w.heap.size < w1.heap.size := (by omega); clear hb1 hz1) | (refine wpList_alloc_list (w := w1) rfl 209 rfl (wyc 0 0 0) Tryz.zeroWy ?_; intro w2 F2 hb2 hz2; have HB2 := Lib.hid hb2; have hq2 : w1.heap.size < w2.heap.size := (by omega); clear hb2 hz2) | (refine wpList_alloc_list (w := w2) rfl 209 rfl (wyc 0 0 0) Tryz.zeroWy ?_; intro w3 F3 hb3 hz3; have HB3 := Lib.hid hb3; have hq3 : w2.heap.size < w3.heap.size := (by omega); clear hb3 hz3))
  obtain ⟨b1, hb1⟩ : ∃ b, w.heap.size = b := ⟨_, rfl⟩
  obtain ⟨b2, hb2⟩ : ∃ b, w1.heap.size = b := ⟨_, rfl⟩
  obtain ⟨b3, hb3⟩ : ∃ b, w2.heap.size = b := ⟨_, rfl⟩
  have G1 := Lib.hid ((F1.out.keep HB2.out).keep HB3.out)
  have G2 := Lib.hid (F2.out.keep HB3.out)
  have HB := Lib.hid ((HB1.out.trans (HB2.out.mono HB1.out.size)).trans (HB3.out.mono (Nat.le_trans HB1.out.size HB2.out.size)))
  rw [hb1, hb2] at hq1
  rw [hb2, hb3] at hq2
  rw [hb3] at hq3
  rw [hb1] at G1 HB
  rw [hb2] at G2
  rw [hb3] at F3
  have HW := Lib.hid hb1
  try rw [hb1]
  try rw [hb2]
  try rw [hb3]
  clear hb1 hb2 hb3 HB1 HB2 HB3 F1 F2
  go_still_tail 3, (by kernel_rfl)
  have D1 := Lib.hid (G1.out.keep (Below.refl w3.heap.size w3).drew)
  have D2 := Lib.hid (G2.out.keep (Below.refl w3.heap.size w3).drew)
  have D3 := Lib.hid (F3.out.keep (Below.refl w3.heap.size w3).drew)
  have DB := Lib.hid (HB.out.drew)
  change wpList _ _ _ _ _ (World.drew w3)
  have hq4 : b3 < (World.drew w3).heap.size := hq3
  obtain ⟨w4, hw4⟩ : ∃ x, World.drew w3 = x := ⟨_, rfl⟩
  rw [hw4] at D1 D2 D3 DB hq4 ⊢
  clear hw4 G1 G2 F3 HB hq3
  refine wpList_copy_mid rfl (.tmp 7) (.tmp 8) 133 133 rfl 3 Tryz.slInt 1 Tryz.isizeInt b3 0 1 3 (some ⟨b1, 0, none⟩) 3 3 rfl rfl [.int .i64 a] rfl (fun hh => ⟨_, rfl, fun j v hj => ?_⟩) ?_ (fun v hv => ?_) ?_
  · rw [Addr.add_mid, Nat.zero_add]
    exact D1.out.c j v (by
      match j, hj with
      | 0, hj => exact hj
      | (n + 1), hj => cases hj)
  · exact fun j hj => D3.out.there0 3 rfl j (Nat.lt_of_lt_of_le hj (by show 1 ≤ 3; decide))
  · simp only [List.mem_cons, List.not_mem_nil, or_false] at hv
    rcases hv with rfl <;> rfl
  have E3 : Hid (Vl (w4.setCells b3 0 [.int .i64 a]) b3 (wyc a 0 0)) := Lib.hid (D3.out.set 0 (by show 0 < 3; decide) (.int .i64 a))
  have hk : Kp w4 (w4.setCells b3 0 [.int .i64 a]) b3 b3 := (Kp.refl w4 b3 b3).setCells b3 0 (.inl rfl) _
  have E2 := Lib.hid (D2.out.kp hk (by omega) (by omega))
  have EB := Lib.hid (DB.out.trans (hk.below (by omega) (by omega) (by omega)))
  obtain ⟨w5, hw5⟩ : ∃ x, w4.setCells b3 0 [.int .i64 a] = x := ⟨_, rfl⟩
  rw [hw5] at E2 E3 EB hk ⊢
  have hq5 := hk.size
  clear hw5 hk D1 D2 D3 DB
  have HR := Lib.hid E3.out.range0
  have PF := Lib.hid (E2.out.stored (wyc a 0 0) rfl)
  go_wp2_with (first | (refine wpList_load_mid rfl 209 _ rfl b3 0 rfl (wyc a 0 0) d HR.out HU.out HD.out (sizeWy _ _ _) ?_) | (refine wpList_store_mid rfl 209 _ _ rfl b2 0 (wyc a 0 0).toArray rfl rfl (E2.out.there0 3 rfl) (sizeWy _ _ _) (all_oneCell_toArray (wyc_one _ _ _)) ?_))
  exact bodyPost_ret_by (results_mid rfl _ _ b2 _ d rfl PF.out.range0 HU.out HD.out (sizeWy _ _ _)) rfl ⟨rfl, by rw [HW.out]; exact below_setCells EB.out b2 0 (by omega) _⟩
set_option maxHeartbeats 8000000 in
set_option maxRecDepth 100000 in
theorem first2 (a b c : Int) (w : World) : Calls Tryz.prog 125 #[.agg (wyc a b c).toArray, .int .i64 2] w fun e w' => e = .returned (.agg (wyc a b 0).toArray) ∧ Below w.heap.size w w' := by
  obtain ⟨d, hu, hd⟩ := Tryz.descWy
  have HU := Lib.hid hu
  have HD := Lib.hid hd
  clear hu hd
  go_enter Tryz.func125, Tryz.ntmps125
  go_upto_region 2 with (first | (refine wpList_box_list (w := w) rfl 209 _ rfl (wyc a b c) rfl ?_; intro w1 F1 hb1 hz1; have HB1 := Lib.hid hb1; have hq1 : w.heap.size < w1.heap.size := (by omega); clear hb1 hz1) | (refine wpList_alloc_list (w := w1) rfl 209 rfl (wyc 0 0 0) Tryz.zeroWy ?_; intro w2 F2 hb2 hz2; have HB2 := Lib.hid hb2; have hq2 : w1.heap.size < w2.heap.size := (by omega); clear hb2 hz2) | (refine wpList_alloc_list (w := w2) rfl 209 rfl (wyc 0 0 0) Tryz.zeroWy ?_; intro w3 F3 hb3 hz3; have HB3 := Lib.hid hb3; have hq3 : w2.heap.size < w3.heap.size := (by omega); clear hb3 hz3))
  obtain ⟨b1, hb1⟩ : ∃ b, w.heap.size = b := ⟨_, rfl⟩
  obtain ⟨b2, hb2⟩ : ∃ b, w1.heap.size = b := ⟨_, rfl⟩
  obtain ⟨b3, hb3⟩ : ∃ b, w2.heap.size = b := ⟨_, rfl⟩
  have G1 := Lib.hid ((F1.out.keep HB2.out).keep HB3.out)
  have G2 := Lib.hid (F2.out.keep HB3.out)
  have HB := Lib.hid ((HB1.out.trans (HB2.out.mono HB1.out.size)).trans (HB3.out.mono (Nat.le_trans HB1.out.size HB2.out.size)))
  rw [hb1, hb2] at hq1
  rw [hb2, hb3] at hq2
  rw [hb3] at hq3
  rw [hb1] at G1 HB
  rw [hb2] at G2
  rw [hb3] at F3
  have HW := Lib.hid hb1
  try rw [hb1]
  try rw [hb2]
  try rw [hb3]
  clear hb1 hb2 hb3 HB1 HB2 HB3 F1 F2
  go_still_tail 3, (by kernel_rfl)
  have D1 := Lib.hid (G1.out.keep (Below.refl w3.heap.size w3).drew)
  have D2 := Lib.hid (G2.out.keep (Below.refl w3.heap.size w3).drew)
  have D3 := Lib.hid (F3.out.keep (Below.refl w3.heap.size w3).drew)
  have DB := Lib.hid (HB.out.drew)
  change wpList _ _ _ _ _ (World.drew w3)
  have hq4 : b3 < (World.drew w3).heap.size := hq3
  obtain ⟨w4, hw4⟩ : ∃ x, World.drew w3 = x := ⟨_, rfl⟩
  rw [hw4] at D1 D2 D3 DB hq4 ⊢
  clear hw4 G1 G2 F3 HB hq3
  refine wpList_copy_mid rfl (.tmp 7) (.tmp 8) 133 133 rfl 3 Tryz.slInt 1 Tryz.isizeInt b3 0 2 3 (some ⟨b1, 0, none⟩) 3 3 rfl rfl [.int .i64 a, .int .i64 b] rfl (fun hh => ⟨_, rfl, fun j v hj => ?_⟩) ?_ (fun v hv => ?_) ?_
  · rw [Addr.add_mid, Nat.zero_add]
    exact D1.out.c j v (by
      match j, hj with
      | 0, hj => exact hj
      | 1, hj => exact hj
      | (n + 2), hj => cases hj)
  · exact fun j hj => D3.out.there0 3 rfl j (Nat.lt_of_lt_of_le hj (by show 2 ≤ 3; decide))
  · simp only [List.mem_cons, List.not_mem_nil, or_false] at hv
    rcases hv with rfl | rfl <;> rfl
  have E3 : Hid (Vl (w4.setCells b3 0 [.int .i64 a, .int .i64 b]) b3 (wyc a b 0)) := Lib.hid ((D3.out.set 0 (by show 0 < 3; decide) (.int .i64 a)).set 1 (by show 1 < 3; decide) (.int .i64 b))
  have hk : Kp w4 (w4.setCells b3 0 [.int .i64 a, .int .i64 b]) b3 b3 := (Kp.refl w4 b3 b3).setCells b3 0 (.inl rfl) _
  have E2 := Lib.hid (D2.out.kp hk (by omega) (by omega))
  have EB := Lib.hid (DB.out.trans (hk.below (by omega) (by omega) (by omega)))
  obtain ⟨w5, hw5⟩ : ∃ x, w4.setCells b3 0 [.int .i64 a, .int .i64 b] = x := ⟨_, rfl⟩
  rw [hw5] at E2 E3 EB hk ⊢
  have hq5 := hk.size
  clear hw5 hk D1 D2 D3 DB
  have HR := Lib.hid E3.out.range0
  have PF := Lib.hid (E2.out.stored (wyc a b 0) rfl)
  go_wp2_with (first | (refine wpList_load_mid rfl 209 _ rfl b3 0 rfl (wyc a b 0) d HR.out HU.out HD.out (sizeWy _ _ _) ?_) | (refine wpList_store_mid rfl 209 _ _ rfl b2 0 (wyc a b 0).toArray rfl rfl (E2.out.there0 3 rfl) (sizeWy _ _ _) (all_oneCell_toArray (wyc_one _ _ _)) ?_))
  exact bodyPost_ret_by (results_mid rfl _ _ b2 _ d rfl PF.out.range0 HU.out HD.out (sizeWy _ _ _)) rfl ⟨rfl, by rw [HW.out]; exact below_setCells EB.out b2 0 (by omega) _⟩
set_option maxHeartbeats 8000000 in
set_option maxRecDepth 100000 in
theorem first3 (a b c : Int) (w : World) : Calls Tryz.prog 125 #[.agg (wyc a b c).toArray, .int .i64 3] w fun e w' => e = .returned (.agg (wyc a b c).toArray) ∧ Below w.heap.size w w' := by
  obtain ⟨d, hu, hd⟩ := Tryz.descWy
  have HU := Lib.hid hu
  have HD := Lib.hid hd
  clear hu hd
  go_enter Tryz.func125, Tryz.ntmps125
  go_upto_region 2 with (first | (refine wpList_box_list (w := w) rfl 209 _ rfl (wyc a b c) rfl ?_; intro w1 F1 hb1 hz1; have HB1 := Lib.hid hb1; have hq1 : w.heap.size < w1.heap.size := (by omega); clear hb1 hz1) | (refine wpList_alloc_list (w := w1) rfl 209 rfl (wyc 0 0 0) Tryz.zeroWy ?_; intro w2 F2 hb2 hz2; have HB2 := Lib.hid hb2; have hq2 : w1.heap.size < w2.heap.size := (by omega); clear hb2 hz2) | (refine wpList_alloc_list (w := w2) rfl 209 rfl (wyc 0 0 0) Tryz.zeroWy ?_; intro w3 F3 hb3 hz3; have HB3 := Lib.hid hb3; have hq3 : w2.heap.size < w3.heap.size := (by omega); clear hb3 hz3))
  obtain ⟨b1, hb1⟩ : ∃ b, w.heap.size = b := ⟨_, rfl⟩
  obtain ⟨b2, hb2⟩ : ∃ b, w1.heap.size = b := ⟨_, rfl⟩
  obtain ⟨b3, hb3⟩ : ∃ b, w2.heap.size = b := ⟨_, rfl⟩
  have G1 := Lib.hid ((F1.out.keep HB2.out).keep HB3.out)
  have G2 := Lib.hid (F2.out.keep HB3.out)
  have HB := Lib.hid ((HB1.out.trans (HB2.out.mono HB1.out.size)).trans (HB3.out.mono (Nat.le_trans HB1.out.size HB2.out.size)))
  rw [hb1, hb2] at hq1
  rw [hb2, hb3] at hq2
  rw [hb3] at hq3
  rw [hb1] at G1 HB
  rw [hb2] at G2
  rw [hb3] at F3
  have HW := Lib.hid hb1
  try rw [hb1]
  try rw [hb2]
  try rw [hb3]
  clear hb1 hb2 hb3 HB1 HB2 HB3 F1 F2
  go_still_tail 3, (by kernel_rfl)
  have D1 := Lib.hid (G1.out.keep (Below.refl w3.heap.size w3).drew)
  have D2 := Lib.hid (G2.out.keep (Below.refl w3.heap.size w3).drew)
  have D3 := Lib.hid (F3.out.keep (Below.refl w3.heap.size w3).drew)
  have DB := Lib.hid (HB.out.drew)
  change wpList _ _ _ _ _ (World.drew w3)
  have hq4 : b3 < (World.drew w3).heap.size := hq3
  obtain ⟨w4, hw4⟩ : ∃ x, World.drew w3 = x := ⟨_, rfl⟩
  rw [hw4] at D1 D2 D3 DB hq4 ⊢
  clear hw4 G1 G2 F3 HB hq3
  refine wpList_copy_mid rfl (.tmp 7) (.tmp 8) 133 133 rfl 3 Tryz.slInt 1 Tryz.isizeInt b3 0 3 3 (some ⟨b1, 0, none⟩) 3 3 rfl rfl [.int .i64 a, .int .i64 b, .int .i64 c] rfl (fun hh => ⟨_, rfl, fun j v hj => ?_⟩) ?_ (fun v hv => ?_) ?_
  · rw [Addr.add_mid, Nat.zero_add]
    exact D1.out.c j v (by
      match j, hj with
      | 0, hj => exact hj
      | 1, hj => exact hj
      | 2, hj => exact hj
      | (n + 3), hj => cases hj)
  · exact fun j hj => D3.out.there0 3 rfl j (Nat.lt_of_lt_of_le hj (by show 3 ≤ 3; decide))
  · simp only [List.mem_cons, List.not_mem_nil, or_false] at hv
    rcases hv with rfl | rfl | rfl <;> rfl
  have E3 : Hid (Vl (w4.setCells b3 0 [.int .i64 a, .int .i64 b, .int .i64 c]) b3 (wyc a b c)) := Lib.hid (((D3.out.set 0 (by show 0 < 3; decide) (.int .i64 a)).set 1 (by show 1 < 3; decide) (.int .i64 b)).set 2 (by show 2 < 3; decide) (.int .i64 c))
  have hk : Kp w4 (w4.setCells b3 0 [.int .i64 a, .int .i64 b, .int .i64 c]) b3 b3 := (Kp.refl w4 b3 b3).setCells b3 0 (.inl rfl) _
  have E2 := Lib.hid (D2.out.kp hk (by omega) (by omega))
  have EB := Lib.hid (DB.out.trans (hk.below (by omega) (by omega) (by omega)))
  obtain ⟨w5, hw5⟩ : ∃ x, w4.setCells b3 0 [.int .i64 a, .int .i64 b, .int .i64 c] = x := ⟨_, rfl⟩
  rw [hw5] at E2 E3 EB hk ⊢
  have hq5 := hk.size
  clear hw5 hk D1 D2 D3 DB
  have HR := Lib.hid E3.out.range0
  have PF := Lib.hid (E2.out.stored (wyc a b c) rfl)
  go_wp2_with (first | (refine wpList_load_mid rfl 209 _ rfl b3 0 rfl (wyc a b c) d HR.out HU.out HD.out (sizeWy _ _ _) ?_) | (refine wpList_store_mid rfl 209 _ _ rfl b2 0 (wyc a b c).toArray rfl rfl (E2.out.there0 3 rfl) (sizeWy _ _ _) (all_oneCell_toArray (wyc_one _ _ _)) ?_))
  exact bodyPost_ret_by (results_mid rfl _ _ b2 _ d rfl PF.out.range0 HU.out HD.out (sizeWy _ _ _)) rfl ⟨rfl, by rw [HW.out]; exact below_setCells EB.out b2 0 (by omega) _⟩
set_option maxHeartbeats 8000000 in
set_option maxRecDepth 100000 in
theorem up1 (a : Int) (ha : 0 < a) (w : World) : Calls Tryz.prog 106 #[.agg (wyc a 0 0).toArray] w fun e w' => e = .returned (.agg (wyc 0 0 0).toArray) ∧ Below w.heap.size w w' := by
  obtain ⟨d, hu, hd⟩ := Tryz.descWy
  have HU := Lib.hid hu
  have HD := Lib.hid hd
  have HST := Lib.hid (fun W => steps1 a ha W)
  have HFI := Lib.hid (fun W => first0 a 0 0 W)
  clear hu hd ha
  go_enter Tryz.func106, Tryz.ntmps106
  go_upto_region 1 with (first | (refine wpList_box_list (w := w) rfl 209 _ rfl (wyc a 0 0) rfl ?_; intro w1 F1 hb1 hz1; have HB1 := Lib.hid hb1; have hq1 : w.heap.size < w1.heap.size := (by omega); clear hb1 hz1) | (refine wpList_alloc_list (w := w1) rfl 209 rfl (wyc 0 0 0) Tryz.zeroWy ?_; intro w2 F2 hb2 hz2; have HB2 := Lib.hid hb2; have hq2 : w1.heap.size < w2.heap.size := (by omega); clear hb2 hz2))
  obtain ⟨b1, hb1⟩ : ∃ b, w.heap.size = b := ⟨_, rfl⟩
  obtain ⟨b2, hb2⟩ : ∃ b, w1.heap.size = b := ⟨_, rfl⟩
  have G1 := Lib.hid (F1.out.keep HB2.out)
  have HB := Lib.hid (HB1.out.trans (HB2.out.mono HB1.out.size))
  rw [hb1, hb2] at hq1
  rw [hb2] at hq2
  rw [hb1] at G1 HB
  rw [hb2] at F2
  have HW := Lib.hid hb1
  try rw [hb1]
  try rw [hb2]
  clear hb1 hb2 HB1 HB2 F1
  refine wp_region_held (S := fun W => Vl W b1 (wyc a 0 0) ∧ (∃ cs, cs.length = 3 ∧ Vl W b2 cs) ∧ Below b1 w W) (by kernel_rfl) ?_
  change wpAnyH _ _ _ _ _ _ _ _ (World.drew _)
  have hS0 : (fun W => Vl W b1 (wyc a 0 0) ∧ (∃ cs, cs.length = 3 ∧ Vl W b2 cs) ∧ Below b1 w W) w2.drew := ⟨G1.out.keep (Below.refl _ _).drew, ⟨_, rfl, F2.out.keep (Below.refl _ _).drew⟩, HB.out.drew⟩
  obtain ⟨w3, hw3⟩ : ∃ x, World.drew w2 = x := ⟨_, rfl⟩
  rw [hw3] at hS0  ⊢
  clear hw3
  refine wpAnyH_take (i := 0) (v := .agg (wyc a 0 0).toArray) rfl (by kernel_rfl) (by kernel_rfl) (by kernel_rfl) (fun _ _ _ h => h) ?_ hS0 ?_
  · exact yieldsIf_load_mid (by rfl) 209 (.tmp 1) rfl b1 0 rfl (wyc a 0 0) d (fun W hW => hW.1.range0) HU.out HD.out (sizeWy _ _ _)
  simp only [Act.put, List.getElem_toArray, List.getElem_cons_zero, List.getElem_cons_succ, List.setIfInBounds_toArray, List.set_cons_zero, List.set_cons_succ]
  refine wpAnyH_take (i := 1) (v := .agg (wyc a 0 0).toArray) rfl (by kernel_rfl) (by kernel_rfl) (by kernel_rfl) (fun _ _ _ h => h) ?_ hS0 ?_
  · exact yieldsIf_load_mid (by rfl) 209 (.tmp 1) rfl b1 0 rfl (wyc a 0 0) d (fun W hW => hW.1.range0) HU.out HD.out (sizeWy _ _ _)
  simp only [Act.put, List.getElem_toArray, List.getElem_cons_zero, List.getElem_cons_succ, List.setIfInBounds_toArray, List.set_cons_zero, List.set_cons_succ]
  refine wpAnyH_ready (rs := [2]) (by kernel_rfl) (by simp) (AllReadyH.cons rfl (fun KK hKK => ?_) AllReadyH.nil)
  go_simp
  refine (HST.out w3).mono ?_
  rintro e w4 ⟨rfl, hb⟩
  replace hS0 : (fun W => Vl W b1 (wyc a 0 0) ∧ (∃ cs, cs.length = 3 ∧ Vl W b2 cs) ∧ Below b1 w W) w4 := ⟨hS0.1.keep hb, hS0.2.1.imp fun _ h => ⟨h.1, h.2.keep hb⟩, hS0.2.2.trans (hb.mono (Nat.le_of_lt hS0.1.lt))⟩
  clear hb
  refine hKK _ _ hS0 ?_
  intro _
  clear hKK KK
  try simp only [Act.put, List.getElem_toArray, List.getElem_cons_zero, List.getElem_cons_succ, List.setIfInBounds_toArray, List.set_cons_zero, List.set_cons_succ]
  refine wpAnyH_take (i := 3) (v := ?_) rfl (by kernel_rfl) (by kernel_rfl) (by kernel_rfl) (fun _ _ _ h => h) (Or.inl ⟨by rfl, ?_⟩) hS0 ?_
  rotate_left 1
  · intro W hW
    go_simp
    try with_reducible rfl
  simp only [Act.put, List.getElem_toArray, List.getElem_cons_zero, List.getElem_cons_succ, List.setIfInBounds_toArray, List.set_cons_zero, List.set_cons_succ]
  refine wpAnyH_ready (rs := [4]) (by kernel_rfl) (by simp) (AllReadyH.cons rfl (fun KK hKK => ?_) AllReadyH.nil)
  go_simp
  refine (HFI.out w4).mono ?_
  rintro e w5 ⟨rfl, hb⟩
  replace hS0 : (fun W => Vl W b1 (wyc a 0 0) ∧ (∃ cs, cs.length = 3 ∧ Vl W b2 cs) ∧ Below b1 w W) w5 := ⟨hS0.1.keep hb, hS0.2.1.imp fun _ h => ⟨h.1, h.2.keep hb⟩, hS0.2.2.trans (hb.mono (Nat.le_of_lt hS0.1.lt))⟩
  clear hb
  refine hKK _ _ hS0 ?_
  intro _
  clear hKK KK
  try simp only [Act.put, List.getElem_toArray, List.getElem_cons_zero, List.getElem_cons_succ, List.setIfInBounds_toArray, List.set_cons_zero, List.set_cons_succ]
  obtain ⟨cs, hcl, hVb⟩ := hS0.2.1
  have PF := Lib.hid (hVb.stored (wyc 0 0 0) (by rw [hcl]; rfl))
  refine wpAnyH_ready (rs := [5]) (by kernel_rfl) (by simp) (AllReadyH.cons rfl (fun KK hKK => ?_) AllReadyH.nil)
  refine step_store_mid rfl 209 _ _ rfl b2 0 (wyc 0 0 0).toArray rfl rfl (hVb.there0 3 (by rw [hcl])) (sizeWy _ _ _) (all_oneCell_toArray (wyc_one _ _ _)) ?_
  have hk : Kp w5 (w5.setCells b2 0 (wyc 0 0 0)) b2 b2 := (Kp.refl w5 b2 b2).setCells b2 0 (.inl rfl) _
  have hS1 : (fun W => Vl W b1 (wyc a 0 0) ∧ (∃ cs, cs.length = 3 ∧ Vl W b2 cs) ∧ Below b1 w W) (w5.setCells b2 0 (wyc 0 0 0)) := ⟨hS0.1.kp hk (by omega) (by omega), ⟨_, rfl, PF.out⟩, hS0.2.2.trans (hk.below (by omega) (by omega) (Nat.le_of_lt hS0.1.lt))⟩
  obtain ⟨w6, hw6⟩ : ∃ x, w5.setCells b2 0 (wyc 0 0 0) = x := ⟨_, rfl⟩
  change KK _ (w5.setCells b2 0 (wyc 0 0 0))
  rw [hw6] at hS1 PF ⊢
  clear hS0 hw6 hk
  refine hKK _ _ hS1 ?_
  intro _
  clear hKK KK
  try simp only [Act.put, List.getElem_toArray, List.getElem_cons_zero, List.getElem_cons_succ, List.setIfInBounds_toArray, List.set_cons_zero, List.set_cons_succ]
  refine wpAnyH_done (by kernel_rfl) ?_ _
  have HBz := Lib.hid hS1.2.2
  clear hS1
  go_wp2_with fail
  exact bodyPost_ret_by (results_mid rfl _ _ b2 _ d rfl PF.out.range0 HU.out HD.out (sizeWy _ _ _)) rfl ⟨rfl, by rw [HW.out]; exact HBz.out⟩
set_option maxHeartbeats 8000000 in
set_option maxRecDepth 100000 in
theorem up2 (a b : Int) (ha : 0 < a) (hb : 0 < b) (w : World) : Calls Tryz.prog 106 #[.agg (wyc a b 0).toArray] w fun e w' => e = .returned (.agg (wyc a 0 0).toArray) ∧ Below w.heap.size w w' := by
  obtain ⟨d, hu, hd⟩ := Tryz.descWy
  have HU := Lib.hid hu
  have HD := Lib.hid hd
  have HST := Lib.hid (fun W => steps2 a b ha hb W)
  have HFI := Lib.hid (fun W => first1 a b 0 W)
  clear hu hd ha hb
  go_enter Tryz.func106, Tryz.ntmps106
  go_upto_region 1 with (first | (refine wpList_box_list (w := w) rfl 209 _ rfl (wyc a b 0) rfl ?_; intro w1 F1 hb1 hz1; have HB1 := Lib.hid hb1; have hq1 : w.heap.size < w1.heap.size := (by omega); clear hb1 hz1) | (refine wpList_alloc_list (w := w1) rfl 209 rfl (wyc 0 0 0) Tryz.zeroWy ?_; intro w2 F2 hb2 hz2; have HB2 := Lib.hid hb2; have hq2 : w1.heap.size < w2.heap.size := (by omega); clear hb2 hz2))
  obtain ⟨b1, hb1⟩ : ∃ b, w.heap.size = b := ⟨_, rfl⟩
  obtain ⟨b2, hb2⟩ : ∃ b, w1.heap.size = b := ⟨_, rfl⟩
  have G1 := Lib.hid (F1.out.keep HB2.out)
  have HB := Lib.hid (HB1.out.trans (HB2.out.mono HB1.out.size))
  rw [hb1, hb2] at hq1
  rw [hb2] at hq2
  rw [hb1] at G1 HB
  rw [hb2] at F2
  have HW := Lib.hid hb1
  try rw [hb1]
  try rw [hb2]
  clear hb1 hb2 HB1 HB2 F1
  refine wp_region_held (S := fun W => Vl W b1 (wyc a b 0) ∧ (∃ cs, cs.length = 3 ∧ Vl W b2 cs) ∧ Below b1 w W) (by kernel_rfl) ?_
  change wpAnyH _ _ _ _ _ _ _ _ (World.drew _)
  have hS0 : (fun W => Vl W b1 (wyc a b 0) ∧ (∃ cs, cs.length = 3 ∧ Vl W b2 cs) ∧ Below b1 w W) w2.drew := ⟨G1.out.keep (Below.refl _ _).drew, ⟨_, rfl, F2.out.keep (Below.refl _ _).drew⟩, HB.out.drew⟩
  obtain ⟨w3, hw3⟩ : ∃ x, World.drew w2 = x := ⟨_, rfl⟩
  rw [hw3] at hS0  ⊢
  clear hw3
  refine wpAnyH_take (i := 0) (v := .agg (wyc a b 0).toArray) rfl (by kernel_rfl) (by kernel_rfl) (by kernel_rfl) (fun _ _ _ h => h) ?_ hS0 ?_
  · exact yieldsIf_load_mid (by rfl) 209 (.tmp 1) rfl b1 0 rfl (wyc a b 0) d (fun W hW => hW.1.range0) HU.out HD.out (sizeWy _ _ _)
  simp only [Act.put, List.getElem_toArray, List.getElem_cons_zero, List.getElem_cons_succ, List.setIfInBounds_toArray, List.set_cons_zero, List.set_cons_succ]
  refine wpAnyH_take (i := 1) (v := .agg (wyc a b 0).toArray) rfl (by kernel_rfl) (by kernel_rfl) (by kernel_rfl) (fun _ _ _ h => h) ?_ hS0 ?_
  · exact yieldsIf_load_mid (by rfl) 209 (.tmp 1) rfl b1 0 rfl (wyc a b 0) d (fun W hW => hW.1.range0) HU.out HD.out (sizeWy _ _ _)
  simp only [Act.put, List.getElem_toArray, List.getElem_cons_zero, List.getElem_cons_succ, List.setIfInBounds_toArray, List.set_cons_zero, List.set_cons_succ]
  refine wpAnyH_ready (rs := [2]) (by kernel_rfl) (by simp) (AllReadyH.cons rfl (fun KK hKK => ?_) AllReadyH.nil)
  go_simp
  refine (HST.out w3).mono ?_
  rintro e w4 ⟨rfl, hb⟩
  replace hS0 : (fun W => Vl W b1 (wyc a b 0) ∧ (∃ cs, cs.length = 3 ∧ Vl W b2 cs) ∧ Below b1 w W) w4 := ⟨hS0.1.keep hb, hS0.2.1.imp fun _ h => ⟨h.1, h.2.keep hb⟩, hS0.2.2.trans (hb.mono (Nat.le_of_lt hS0.1.lt))⟩
  clear hb
  refine hKK _ _ hS0 ?_
  intro _
  clear hKK KK
  try simp only [Act.put, List.getElem_toArray, List.getElem_cons_zero, List.getElem_cons_succ, List.setIfInBounds_toArray, List.set_cons_zero, List.set_cons_succ]
  refine wpAnyH_take (i := 3) (v := ?_) rfl (by kernel_rfl) (by kernel_rfl) (by kernel_rfl) (fun _ _ _ h => h) (Or.inl ⟨by rfl, ?_⟩) hS0 ?_
  rotate_left 1
  · intro W hW
    go_simp
    try with_reducible rfl
  simp only [Act.put, List.getElem_toArray, List.getElem_cons_zero, List.getElem_cons_succ, List.setIfInBounds_toArray, List.set_cons_zero, List.set_cons_succ]
  refine wpAnyH_ready (rs := [4]) (by kernel_rfl) (by simp) (AllReadyH.cons rfl (fun KK hKK => ?_) AllReadyH.nil)
  go_simp
  refine (HFI.out w4).mono ?_
  rintro e w5 ⟨rfl, hb⟩
  replace hS0 : (fun W => Vl W b1 (wyc a b 0) ∧ (∃ cs, cs.length = 3 ∧ Vl W b2 cs) ∧ Below b1 w W) w5 := ⟨hS0.1.keep hb, hS0.2.1.imp fun _ h => ⟨h.1, h.2.keep hb⟩, hS0.2.2.trans (hb.mono (Nat.le_of_lt hS0.1.lt))⟩
  clear hb
  refine hKK _ _ hS0 ?_
  intro _
  clear hKK KK
  try simp only [Act.put, List.getElem_toArray, List.getElem_cons_zero, List.getElem_cons_succ, List.setIfInBounds_toArray, List.set_cons_zero, List.set_cons_succ]
  obtain ⟨cs, hcl, hVb⟩ := hS0.2.1
  have PF := Lib.hid (hVb.stored (wyc a 0 0) (by rw [hcl]; rfl))
  refine wpAnyH_ready (rs := [5]) (by kernel_rfl) (by simp) (AllReadyH.cons rfl (fun KK hKK => ?_) AllReadyH.nil)
  refine step_store_mid rfl 209 _ _ rfl b2 0 (wyc a 0 0).toArray rfl rfl (hVb.there0 3 (by rw [hcl])) (sizeWy _ _ _) (all_oneCell_toArray (wyc_one _ _ _)) ?_
  have hk : Kp w5 (w5.setCells b2 0 (wyc a 0 0)) b2 b2 := (Kp.refl w5 b2 b2).setCells b2 0 (.inl rfl) _
  have hS1 : (fun W => Vl W b1 (wyc a b 0) ∧ (∃ cs, cs.length = 3 ∧ Vl W b2 cs) ∧ Below b1 w W) (w5.setCells b2 0 (wyc a 0 0)) := ⟨hS0.1.kp hk (by omega) (by omega), ⟨_, rfl, PF.out⟩, hS0.2.2.trans (hk.below (by omega) (by omega) (Nat.le_of_lt hS0.1.lt))⟩
  obtain ⟨w6, hw6⟩ : ∃ x, w5.setCells b2 0 (wyc a 0 0) = x := ⟨_, rfl⟩
  change KK _ (w5.setCells b2 0 (wyc a 0 0))
  rw [hw6] at hS1 PF ⊢
  clear hS0 hw6 hk
  refine hKK _ _ hS1 ?_
  intro _
  clear hKK KK
  try simp only [Act.put, List.getElem_toArray, List.getElem_cons_zero, List.getElem_cons_succ, List.setIfInBounds_toArray, List.set_cons_zero, List.set_cons_succ]
  refine wpAnyH_done (by kernel_rfl) ?_ _
  have HBz := Lib.hid hS1.2.2
  clear hS1
  go_wp2_with fail
  exact bodyPost_ret_by (results_mid rfl _ _ b2 _ d rfl PF.out.range0 HU.out HD.out (sizeWy _ _ _)) rfl ⟨rfl, by rw [HW.out]; exact HBz.out⟩
set_option maxHeartbeats 8000000 in
set_option maxRecDepth 100000 in
theorem up3 (a b c : Int) (ha : 0 < a) (hb : 0 < b) (hc : 0 < c) (w : World) : Calls Tryz.prog 106 #[.agg (wyc a b c).toArray] w fun e w' => e = .returned (.agg (wyc a b 0).toArray) ∧ Below w.heap.size w w' := by
  obtain ⟨d, hu, hd⟩ := Tryz.descWy
  have HU := Lib.hid hu
  have HD := Lib.hid hd
  have HST := Lib.hid (fun W => steps3 a b c ha hb hc W)
  have HFI := Lib.hid (fun W => first2 a b c W)
  clear hu hd ha hb hc
  go_enter Tryz.func106, Tryz.ntmps106
  go_upto_region 1 with (first | (refine wpList_box_list (w := w) rfl 209 _ rfl (wyc a b c) rfl ?_; intro w1 F1 hb1 hz1; have HB1 := Lib.hid hb1; have hq1 : w.heap.size < w1.heap.size := (by omega); clear hb1 hz1) | (refine wpList_alloc_list (w := w1) rfl 209 rfl (wyc 0 0 0) Tryz.zeroWy ?_; intro w2 F2 hb2 hz2; have HB2 := Lib.hid hb2; have hq2 : w1.heap.size < w2.heap.size := (by omega); clear hb2 hz2))
  obtain ⟨b1, hb1⟩ : ∃ b, w.heap.size = b := ⟨_, rfl⟩
  obtain ⟨b2, hb2⟩ : ∃ b, w1.heap.size = b := ⟨_, rfl⟩
  have G1 := Lib.hid (F1.out.keep HB2.out)
  have HB := Lib.hid (HB1.out.trans (HB2.out.mono HB1.out.size))
  rw [hb1, hb2] at hq1
  rw [hb2] at hq2
  rw [hb1] at G1 HB
  rw [hb2] at F2
  have HW := Lib.hid hb1
  try rw [hb1]
  try rw [hb2]
  clear hb1 hb2 HB1 HB2 F1
  refine wp_region_held (S := fun W => Vl W b1 (wyc a b c) ∧ (∃ cs, cs.length = 3 ∧ Vl W b2 cs) ∧ Below b1 w W) (by kernel_rfl) ?_
  change wpAnyH _ _ _ _ _ _ _ _ (World.drew _)
  have hS0 : (fun W => Vl W b1 (wyc a b c) ∧ (∃ cs, cs.length = 3 ∧ Vl W b2 cs) ∧ Below b1 w W) w2.drew := ⟨G1.out.keep (Below.refl _ _).drew, ⟨_, rfl, F2.out.keep (Below.refl _ _).drew⟩, HB.out.drew⟩
  obtain ⟨w3, hw3⟩ : ∃ x, World.drew w2 = x := ⟨_, rfl⟩
  rw [hw3] at hS0  ⊢
  clear hw3
  refine wpAnyH_take (i := 0) (v := .agg (wyc a b c).toArray) rfl (by kernel_rfl) (by kernel_rfl) (by kernel_rfl) (fun _ _ _ h => h) ?_ hS0 ?_
  · exact yieldsIf_load_mid (by rfl) 209 (.tmp 1) rfl b1 0 rfl (wyc a b c) d (fun W hW => hW.1.range0) HU.out HD.out (sizeWy _ _ _)
  simp only [Act.put, List.getElem_toArray, List.getElem_cons_zero, List.getElem_cons_succ, List.setIfInBounds_toArray, List.set_cons_zero, List.set_cons_succ]
  refine wpAnyH_take (i := 1) (v := .agg (wyc a b c).toArray) rfl (by kernel_rfl) (by kernel_rfl) (by kernel_rfl) (fun _ _ _ h => h) ?_ hS0 ?_
  · exact yieldsIf_load_mid (by rfl) 209 (.tmp 1) rfl b1 0 rfl (wyc a b c) d (fun W hW => hW.1.range0) HU.out HD.out (sizeWy _ _ _)
  simp only [Act.put, List.getElem_toArray, List.getElem_cons_zero, List.getElem_cons_succ, List.setIfInBounds_toArray, List.set_cons_zero, List.set_cons_succ]
  refine wpAnyH_ready (rs := [2]) (by kernel_rfl) (by simp) (AllReadyH.cons rfl (fun KK hKK => ?_) AllReadyH.nil)
  go_simp
  refine (HST.out w3).mono ?_
  rintro e w4 ⟨rfl, hb⟩
  replace hS0 : (fun W => Vl W b1 (wyc a b c) ∧ (∃ cs, cs.length = 3 ∧ Vl W b2 cs) ∧ Below b1 w W) w4 := ⟨hS0.1.keep hb, hS0.2.1.imp fun _ h => ⟨h.1, h.2.keep hb⟩, hS0.2.2.trans (hb.mono (Nat.le_of_lt hS0.1.lt))⟩
  clear hb
  refine hKK _ _ hS0 ?_
  intro _
  clear hKK KK
  try simp only [Act.put, List.getElem_toArray, List.getElem_cons_zero, List.getElem_cons_succ, List.setIfInBounds_toArray, List.set_cons_zero, List.set_cons_succ]
  refine wpAnyH_take (i := 3) (v := ?_) rfl (by kernel_rfl) (by kernel_rfl) (by kernel_rfl) (fun _ _ _ h => h) (Or.inl ⟨by rfl, ?_⟩) hS0 ?_
  rotate_left 1
  · intro W hW
    go_simp
    try with_reducible rfl
  simp only [Act.put, List.getElem_toArray, List.getElem_cons_zero, List.getElem_cons_succ, List.setIfInBounds_toArray, List.set_cons_zero, List.set_cons_succ]
  refine wpAnyH_ready (rs := [4]) (by kernel_rfl) (by simp) (AllReadyH.cons rfl (fun KK hKK => ?_) AllReadyH.nil)
  go_simp
  refine (HFI.out w4).mono ?_
  rintro e w5 ⟨rfl, hb⟩
  replace hS0 : (fun W => Vl W b1 (wyc a b c) ∧ (∃ cs, cs.length = 3 ∧ Vl W b2 cs) ∧ Below b1 w W) w5 := ⟨hS0.1.keep hb, hS0.2.1.imp fun _ h => ⟨h.1, h.2.keep hb⟩, hS0.2.2.trans (hb.mono (Nat.le_of_lt hS0.1.lt))⟩
  clear hb
  refine hKK _ _ hS0 ?_
  intro _
  clear hKK KK
  try simp only [Act.put, List.getElem_toArray, List.getElem_cons_zero, List.getElem_cons_succ, List.setIfInBounds_toArray, List.set_cons_zero, List.set_cons_succ]
  obtain ⟨cs, hcl, hVb⟩ := hS0.2.1
  have PF := Lib.hid (hVb.stored (wyc a b 0) (by rw [hcl]; rfl))
  refine wpAnyH_ready (rs := [5]) (by kernel_rfl) (by simp) (AllReadyH.cons rfl (fun KK hKK => ?_) AllReadyH.nil)
  refine step_store_mid rfl 209 _ _ rfl b2 0 (wyc a b 0).toArray rfl rfl (hVb.there0 3 (by rw [hcl])) (sizeWy _ _ _) (all_oneCell_toArray (wyc_one _ _ _)) ?_
  have hk : Kp w5 (w5.setCells b2 0 (wyc a b 0)) b2 b2 := (Kp.refl w5 b2 b2).setCells b2 0 (.inl rfl) _
  have hS1 : (fun W => Vl W b1 (wyc a b c) ∧ (∃ cs, cs.length = 3 ∧ Vl W b2 cs) ∧ Below b1 w W) (w5.setCells b2 0 (wyc a b 0)) := ⟨hS0.1.kp hk (by omega) (by omega), ⟨_, rfl, PF.out⟩, hS0.2.2.trans (hk.below (by omega) (by omega) (Nat.le_of_lt hS0.1.lt))⟩
  obtain ⟨w6, hw6⟩ : ∃ x, w5.setCells b2 0 (wyc a b 0) = x := ⟨_, rfl⟩
  change KK _ (w5.setCells b2 0 (wyc a b 0))
  rw [hw6] at hS1 PF ⊢
  clear hS0 hw6 hk
  refine hKK _ _ hS1 ?_
  intro _
  clear hKK KK
  try simp only [Act.put, List.getElem_toArray, List.getElem_cons_zero, List.getElem_cons_succ, List.setIfInBounds_toArray, List.set_cons_zero, List.set_cons_succ]
  refine wpAnyH_done (by kernel_rfl) ?_ _
  have HBz := Lib.hid hS1.2.2
  clear hS1
  go_wp2_with fail
  exact bodyPost_ret_by (results_mid rfl _ _ b2 _ d rfl PF.out.range0 HU.out HD.out (sizeWy _ _ _)) rfl ⟨rfl, by rw [HW.out]; exact HBz.out⟩
end Go.Proofs.YtgfgdfcedmcjeaaGreatDoor

namespace Go.Proofs
open Go.Shelf
def Tryz.lays162_ren : Go.Shelf.Ren := ⟨fun | 162 => 101 | 232 => 120 | 227 => 121 | 234 => 122 | 236 => 123 | 228 => 145 | 271 => 146 | 151 => 147 | 120 => 159 | 197 => 160 | 152 => 161 | 260 => 168 | 137 => 169 | 119 => 170 | 224 => 171 | 225 => 172 | 217 => 175 | 266 => 176 | n => n, fun | 9 => 9 | 4 => 4 | 3 => 3 | 5 => 5 | 117 => 230 | 116 => 229 | 0 => 0 | 124 => 233 | 21 => 21 | 105 => 252 | 46 => 205 | 119 => 277 | 139 => 280 | 138 => 279 | n => n, fun | 3 => 0 | 4 => 1 | n => n⟩
theorem Tryz.lays162 : Go.Proofs.Lays.n162 Tryz.prog Tryz.lays162_ren := {
  mixed := by kernel_rfl
  f119 := Tryz.func170.trans (congrArg some (by kernel_rfl))
  f120 := Tryz.func159.trans (congrArg some (by kernel_rfl))
  f137 := Tryz.func169.trans (congrArg some (by kernel_rfl))
  f151 := Tryz.func147.trans (congrArg some (by kernel_rfl))
  f152 := Tryz.func161.trans (congrArg some (by kernel_rfl))
  f162 := Tryz.func101.trans (congrArg some (by kernel_rfl))
  f197 := Tryz.func160.trans (congrArg some (by kernel_rfl))
  f217 := Tryz.func175.trans (congrArg some (by kernel_rfl))
  f224 := Tryz.func171.trans (congrArg some (by kernel_rfl))
  f225 := Tryz.func172.trans (congrArg some (by kernel_rfl))
  f227 := Tryz.func121.trans (congrArg some (by kernel_rfl))
  f228 := Tryz.func145.trans (congrArg some (by kernel_rfl))
  f232 := Tryz.func120.trans (congrArg some (by kernel_rfl))
  f234 := Tryz.func122.trans (congrArg some (by kernel_rfl))
  f236 := Tryz.func123.trans (congrArg some (by kernel_rfl))
  f260 := Tryz.func168.trans (congrArg some (by kernel_rfl))
  f266 := Tryz.func176.trans (congrArg some (by kernel_rfl))
  f271 := Tryz.func146.trans (congrArg some (by kernel_rfl))
  t0 := Tryz.underlying0
  a0 := Tryz.isAgg0
  z0 := Tryz.sizeOf0
  v0 := Tryz.zeroValue0
  t3 := Tryz.underlying3
  a3 := Tryz.isAgg3
  z3 := Tryz.sizeOf3
  v3 := Tryz.zeroValue3
  t4 := Tryz.underlying4
  a4 := Tryz.isAgg4
  z4 := Tryz.sizeOf4
  v4 := Tryz.zeroValue4
  t5 := Tryz.underlying5
  a5 := Tryz.isAgg5
  z5 := Tryz.sizeOf5
  v5 := Tryz.zeroValue5
  t9 := Tryz.underlying9
  a9 := Tryz.isAgg9
  z9 := Tryz.sizeOf9
  v9 := Tryz.zeroValue9
  t21 := Tryz.underlying21
  a21 := Tryz.isAgg21
  z21 := Tryz.sizeOf21
  v21 := Tryz.zeroValue21
  t46 := Tryz.underlying205
  a46 := Tryz.isAgg205
  z46 := Tryz.sizeOf205
  v46 := Tryz.zeroValue205
  t105 := Tryz.underlying252
  a105 := Tryz.isAgg252
  z105 := Tryz.sizeOf252
  v105 := Tryz.zeroValue252
  t116 := Tryz.underlying229
  a116 := Tryz.isAgg229
  z116 := Tryz.sizeOf229
  t117 := Tryz.underlying230
  a117 := Tryz.isAgg230
  z117 := Tryz.sizeOf230
  v117 := Tryz.zeroValue230
  t119 := Tryz.underlying277
  a119 := Tryz.isAgg277
  z119 := Tryz.sizeOf277
  t124 := Tryz.underlying233
  a124 := Tryz.isAgg233
  z124 := Tryz.sizeOf233
  v124 := Tryz.zeroValue233
  t138 := Tryz.underlying279
  a138 := Tryz.isAgg279
  z138 := Tryz.sizeOf279
  v138 := Tryz.zeroValue279
  t139 := Tryz.underlying280
  a139 := Tryz.isAgg280
  z139 := Tryz.sizeOf280
  v139 := Tryz.zeroValue280
  g3 := by kernel_rfl
  g4 := by kernel_rfl }
open Go.RowKit in
/-- strings.TrimRight: "TrimRight returns a slice of the string s, with all trailing Unicode code points contained in cutset removed.": AT A cutset OF ONE ASCII BYTE. The world is as it was. (LAID: no walk: one application.) -/
theorem Tryz.strings_TrimRight_one (s : ByteArray) (c : UInt8) (hc : c.toNat < 128) (w : World) (hs : s.size ≤ 9223372036854775807) :
    Calls Tryz.prog 101 #[.string s, .string ⟨#[c]⟩] w fun e w' => e = .returned (.string ⟨(Lib.trimRightB s.data.toList c).toArray⟩) ∧ w' = w := Any.strings_TrimRight_one Tryz.lays162 s c hc w hs
def Tryz.lays189_ren : Go.Shelf.Ren := ⟨fun | 189 => 83 | 125 => 112 | 257 => 111 | 128 => 140 | 129 => 141 | 294 => 131 | 295 => 132 | 296 => 133 | 297 => 134 | 298 => 135 | 299 => 136 | 216 => 137 | 300 => 138 | 301 => 139 | 328 => 153 | 329 => 154 | 330 => 155 | 331 => 156 | 332 => 157 | 215 => 158 | 343 => 167 | n => n, fun | 28 => 133 | 3 => 3 | 46 => 205 | 0 => 0 | 51 => 74 | 53 => 246 | 4 => 4 | 183 => 239 | 182 => 238 | 131 => 188 | 5 => 5 | 9 => 9 | 218 => 259 | 222 => 263 | 228 => 270 | 229 => 65 | n => n, fun | n => n⟩
theorem Tryz.lays189 : Go.Proofs.Lays.n189 Tryz.prog Tryz.lays189_ren := {
  mixed := by kernel_rfl
  f125 := Tryz.func112.trans (congrArg some (by kernel_rfl))
  f128 := Tryz.func140.trans (congrArg some (by kernel_rfl))
  f129 := Tryz.func141.trans (congrArg some (by kernel_rfl))
  f189 := Tryz.func83.trans (congrArg some (by kernel_rfl))
  f215 := Tryz.func158.trans (congrArg some (by kernel_rfl))
  f216 := Tryz.func137.trans (congrArg some (by kernel_rfl))
  f257 := Tryz.func111.trans (congrArg some (by kernel_rfl))
  f294 := Tryz.func131.trans (congrArg some (by kernel_rfl))
  f295 := Tryz.func132.trans (congrArg some (by kernel_rfl))
  f296 := Tryz.func133.trans (congrArg some (by kernel_rfl))
  f297 := Tryz.func134.trans (congrArg some (by kernel_rfl))
  f298 := Tryz.func135.trans (congrArg some (by kernel_rfl))
  f299 := Tryz.func136.trans (congrArg some (by kernel_rfl))
  f300 := Tryz.func138.trans (congrArg some (by kernel_rfl))
  f301 := Tryz.func139.trans (congrArg some (by kernel_rfl))
  f328 := Tryz.func153.trans (congrArg some (by kernel_rfl))
  f329 := Tryz.func154.trans (congrArg some (by kernel_rfl))
  f330 := Tryz.func155.trans (congrArg some (by kernel_rfl))
  f331 := Tryz.func156.trans (congrArg some (by kernel_rfl))
  f332 := Tryz.func157.trans (congrArg some (by kernel_rfl))
  f343 := Tryz.func167.trans (congrArg some (by kernel_rfl))
  t0 := Tryz.underlying0
  a0 := Tryz.isAgg0
  z0 := Tryz.sizeOf0
  v0 := Tryz.zeroValue0
  t3 := Tryz.underlying3
  a3 := Tryz.isAgg3
  z3 := Tryz.sizeOf3
  v3 := Tryz.zeroValue3
  t4 := Tryz.underlying4
  a4 := Tryz.isAgg4
  z4 := Tryz.sizeOf4
  v4 := Tryz.zeroValue4
  t5 := Tryz.underlying5
  a5 := Tryz.isAgg5
  z5 := Tryz.sizeOf5
  v5 := Tryz.zeroValue5
  t9 := Tryz.underlying9
  a9 := Tryz.isAgg9
  z9 := Tryz.sizeOf9
  v9 := Tryz.zeroValue9
  t28 := Tryz.underlying133
  a28 := Tryz.isAgg133
  z28 := Tryz.sizeOf133
  v28 := Tryz.zeroValue133
  t46 := Tryz.underlying205
  a46 := Tryz.isAgg205
  z46 := Tryz.sizeOf205
  v46 := Tryz.zeroValue205
  t51 := Tryz.underlying74
  a51 := Tryz.isAgg74
  z51 := Tryz.sizeOf74
  v51 := Tryz.zeroValue74
  t53 := Tryz.underlying246
  a53 := Tryz.isAgg246
  z53 := Tryz.sizeOf246
  v53 := Tryz.zeroValue246
  t131 := Tryz.underlying188
  a131 := Tryz.isAgg188
  z131 := Tryz.sizeOf188
  v131 := Tryz.zeroValue188
  t182 := Tryz.underlying238
  a182 := Tryz.isAgg238
  z182 := Tryz.sizeOf238
  v182 := Tryz.zeroValue238
  t183 := Tryz.underlying239
  a183 := Tryz.isAgg239
  z183 := Tryz.sizeOf239
  v183 := Tryz.zeroValue239
  t218 := Tryz.underlying259
  a218 := Tryz.isAgg259
  z218 := Tryz.sizeOf259
  v218 := Tryz.zeroValue259
  t222 := Tryz.underlying263
  a222 := Tryz.isAgg263
  z222 := Tryz.sizeOf263
  v222 := Tryz.zeroValue263
  t228 := Tryz.underlying270
  a228 := Tryz.isAgg270
  z228 := Tryz.sizeOf270
  v228 := Tryz.zeroValue270
  t229 := Tryz.underlying65
  a229 := Tryz.isAgg65
  z229 := Tryz.sizeOf65
  v229 := Tryz.zeroValue65 }
open Go.Sort Go.RowKit in
theorem Tryz.slices_Sort_int (blk off cap : Nat) (zs : List Int) (w : World) (hH : Holds (Value.int .i64) w blk off zs.toArray) (hblk : blk < w.heap.size) (hsz : zs.length < 4611686018427387904) :
    Calls Tryz.prog 83 #[.slice (some ⟨blk, off, none⟩) zs.length cap] w fun e w' =>
      e = .returned (.tuple #[]) ∧ ∃ n os, w' = grow (putRow (Value.int .i64) (Sort.ahead w n) blk off (zs.mergeSort fun x y => decide (x ≤ y)).toArray) os := Any.slices_Sort_int Tryz.lays189 blk off cap zs w hH hblk hsz
end Go.Proofs
