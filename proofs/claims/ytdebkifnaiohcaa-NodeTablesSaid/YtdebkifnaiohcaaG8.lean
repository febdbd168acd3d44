import Derived.Test.YtdebkifnaiohcaaG6
import Derived.Test.YtdebkifnaiohcaaD6
import Derived.LoopTactic
import Derived.IntWalk
import Derived.Lib.EndianBits
import Derived.Laws.ShiftsVarLaws
/- Numbers as bytes. -/
namespace Go.Proofs.Ytdebkifnaiohcaa
set_option linter.unusedSimpArgs false
set_option linter.unusedVariables false
open Go.RowKit Go.Maps


/-- byte i of a number -/
def dig (n : Int) (i : Nat) : Int := if i = 0 then n % 256 else if i = 1 then n / 256 % 256 else if i = 2 then n / 65536 % 256 else n / 16777216 % 256
theorem dig_bd (n : Int) (i : Nat) : 0 ≤ dig n i ∧ dig n i < 256 := by unfold dig; repeat' split
                                                                       all_goals omega
theorem upd_step (f : Nat → Int) (o k : Nat) (b : Nat → Int) : (fun j => if j = o + k then b k else upd f o k b j) = upd f o (k + 1) b := by
  funext j
  unfold upd
  by_cases h : j = o + k
  · subst h
    rw [if_pos rfl, if_pos (by omega), show o + k - o = k by omega]
  · rw [if_neg h]
    by_cases h2 : o ≤ j ∧ j < o + k
    · rw [if_pos h2, if_pos (by omega)]
    · rw [if_neg h2, if_neg (by omega)]
theorem upd_none (f : Nat → Int) (o : Nat) (b : Nat → Int) : upd f o 0 b = f := by
  funext j
  unfold upd
  rw [if_neg (by omega)]
set_option maxHeartbeats 4000000 in
set_option maxRecDepth 100000 in
theorem putnum_any (g o c cap N : Nat) (n : Int) (n0 : 0 ≤ n) (n1 : n < 4294967296) (hc : c ≤ 4) (hN : o + c ≤ N) (f : Nat → Int) (w : World) (F : Fl w g N f) :
    Calls Try.prog 23 #[.slice (some ⟨g, o, none⟩) c cap, .int .u32 n] w fun e w' => e = .returned (.tuple #[]) ∧ Fl w' g N (upd f o c (dig n)) ∧ Kp w w' g g := by
  have HF := Lib.hid F
  clear F
  have c4 : (c : Int) ≤ 4 := by omega
  have c0 : (0 : Int) ≤ c := by omega
  go_enter Try.func23, Try.ntmps23
  go_wp2_with fail
  go_loopw [7] (fun i wr => ∃ k : Nat, k ≤ c ∧ i = .int .i64 k ∧ Fl wr g N (upd f o k (dig n)) ∧ Kp w wr g g) (fun i _ => c - (intOf i).toNat)
  case atStart => exact ⟨0, by omega, rfl, by rw [upd_none]; exact HF.out, Kp.refl _ _ _⟩
  case round =>
    obtain ⟨k, hk, rfl, hF, hK⟩ := hrel
    have HR := Lib.hid hF
    have HK := Lib.hid hK
    clear hF hK HF
    by_cases hlt : k < c
    · have hkk : (k : Int) < c := by omega
      have hk4 : k = 0 ∨ k = 1 ∨ k = 2 ∨ k = 3 := by omega
      rcases hk4 with rfl | rfl | rfl | rfl
      · have hcell : wr.cell? ⟨g, o, none⟩ = _ := HR.out.c (o) (by omega)
        have hz : wr.frozen? ⟨g, o, none⟩ = false := HR.out.z (o) (by omega)
        have HX : Hid (Fl (wr.setCell ⟨g, o, none⟩ (.int .u8 (n % 256))) g N (upd f o 1 (dig n))) := by
          have h := HR.out.set (o) (by omega) (dig n 0)
          rw [show (fun j => if j = o then dig n 0 else upd f o 0 (dig n) j) = upd f o 1 (dig n) from upd_step f o 0 (dig n)] at h
          exact h
        have HKX : Hid (Kp w (wr.setCell ⟨g, o, none⟩ (.int .u8 (n % 256))) g g) := HK.out.setA (o) _
        clear HR HK
        have hk1 : 1 ≤ c := by omega
        go_wp2_with fail
        go_roundw
        case rel => exact ⟨1, hk1, rfl, HX.out, HKX.out⟩
        case measure => simp [intOf]; omega
      · have hcell : wr.cell? ⟨g, o + 1, none⟩ = _ := HR.out.c (o + 1) (by omega)
        have hz : wr.frozen? ⟨g, o + 1, none⟩ = false := HR.out.z (o + 1) (by omega)
        have HX : Hid (Fl (wr.setCell ⟨g, o + 1, none⟩ (.int .u8 (n / 256 % 256))) g N (upd f o 2 (dig n))) := by
          have h := HR.out.set (o + 1) (by omega) (dig n 1)
          rw [show (fun j => if j = o + 1 then dig n 1 else upd f o 1 (dig n) j) = upd f o 2 (dig n) from upd_step f o 1 (dig n)] at h
          exact h
        have HKX : Hid (Kp w (wr.setCell ⟨g, o + 1, none⟩ (.int .u8 (n / 256 % 256))) g g) := HK.out.setA (o + 1) _
        clear HR HK
        have hk1 : 2 ≤ c := by omega
        go_wp2_with fail
        go_roundw
        case rel => exact ⟨2, hk1, rfl, HX.out, HKX.out⟩
        case measure => simp [intOf]; omega
      · have hcell : wr.cell? ⟨g, o + 2, none⟩ = _ := HR.out.c (o + 2) (by omega)
        have hz : wr.frozen? ⟨g, o + 2, none⟩ = false := HR.out.z (o + 2) (by omega)
        have HX : Hid (Fl (wr.setCell ⟨g, o + 2, none⟩ (.int .u8 (n / 65536 % 256))) g N (upd f o 3 (dig n))) := by
          have h := HR.out.set (o + 2) (by omega) (dig n 2)
          rw [show (fun j => if j = o + 2 then dig n 2 else upd f o 2 (dig n) j) = upd f o 3 (dig n) from upd_step f o 2 (dig n)] at h
          exact h
        have HKX : Hid (Kp w (wr.setCell ⟨g, o + 2, none⟩ (.int .u8 (n / 65536 % 256))) g g) := HK.out.setA (o + 2) _
        clear HR HK
        have hk1 : 3 ≤ c := by omega
        go_wp2_with fail
        go_roundw
        case rel => exact ⟨3, hk1, rfl, HX.out, HKX.out⟩
        case measure => simp [intOf]; omega
      · have hcell : wr.cell? ⟨g, o + 3, none⟩ = _ := HR.out.c (o + 3) (by omega)
        have hz : wr.frozen? ⟨g, o + 3, none⟩ = false := HR.out.z (o + 3) (by omega)
        have HX : Hid (Fl (wr.setCell ⟨g, o + 3, none⟩ (.int .u8 (n / 16777216))) g N (upd f o 4 (dig n))) := by
          rw [show n / 16777216 = dig n 3 from (by show n / 16777216 = n / 16777216 % 256; omega)]
          have h := HR.out.set (o + 3) (by omega) (dig n 3)
          rw [show (fun j => if j = o + 3 then dig n 3 else upd f o 3 (dig n) j) = upd f o 4 (dig n) from upd_step f o 3 (dig n)] at h
          exact h
        have HKX : Hid (Kp w (wr.setCell ⟨g, o + 3, none⟩ (.int .u8 (n / 16777216))) g g) := HK.out.setA (o + 3) _
        clear HR HK
        have hk1 : 4 ≤ c := by omega
        go_wp2_with fail
        go_roundw
        case rel => exact ⟨4, hk1, rfl, HX.out, HKX.out⟩
        case measure => simp [intOf]; omega
    · obtain rfl : k = c := by omega
      go_wp2_with fail
      go_end0
      exact ⟨rfl, HR.out, HK.out⟩
/-- a number of some bytes, the lowest first -/
def numS (f : Nat → Int) (o : Nat) : Nat → Int
  | 0 => 0
  | k + 1 => numS f o k + f (o + k) * (if k = 0 then 1 else if k = 1 then 256 else if k = 2 then 65536 else 16777216)
theorem u32_in (n : Int) (h0 : 0 ≤ n) (h1 : n < 4294967296) : IntKind.u32.wrap n = n := by
  simp [IntKind.wrap, IntKind.bits, IntKind.signed]
  omega
theorem or_join (k : Nat) (hk : k = 0 ∨ k = 1 ∨ k = 2 ∨ k = 3) (a x m : Int) (hm : m = if k = 0 then 1 else if k = 1 then 256 else if k = 2 then 65536 else 16777216) (ha : 0 ≤ a ∧ a < m) (hx : 0 ≤ x ∧ x < 256) : Go.bits .or .u32 a (x * m) = a + x * m := by
  rcases hk with rfl | rfl | rfl | rfl
  · simp at hm
    subst hm
    obtain rfl : a = 0 := by omega
    rw [bits_join_low .u32 32 (by decide) (fun n h0 h1 => u32_in n h0 (by omega)) 0 0 (x * 1) (by omega) (by omega) (by omega) (by omega) (by omega) (by omega)]
  · simp at hm
    subst hm
    rw [bits_join_low .u32 32 (by decide) (fun n h0 h1 => u32_in n h0 (by omega)) 8 a (x * 256) ha.1 (by omega) (by omega) (by omega) (by omega) (by omega)]
  · simp at hm
    subst hm
    rw [bits_join_low .u32 32 (by decide) (fun n h0 h1 => u32_in n h0 (by omega)) 16 a (x * 65536) ha.1 (by omega) (by omega) (by omega) (by omega) (by omega)]
  · simp at hm
    subst hm
    rw [bits_join_low .u32 32 (by decide) (fun n h0 h1 => u32_in n h0 (by omega)) 24 a (x * 16777216) ha.1 (by omega) (by omega) (by omega) (by omega) (by omega)]
theorem numS_bd (f : Nat → Int) (o c : Nat) (h : ∀ i, i < c → 0 ≤ f (o + i) ∧ f (o + i) < 256) : (1 ≤ c → 0 ≤ numS f o 1 ∧ numS f o 1 < 256) ∧ (2 ≤ c → 0 ≤ numS f o 2 ∧ numS f o 2 < 65536) ∧ (3 ≤ c → 0 ≤ numS f o 3 ∧ numS f o 3 < 16777216) ∧ (4 ≤ c → 0 ≤ numS f o 4 ∧ numS f o 4 < 4294967296) := by
  refine ⟨fun hc => ?_, fun hc => ?_, fun hc => ?_, fun hc => ?_⟩
  · have h0 := h 0 (by omega)
    simp [numS] at *
    omega
  · have h0 := h 0 (by omega)
    have h1 := h 1 (by omega)
    simp [numS] at *
    omega
  · have h0 := h 0 (by omega)
    have h1 := h 1 (by omega)
    have h2 := h 2 (by omega)
    simp [numS] at *
    omega
  · have h0 := h 0 (by omega)
    have h1 := h 1 (by omega)
    have h2 := h 2 (by omega)
    have h3 := h 3 (by omega)
    simp [numS] at *
    omega
set_option maxHeartbeats 4000000 in
set_option maxRecDepth 100000 in
theorem number_any (g o c cap N : Nat) (hc : c ≤ 4) (hN : o + c ≤ N) (f : Nat → Int) (hf : ∀ i, i < c → 0 ≤ f (o + i) ∧ f (o + i) < 256) (w : World) (F : Fl w g N f) :
    Calls Try.prog 25 #[.slice (some ⟨g, o, none⟩) c cap] w fun e w' => e = .returned (.int .u32 (numS f o c)) ∧ w' = w := by
  have HF := Lib.hid F
  have HB := Lib.hid (numS_bd f o c hf)
  have Hf := Lib.hid hf
  clear F hf
  have c4 : (c : Int) ≤ 4 := by omega
  have c0 : (0 : Int) ≤ c := by omega
  go_enter Try.func25, Try.ntmps25
  go_wp2_with fail
  go_loop [3, 8] (fun a i => ∃ k : Nat, k ≤ c ∧ i = .int .i64 k ∧ a = .int .u32 (numS f o k)) (fun _ i => c - (intOf i).toNat)
  case atStart => exact ⟨0, by omega, rfl, rfl⟩
  case round =>
    obtain ⟨k, hk, rfl, rfl⟩ := hrel
    by_cases hlt : k < c
    · have hkk : (k : Int) < c := by omega
      have hk4 : k = 0 ∨ k = 1 ∨ k = 2 ∨ k = 3 := by omega
      rcases hk4 with rfl | rfl | rfl | rfl
      · have hcell : w.cell? ⟨g, o, none⟩ = _ := HF.out.c (o) (by omega)
        obtain ⟨x, hx⟩ : ∃ x, f (o) = x := ⟨_, rfl⟩
        have hxb : 0 ≤ x ∧ x < 256 := by rw [← hx]; exact Hf.out 0 (by omega)
        rw [hx] at hcell
        have hs : numS f o 1 = numS f o 0 + x * 1 := by rw [← hx]; rfl
        have ha : 0 ≤ numS f o 0 ∧ numS f o 0 < 1 := ⟨Int.le_refl _, by show (0 : Int) < 1; decide⟩
        have hor := or_join 0 (by omega) (numS f o 0) x 1 rfl ha hxb
        have hw1 : x * 1 < 4294967296 := by omega
        have hw0 : 0 ≤ x * 1 := by omega
        have hwr : IntKind.u32.wrap (x * 1) = x * 1 := u32_in _ hw0 hw1
        rw [← hs] at hor
        obtain ⟨y, hy⟩ : ∃ y, numS f o 1 = y := ⟨_, rfl⟩
        obtain ⟨z, hz⟩ : ∃ z, numS f o 0 = z := ⟨_, rfl⟩
        rw [hy, hz] at hor
        try rw [Int.mul_one] at hor
        rw [hz] at ha
        have HY := Lib.hid hy
        obtain ⟨hx0, hx1⟩ := hxb
        obtain ⟨ha0, ha1⟩ := ha
        try rw [hz]
        have hk1 : 1 ≤ c := by omega
        clear hs hx hy hz
        go_wp2_with fail
        go_round
        case rel => exact ⟨1, hk1, rfl, by rw [HY.out]⟩
        case measure => simp [intOf]; omega
      · have hcell : w.cell? ⟨g, o + 1, none⟩ = _ := HF.out.c (o + 1) (by omega)
        obtain ⟨x, hx⟩ : ∃ x, f (o + 1) = x := ⟨_, rfl⟩
        have hxb : 0 ≤ x ∧ x < 256 := by rw [← hx]; exact Hf.out 1 (by omega)
        rw [hx] at hcell
        have hs : numS f o 2 = numS f o 1 + x * 256 := by rw [← hx]; rfl
        have ha : 0 ≤ numS f o 1 ∧ numS f o 1 < 256 := HB.out.1 (by omega)
        have hor := or_join 1 (by omega) (numS f o 1) x 256 rfl ha hxb
        have hw1 : x * 256 < 4294967296 := by omega
        have hw0 : 0 ≤ x * 256 := by omega
        have hwr : IntKind.u32.wrap (x * 256) = x * 256 := u32_in _ hw0 hw1
        rw [← hs] at hor
        obtain ⟨y, hy⟩ : ∃ y, numS f o 2 = y := ⟨_, rfl⟩
        obtain ⟨z, hz⟩ : ∃ z, numS f o 1 = z := ⟨_, rfl⟩
        rw [hy, hz] at hor
        try rw [Int.mul_one] at hor
        rw [hz] at ha
        have HY := Lib.hid hy
        obtain ⟨hx0, hx1⟩ := hxb
        obtain ⟨ha0, ha1⟩ := ha
        try rw [hz]
        have hk1 : 2 ≤ c := by omega
        clear hs hx hy hz
        go_wp2_with fail
        go_round
        case rel => exact ⟨2, hk1, rfl, by rw [HY.out]⟩
        case measure => simp [intOf]; omega
      · have hcell : w.cell? ⟨g, o + 2, none⟩ = _ := HF.out.c (o + 2) (by omega)
        obtain ⟨x, hx⟩ : ∃ x, f (o + 2) = x := ⟨_, rfl⟩
        have hxb : 0 ≤ x ∧ x < 256 := by rw [← hx]; exact Hf.out 2 (by omega)
        rw [hx] at hcell
        have hs : numS f o 3 = numS f o 2 + x * 65536 := by rw [← hx]; rfl
        have ha : 0 ≤ numS f o 2 ∧ numS f o 2 < 65536 := HB.out.2.1 (by omega)
        have hor := or_join 2 (by omega) (numS f o 2) x 65536 rfl ha hxb
        have hw1 : x * 65536 < 4294967296 := by omega
        have hw0 : 0 ≤ x * 65536 := by omega
        have hwr : IntKind.u32.wrap (x * 65536) = x * 65536 := u32_in _ hw0 hw1
        rw [← hs] at hor
        obtain ⟨y, hy⟩ : ∃ y, numS f o 3 = y := ⟨_, rfl⟩
        obtain ⟨z, hz⟩ : ∃ z, numS f o 2 = z := ⟨_, rfl⟩
        rw [hy, hz] at hor
        try rw [Int.mul_one] at hor
        rw [hz] at ha
        have HY := Lib.hid hy
        obtain ⟨hx0, hx1⟩ := hxb
        obtain ⟨ha0, ha1⟩ := ha
        try rw [hz]
        have hk1 : 3 ≤ c := by omega
        clear hs hx hy hz
        go_wp2_with fail
        go_round
        case rel => exact ⟨3, hk1, rfl, by rw [HY.out]⟩
        case measure => simp [intOf]; omega
      · have hcell : w.cell? ⟨g, o + 3, none⟩ = _ := HF.out.c (o + 3) (by omega)
        obtain ⟨x, hx⟩ : ∃ x, f (o + 3) = x := ⟨_, rfl⟩
        have hxb : 0 ≤ x ∧ x < 256 := by rw [← hx]; exact Hf.out 3 (by omega)
        rw [hx] at hcell
        have hs : numS f o 4 = numS f o 3 + x * 16777216 := by rw [← hx]; rfl
        have ha : 0 ≤ numS f o 3 ∧ numS f o 3 < 16777216 := HB.out.2.2.1 (by omega)
        have hor := or_join 3 (by omega) (numS f o 3) x 16777216 rfl ha hxb
        have hw1 : x * 16777216 < 4294967296 := by omega
        have hw0 : 0 ≤ x * 16777216 := by omega
        have hwr : IntKind.u32.wrap (x * 16777216) = x * 16777216 := u32_in _ hw0 hw1
        rw [← hs] at hor
        obtain ⟨y, hy⟩ : ∃ y, numS f o 4 = y := ⟨_, rfl⟩
        obtain ⟨z, hz⟩ : ∃ z, numS f o 3 = z := ⟨_, rfl⟩
        rw [hy, hz] at hor
        try rw [Int.mul_one] at hor
        rw [hz] at ha
        have HY := Lib.hid hy
        obtain ⟨hx0, hx1⟩ := hxb
        obtain ⟨ha0, ha1⟩ := ha
        try rw [hz]
        have hk1 : 4 ≤ c := by omega
        clear hs hx hy hz
        go_wp2_with fail
        go_round
        case rel => exact ⟨4, hk1, rfl, by rw [HY.out]⟩
        case measure => simp [intOf]; omega
    · obtain rfl : k = c := by omega
      go_wp2_with fail
      go_ret
      exact ⟨rfl, rfl⟩
end Go.Proofs.Ytdebkifnaiohcaa
