import Derived.Test.YtbnpgkclnebnmaaGreatF19
/- Files: the laws' own bytes. -/
namespace Go.Proofs.YtbnpgkclnebnmaaGreat
set_option linter.unusedSimpArgs false
set_option linter.unusedVariables false
open Go.RowKit Go.Maps

def byF (b : Int) (i : Nat) : Int := (b + 7 * i) % 256
theorem byF_bd (b : Int) (i : Nat) : 0 ≤ byF b i ∧ byF b i < 256 := by
  unfold byF
  omega
theorem run_maken (w : World) (c : Nat) (hc : c ≤ 65536) : (Instr.makeSlice 24 (.int .i64 (c : Int)) (.int .i64 (c : Int))).run Tryz.prog w = .ok (.slice (some ⟨w.heap.size, 0, none⟩) c c) (w.alloc (.cells (madeCells #[.int .u8 0] c) 5)) := by
  obtain ⟨i, hi, hz, hs, hb⟩ := Tryz.info5i
  have := run_make (P := Tryz.prog) w 24 5 i _ (by kernel_rfl) hi hz .i64 .i64 c c (by omega) (by omega) (by rw [hb]; omega) (by omega)
  simp only [hs, Int.toNat_natCast, Nat.mul_one] at this
  exact this
set_option maxHeartbeats 40000000 in
set_option maxRecDepth 200000 in
theorem bytes_any (n : Nat) (hn : n ≤ 2000) (b : Int) (w : World) :
    Calls Tryz.prog 34 #[.int .i64 n, .int .u8 b] w fun e w' => ∃ g, e = .returned (.slice (some ⟨g, 0, none⟩) n n) ∧ w.heap.size ≤ g ∧ Fl w' g n (byF b) ∧ Below w.heap.size w w' := by
  have hn0 : (0 : Int) ≤ n := by omega
  have hn1 : (n : Int) ≤ 2000 := by omega
  have hmk := run_maken w n (by omega)
  go_enter Tryz.func34, Tryz.ntmps34
  go_upto_region 2 with fail
  clear hmk
  have hF := Fl.zeros w n
  have hB : Below w.heap.size w (w.alloc (.cells (madeCells #[.int .u8 0] n) 5)) := (Below.refl _ _).alloc (Nat.le_refl _) _
  have HF := Lib.hid hF
  have HB := Lib.hid hB
  obtain ⟨w1, hw1⟩ : ∃ x, w.alloc (.cells (madeCells #[.int .u8 0] n) 5) = x := ⟨_, rfl⟩
  obtain ⟨g, hg⟩ : ∃ x, w.heap.size = x := ⟨_, rfl⟩
  rw [hw1] at HF HB ⊢
  rw [hg] at HF HB
  rw [hg]
  clear hF hB hw1
  go_wp2_with fail
  go_loopw [6, 11] (fun _ y wr => ∃ k : Nat, k ≤ n ∧ y = .int .i64 k ∧ Kp w1 wr g g ∧ Fl wr g n (fun j => if j < k then byF b j else 0)) (fun _ y _ => n - (Go.RowKit.intOf y).toNat)
  case atStart => exact ⟨0, Nat.zero_le _, rfl, Kp.refl _ _ _, HF.out.congr (fun j _ => by rw [if_neg (Nat.not_lt_zero _)])⟩
  case round =>
    obtain ⟨k, hk, rfl, hKp, hFk⟩ := hrel
    have HKp := Lib.hid hKp
    have HFk := Lib.hid hFk
    clear hKp hFk
    by_cases hlt : k < n
    · have hk0 : (0 : Int) ≤ k := by omega
      have hk1 : (k : Int) < n := by omega
      have zk := HFk.out.z k hlt
      have ck := HFk.out.c k hlt
      go_wp2_with fail
      go_roundw
      case rel =>
        refine ⟨k + 1, by omega, by go_num, HKp.out.setA k _, (HFk.out.set k hlt _).congr (fun j hj => ?_)⟩
        by_cases e : j = k
        · subst e
          rw [if_pos rfl, if_pos (by omega)]
          unfold byF
          first | omega | (simp [IntKind.wrap, IntKind.bits, IntKind.signed]; omega)
        · rw [if_neg e]
          by_cases e2 : j < k
          · rw [if_pos e2, if_pos (by omega)]
          · rw [if_neg e2, if_neg (by omega)]
      case measure => simp [Go.RowKit.intOf]; omega
    obtain rfl : n = k := by omega
    have HB2 := Lib.hid (HB.out.trans (HKp.out.below (Nat.le_refl _) (Nat.le_refl _) (by have := HB.out.size; omega)))
    have HF2 := Lib.hid (HFk.out.congr (f' := byF b) (fun j hj => if_pos hj))
    clear HB HF HKp HFk
    go_wp2_with fail
    go_ret
    exact ⟨g, rfl, by omega, HF2.out, by rw [hg]; exact HB2.out⟩
end Go.Proofs.YtbnpgkclnebnmaaGreat
