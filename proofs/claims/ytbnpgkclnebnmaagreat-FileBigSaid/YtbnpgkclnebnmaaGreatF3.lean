import Derived.Test.YtbnpgkclnebnmaaGreatF2
import Derived.Test.YtbnpgkclnebnmaaGreatBB
import Derived.Test.YtbnpgkclnebnmaaGreatKA
/- Files: numbers in blocks of pointers; a body. -/
namespace Go.Proofs.YtbnpgkclnebnmaaGreat
set_option linter.unusedSimpArgs false
set_option linter.unusedVariables false
open Go.RowKit Go.Maps

/-- the number that a block of pointers tells at place k -/
def wd (f : Nat → Int) (k : Nat) : Int := f (2 * k) + f (2 * k + 1) * 256
theorem wd_bd {f : Nat → Int} (hf : Byt f) (k : Nat) (hk : k < 32) : 0 ≤ wd f k ∧ wd f k < 65536 := by
  have h1 := hf (2 * k) (by omega)
  have h2 := hf (2 * k + 1) (by omega)
  unfold wd
  omega
theorem shl8 (x : Int) (h0 : 0 ≤ x) (h1 : x < 256) : IntKind.u16.wrap (x * 256) = x * 256 := wraps_u16 _ (by omega) (by omega)
set_option maxHeartbeats 8000000 in
set_option maxRecDepth 100000 in
theorem num_any (f : Nat → Int) (hf : Byt f) (k : Nat) (hk : k < 32) (x : Int) (hx : x = k + 1) (w : World) : Calls Tryz.prog 119 #[.agg (byts 64 f).toArray, .int .i64 x] w fun e w' => e = .returned (.int .u16 (wd f k)) ∧ Below w.heap.size w w' := by
  have x1 : 1 ≤ x := by omega
  have x2 : x ≤ 32 := by omega
  have hp : 2 * (x - 1) = ((2 * k : Nat) : Int) := by omega
  obtain ⟨h1, h2⟩ := hf (2 * k) (by omega)
  obtain ⟨h3, h4⟩ := hf (2 * k + 1) (by omega)
  have hW : wd f k = f (2 * k) + f (2 * k + 1) * 256 := rfl
  obtain ⟨p, hpp⟩ : ∃ p, 2 * k = p := ⟨_, rfl⟩
  rw [hpp] at hp h1 h2 h3 h4 hW
  have hp62 : p + 1 < 64 := by omega
  obtain ⟨u, hu⟩ : ∃ u, f p = u := ⟨_, rfl⟩
  obtain ⟨v, hv⟩ : ∃ u, f (p + 1) = u := ⟨_, rfl⟩
  rw [hu] at h1 h2 hW
  rw [hv] at h3 h4 hW
  have hor := u16_or8 u (v * 256) h1 h2 (by omega) (by omega) (by omega)
  rw [← hW] at hor
  have HOR := Lib.hid hor
  have HSH := Lib.hid (shl8 v h3 h4)
  have HUW := Lib.hid (wraps_u16 u h1 (by omega))
  have HVW := Lib.hid (wraps_u16 v h3 (by omega))
  have HU := Lib.hid hu
  have HV := Lib.hid hv
  obtain ⟨z, hz⟩ : ∃ z, wd f k = z := ⟨_, rfl⟩
  rw [hz] at HOR ⊢
  have HP := Lib.hid hp
  clear hx hp hpp hu hv hW hor hf hz
  go_enter Tryz.func119, Tryz.ntmps119
  go_upto_region 2 with (first | (refine wpList_box_byts (w := w) rfl 59 _ 64 rfl f rfl ?_; intro w1 F1 hb1 hz1; have HB1 := Lib.hid hb1; clear hb1 hz1))
  have hp0 : (0 : Int) ≤ p := by omega
  have hp1 : (p : Int) + 1 < 64 := by omega
  have hpt : ((p : Int) + 1).toNat = p + 1 := by omega
  have hwr : IntKind.i64.wrap ((p : Int) + 1) = p + 1 := IntWalk.i64_in _ (by omega)
  have c0 := F1.out.c p (by omega)
  have c1 := F1.out.c (p + 1) hp62
  rw [HU.out] at c0
  rw [HV.out] at c1
  rw [HP.out]
  have k1 := HOR.out
  have k2 := HSH.out
  have k3 := HUW.out
  have k4 := HVW.out
  go_quiet (fail)
  go_wp2_with fail
  go_ret
  exact ⟨rfl, Cf.below_drewN' HB1.out _⟩
set_option maxHeartbeats 8000000 in
set_option maxRecDepth 100000 in
theorem putnum8 (g : Nat) (f : Nat → Int) (k : Nat) (hk : k < 32) (x : Int) (hx : x = k + 1) (q : Nat) (hq : q < 65536) (w : World) (F : Fl w g 64 f) : Calls Tryz.prog 148 #[.pointer (some ⟨g, 0, none⟩), .int .i64 x, .int .u16 q] w fun e w' => e = .returned (.tuple #[]) ∧ Fl w' g 64 (putN f (2 * k) q) ∧ Kp w w' g g := by
  have x1 : 1 ≤ x := by omega
  have x2 : x ≤ 32 := by omega
  have hp : 2 * (x - 1) = ((2 * k : Nat) : Int) := by omega
  obtain ⟨p, hpp⟩ : ∃ p, 2 * k = p := ⟨_, rfl⟩
  rw [hpp] at hp ⊢
  have hp62 : p + 1 < 64 := by omega
  have HP := Lib.hid hp
  have HF := Lib.hid F
  have q0 : (0 : Int) ≤ q := by omega
  have q1 : (q : Int) < 65536 := by omega
  clear hx hp hpp F
  go_enter Tryz.func148, Tryz.ntmps148
  go_upto_region 1 with fail
  have hp0 : (0 : Int) ≤ p := by omega
  have hp1 : (p : Int) + 1 < 64 := by omega
  have hpt : ((p : Int) + 1).toNat = p + 1 := by omega
  have c0 := HF.out.c p (by omega)
  have z0 := HF.out.z p (by omega)
  rw [HP.out]
  go_upto_region 2 with fail
  have F1 := Lib.hid (HF.out.set p (by omega) (q % 256))
  have hk1 : Kp w (w.setCell ⟨g, p, none⟩ (.int .u8 (q % 256))) g g := (Kp.refl w g g).setA p _
  obtain ⟨w1, hw1⟩ : ∃ y, w.setCell ⟨g, p, none⟩ (.int .u8 ((q : Int) % 256)) = y := ⟨_, rfl⟩
  rw [hw1] at F1 hk1 ⊢
  clear hw1 c0 z0
  have HK1 := Lib.hid hk1
  clear hk1
  have hwr : IntKind.i64.wrap ((p : Int) + 1) = p + 1 := IntWalk.i64_in _ (by omega)
  have c1 := F1.out.c (p + 1) hp62
  have z1 := F1.out.z (p + 1) hp62
  go_wp2_with fail
  go_end0
  refine ⟨rfl, ?_, HK1.out.setA (p + 1) _⟩
  refine (F1.out.set (p + 1) hp62 (q / 256)).congr fun j hj => ?_
  unfold putN
  by_cases e1 : j = p + 1
  · rw [if_pos e1, if_pos e1]
    omega
  · rw [if_neg e1, if_neg e1]
/-- a body: its group, its node's numbers -/
def bdc (q : Nat) (f : Nat → Int) : List Value := .pointer (some ⟨q, 0, none⟩) :: ndc f
def ownI (a : Nat) : Nat := if a = 7 then 10 else if a = 8 then 11 else 3 + a
theorem size_any (b q : Nat) (f : Nat → Int) (h0 : 0 ≤ f 3) (h1 : f 3 < 4294967296) (w : World) (hV : Vl w b (bdc q f)) : Calls Tryz.prog 68 #[.pointer (some ⟨b, 0, none⟩)] w fun e w' => e = .returned (.int .i64 (f 3)) ∧ w' = w := by
  have c := hV.c 4 _ rfl
  clear hV
  go_enter Tryz.func68, Tryz.ntmps68
  go_wp2
  go_ret
  exact ⟨rfl, rfl⟩
theorem own_sin (b : Nat) (w : World) : Calls Tryz.prog 117 #[.pointer (some ⟨b, 0, none⟩), .int .i64 7] w fun e w' => e = .returned (.pointer (some ⟨b, 11, none⟩)) ∧ w' = w := by
  go_enter Tryz.func117, Tryz.ntmps117
  go_wp2
  go_ret
  exact ⟨rfl, rfl⟩
theorem own_dbl (b : Nat) (w : World) : Calls Tryz.prog 117 #[.pointer (some ⟨b, 0, none⟩), .int .i64 8] w fun e w' => e = .returned (.pointer (some ⟨b, 12, none⟩)) ∧ w' = w := by
  go_enter Tryz.func117, Tryz.ntmps117
  go_wp2
  go_ret
  exact ⟨rfl, rfl⟩
theorem own_dir (b : Nat) (a : Nat) (h1 : 1 ≤ a) (h2 : a ≤ 6) (w : World) : Calls Tryz.prog 117 #[.pointer (some ⟨b, 0, none⟩), .int .i64 a] w fun e w' => e = .returned (.pointer (some ⟨b, 5 + (a - 1), none⟩)) ∧ w' = w := by
  obtain ⟨k, rfl⟩ : ∃ k, a = k + 1 := ⟨a - 1, by omega⟩
  have hk : k < 6 := by omega
  clear h1 h2
  have hc : k = 0 ∨ k = 1 ∨ k = 2 ∨ k = 3 ∨ k = 4 ∨ k = 5 := by omega
  rcases hc with rfl | rfl | rfl | rfl | rfl | rfl
  all_goals
    go_enter Tryz.func117, Tryz.ntmps117
    go_wp2
    go_ret
    exact ⟨rfl, rfl⟩
end Go.Proofs.YtbnpgkclnebnmaaGreat
