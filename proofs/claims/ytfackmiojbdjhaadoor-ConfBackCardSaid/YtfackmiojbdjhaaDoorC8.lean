import Derived.Test.YtfackmiojbdjhaaDoorC7
import Derived.Laws.MakeOwn
/- Where groups lie: lay. -/
namespace Go.Proofs.YtfackmiojbdjhaaDoor
set_option linter.unusedSimpArgs false
set_option linter.unusedVariables false
open Go.RowKit Go.Maps

structure Ge where
  base : Int
  bm : Int
  tb : Int
  da : Int
  bl : Int
  nd : Int
def Ge.cells (g : Ge) : List Value := [.int .i64 g.base, .int .i64 g.bm, .int .i64 g.tb, .int .i64 g.da, .int .i64 g.bl, .int .i64 g.nd]
def geoAt (b : Int) (r : Rg) : Ge := ⟨b, ((r.bl + 7) / 8 + 63) / 64, (r.nd * 32 + 63) / 64, b + ((r.bl + 7) / 8 + 63) / 64 + (r.nd * 32 + 63) / 64, r.bl, r.nd⟩
def Ge.fin (g : Ge) : Int := g.da + g.bl
def layStep (a : List Ge × Int) (r : Rg) : List Ge × Int := (a.1 ++ [geoAt a.2 r], (geoAt a.2 r).fin)
def layF (rs : List Rg) : List Ge × Int := rs.foldl layStep ([], 32)
def flatG (gs : List Ge) : List Value := gs.flatMap Ge.cells
def Small (r : Rg) : Prop := 4 ≤ r.bl ∧ r.bl ≤ 512 ∧ 4 ≤ r.nd ∧ r.nd ≤ 128

theorem layF_take (rs : List Rg) (k : Nat) (h : k < rs.length) : layF (rs.take (k + 1)) = layStep (layF (rs.take k)) rs[k] := fold_take _ _ _ _ h
theorem layF_len (rs : List Rg) : ∀ k, k ≤ rs.length → (layF (rs.take k)).1.length = k
  | 0, _ => by simp [layF]
  | k + 1, h => by
    rw [layF_take rs k (by omega), layStep]
    simp only [List.length_append, List.length_singleton]
    rw [layF_len rs k (by omega)]
theorem layF_range (rs : List Rg) (hs : ∀ r ∈ rs, Small r) : ∀ k : Nat, k ≤ rs.length → 32 ≤ (layF (rs.take k)).2 ∧ (layF (rs.take k)).2 ≤ 32 + 600 * k
  | 0, _ => by simp [layF]
  | k + 1, h => by
    obtain ⟨h1, h2⟩ := layF_range rs hs k (by omega)
    obtain ⟨s1, s2, s3, s4⟩ := hs rs[k] (List.getElem_mem _)
    rw [layF_take rs k (by omega), layStep]
    simp only [geoAt, Ge.fin]
    omega

theorem blocks_any (n : Int) (w : World) (h0 : 0 ≤ n) (h1 : n < 1000000) : Calls Tryd.prog 58 #[.int .i64 n] w fun e w' => e = .returned (.int .i64 ((n + 63) / 64)) ∧ w' = w := by
  go_enter Tryd.func58, Tryd.ntmps58
  go_wp2
  go_ret
  exact ⟨ret_int (by congr 1; omega), rfl⟩
theorem end_any (b bm tb da bl nd : Int) (w : World) (h0 : 0 ≤ da) (h1 : da < 1000000) (h2 : 0 ≤ bl) (h3 : bl < 1000000) : Calls Tryd.prog 54 #[.agg #[.int .i64 b, .int .i64 bm, .int .i64 tb, .int .i64 da, .int .i64 bl, .int .i64 nd]] w fun e w' => e = .returned (.int .i64 (da + bl)) ∧ Below w.heap.size w w' := by
  go_enter Tryd.func54, Tryd.ntmps54
  go_wp2
  go_ret
  exact ⟨rfl, (Below.refl _ _).alloc (Nat.le_refl _) _⟩

set_option maxHeartbeats 2000000 in
set_option maxRecDepth 100000 in
theorem lay_some (b off cap : Nat) (rs : List Rg) (w : World) (hbl : b < w.heap.size) (hm : rs.length ≤ 64) (hs : ∀ r ∈ rs, Small r) (hr : Row9 w b off rs) :
    Calls Tryd.prog 28 #[.slice (some ⟨b, off, none⟩) rs.length cap] w fun e w' => ∃ v, e = .returned v ∧ w'.ownsRow w.heap.size 69 6 v rs.length (flatG (layF rs).1) ∧ Below w.heap.size w w' := by
  obtain ⟨i0, hi, hz0, hz1, hz2⟩ := info_parts Tryd.info69
  obtain ⟨W0, hmk, hown0, hg0⟩ := run_make_own (P := Tryd.prog) w w.heap.size 78 69 i0 _ 6 Tryd.underlying78 hi hz0 hz1 .i64 .i64 rs.length (by rw [hz2]; omega) (by unfold maxLen; omega) (Nat.le_refl _)
  have hb0 : Below w.heap.size w W0 := (Below.refl _ w).grown hg0 (Nat.le_refl _) (fun k hk => by cases hk)
  have HR := Lib.hid hr
  have HS := Lib.hid hs
  have HO := Lib.hid hown0
  clear hr hs hown0 hg0
  go_enter Tryd.func28, Tryd.ntmps28
  go_wp2
  go_loopw [3, 4, 13] (fun v bs i wr => ∃ k : Nat, k ≤ rs.length ∧ i = .int .i64 k ∧ bs = .int .i64 (layF (rs.take k)).2 ∧ wr.ownsRow w.heap.size 69 6 v k (flatG (layF (rs.take k)).1) ∧ Below w.heap.size w wr) (fun _ _ i _ => rs.length - (intOf i).toNat)
  case atStart => exact ⟨0, by omega, rfl, by simp [layF], by simpa [layF, flatG] using HO.out, hb0⟩
  case round =>
    obtain ⟨k, hk, rfl, rfl, hown, hb⟩ := hrel
    have HW := Lib.hid hown
    clear hown
    have hwz := hb.size
    by_cases hlt : k < rs.length
    · have HL := Lib.hid (layF_take rs k hlt)
      have e0 := (hb.cell (p := ⟨b, off + k * 9, none⟩) hbl).trans (HR.out.k0 k hlt)
      have e1 := (hb.cell (p := ⟨b, off + k * 9 + 1, none⟩) hbl).trans (HR.out.k1 k hlt)
      have e2 := (hb.cell (p := ⟨b, off + k * 9 + 2, none⟩) hbl).trans (HR.out.k2 k hlt)
      have e3 := (hb.cell (p := ⟨b, off + k * 9 + 3, none⟩) hbl).trans (HR.out.k3 k hlt)
      have e4 := (hb.cell (p := ⟨b, off + k * 9 + 4, none⟩) hbl).trans (HR.out.k4 k hlt)
      have e5 := (hb.cell (p := ⟨b, off + k * 9 + 5, none⟩) hbl).trans (HR.out.k5 k hlt)
      have e6 := (hb.cell (p := ⟨b, off + k * 9 + 6, none⟩) hbl).trans (HR.out.k6 k hlt)
      have e7 := (hb.cell (p := ⟨b, off + k * 9 + 7, none⟩) hbl).trans (HR.out.k7 k hlt)
      have e8 := (hb.cell (p := ⟨b, off + k * 9 + 8, none⟩) hbl).trans (HR.out.k8 k hlt)
      obtain ⟨r1, r2⟩ := layF_range rs HS.out k hk
      obtain ⟨s1, s2, s3, s4⟩ := HS.out rs[k] (List.getElem_mem _)
      generalize rs[k] = r at *
      obtain ⟨nm, lv, cs, bl, nd, fr, pr, op, cl⟩ := r
      obtain ⟨bs, hbs⟩ : ∃ x, (layF (rs.take k)).2 = x := ⟨_, rfl⟩
      rw [hbs] at r1 r2 ⊢
      have HBS := Lib.hid hbs
      clear hbs
      simp only at s1 s2 s3 s4 e0 e1 e2 e3 e4 e5 e6 e7 e8
      have hB := Lib.hid hb
      clear hb hmk HO hb0
      go_wp2_with fail
      refine (blocks_any _ _ (by omega) (by omega)).mono ?_
      rintro e w1 ⟨rfl, rfl⟩
      go_wp2_with fail
      refine (blocks_any _ _ (by omega) (by omega)).mono ?_
      rintro e w1 ⟨rfl, rfl⟩
      go_wp2_with fail
      obtain ⟨X, hX⟩ : ∃ x, ((bl + 7) / 8 + 63) / 64 = x := ⟨_, rfl⟩
      obtain ⟨Y, hY⟩ : ∃ x, (nd * 32 + 63) / 64 = x := ⟨_, rfl⟩
      have hX0 : 0 ≤ X ∧ X ≤ 2 := by omega
      have hY0 : 0 ≤ Y ∧ Y ≤ 70 := by omega
      have HG : Hid (geoAt bs ⟨nm, lv, cs, bl, nd, fr, pr, op, cl⟩ = ⟨bs, X, Y, bs + X + Y, bl, nd⟩) := by
        show geoAt _ _ = _
        simp only [geoAt, hX, hY]
      rw [hX, hY]
      clear hX hY
      refine (end_any bs X Y (bs + X + Y) bl nd _ (by omega) (by omega) (by omega) (by omega)).mono ?_
      rintro e w1 ⟨rfl, hb1⟩
      have hzw := hb1.size
      simp at hzw
      have hlt1 : wr.heap.size + 1 < w1.heap.size := by omega
      have g0 : w1.cell? ⟨wr.heap.size + 1, 0, none⟩ = some (.int .i64 bs) := (hb1.cell (p := ⟨wr.heap.size + 1, 0, none⟩) (by simp)).trans (by simp)
      have g1 : w1.cell? ⟨wr.heap.size + 1, 1, none⟩ = some (.int .i64 X) := (hb1.cell (p := ⟨wr.heap.size + 1, 1, none⟩) (by simp)).trans (by simp)
      have g2 : w1.cell? ⟨wr.heap.size + 1, 2, none⟩ = some (.int .i64 Y) := (hb1.cell (p := ⟨wr.heap.size + 1, 2, none⟩) (by simp)).trans (by simp)
      have g3 : w1.cell? ⟨wr.heap.size + 1, 3, none⟩ = some (.int .i64 (bs + X + Y)) := (hb1.cell (p := ⟨wr.heap.size + 1, 3, none⟩) (by simp)).trans (by simp)
      have g4 : w1.cell? ⟨wr.heap.size + 1, 4, none⟩ = some (.int .i64 bl) := (hb1.cell (p := ⟨wr.heap.size + 1, 4, none⟩) (by simp)).trans (by simp)
      have g5 : w1.cell? ⟨wr.heap.size + 1, 5, none⟩ = some (.int .i64 nd) := (hb1.cell (p := ⟨wr.heap.size + 1, 5, none⟩) (by simp)).trans (by simp)
      have hB01 : Below wr.heap.size wr w1 := (((Below.refl _ wr).alloc (Nat.le_refl _) _).alloc (by simp) _).trans (hb1.mono (by simp; omega))
      have HB1 := Lib.hid (hB.out.trans (hB01.mono hwz))
      have HO1 := Lib.hid (ownsRow_below HW.out hB01)
      clear hb1 hB01 e0 e1 e2 e3 e4 e5 e6 e7 e8 HW hB
      go_wp2_with (first | (at_builtin; refine wpList_append_own _ rfl _ _ 78 rfl w.heap.size 69 i0 _ 6 48 Tryd.underlying78 hi hz0 hz1 hz2 rfl (by decide) _ _ _ rfl (HO1.out.alloc _) ⟨w1.heap.size, 0, none⟩ 1 1 [.int .i64 bs, .int .i64 X, .int .i64 Y, .int .i64 (bs + X + Y), .int .i64 bl, .int .i64 nd] rfl rfl (cells_new w1 _ 69) (by simp [Value.oneCell']) (by unfold maxLen; omega) (by omega) (by simp; omega) ?_))
      intro v' w2 hown' hgrow _
      have hb2 := Lib.hid ((HB1.out.alloc (by omega) (.cells #[.int .i64 bs, .int .i64 X, .int .i64 Y, .int .i64 (bs + X + Y), .int .i64 bl, .int .i64 nd] 69)).grown hgrow (by simp; omega) (ownsRow_block HO1.out))
      have HO2 := Lib.hid hown'
      clear hown' hgrow HO1 HB1 g0 g1 g2 g3 g4 g5
      go_wp2
      go_roundw
      case rel =>
        refine ⟨k + 1, by omega, by go_num, ?_, ?_, hb2.out⟩
        · rw [HL.out, layStep, HBS.out, HG.out]; rfl
        · rw [HL.out, layStep, HBS.out, HG.out]
          simpa [flatG, Ge.cells] using HO2.out
      case measure => simp [intOf]; omega
    · obtain rfl : k = rs.length := by omega
      go_wp2
      go_ret
      refine ⟨_, rfl, ?_, hb⟩
      have := HW.out
      rwa [List.take_length] at this
end Go.Proofs.YtfackmiojbdjhaaDoor
