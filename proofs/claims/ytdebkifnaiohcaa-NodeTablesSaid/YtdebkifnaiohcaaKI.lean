import Derived.Test.YtdebkifnaiohcaaKC11
import Derived.Deep.RegionHeld
/- What a configuration's calls answer. -/
/- What a configuration's calls answer: Trusted, Total, Slot, Group, Sum. -/

namespace Go.Proofs.Ytdebkifnaiohcaa.Cf
set_option linter.unusedSimpArgs false
set_option linter.unusedVariables false
open Go.RowKit Go.Maps

def Ge.val (g : Ge) : Value := .agg #[.int .i64 g.base, .int .i64 g.bm, .int .i64 g.tb, .int .i64 g.da, .int .i64 g.bl, .int .i64 g.nd]
theorem lay_len (rs : List Rg) : (layF rs).1.length = rs.length := by
  have := layF_len rs rs.length (Nat.le_refl _)
  rwa [List.take_length] at this
theorem CF.len {n : Nat} {w : World} {vr vm vg : Value} {rs : List Rg} {ms : List (Int × Int)} (h : CF n w vr vm vg rs ms) : ∃ a cap, vr = .slice a rs.length cap := ownsRow_form h.row
theorem CF.geo {n : Nat} {w : World} {vr vm vg : Value} {rs : List Rg} {ms : List (Int × Int)} (h : CF n w vr vm vg rs ms) (h0 : 0 < rs.length) : ∃ g cap, vg = .slice (some ⟨g, 0, none⟩) rs.length cap ∧ g < w.heap.size ∧ rs.length ≤ maxLen ∧ ∀ i (hi : i < rs.length) j, j < 6 → w.cell? ⟨g, i * 6 + j, none⟩ = ((layF rs).1[i]'(by rw [lay_len]; exact hi)).cells[j]? := by
  have hl := lay_len rs
  rcases ownsRow_cell (k := 6) (fun _ => rfl) hl.symm h.rg with ⟨-, h1⟩ | ⟨g, cap, hv, -, hlt, hm, hc⟩
  · rw [h1] at hl
    simp at hl
    omega
  · rw [hl] at hv hm
    exact ⟨g, cap, hv, hlt, hm, fun i hi j hj => hc i (by omega) j hj⟩

set_option maxHeartbeats 1000000 in
theorem geo_in (n : Nat) (vr vm vg : Value) (rs : List Rg) (ms : List (Int × Int)) (i : Nat) (hi : i < rs.length) (w : World) (h : CF n w vr vm vg rs ms) :
    Calls Try.prog 16 #[.pointer (some ⟨n + 3, 0, none⟩), .int .i64 i] w fun e w' => e = .returned (.tuple #[((layF rs).1[i]'(by rw [lay_len]; exact hi)).val, .bool true]) ∧ Below w.heap.size w w' := by
  obtain ⟨ra, rc, rfl⟩ := h.len
  obtain ⟨g, cap, rfl, hgl, hm, hc⟩ := h.geo (by omega)
  obtain ⟨lt, c0, c1, c2, c3, c4, c5, f0, f1, f2⟩ := h.cb
  have e0 := hc i hi 0 (by omega)
  have e1 := hc i hi 1 (by omega)
  have e2 := hc i hi 2 (by omega)
  have e3 := hc i hi 3 (by omega)
  have e4 := hc i hi 4 (by omega)
  have e5 := hc i hi 5 (by omega)
  generalize (layF rs).1[i]'(by rw [lay_len]; exact hi) = gg at *
  obtain ⟨bs, bm, tb, da, bl, nd⟩ := gg
  simp [Ge.cells] at e0 e1 e2 e3 e4 e5
  have hlen := fun W hW => len_any (n + 3) ra rs.length rc W hW hm
  unfold maxLen at hm
  have hlt : w.heap.size < w.heap.size + 1 := Nat.lt_succ_self _
  have hn3 : n + 3 < w.heap.size := by omega
  have hi0 : (0 : Int) ≤ (i : Int) := by omega
  have hi1 : (i : Int) < (rs.length : Int) := by omega
  have HC := Lib.hid hc
  clear hc h c1 c3 c4 c5 f0 f1 f2
  go_enter Try.func16, Try.ntmps16
  go_wp2_with fail
  refine (hlen _ (cell_al c0 _)).mono ?_
  rintro e w1 ⟨rfl, rfl⟩
  clear hlen
  go_wp2
  refine bodyPost_ret (v := .tuple #[.agg #[.int .i64 bs, .int .i64 bm, .int .i64 tb, .int .i64 da, .int .i64 bl, .int .i64 nd], .bool true]) (by simp [results, Try.results16, go_sem, World.cell?_alloc_new]) rfl ⟨rfl, (Below.refl _ _).alloc (Nat.le_refl _) _⟩

end Go.Proofs.Ytdebkifnaiohcaa.Cf

namespace Go.Proofs.Ytdebkifnaiohcaa.Cf
set_option linter.unusedSimpArgs false
set_option linter.unusedVariables false
open Go.RowKit Go.Maps

theorem lay_nth (rs : List Rg) (i : Nat) (hi : i < rs.length) : (layF rs).1[i]'(by rw [lay_len]; exact hi) = geoAt (layF (rs.take i)).2 rs[i] := by
  have key : ∀ k, k ≤ rs.length → ∀ (hik : i < k), (layF (rs.take k)).1[i]? = some (geoAt (layF (rs.take i)).2 rs[i]) := by
    intro k
    induction k with
    | zero => intro _ h; omega
    | succ k ih =>
      intro hk hik
      rw [layF_take rs k (by omega), layStep]
      simp only
      by_cases e : i = k
      · subst e
        rw [List.getElem?_append_right (by rw [layF_len rs i (by omega)]; exact Nat.le_refl _), layF_len rs i (by omega)]
        simp
      · rw [List.getElem?_append_left (by rw [layF_len rs k (by omega)]; omega)]
        exact ih (by omega) (by omega)
  have h1 := key rs.length (Nat.le_refl _) hi
  rw [List.take_length] at h1
  rw [List.getElem?_eq_getElem (by rw [lay_len]; exact hi)] at h1
  exact Option.some.inj h1
theorem lay_fin (rs : List Rg) (i : Nat) (hi : i < rs.length) : ((layF rs).1[i]'(by rw [lay_len]; exact hi)).fin = (layF (rs.take (i + 1))).2 := by
  rw [lay_nth rs i hi, layF_take rs i hi, layStep]
theorem lay_range (rs : List Rg) (hs : ∀ r ∈ rs, Small r) (h64 : rs.length ≤ 64) (i : Nat) (hi : i < rs.length) :
    32 ≤ ((layF rs).1[i]'(by rw [lay_len]; exact hi)).base ∧ ((layF rs).1[i]'(by rw [lay_len]; exact hi)).base < ((layF rs).1[i]'(by rw [lay_len]; exact hi)).da ∧ ((layF rs).1[i]'(by rw [lay_len]; exact hi)).da < 100000 ∧ 4 ≤ ((layF rs).1[i]'(by rw [lay_len]; exact hi)).bl ∧ ((layF rs).1[i]'(by rw [lay_len]; exact hi)).bl ≤ 512 ∧ 4 ≤ ((layF rs).1[i]'(by rw [lay_len]; exact hi)).nd ∧ ((layF rs).1[i]'(by rw [lay_len]; exact hi)).nd ≤ 128 ∧ ((layF rs).1[i]'(by rw [lay_len]; exact hi)).base < 50000 := by
  rw [lay_nth rs i hi]
  obtain ⟨s1, s2, s3, s4⟩ := hs rs[i] (List.getElem_mem _)
  obtain ⟨r1, r2⟩ := layF_range rs hs i (by omega)
  simp only [geoAt]
  omega

theorem clen_any (n : Nat) (vr vm vg : Value) (rs : List Rg) (ms : List (Int × Int)) (w : World) (h : CF n w vr vm vg rs ms) (h64 : rs.length ≤ 64) :
    Calls Try.prog 17 #[.pointer (some ⟨n + 3, 0, none⟩)] w fun e w' => e = .returned (.int .i64 rs.length) ∧ w' = w := by
  obtain ⟨ra, rc, rfl⟩ := h.len
  exact len_any (n + 3) ra rs.length rc w h.cb.c0 (by unfold maxLen; omega)

set_option maxHeartbeats 1000000 in
theorem total_any (n : Nat) (vr vm vg : Value) (rs : List Rg) (ms : List (Int × Int)) (hs : ∀ r ∈ rs, Small r) (h0 : 0 < rs.length) (h64 : rs.length ≤ 64) (w : World) (h : CF n w vr vm vg rs ms) :
    Calls Try.prog 32 #[.pointer (some ⟨n + 3, 0, none⟩)] w fun e w' => e = .returned (.int .i64 (layF rs).2) ∧ Below w.heap.size w w' := by
  have hlen := clen_any n vr vm vg rs ms w h h64
  have hgeo := geo_in n vr vm vg rs ms (rs.length - 1) (by omega) w h
  have hfin := lay_fin rs (rs.length - 1) (by omega)
  rw [show rs.length - 1 + 1 = rs.length by omega, List.take_length] at hfin
  have hran := lay_range rs hs h64 (rs.length - 1) (by omega)
  generalize (layF rs).1[rs.length - 1]'(by rw [lay_len]; omega) = g at *
  obtain ⟨bs, bm, tb, da, bl, nd⟩ := g
  simp only [Ge.val, Ge.fin] at hgeo hfin hran
  rw [← hfin]
  have e : ((rs.length - 1 : Nat) : Int) = (rs.length : Int) - 1 := by omega
  rw [e] at hgeo
  have hend := fun W => end_any bs bm tb da bl nd W (by omega) (by omega) (by omega) (by omega)
  clear h hfin e hs
  go_enter Try.func32, Try.ntmps32
  go_wp2_with fail
  refine hlen.mono ?_
  rintro e w1 ⟨rfl, rfl⟩
  go_wp2_with fail
  refine hgeo.mono ?_
  rintro e w2 ⟨rfl, hb2⟩
  have HB := Lib.hid hb2
  clear hlen hgeo hb2
  go_wp2_with fail
  refine (hend _).mono ?_
  rintro e w3 ⟨rfl, hb3⟩
  have HB3 := Lib.hid ((HB.out.alloc HB.out.size _).trans (hb3.mono (by have := HB.out.size; simp; omega)))
  clear hb3 hend
  go_wp2
  go_ret
  exact ⟨rfl, HB3.out⟩

def inG (g : Ge) (x : Int) : Prop := g.base ≤ x ∧ x < g.fin
instance (g : Ge) (x : Int) : Decidable (inG g x) := inferInstanceAs (Decidable (_ ∧ _))
end Go.Proofs.Ytdebkifnaiohcaa.Cf
