import Derived.Test.YtfackmiojbdjhaaDoorC11
/- What a configuration's calls answer. -/
namespace Go.Proofs.YtfackmiojbdjhaaDoor
set_option linter.unusedSimpArgs false
set_option linter.unusedVariables false
open Go.RowKit Go.Maps

def Ge.val (g : Ge) : Value := .agg #[.int .i64 g.base, .int .i64 g.bm, .int .i64 g.tb, .int .i64 g.da, .int .i64 g.bl, .int .i64 g.nd]
theorem lay_len (rs : List Rg) : (layF rs).1.length = rs.length := by
  have := layF_len rs rs.length (Nat.le_refl _)
  rwa [List.take_length] at this
theorem CF.len {n : Nat} {w : World} {vr vm vg : Value} {rs : List Rg} {ms : List (Int × Int)} (h : CF n w vr vm vg rs ms) : ∃ a cap, vr = .slice a rs.length cap := ownsRow_form h.row
theorem CF.geo {n : Nat} {w : World} {vr vm vg : Value} {rs : List Rg} {ms : List (Int × Int)} (h : CF n w vr vm vg rs ms) (h0 : 0 < rs.length) : ∃ g cap, vg = .slice (some ⟨g, 0, none⟩) rs.length cap ∧ g < w.heap.size ∧ rs.length ≤ maxLen ∧ ∀ i (hi : i < rs.length) j, j < 6 → w.cell? ⟨g, i * 6 + j, none⟩ = ((layF rs).1[i]'(by rw [lay_len]; exact hi)).cells[j]? := by
  have hl := lay_len rs
  rcases ownsRow_cell (k := 6) (fun _ => rfl) hl.symm h.rg with ⟨-, h1⟩ | ⟨g, cap, hv, -, hlt, hm, hc⟩
  · rw [h1] at hl
    simp at hl
    omega
  · rw [hl] at hv hm
    exact ⟨g, cap, hv, hlt, hm, fun i hi j hj => hc i (by omega) j hj⟩

set_option maxHeartbeats 1000000 in
theorem geo_in (n : Nat) (vr vm vg : Value) (rs : List Rg) (ms : List (Int × Int)) (i : Nat) (hi : i < rs.length) (w : World) (h : CF n w vr vm vg rs ms) :
    Calls Tryd.prog 22 #[.pointer (some ⟨n + 3, 0, none⟩), .int .i64 i] w fun e w' => e = .returned (.tuple #[((layF rs).1[i]'(by rw [lay_len]; exact hi)).val, .bool true]) ∧ Below w.heap.size w w' := by
  obtain ⟨ra, rc, rfl⟩ := h.len
  obtain ⟨g, cap, rfl, hgl, hm, hc⟩ := h.geo (by omega)
  obtain ⟨lt, c0, c1, c2, c3, c4, c5, f0, f1, f2⟩ := h.cb
  have e0 := hc i hi 0 (by omega)
  have e1 := hc i hi 1 (by omega)
  have e2 := hc i hi 2 (by omega)
  have e3 := hc i hi 3 (by omega)
  have e4 := hc i hi 4 (by omega)
  have e5 := hc i hi 5 (by omega)
  generalize (layF rs).1[i]'(by rw [lay_len]; exact hi) = gg at *
  obtain ⟨bs, bm, tb, da, bl, nd⟩ := gg
  simp [Ge.cells] at e0 e1 e2 e3 e4 e5
  have hlen := fun W hW => len_any (n + 3) ra rs.length rc W hW hm
  unfold maxLen at hm
  have hlt : w.heap.size < w.heap.size + 1 := Nat.lt_succ_self _
  have hn3 : n + 3 < w.heap.size := by omega
  have hi0 : (0 : Int) ≤ (i : Int) := by omega
  have hi1 : (i : Int) < (rs.length : Int) := by omega
  have HC := Lib.hid hc
  clear hc h c1 c3 c4 c5 f0 f1 f2
  go_enter Tryd.func22, Tryd.ntmps22
  go_wp2_with fail
  refine (hlen _ (cell_al c0 _)).mono ?_
  rintro e w1 ⟨rfl, rfl⟩
  clear hlen
  go_wp2
  refine bodyPost_ret (v := .tuple #[.agg #[.int .i64 bs, .int .i64 bm, .int .i64 tb, .int .i64 da, .int .i64 bl, .int .i64 nd], .bool true]) (by simp [results, Tryd.results22, go_sem, World.cell?_alloc_new]) rfl ⟨rfl, (Below.refl _ _).alloc (Nat.le_refl _) _⟩

theorem named_any (n : Nat) (vr vm vg : Value) (rs : List Rg) (ms : List (Int × Int)) (s : ByteArray) (hs : s.size ≤ maxLen) (w : World) (h : CF n w vr vm vg rs ms) :
    Calls Tryd.prog 34 #[.pointer (some ⟨n + 3, 0, none⟩), .string s] w fun e w' => e = .returned (.tuple #[.int .i64 (atI (gD nmKey rs) (strKey s)), .bool (Maps.has (gD nmKey rs) (strKey s))]) ∧ Below w.heap.size w w' := by
  have hL := look_int h.mn Tryd.lawStr Tryd.underlying75 (strKey_is s hs)
  obtain ⟨lt, c0, c1, c2, c3, c4, c5, f0, f1, f2⟩ := h.cb
  clear c0 c1 c2 c4 c5 f0 f1 f2 h
  go_enter Tryd.func34, Tryd.ntmps34
  go_wp2
  refine bodyPost_ret (v := .tuple #[.int .i64 (atI (gD nmKey rs) (strKey s)), .bool (Maps.has (gD nmKey rs) (strKey s))]) (by simp [results, Tryd.results34, go_sem]) rfl ⟨rfl, ?_⟩
  repeat (first | exact Below.refl _ _ | apply Below.drew | refine Below.alloc ?_ (by simp) _)

theorem find_any (n : Nat) (vr vm vg : Value) (rs : List Rg) (ms : List (Int × Int)) (lv cs : Int) (h0 : 0 ≤ lv) (h1 : lv < 256) (h2 : 0 ≤ cs) (h3 : cs < 65536) (w : World) (h : CF n w vr vm vg rs ms) :
    Calls Tryd.prog 35 #[.pointer (some ⟨n + 3, 0, none⟩), .agg #[.int .u8 lv, .int .u16 cs]] w fun e w' => e = .returned (.tuple #[.int .i64 (atI (gD lbKey rs) (labKey lv cs)), .bool (Maps.has (gD lbKey rs) (labKey lv cs))]) ∧ Below w.heap.size w w' := by
  have hbA : Below w.heap.size w (w.alloc (.cells #[.int .u8 lv, .int .u16 cs] 37)) := (Below.refl _ _).alloc (Nat.le_refl _) _
  have hA := h.below hbA
  have hL : ∀ m, (Instr.lookup 76 (.map (some (n + 1))) (.agg #[.int .u8 lv, .int .u16 cs]) true).run Tryd.prog ((w.alloc (.cells #[.int .u8 lv, .int .u16 cs] 37)).drewN m) = _ := fun m => look_int (w := (w.alloc (.cells #[.int .u8 lv, .int .u16 cs] 37)).drewN m) hA.ml Tryd.lawLab Tryd.underlying76 (labKey_is lv cs h0 h1 h2 h3)
  obtain ⟨lt, c0, c1, c2, c3, c4, c5, f0, f1, f2⟩ := h.cb
  have hn3 : n + 3 < w.heap.size := by omega
  clear c0 c1 c2 c3 c5 f0 f1 f2 h hA hbA
  go_enter Tryd.func35, Tryd.ntmps35
  go_wp2
  go_quiet (fail)
  go_wp2
  refine bodyPost_ret (v := .tuple #[.int .i64 (atI (gD lbKey rs) (labKey lv cs)), .bool (Maps.has (gD lbKey rs) (labKey lv cs))]) (by simp [results, Tryd.results35, go_sem]) rfl ⟨rfl, ?_⟩
  exact below_drewN' ((Below.refl _ _).alloc (Nat.le_refl _) _) _
end Go.Proofs.YtfackmiojbdjhaaDoor
