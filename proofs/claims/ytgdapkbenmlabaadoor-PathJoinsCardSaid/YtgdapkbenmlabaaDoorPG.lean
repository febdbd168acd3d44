import Derived.Test.YtgdapkbenmlabaaDoorPF
/- Paths: the same. -/
namespace Go.Proofs.YtgdapkbenmlabaaDoor.Pt
set_option linter.unusedSimpArgs false
set_option linter.unusedVariables false
open Go.RowKit Go.Maps

/-- a path, as cells -/
def pa2 (a : Bool) (v : Value) : List Value := [.bool a, v]
theorem Tryd.zeroPa : (Tryd.prog.info? 24).map (fun i => i.zero) = some (some (.agg (pa2 false (.slice none 0 0)).toArray)) := by kernel_rfl
theorem Tryd.isizePa : (Tryd.prog.info? 24).map (·.size) = some 2 := by kernel_rfl
theorem sizePa (a : Bool) (v : Value) : (Tryd.prog.info? 24).map (·.size) = some (pa2 a v).length := Tryd.isizePa
theorem sizePa' (a : Bool) (v : Value) : (Tryd.prog.info? 24).map (·.size) = some (pa2 a v).toArray.size := Tryd.isizePa
theorem Tryd.descPa : ∃ d, Tryd.prog.underlying 24 = some d ∧ d.isRow = true := ⟨_, Tryd.underlying24, rfl⟩
theorem pa2_one (a : Bool) (pa : Option Addr) (n c : Nat) : ∀ v ∈ pa2 a (.slice pa n c), v.oneCell' = true := by
  intro v hv
  simp only [pa2, List.mem_cons, List.not_mem_nil, or_false] at hv
  rcases hv with rfl | rfl <;> rfl
theorem Tryd.buildPa0 (w : World) : (Instr.build 24 #[]).run Tryd.prog w = .ok (.agg (pa2 false (.slice none 0 0)).toArray) w := by kernel_rfl
theorem Tryd.buildPa1 (a : Bool) (w : World) : (Instr.build 24 #[(0, .bool a)]).run Tryd.prog w = .ok (.agg #[.bool a, .slice none 0 0]) w := by cases a <;> kernel_rfl
theorem Tryd.buildPa2 (a : Bool) (pa : Option Addr) (n c : Nat) (w : World) : (Instr.build 24 #[(0, .bool a), (1, .slice pa n c)]).run Tryd.prog w = .ok (.agg #[.bool a, .slice pa n c]) w := by cases a <;> kernel_rfl
theorem Tryd.buildPaS (pa : Option Addr) (n c : Nat) (w : World) : (Instr.build 24 #[(1, .slice pa n c)]).run Tryd.prog w = .ok (.agg #[.bool false, .slice pa n c]) w := by kernel_rfl
theorem Ps.slice {w : World} {v : Value} {L : List Pr} (h : Ps w v L) : ∃ pa cap, v = .slice pa L.length cap := by
  obtain ⟨pa, cap, hv, -⟩ := h.form
  exact ⟨pa, cap, hv⟩
set_option maxHeartbeats 4000000 in
set_option maxRecDepth 100000 in
theorem samep_any (a b : Bool) (v1 v2 : Value) (L1 L2 : List Pr) (s1 : smP L1) (s2 : smP L2) (hm : L1.length ≤ 2000) (w : World) (h1 : Ps w v1 L1) (h2 : Ps w v2 L2) :
    Calls Tryd.prog 7 #[.agg #[.bool a, v1], .agg #[.bool b, v2]] w fun e w' => e = .returned (.bool (decide (a = b) && decide (L1 = L2))) ∧ Below w.heap.size w w' := by
  have HSm := Lib.hid (fun W h1 h2 => same_any v1 v2 L1 L2 s1 s2 hm W h1 h2)
  have H1 := Lib.hid h1
  have H2 := Lib.hid h2
  obtain ⟨pa1, cp1, e1⟩ := h1.slice
  obtain ⟨pa2', cp2, e2⟩ := h2.slice
  obtain ⟨n1, hn1⟩ : ∃ n, L1.length = n := ⟨_, rfl⟩
  obtain ⟨n2, hn2⟩ : ∃ n, L2.length = n := ⟨_, rfl⟩
  rw [hn1] at e1
  rw [hn2] at e2
  subst e1 e2
  obtain ⟨D, hD⟩ : ∃ D, decide (L1 = L2) = D := ⟨_, rfl⟩
  rw [hD] at HSm ⊢
  clear h1 h2 hn1 hn2 hm s1 s2 hD
  obtain ⟨R, hR⟩ : ∃ R, (decide (a = b) && D) = R := ⟨_, rfl⟩
  rw [hR]
  have HR := Lib.hid hR
  clear hR
  go_enter Tryd.func7, Tryd.ntmps7
  go_upto_region 1 with (first | (refine wpList_box_list (w := w) rfl 24 _ rfl (pa2 a (.slice pa1 n1 cp1)) rfl ?_; intro w1 F1 hb1 hz1; have HB1 := Lib.hid hb1; clear hb1 hz1) | (refine wpList_box_list (w := w1) rfl 24 _ rfl (pa2 b (.slice pa2' n2 cp2)) rfl ?_; intro w2 F2 hb2 hz2; have HB2 := Lib.hid (HB1.out.trans (hb2.mono HB1.out.size)); have G1 := Lib.hid (F1.out.keep hb2); clear hb2 hz2 F1 HB1))
  obtain ⟨x1, hx1⟩ : ∃ x, w.heap.size = x := ⟨_, rfl⟩
  obtain ⟨x2, hx2⟩ : ∃ x, w1.heap.size = x := ⟨_, rfl⟩
  have HX := Lib.hid hx1
  rw [hx1] at G1
  rw [hx2] at F2
  try rw [hx1]
  try rw [hx2]
  have c0 := G1.out.c 0 _ rfl
  have c1 := G1.out.c 1 _ rfl
  have d0 := F2.out.c 0 _ rfl
  have d1 := F2.out.c 1 _ rfl
  have K1 := Lib.hid (H1.out.keep (w' := w2) (by rw [← HX.out] at *; exact HB2.out))
  have K2 := Lib.hid (H2.out.keep (w' := w2) HB2.out)
  clear hx1 hx2 F2 G1
  by_cases hab : a = b
  · subst hab
    have hab' : (a == a) = true := by simp
    go_wp2_with (first | (refine (HSm.out w2 K1.out K2.out).mono ?_; rintro e w3 ⟨rfl, hb3⟩; have HB3 := Lib.hid (HB2.out.trans (hb3.mono HB2.out.size)); clear hb3))
    go_ret
    exact ⟨ret_bool (by rw [← HR.out]; simp), HB3.out⟩
  · have hab' : (a == b) = false := by simpa using hab
    go_wp2_with fail
    go_ret
    exact ⟨ret_bool (by rw [← HR.out, decide_eq_false hab]; rfl), HB2.out⟩
end Go.Proofs.YtgdapkbenmlabaaDoor.Pt
