import Derived.Test.YtfackmiojbdjhaaDoorC5
import Derived.Test.YtfackmiojbdjhaaDoorLast
/- The state of a configuration while its labels are registered; register. -/
namespace Go.Proofs.YtfackmiojbdjhaaDoor
set_option linter.unusedSimpArgs false
set_option linter.unusedVariables false
open Go.RowKit Go.Maps

/-- A configuration that New makes: blocks n .. n + 2 its maps, n + 3 its own six cells; rows from n + 4 on. -/
structure CB (n : Nat) (w : World) (vr vm vg : Value) : Prop where
  lt : n + 4 ≤ w.heap.size
  c0 : w.cell? ⟨n + 3, 0, none⟩ = some vr
  c1 : w.cell? ⟨n + 3, 1, none⟩ = some vm
  c2 : w.cell? ⟨n + 3, 2, none⟩ = some vg
  c3 : w.cell? ⟨n + 3, 3, none⟩ = some (.map (some n))
  c4 : w.cell? ⟨n + 3, 4, none⟩ = some (.map (some (n + 1)))
  c5 : w.cell? ⟨n + 3, 5, none⟩ = some (.map (some (n + 2)))
  f0 : w.frozen? ⟨n + 3, 0, none⟩ = false
  f1 : w.frozen? ⟨n + 3, 1, none⟩ = false
  f2 : w.frozen? ⟨n + 3, 2, none⟩ = false
theorem CB.below {n : Nat} {w w' : World} {vr vm vg : Value} {B : Nat} (h : CB n w vr vm vg) (hb : Below B w w') (hB : n + 4 ≤ B) : CB n w' vr vm vg :=
  ⟨Nat.le_trans h.lt hb.size, (hb.cell (p := ⟨n + 3, 0, none⟩) (by simp; omega)).trans h.c0, (hb.cell (p := ⟨n + 3, 1, none⟩) (by simp; omega)).trans h.c1, (hb.cell (p := ⟨n + 3, 2, none⟩) (by simp; omega)).trans h.c2, (hb.cell (p := ⟨n + 3, 3, none⟩) (by simp; omega)).trans h.c3, (hb.cell (p := ⟨n + 3, 4, none⟩) (by simp; omega)).trans h.c4, (hb.cell (p := ⟨n + 3, 5, none⟩) (by simp; omega)).trans h.c5, (hb.frozen (p := ⟨n + 3, 0, none⟩) (by simp; omega)).trans h.f0, (hb.frozen (p := ⟨n + 3, 1, none⟩) (by simp; omega)).trans h.f1, (hb.frozen (p := ⟨n + 3, 2, none⟩) (by simp; omega)).trans h.f2⟩
theorem ownsMap_below {w w' : World} {P : Program} {k : TypeId} {R : Value → Option (DataW Unit × List MemPlace)} {b n : Nat} {D : DataW Unit} (h : w.ownsMap P k R b n D) {B : Nat} (hb : Below B w w') (hB : b < B) : w'.ownsMap P k R b n D := by
  obtain ⟨es, clock, hh, r⟩ := h
  exact ⟨es, clock, (hb.block b hB).trans hh, r⟩
def flatR (rs : List Rg) : List Value := rs.flatMap Rg.cells
def atI (D : DataW Unit) (kl : Lit) : Int := match D.atKey kl (.lit (.int .i64 0)) with | .lit (.int _ c) => c | _ => 0
theorem look_int {w : World} {k t : TypeId} {b n : Nat} {D : DataW Unit} {key : Value} {kl : Lit} (h : w.ownsMap Tryd.prog k (plainElem Tryd.prog 3) b n D) (K : Keyed Tryd.prog k) (ht : Tryd.prog.underlying t = some (.map k 3)) (hkey : keyOf Tryd.prog k key = some kl) :
    (Instr.lookup t (.map (some b)) key true).run Tryd.prog w = .ok (.tuple #[.int .i64 (atI D kl), .bool (Maps.has D kl)]) w := by
  obtain ⟨v, ps, hu, hp⟩ := h.look_ok K ht (Tryd.zero3 _) (plainElem_int Tryd.underlying3 (by decide)) hkey
  obtain ⟨x, rfl, hx, -⟩ := plainElem_int_inv Tryd.underlying3 hp
  have : atI D kl = x := by
    have h1 := congrArg Prod.fst hx
    simp only at h1
    unfold atI
    rw [h1]
  rw [this]; exact hu
theorem ownsRow_form {w : World} {base : Nat} {e : TypeId} {size : Nat} {v : Value} {n : Nat} {xs : List Value} (h : w.ownsRow base e size v n xs) : ∃ a cap, v = .slice a n cap := by
  obtain ⟨_, ⟨hv, hn⟩ | ⟨g, cap, cur, hv, _⟩⟩ := h
  · exact ⟨none, 0, by rw [hv, hn]⟩
  · exact ⟨_, cap, hv⟩
structure RS (n : Nat) (w : World) (vr : Value) (rs : List Rg) (Dn Dl : DataW Unit) : Prop where
  cb : CB n w vr (.slice none 0 0) (.slice none 0 0)
  row : w.ownsRow (n + 4) 39 9 vr rs.length (flatR rs)
  mn : w.ownsMap Tryd.prog 9 (plainElem Tryd.prog 3) n rs.length Dn
  ml : w.ownsMap Tryd.prog 37 (plainElem Tryd.prog 3) (n + 1) rs.length Dl
  mt : w.ownsMap Tryd.prog 34 (unitElem (H := Unit)) (n + 2) 0 (.map [])
theorem RS.below {n : Nat} {w w' : World} {vr : Value} {rs : List Rg} {Dn Dl : DataW Unit} (h : RS n w vr rs Dn Dl) (hb : Below w.heap.size w w') : RS n w' vr rs Dn Dl := by
  have := h.cb.lt
  exact ⟨h.cb.below hb this, ownsRow_below h.row hb, ownsMap_below h.mn hb (by omega), ownsMap_below h.ml hb (by omega), ownsMap_below h.mt hb (by omega)⟩
theorem cell_same {w w' : World} {b o : Nat} (h : w'.heap[b]? = w.heap[b]?) : w'.cell? ⟨b, o, none⟩ = w.cell? ⟨b, o, none⟩ := by simp [World.cell?, h]
theorem frozen_same {w w' : World} {b o : Nat} (h : w'.heap[b]? = w.heap[b]?) : w'.frozen? ⟨b, o, none⟩ = w.frozen? ⟨b, o, none⟩ := by simp [World.frozen?, h]
theorem CB.same {n : Nat} {w w' : World} {vr vm vg : Value} (h : CB n w vr vm vg) (hs : w.heap.size ≤ w'.heap.size) (e : w'.heap[n + 3]? = w.heap[n + 3]?) : CB n w' vr vm vg :=
  ⟨Nat.le_trans h.lt hs, (cell_same e).trans h.c0, (cell_same e).trans h.c1, (cell_same e).trans h.c2, (cell_same e).trans h.c3, (cell_same e).trans h.c4, (cell_same e).trans h.c5, (frozen_same e).trans h.f0, (frozen_same e).trans h.f1, (frozen_same e).trans h.f2⟩
theorem ownsMap_same {w w' : World} {P : Program} {k : TypeId} {R : Value → Option (DataW Unit × List MemPlace)} {b n : Nat} {D : DataW Unit} (h : w.ownsMap P k R b n D) (e : w'.heap[b]? = w.heap[b]?) : w'.ownsMap P k R b n D := by
  obtain ⟨es, clock, hh, r⟩ := h
  exact ⟨es, clock, e.trans hh, r⟩
theorem ownsRow_same {w w' : World} {base : Nat} {e : TypeId} {size : Nat} {v : Value} {n : Nat} {xs : List Value} (h : w.ownsRow base e size v n xs) (he : ∀ b, base ≤ b → b < w.heap.size → w'.heap[b]? = w.heap[b]?) : w'.ownsRow base e size v n xs := by
  obtain ⟨hl, h | ⟨g, cap, cur, hv, hg, hh, r⟩⟩ := h
  · exact ⟨hl, .inl h⟩
  · exact ⟨hl, .inr ⟨g, cap, cur, hv, hg, (he g hg (Array.getElem?_eq_some_iff.1 hh).1).trans hh, r⟩⟩
theorem cells_new (w : World) (l : List Value) (t : TypeId) : ∀ j u, l[j]? = some u → (w.alloc (.cells l.toArray t)).cell? ((⟨w.heap.size, 0, none⟩ : Addr).add j) = some u := by
  intro j u hj
  have hlt : j < l.length := (List.getElem?_eq_some_iff.1 hj).1
  have h1 := (MapKept.heap_alloc w (.cells l.toArray t)).1
  have e : ((⟨w.heap.size, 0, none⟩ : Addr).add j) = ⟨w.heap.size, j, none⟩ := by cases j <;> simp [Addr.add]
  rw [e]
  simp only [World.cell?, h1]
  simpa using hj
theorem heap_set (w : World) (b o : Nat) (v : Value) {c : Nat} (h : c ≠ b) : (w.setCell ⟨b, o, none⟩ v).heap[c]? = w.heap[c]? := by
  simp [World.setCell, Array.getElem?_modify, Ne.symm h]
theorem size_set (w : World) (a : Addr) (v : Value) : (w.setCell a v).heap.size = w.heap.size := by simp [World.setCell]
theorem CB.set0 {n : Nat} {w : World} {vr vm vg : Value} (h : CB n w vr vm vg) (v : Value) : CB n (w.setCell ⟨n + 3, 0, none⟩ v) v vm vg :=
  ⟨by rw [size_set]; exact h.lt, World.cell?_setCell_same _ _ _ h.c0, by rw [World.cell?_setCell_other _ _ _ _ (by simp)]; exact h.c1, by rw [World.cell?_setCell_other _ _ _ _ (by simp)]; exact h.c2, by rw [World.cell?_setCell_other _ _ _ _ (by simp)]; exact h.c3, by rw [World.cell?_setCell_other _ _ _ _ (by simp)]; exact h.c4, by rw [World.cell?_setCell_other _ _ _ _ (by simp)]; exact h.c5, by simpa using h.f0, by simpa using h.f1, by simpa using h.f2⟩
theorem CB.set1 {n : Nat} {w : World} {vr vm vg : Value} (h : CB n w vr vm vg) (v : Value) : CB n (w.setCell ⟨n + 3, 1, none⟩ v) vr v vg :=
  ⟨by rw [size_set]; exact h.lt, by rw [World.cell?_setCell_other _ _ _ _ (by simp)]; exact h.c0, World.cell?_setCell_same _ _ _ h.c1, by rw [World.cell?_setCell_other _ _ _ _ (by simp)]; exact h.c2, by rw [World.cell?_setCell_other _ _ _ _ (by simp)]; exact h.c3, by rw [World.cell?_setCell_other _ _ _ _ (by simp)]; exact h.c4, by rw [World.cell?_setCell_other _ _ _ _ (by simp)]; exact h.c5, by simpa using h.f0, by simpa using h.f1, by simpa using h.f2⟩
theorem CB.set2 {n : Nat} {w : World} {vr vm vg : Value} (h : CB n w vr vm vg) (v : Value) : CB n (w.setCell ⟨n + 3, 2, none⟩ v) vr vm v :=
  ⟨by rw [size_set]; exact h.lt, by rw [World.cell?_setCell_other _ _ _ _ (by simp)]; exact h.c0, by rw [World.cell?_setCell_other _ _ _ _ (by simp)]; exact h.c1, World.cell?_setCell_same _ _ _ h.c2, by rw [World.cell?_setCell_other _ _ _ _ (by simp)]; exact h.c3, by rw [World.cell?_setCell_other _ _ _ _ (by simp)]; exact h.c4, by rw [World.cell?_setCell_other _ _ _ _ (by simp)]; exact h.c5, by simpa using h.f0, by simpa using h.f1, by simpa using h.f2⟩
/-- a label's own nine cells in block g -/
structure Box9 (w : World) (g : Nat) (r : Rg) : Prop where
  lt : g < w.heap.size
  b0 : w.cell? ⟨g, 0, none⟩ = some (.string r.nm)
  b1 : w.cell? ⟨g, 1, none⟩ = some (.int .u8 r.lv)
  b2 : w.cell? ⟨g, 2, none⟩ = some (.int .u16 r.cs)
  b3 : w.cell? ⟨g, 3, none⟩ = some (.int .i64 r.bl)
  b4 : w.cell? ⟨g, 4, none⟩ = some (.int .i64 r.nd)
  b5 : w.cell? ⟨g, 5, none⟩ = some (.int .i64 r.fr)
  b6 : w.cell? ⟨g, 6, none⟩ = some (.int .i64 r.pr)
  b7 : w.cell? ⟨g, 7, none⟩ = some (.int .i64 r.op)
  b8 : w.cell? ⟨g, 8, none⟩ = some (.int .i64 r.cl)
theorem Box9.new (w : World) (r : Rg) (t : TypeId) : Box9 (w.alloc (.cells #[.string r.nm, .int .u8 r.lv, .int .u16 r.cs, .int .i64 r.bl, .int .i64 r.nd, .int .i64 r.fr, .int .i64 r.pr, .int .i64 r.op, .int .i64 r.cl] t)) w.heap.size r :=
  ⟨by simp, by simp [World.cell?_alloc_new], by simp [World.cell?_alloc_new], by simp [World.cell?_alloc_new], by simp [World.cell?_alloc_new], by simp [World.cell?_alloc_new], by simp [World.cell?_alloc_new], by simp [World.cell?_alloc_new], by simp [World.cell?_alloc_new], by simp [World.cell?_alloc_new]⟩
theorem Box9.below {w w' : World} {B g : Nat} {r : Rg} (h : Box9 w g r) (hb : Below B w w') (hg : g < B) : Box9 w' g r :=
  ⟨Nat.lt_of_lt_of_le h.lt hb.size, (hb.cell (p := ⟨g, 0, none⟩) hg).trans h.b0, (hb.cell (p := ⟨g, 1, none⟩) hg).trans h.b1, (hb.cell (p := ⟨g, 2, none⟩) hg).trans h.b2, (hb.cell (p := ⟨g, 3, none⟩) hg).trans h.b3, (hb.cell (p := ⟨g, 4, none⟩) hg).trans h.b4, (hb.cell (p := ⟨g, 5, none⟩) hg).trans h.b5, (hb.cell (p := ⟨g, 6, none⟩) hg).trans h.b6, (hb.cell (p := ⟨g, 7, none⟩) hg).trans h.b7, (hb.cell (p := ⟨g, 8, none⟩) hg).trans h.b8⟩
theorem Box9.same {w w' : World} {g : Nat} {r : Rg} (h : Box9 w g r) (hs : w.heap.size ≤ w'.heap.size) (e : w'.heap[g]? = w.heap[g]?) : Box9 w' g r :=
  ⟨Nat.lt_of_lt_of_le h.lt hs, (cell_same e).trans h.b0, (cell_same e).trans h.b1, (cell_same e).trans h.b2, (cell_same e).trans h.b3, (cell_same e).trans h.b4, (cell_same e).trans h.b5, (cell_same e).trans h.b6, (cell_same e).trans h.b7, (cell_same e).trans h.b8⟩
def Rg.ok (r : Rg) : Prop := r.nm.size ≤ maxLen ∧ 0 ≤ r.lv ∧ r.lv < 256 ∧ 0 ≤ r.cs ∧ r.cs < 65536
def regE (Dn Dl : DataW Unit) (many : Int) (r : Rg) : Int :=
  if nameB r.nm = false then 30 else if (haveB r && decide (0 ≤ r.cl) && decide (r.cl < many)) = false then 27 else if (Maps.has Dn (strKey r.nm) || Maps.has Dl (labKey r.lv r.cs)) = true then 29 else 0

set_option maxHeartbeats 2000000 in
set_option maxRecDepth 100000 in
theorem register_any (n : Nat) (vr : Value) (rs : List Rg) (Dn Dl : DataW Unit) (many : Int) (r : Rg) (hr : r.ok) (w : World) (h : RS n w vr rs Dn Dl) (hm : rs.length < 64) :
    Calls Tryd.prog 25 #[.pointer (some ⟨n + 3, 0, none⟩), r.val, .int .i64 many] w fun e w' => e = .returned (.int .i64 (regE Dn Dl many r)) ∧
      (regE Dn Dl many r ≠ 0 → Below w.heap.size w w') ∧ (regE Dn Dl many r = 0 → Below n w w' ∧ ∃ vr', RS n w' vr' (rs ++ [r]) (Dn.put (strKey r.nm) (.lit (.int .i64 rs.length))) (Dl.put (labKey r.lv r.cs) (.lit (.int .i64 rs.length)))) := by
  obtain ⟨nm, lv, cs, bl, nd, fr, pr, op, cl⟩ := r
  obtain ⟨hs, l0, l1, k0, k1⟩ := hr
  simp only at hs l0 l1 k0 k1
  have HS := Lib.hid h
  clear h
  simp only [Rg.val]
  generalize hE : regE Dn Dl many ⟨nm, lv, cs, bl, nd, fr, pr, op, cl⟩ = E
  have HE := Lib.hid hE
  clear hE
  have hN := fun W => isname_any nm W
  have hR := fun W => inrange_any nm lv cs bl nd fr pr op cl W
  have hx0 := Box9.new w ⟨nm, lv, cs, bl, nd, fr, pr, op, cl⟩ 39
  simp only at hx0
  have HX0 := Lib.hid hx0
  clear hx0
  obtain ⟨i0, hi, hz0, hz1, hz2⟩ := info_parts Tryd.info39
  go_enter Tryd.func25, Tryd.ntmps25
  go_wp2_with fail
  refine (hN _).mono ?_
  rintro e w1 ⟨rfl, hb1⟩
  have HX1 := Lib.hid (HX0.out.below hb1 (by simp))
  have HB1 := Lib.hid hb1
  clear HX0
  cases hname : nameB nm
  · have hE : Hid (E = 30) := by show E = 30; rw [← HE.out, regE, if_pos hname]
    clear hb1
    go_wp2
    go_ret
    rw [hE.out]
    exact ⟨rfl, fun _ => ((Below.refl _ w).alloc (Nat.le_refl _) _).trans (HB1.out.mono (by simp)), fun h => by cases h⟩
  · have HNm := Lib.hid hname
    obtain ⟨xlt, b0, b1, b2, b3, b4, b5, b6, b7, b8⟩ := id HX1.out
    clear hb1 hname
    go_wp2_with fail
    refine (hR _).mono ?_
    rintro e w2 ⟨rfl, hb2⟩
    have HX2 := Lib.hid (HX1.out.below hb2 xlt)
    have HB2 := Lib.hid (HB1.out.trans (hb2.mono (by have := HB1.out.size; simpa using this)))
    clear HX1 HB1 b0 b1 b2 b3 b4 b5 b6 b7 b8 hb2 xlt w1
    obtain ⟨xlt, b0, b1, b2, b3, b4, b5, b6, b7, b8⟩ := id HX2.out
    by_cases hhave : (haveB ⟨nm, lv, cs, bl, nd, fr, pr, op, cl⟩ && decide (0 ≤ cl) && decide (cl < many)) = true
    · have HB := Lib.hid (((Below.refl _ w).alloc (Nat.le_refl _) _).trans (HB2.out.mono (by simp)))
      clear HB2
      have hh : haveB ⟨nm, lv, cs, bl, nd, fr, pr, op, cl⟩ = true := by simp at hhave; exact hhave.1.1
      have hc0 : ¬ (cl < 0) := by simp at hhave; omega
      have hc1 : ¬ (many ≤ cl) := by simp at hhave; omega
      have HH := Lib.hid hhave
      clear hhave
      have HS2 := Lib.hid (HS.out.below HB.out)
      obtain ⟨cb, row, mn, ml, mt⟩ := id HS2.out
      obtain ⟨lt, c0, c1, c2, c3, c4, c5, f0, f1, f2⟩ := cb
      clear row mt c1 c2 c5 f1 f2
      have L1 : ∀ m, (Instr.lookup 75 (.map (some n)) (.string nm) true).run Tryd.prog (w2.drewN m) = _ := fun m => look_int (w := w2.drewN m) mn Tryd.lawStr Tryd.underlying75 (strKey_is nm hs)
      have L2 : ∀ m, (Instr.lookup 76 (.map (some (n + 1))) (.agg #[.int .u8 lv, .int .u16 cs]) true).run Tryd.prog (w2.drewN m) = _ := fun m => look_int (w := w2.drewN m) ml Tryd.lawLab Tryd.underlying76 (labKey_is lv cs l0 l1 k0 k1)
      clear mn ml
      simp only at b0 b1 b2 b3 b4 b5 b6 b7 b8
      obtain ⟨tn, htn⟩ : ∃ b, Maps.has Dn (strKey nm) = b := ⟨_, rfl⟩
      obtain ⟨tl, htl⟩ : ∃ b, Maps.has Dl (labKey lv cs) = b := ⟨_, rfl⟩
      have hE : Hid (E = if (tn || tl) = true then 29 else 0) := by
        show E = _
        rw [← HE.out, regE, if_neg (by rw [HNm.out]; decide), if_neg (by rw [HH.out]; decide), htn, htl]
      rw [htn] at L1
      rw [htl] at L2
      clear htn htl
      have HX2 := Lib.hid HX2.out
      cases tn
      · cases tl
        · go_wp2
          go_quiet (fail)
          obtain ⟨p1, rfl⟩ : ∃ x, x = nq := ⟨nq, rfl⟩
          clear L1
          go_wp2
          go_quiet (fail)
          clear L2
          go_wp2
          obtain ⟨W, hW⟩ : ∃ W, w2.drewN (p1 + nq) = W := ⟨_, rfl⟩
          rw [hW]
          have hbW : Below w2.heap.size w2 W := hW ▸ below_drewN' (Below.refl _ _) _
          have hsW : W.heap.size = w2.heap.size := by rw [← hW]; rfl
          have HSW := Lib.hid (HS2.out.below hbW)
          have HXW := Lib.hid (HX2.out.below hbW xlt)
          have HBW := Lib.hid (HB.out.trans (hbW.mono (by have := HB.out.size; omega)))
          clear hbW hsW hW HS2 HX2 HB b0 b1 b2 b3 b4 b5 b6 b7 b8 c0 c3 c4 f0 lt xlt HE
          obtain ⟨⟨lt, c0, c1, c2, c3, c4, c5, f0, f1, f2⟩, row, mn, ml, mt⟩ := id HSW.out
          obtain ⟨xlt, b0, b1, b2, b3, b4, b5, b6, b7, b8⟩ := id HXW.out
          obtain ⟨ra, rc, rfl⟩ := ownsRow_form row
          have HR := Lib.hid row
          have HMN := Lib.hid mn
          clear row mn ml mt c1 c2 c4 c5 f0 f1 f2
          simp only at b0 b1 b2 b3 b4 b5 b6 b7 b8
          refine wp_region_split (C := fun w' => ∃ m, w' = W.drewN m) 11 (by kernel_rfl) (of_decide_eq_true (by kernel_rfl)) (by kernel_rfl) (by kernel_rfl) (by kernel_rfl) ⟨1, rfl⟩ ?_
          simp only [List.take_succ_cons, List.take_zero]
          repeat (quiet_step (fail))
          refine wpQuiet_nil ?_
          intro wy hw'
          obtain ⟨m, rfl⟩ := hw'
          refine wpAny_last 11 (by kernel_rfl) (by kernel_rfl) (wpOp_step0 rfl rfl (fun K hK => ?_))
          obtain ⟨w4, hrun, hmn, hg4⟩ := World.ownsMap.update (w := W.drewN m) (t := 75) HMN.out Tryd.lawStr Tryd.underlying75 (by unfold maxLen; omega) (strKey_is nm hs) (plainElem_int (a := (rs.length : Int)) Tryd.underlying3 (by simp [Lit.wf, IntKind.min, IntKind.max, IntKind.bits, IntKind.signed]; omega))
          go_simp
          refine hK _ _ ?_
          have hz4 : W.heap.size ≤ w4.heap.size := hg4.size
          have hk4 : ∀ b, b < W.heap.size → b ≠ n → w4.heap[b]? = W.heap[b]? := fun b hb hne => hg4.block b hb (by simp; omega)
          have hwl : n + 4 ≤ w.heap.size := HS.out.cb.lt
          have HB4 := Lib.hid ((below_drewN' (HBW.out.mono (show n ≤ w.heap.size by omega)) m).grown hg4 (by show n ≤ W.heap.size; omega) (fun k hk => by simp at hk; omega))
          have HX4 := Lib.hid (HXW.out.same hz4 (hk4 _ xlt (by omega)))
          have HR4 := Lib.hid (ownsRow_same HR.out (fun b hb hb2 => hk4 b hb2 (by omega)))
          have HC4 := Lib.hid (HSW.out.cb.same hz4 (hk4 _ (by omega) (by omega)))
          have HN4 := Lib.hid hmn
          have HL4 := Lib.hid (ownsMap_same HSW.out.ml (hk4 _ (by omega) (by omega)))
          have HT4 := Lib.hid (ownsMap_same HSW.out.mt (hk4 _ (by omega) (by omega)))
          have hx4 : w.heap.size < w4.heap.size := by omega
          clear hmn hrun hg4 hk4 hz4 HSW HXW HR HMN HBW b0 b1 b2 b3 b4 b5 b6 b7 b8 c0 c3 lt xlt hK K
          clear m W
          obtain ⟨lt, c0, c1, c2, c3, c4, c5, f0, f1, f2⟩ := id HC4.out
          obtain ⟨xlt, b0, b1, b2, b3, b4, b5, b6, b7, b8⟩ := id HX4.out
          clear c1 c2 c3 c5 f0 f1 f2
          simp only at b0 b1 b2 b3 b4 b5 b6 b7 b8
          go_wp2
          refine wp_region_split (C := fun w' => ∃ m, w' = w4.drewN m) 11 (by kernel_rfl) (of_decide_eq_true (by kernel_rfl)) (by kernel_rfl) (by kernel_rfl) (by kernel_rfl) ⟨1, rfl⟩ ?_
          simp only [List.take_succ_cons, List.take_zero]
          repeat (quiet_step (fail))
          refine wpQuiet_nil ?_
          intro wy hw'
          obtain ⟨m, rfl⟩ := hw'
          refine wpAny_last 11 (by kernel_rfl) (by kernel_rfl) (wpOp_step0 rfl rfl (fun K hK => ?_))
          obtain ⟨w5, hrun, hml, hg5⟩ := World.ownsMap.update (w := w4.drewN m) (t := 76) HL4.out Tryd.lawLab Tryd.underlying76 (by unfold maxLen; omega) (labKey_is lv cs l0 l1 k0 k1) (plainElem_int (a := (rs.length : Int)) Tryd.underlying3 (by simp [Lit.wf, IntKind.min, IntKind.max, IntKind.bits, IntKind.signed]; omega))
          go_simp
          refine hK _ _ ?_
          have hz5 : w4.heap.size ≤ w5.heap.size := hg5.size
          have hk5 : ∀ b, b < w4.heap.size → b ≠ n + 1 → w5.heap[b]? = w4.heap[b]? := fun b hb hne => hg5.block b hb (by simp; omega)
          have HB5 := Lib.hid ((below_drewN' HB4.out m).grown hg5 (by show n ≤ w4.heap.size; omega) (fun k hk => by simp at hk; omega))
          have HX5 := Lib.hid (HX4.out.same hz5 (hk5 _ xlt (by omega)))
          have HR5 := Lib.hid (ownsRow_same HR4.out (fun b hb hb2 => hk5 b hb2 (by omega)))
          have HC5 := Lib.hid (HC4.out.same hz5 (hk5 _ (by omega) (by omega)))
          have HN5 := Lib.hid (ownsMap_same HN4.out (hk5 _ (by omega) (by omega)))
          have HL5 := Lib.hid hml
          have HT5 := Lib.hid (ownsMap_same HT4.out (hk5 _ (by omega) (by omega)))
          have hx5 : w.heap.size < w5.heap.size := by omega
          clear hml hrun hg5 hk5 hz5 HX4 HR4 HC4 HN4 HL4 HT4 HB4 b0 b1 b2 b3 b4 b5 b6 b7 b8 c0 c4 lt xlt hK K hx4
          clear m w4
          obtain ⟨lt, c0, c1, c2, c3, c4, c5, f0, f1, f2⟩ := id HC5.out
          obtain ⟨xlt, b0, b1, b2, b3, b4, b5, b6, b7, b8⟩ := id HX5.out
          clear c1 c2 c3 c4 c5 f1 f2
          simp only at b0 b1 b2 b3 b4 b5 b6 b7 b8
          go_wp2
          have lt3 : n + 3 < w5.heap.size := by omega
          refine wp_region_any (by kernel_rfl) ?_
          change wpAny _ _ _ _ _ _ _ (World.drew _)
          refine wpAny_take (i := 0) (v := ?_) rfl (by kernel_rfl) (by kernel_rfl) (by kernel_rfl) (fun _ _ _ h => h) (Or.inl ⟨by rfl, ?_⟩) ?_
          rotate_left 1
          · intro w; go_simp; try with_reducible rfl
          refine wpAny_take (i := 1) (v := ?_) rfl (by kernel_rfl) (by kernel_rfl) (by kernel_rfl) (fun _ _ _ h => h) (Or.inl ⟨by rfl, ?_⟩) ?_
          rotate_left 1
          · intro w; go_simp; try with_reducible rfl
          refine wpAny_take (i := 2) (v := ?_) rfl (by kernel_rfl) (by kernel_rfl) (by kernel_rfl) (fun _ _ _ h => h) (Or.inl ⟨by rfl, ?_⟩) ?_
          rotate_left 1
          · intro w; go_simp; try with_reducible rfl
          refine wpAny_take (i := 3) (v := ?_) rfl (by kernel_rfl) (by kernel_rfl) (by kernel_rfl) (fun _ _ _ h => h) (Or.inl ⟨by rfl, ?_⟩) ?_
          rotate_left 1
          · intro w; go_simp; try with_reducible rfl
          refine wpAny_ready (rs := [4, 5]) (by kernel_rfl) (by simp) (AllReady.cons rfl (fun K hK => ?_) (AllReady.cons rfl (fun K hK => ?_) AllReady.nil))
          · go_simp
            refine hK _ _ ?_
            clear hK K
            refine wpAny_ready (rs := [5]) (by kernel_rfl) (by simp) (AllReady.cons rfl (fun K hK => ?_) AllReady.nil)
            go_simp
            refine hK _ _ ?_
            clear hK K
            refine wpAny_ready (rs := [6]) (by kernel_rfl) (by simp) (AllReady.cons rfl (fun K hK => ?_) AllReady.nil)
            go_simp
            refine hK _ _ ?_
            clear hK K
            refine wpAny_ready (rs := [7]) (by kernel_rfl) (by simp) (AllReady.cons rfl (fun K hK => ?_) AllReady.nil)
            simp only [Region.wanted, if_true]
            refine wp_append_own _ _ _ 22 rfl (n + 4) 39 i0 _ 9 72 Tryd.underlying22 hi hz0 hz1 hz2 rfl (by decide) _ _ _ rfl (HR5.out.alloc _) ⟨w5.heap.size, 0, none⟩ 1 1 [.string nm, .int .u8 lv, .int .u16 cs, .int .i64 bl, .int .i64 nd, .int .i64 fr, .int .i64 pr, .int .i64 op, .int .i64 cl] rfl rfl (cells_new w5 _ 39) (by simp [Value.oneCell']) (by unfold maxLen; omega) (by omega) (by simp; omega) (fun v' w6 hown hg6 _ => ?_)
            obtain ⟨ra', rc', rfl⟩ := ownsRow_form hown
            refine hK _ _ ?_
            clear hK K
            have hz6 : w5.heap.size + 1 ≤ w6.heap.size := by have := hg6.size; simpa using this
            have hk6 : ∀ b, b < n + 4 → w6.heap[b]? = w5.heap[b]? := fun b hb => (hg6.block b (by simp; omega) (fun e => by have := ownsRow_block HR5.out b e.symm; omega)).trans ((MapKept.heap_alloc w5 _).2 b (by omega))
            have HC6 := Lib.hid (HC5.out.same (by omega) (hk6 _ (by omega)))
            have HB6 := Lib.hid ((HB5.out.alloc (by omega) (.cells #[.string nm, .int .u8 lv, .int .u16 cs, .int .i64 bl, .int .i64 nd, .int .i64 fr, .int .i64 pr, .int .i64 op, .int .i64 cl] 39)).drew.grown hg6 (by simp; omega) (fun k hk => by have := ownsRow_block HR5.out k hk; omega))
            have HN6 := Lib.hid (ownsMap_same HN5.out (hk6 _ (by omega)))
            have HL6 := Lib.hid (ownsMap_same HL5.out (hk6 _ (by omega)))
            have HT6 := Lib.hid (ownsMap_same HT5.out (hk6 _ (by omega)))
            have HO6 := Lib.hid hown
            clear hown hg6 hk6 HR5 HB5 HC5 HN5 HL5 HT5 HX5 b0 b1 b2 b3 b4 b5 b6 b7 b8 c0 f0 lt xlt hx5
            obtain ⟨lt, c0, c1, c2, c3, c4, c5, f0, f1, f2⟩ := id HC6.out
            clear c1 c2 c3 c4 c5 f1 f2
            refine wpAny_ready (rs := [8]) (by kernel_rfl) (by simp) (AllReady.cons rfl (fun K hK => ?_) AllReady.nil)
            go_simp
            refine hK _ _ ?_
            clear hK K
            refine wpAny_ready (rs := [9]) (by kernel_rfl) (by simp) (AllReady.cons rfl (fun K hK => ?_) AllReady.nil)
            go_simp
            refine hK _ _ ?_
            clear hK K
            refine wpAny_ready (rs := [10]) (by kernel_rfl) (by simp) (AllReady.cons rfl (fun K hK => ?_) AllReady.nil)
            go_simp
            refine hK _ _ ?_
            clear hK K
            refine wpAny_done (by kernel_rfl) ?_ _
            go_wp2
            go_ret
            rw [hE.out]
            refine ⟨rfl, fun h => absurd rfl h, fun _ => ⟨HB6.out.setCell (by simp) _, .slice ra' (rs.length + 1) rc', ?_⟩⟩
            have e6 : ∀ b, b ≠ n + 3 → (w6.setCell ⟨n + 3, 0, none⟩ (.slice ra' (rs.length + 1) rc')).heap[b]? = w6.heap[b]? := fun b hb => heap_set _ _ _ _ hb
            refine ⟨HC6.out.set0 _, ?_, ?_, ?_, ownsMap_same HT6.out (e6 _ (by omega))⟩
            · rw [flatR, List.flatMap_append, List.length_append]
              simpa [flatR, Rg.cells] using ownsRow_same HO6.out (fun b hb _ => e6 b (by omega))
            · rw [List.length_append]; exact ownsMap_same HN6.out (e6 _ (by omega))
            · rw [List.length_append]; exact ownsMap_same HL6.out (e6 _ (by omega))
          · go_simp
            refine hK _ _ ?_
            clear hK K
            refine wpAny_ready (rs := [4, 6]) (by kernel_rfl) (by simp) (AllReady.cons rfl (fun K hK => ?_) (AllReady.cons rfl (fun K hK => ?_) AllReady.nil))
            · go_simp
              refine hK _ _ ?_
              clear hK K
              refine wpAny_ready (rs := [6]) (by kernel_rfl) (by simp) (AllReady.cons rfl (fun K hK => ?_) AllReady.nil)
              go_simp
              refine hK _ _ ?_
              clear hK K
              refine wpAny_ready (rs := [7]) (by kernel_rfl) (by simp) (AllReady.cons rfl (fun K hK => ?_) AllReady.nil)
              simp only [Region.wanted, if_true]
              refine wp_append_own _ _ _ 22 rfl (n + 4) 39 i0 _ 9 72 Tryd.underlying22 hi hz0 hz1 hz2 rfl (by decide) _ _ _ rfl (HR5.out.alloc _) ⟨w5.heap.size, 0, none⟩ 1 1 [.string nm, .int .u8 lv, .int .u16 cs, .int .i64 bl, .int .i64 nd, .int .i64 fr, .int .i64 pr, .int .i64 op, .int .i64 cl] rfl rfl (cells_new w5 _ 39) (by simp [Value.oneCell']) (by unfold maxLen; omega) (by omega) (by simp; omega) (fun v' w6 hown hg6 _ => ?_)
              obtain ⟨ra', rc', rfl⟩ := ownsRow_form hown
              refine hK _ _ ?_
              clear hK K
              have hz6 : w5.heap.size + 1 ≤ w6.heap.size := by have := hg6.size; simpa using this
              have hk6 : ∀ b, b < n + 4 → w6.heap[b]? = w5.heap[b]? := fun b hb => (hg6.block b (by simp; omega) (fun e => by have := ownsRow_block HR5.out b e.symm; omega)).trans ((MapKept.heap_alloc w5 _).2 b (by omega))
              have HC6 := Lib.hid (HC5.out.same (by omega) (hk6 _ (by omega)))
              have HB6 := Lib.hid ((HB5.out.alloc (by omega) (.cells #[.string nm, .int .u8 lv, .int .u16 cs, .int .i64 bl, .int .i64 nd, .int .i64 fr, .int .i64 pr, .int .i64 op, .int .i64 cl] 39)).drew.grown hg6 (by simp; omega) (fun k hk => by have := ownsRow_block HR5.out k hk; omega))
              have HN6 := Lib.hid (ownsMap_same HN5.out (hk6 _ (by omega)))
              have HL6 := Lib.hid (ownsMap_same HL5.out (hk6 _ (by omega)))
              have HT6 := Lib.hid (ownsMap_same HT5.out (hk6 _ (by omega)))
              have HO6 := Lib.hid hown
              clear hown hg6 hk6 HR5 HB5 HC5 HN5 HL5 HT5 HX5 b0 b1 b2 b3 b4 b5 b6 b7 b8 c0 f0 lt xlt hx5
              obtain ⟨lt, c0, c1, c2, c3, c4, c5, f0, f1, f2⟩ := id HC6.out
              clear c1 c2 c3 c4 c5 f1 f2
              refine wpAny_ready (rs := [8]) (by kernel_rfl) (by simp) (AllReady.cons rfl (fun K hK => ?_) AllReady.nil)
              go_simp
              refine hK _ _ ?_
              clear hK K
              refine wpAny_ready (rs := [9]) (by kernel_rfl) (by simp) (AllReady.cons rfl (fun K hK => ?_) AllReady.nil)
              go_simp
              refine hK _ _ ?_
              clear hK K
              refine wpAny_ready (rs := [10]) (by kernel_rfl) (by simp) (AllReady.cons rfl (fun K hK => ?_) AllReady.nil)
              go_simp
              refine hK _ _ ?_
              clear hK K
              refine wpAny_done (by kernel_rfl) ?_ _
              go_wp2
              go_ret
              rw [hE.out]
              refine ⟨rfl, fun h => absurd rfl h, fun _ => ⟨HB6.out.setCell (by simp) _, .slice ra' (rs.length + 1) rc', ?_⟩⟩
              have e6 : ∀ b, b ≠ n + 3 → (w6.setCell ⟨n + 3, 0, none⟩ (.slice ra' (rs.length + 1) rc')).heap[b]? = w6.heap[b]? := fun b hb => heap_set _ _ _ _ hb
              refine ⟨HC6.out.set0 _, ?_, ?_, ?_, ownsMap_same HT6.out (e6 _ (by omega))⟩
              · rw [flatR, List.flatMap_append, List.length_append]
                simpa [flatR, Rg.cells] using ownsRow_same HO6.out (fun b hb _ => e6 b (by omega))
              · rw [List.length_append]; exact ownsMap_same HN6.out (e6 _ (by omega))
              · rw [List.length_append]; exact ownsMap_same HL6.out (e6 _ (by omega))
            · go_simp
              refine hK _ _ ?_
              clear hK K
              refine wpAny_ready (rs := [4]) (by kernel_rfl) (by simp) (AllReady.cons rfl (fun K hK => ?_) AllReady.nil)
              go_simp
              refine hK _ _ ?_
              clear hK K
              refine wpAny_ready (rs := [7]) (by kernel_rfl) (by simp) (AllReady.cons rfl (fun K hK => ?_) AllReady.nil)
              simp only [Region.wanted, if_true]
              refine wp_append_own _ _ _ 22 rfl (n + 4) 39 i0 _ 9 72 Tryd.underlying22 hi hz0 hz1 hz2 rfl (by decide) _ _ _ rfl (HR5.out.alloc _) ⟨w5.heap.size, 0, none⟩ 1 1 [.string nm, .int .u8 lv, .int .u16 cs, .int .i64 bl, .int .i64 nd, .int .i64 fr, .int .i64 pr, .int .i64 op, .int .i64 cl] rfl rfl (cells_new w5 _ 39) (by simp [Value.oneCell']) (by unfold maxLen; omega) (by omega) (by simp; omega) (fun v' w6 hown hg6 _ => ?_)
              obtain ⟨ra', rc', rfl⟩ := ownsRow_form hown
              refine hK _ _ ?_
              clear hK K
              have hz6 : w5.heap.size + 1 ≤ w6.heap.size := by have := hg6.size; simpa using this
              have hk6 : ∀ b, b < n + 4 → w6.heap[b]? = w5.heap[b]? := fun b hb => (hg6.block b (by simp; omega) (fun e => by have := ownsRow_block HR5.out b e.symm; omega)).trans ((MapKept.heap_alloc w5 _).2 b (by omega))
              have HC6 := Lib.hid (HC5.out.same (by omega) (hk6 _ (by omega)))
              have HB6 := Lib.hid ((HB5.out.alloc (by omega) (.cells #[.string nm, .int .u8 lv, .int .u16 cs, .int .i64 bl, .int .i64 nd, .int .i64 fr, .int .i64 pr, .int .i64 op, .int .i64 cl] 39)).drew.grown hg6 (by simp; omega) (fun k hk => by have := ownsRow_block HR5.out k hk; omega))
              have HN6 := Lib.hid (ownsMap_same HN5.out (hk6 _ (by omega)))
              have HL6 := Lib.hid (ownsMap_same HL5.out (hk6 _ (by omega)))
              have HT6 := Lib.hid (ownsMap_same HT5.out (hk6 _ (by omega)))
              have HO6 := Lib.hid hown
              clear hown hg6 hk6 HR5 HB5 HC5 HN5 HL5 HT5 HX5 b0 b1 b2 b3 b4 b5 b6 b7 b8 c0 f0 lt xlt hx5
              obtain ⟨lt, c0, c1, c2, c3, c4, c5, f0, f1, f2⟩ := id HC6.out
              clear c1 c2 c3 c4 c5 f1 f2
              refine wpAny_ready (rs := [8]) (by kernel_rfl) (by simp) (AllReady.cons rfl (fun K hK => ?_) AllReady.nil)
              go_simp
              refine hK _ _ ?_
              clear hK K
              refine wpAny_ready (rs := [9]) (by kernel_rfl) (by simp) (AllReady.cons rfl (fun K hK => ?_) AllReady.nil)
              go_simp
              refine hK _ _ ?_
              clear hK K
              refine wpAny_ready (rs := [10]) (by kernel_rfl) (by simp) (AllReady.cons rfl (fun K hK => ?_) AllReady.nil)
              go_simp
              refine hK _ _ ?_
              clear hK K
              refine wpAny_done (by kernel_rfl) ?_ _
              go_wp2
              go_ret
              rw [hE.out]
              refine ⟨rfl, fun h => absurd rfl h, fun _ => ⟨HB6.out.setCell (by simp) _, .slice ra' (rs.length + 1) rc', ?_⟩⟩
              have e6 : ∀ b, b ≠ n + 3 → (w6.setCell ⟨n + 3, 0, none⟩ (.slice ra' (rs.length + 1) rc')).heap[b]? = w6.heap[b]? := fun b hb => heap_set _ _ _ _ hb
              refine ⟨HC6.out.set0 _, ?_, ?_, ?_, ownsMap_same HT6.out (e6 _ (by omega))⟩
              · rw [flatR, List.flatMap_append, List.length_append]
                simpa [flatR, Rg.cells] using ownsRow_same HO6.out (fun b hb _ => e6 b (by omega))
              · rw [List.length_append]; exact ownsMap_same HN6.out (e6 _ (by omega))
              · rw [List.length_append]; exact ownsMap_same HL6.out (e6 _ (by omega))
        · go_wp2
          go_quiet (fail)
          clear L1
          go_wp2
          go_quiet (fail)
          clear L2
          go_wp2
          go_ret
          rw [hE.out]
          exact ⟨rfl, fun _ => below_drewN' HB.out _, fun h => by cases h⟩
      · go_wp2
        go_quiet (fail)
        clear L1
        go_wp2
        go_quiet (fail)
        clear L2
        go_wp2
        go_ret
        rw [hE.out]
        exact ⟨rfl, fun _ => below_drewN' HB.out _, fun h => by cases h⟩
    · have hE : Hid (E = 27) := by show E = 27; rw [← HE.out, regE, if_neg (by rw [HNm.out]; decide), if_pos (by simpa using hhave)]
      have HB := Lib.hid (((Below.refl _ w).alloc (Nat.le_refl _) _).trans (HB2.out.mono (by simp)))
      clear HB2
      cases hh : haveB ⟨nm, lv, cs, bl, nd, fr, pr, op, cl⟩
      · go_wp2
        go_ret
        rw [hE.out]
        exact ⟨rfl, fun _ => HB.out, fun h => by cases h⟩
      · by_cases hc0 : cl < 0
        · go_wp2
          go_ret
          rw [hE.out]
          exact ⟨rfl, fun _ => HB.out, fun h => by cases h⟩
        · have hc1 : many ≤ cl := by
            simp [hh] at hhave; omega
          clear hhave
          go_wp2
          go_ret
          rw [hE.out]
          exact ⟨rfl, fun _ => HB.out, fun h => by cases h⟩
end Go.Proofs.YtfackmiojbdjhaaDoor
