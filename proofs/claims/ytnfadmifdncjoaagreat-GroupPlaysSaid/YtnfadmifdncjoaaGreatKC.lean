import Derived.Test.YtnfadmifdncjoaaGreatKA
import Derived.Deep.RegionHeld
import Derived.Laws.MakeOwn
/- Configurations: register, trust, lay. -/
namespace Go.Proofs.YtnfadmifdncjoaaGreat.Cf
set_option linter.unusedSimpArgs false
set_option linter.unusedVariables false
open Go.RowKit Go.Maps

/-- A configuration that New makes: blocks n .. n + 2 its maps, n + 3 its own six cells; rows from n + 4 on. -/
structure CB (n : Nat) (w : World) (vr vm vg : Value) : Prop where
  lt : n + 4 ≤ w.heap.size
  c0 : w.cell? ⟨n + 3, 0, none⟩ = some vr
  c1 : w.cell? ⟨n + 3, 1, none⟩ = some vm
  c2 : w.cell? ⟨n + 3, 2, none⟩ = some vg
  c3 : w.cell? ⟨n + 3, 3, none⟩ = some (.map (some n))
  c4 : w.cell? ⟨n + 3, 4, none⟩ = some (.map (some (n + 1)))
  c5 : w.cell? ⟨n + 3, 5, none⟩ = some (.map (some (n + 2)))
  f0 : w.frozen? ⟨n + 3, 0, none⟩ = false
  f1 : w.frozen? ⟨n + 3, 1, none⟩ = false
  f2 : w.frozen? ⟨n + 3, 2, none⟩ = false
theorem CB.below {n : Nat} {w w' : World} {vr vm vg : Value} {B : Nat} (h : CB n w vr vm vg) (hb : Below B w w') (hB : n + 4 ≤ B) : CB n w' vr vm vg :=
  ⟨Nat.le_trans h.lt hb.size, (hb.cell (p := ⟨n + 3, 0, none⟩) (by simp; omega)).trans h.c0, (hb.cell (p := ⟨n + 3, 1, none⟩) (by simp; omega)).trans h.c1, (hb.cell (p := ⟨n + 3, 2, none⟩) (by simp; omega)).trans h.c2, (hb.cell (p := ⟨n + 3, 3, none⟩) (by simp; omega)).trans h.c3, (hb.cell (p := ⟨n + 3, 4, none⟩) (by simp; omega)).trans h.c4, (hb.cell (p := ⟨n + 3, 5, none⟩) (by simp; omega)).trans h.c5, (hb.frozen (p := ⟨n + 3, 0, none⟩) (by simp; omega)).trans h.f0, (hb.frozen (p := ⟨n + 3, 1, none⟩) (by simp; omega)).trans h.f1, (hb.frozen (p := ⟨n + 3, 2, none⟩) (by simp; omega)).trans h.f2⟩
theorem ownsMap_below {w w' : World} {P : Program} {k : TypeId} {R : Value → Option (DataW Unit × List MemPlace)} {b n : Nat} {D : DataW Unit} (h : w.ownsMap P k R b n D) {B : Nat} (hb : Below B w w') (hB : b < B) : w'.ownsMap P k R b n D := by
  obtain ⟨es, clock, hh, r⟩ := h
  exact ⟨es, clock, (hb.block b hB).trans hh, r⟩
def flatR (rs : List Rg) : List Value := rs.flatMap Rg.cells
def atI (D : DataW Unit) (kl : Lit) : Int := match D.atKey kl (.lit (.int .i64 0)) with | .lit (.int _ c) => c | _ => 0
theorem look_int {w : World} {k t : TypeId} {b n : Nat} {D : DataW Unit} {key : Value} {kl : Lit} (h : w.ownsMap Tryz.prog k (plainElem Tryz.prog 3) b n D) (K : Keyed Tryz.prog k) (ht : Tryz.prog.underlying t = some (.map k 3)) (hkey : keyOf Tryz.prog k key = some kl) :
    (Instr.lookup t (.map (some b)) key true).run Tryz.prog w = .ok (.tuple #[.int .i64 (atI D kl), .bool (Maps.has D kl)]) w := by
  obtain ⟨v, ps, hu, hp⟩ := h.look_ok K ht (Tryz.zero3 _) (plainElem_int Tryz.underlying3 (by decide)) hkey
  obtain ⟨x, rfl, hx, -⟩ := plainElem_int_inv Tryz.underlying3 hp
  have : atI D kl = x := by
    have h1 := congrArg Prod.fst hx
    simp only at h1
    unfold atI
    rw [h1]
  rw [this]; exact hu
theorem ownsRow_form {w : World} {base : Nat} {e : TypeId} {size : Nat} {v : Value} {n : Nat} {xs : List Value} (h : w.ownsRow base e size v n xs) : ∃ a cap, v = .slice a n cap := by
  obtain ⟨_, ⟨hv, hn⟩ | ⟨g, cap, cur, hv, _⟩⟩ := h
  · exact ⟨none, 0, by rw [hv, hn]⟩
  · exact ⟨_, cap, hv⟩
structure RS (n : Nat) (w : World) (vr : Value) (rs : List Rg) (Dn Dl : DataW Unit) : Prop where
  cb : CB n w vr (.slice none 0 0) (.slice none 0 0)
  row : w.ownsRow (n + 4) 41 9 vr rs.length (flatR rs)
  mn : w.ownsMap Tryz.prog 9 (plainElem Tryz.prog 3) n rs.length Dn
  ml : w.ownsMap Tryz.prog 39 (plainElem Tryz.prog 3) (n + 1) rs.length Dl
  mt : w.ownsMap Tryz.prog 177 (unitElem (H := Unit)) (n + 2) 0 (.map [])
theorem RS.below {n : Nat} {w w' : World} {vr : Value} {rs : List Rg} {Dn Dl : DataW Unit} (h : RS n w vr rs Dn Dl) (hb : Below w.heap.size w w') : RS n w' vr rs Dn Dl := by
  have := h.cb.lt
  exact ⟨h.cb.below hb this, ownsRow_below h.row hb, ownsMap_below h.mn hb (by omega), ownsMap_below h.ml hb (by omega), ownsMap_below h.mt hb (by omega)⟩
theorem cell_same {w w' : World} {b o : Nat} (h : w'.heap[b]? = w.heap[b]?) : w'.cell? ⟨b, o, none⟩ = w.cell? ⟨b, o, none⟩ := by simp [World.cell?, h]
theorem frozen_same {w w' : World} {b o : Nat} (h : w'.heap[b]? = w.heap[b]?) : w'.frozen? ⟨b, o, none⟩ = w.frozen? ⟨b, o, none⟩ := by simp [World.frozen?, h]
theorem CB.same {n : Nat} {w w' : World} {vr vm vg : Value} (h : CB n w vr vm vg) (hs : w.heap.size ≤ w'.heap.size) (e : w'.heap[n + 3]? = w.heap[n + 3]?) : CB n w' vr vm vg :=
  ⟨Nat.le_trans h.lt hs, (cell_same e).trans h.c0, (cell_same e).trans h.c1, (cell_same e).trans h.c2, (cell_same e).trans h.c3, (cell_same e).trans h.c4, (cell_same e).trans h.c5, (frozen_same e).trans h.f0, (frozen_same e).trans h.f1, (frozen_same e).trans h.f2⟩
theorem ownsMap_same {w w' : World} {P : Program} {k : TypeId} {R : Value → Option (DataW Unit × List MemPlace)} {b n : Nat} {D : DataW Unit} (h : w.ownsMap P k R b n D) (e : w'.heap[b]? = w.heap[b]?) : w'.ownsMap P k R b n D := by
  obtain ⟨es, clock, hh, r⟩ := h
  exact ⟨es, clock, e.trans hh, r⟩
theorem ownsRow_same {w w' : World} {base : Nat} {e : TypeId} {size : Nat} {v : Value} {n : Nat} {xs : List Value} (h : w.ownsRow base e size v n xs) (he : ∀ b, base ≤ b → b < w.heap.size → w'.heap[b]? = w.heap[b]?) : w'.ownsRow base e size v n xs := by
  obtain ⟨hl, h | ⟨g, cap, cur, hv, hg, hh, r⟩⟩ := h
  · exact ⟨hl, .inl h⟩
  · exact ⟨hl, .inr ⟨g, cap, cur, hv, hg, (he g hg (Array.getElem?_eq_some_iff.1 hh).1).trans hh, r⟩⟩
theorem cells_new (w : World) (l : List Value) (t : TypeId) : ∀ j u, l[j]? = some u → (w.alloc (.cells l.toArray t)).cell? ((⟨w.heap.size, 0, none⟩ : Addr).add j) = some u := by
  intro j u hj
  have hlt : j < l.length := (List.getElem?_eq_some_iff.1 hj).1
  have h1 := (MapKept.heap_alloc w (.cells l.toArray t)).1
  have e : ((⟨w.heap.size, 0, none⟩ : Addr).add j) = ⟨w.heap.size, j, none⟩ := by cases j <;> simp [Addr.add]
  rw [e]
  simp only [World.cell?, h1]
  simpa using hj
theorem heap_set (w : World) (b o : Nat) (v : Value) {c : Nat} (h : c ≠ b) : (w.setCell ⟨b, o, none⟩ v).heap[c]? = w.heap[c]? := by
  simp [World.setCell, Array.getElem?_modify, Ne.symm h]
theorem size_set (w : World) (a : Addr) (v : Value) : (w.setCell a v).heap.size = w.heap.size := by simp [World.setCell]
theorem CB.set0 {n : Nat} {w : World} {vr vm vg : Value} (h : CB n w vr vm vg) (v : Value) : CB n (w.setCell ⟨n + 3, 0, none⟩ v) v vm vg :=
  ⟨by rw [size_set]; exact h.lt, World.cell?_setCell_same _ _ _ h.c0, by rw [World.cell?_setCell_other _ _ _ _ (by simp)]; exact h.c1, by rw [World.cell?_setCell_other _ _ _ _ (by simp)]; exact h.c2, by rw [World.cell?_setCell_other _ _ _ _ (by simp)]; exact h.c3, by rw [World.cell?_setCell_other _ _ _ _ (by simp)]; exact h.c4, by rw [World.cell?_setCell_other _ _ _ _ (by simp)]; exact h.c5, by simpa using h.f0, by simpa using h.f1, by simpa using h.f2⟩
theorem CB.set1 {n : Nat} {w : World} {vr vm vg : Value} (h : CB n w vr vm vg) (v : Value) : CB n (w.setCell ⟨n + 3, 1, none⟩ v) vr v vg :=
  ⟨by rw [size_set]; exact h.lt, by rw [World.cell?_setCell_other _ _ _ _ (by simp)]; exact h.c0, World.cell?_setCell_same _ _ _ h.c1, by rw [World.cell?_setCell_other _ _ _ _ (by simp)]; exact h.c2, by rw [World.cell?_setCell_other _ _ _ _ (by simp)]; exact h.c3, by rw [World.cell?_setCell_other _ _ _ _ (by simp)]; exact h.c4, by rw [World.cell?_setCell_other _ _ _ _ (by simp)]; exact h.c5, by simpa using h.f0, by simpa using h.f1, by simpa using h.f2⟩
theorem CB.set2 {n : Nat} {w : World} {vr vm vg : Value} (h : CB n w vr vm vg) (v : Value) : CB n (w.setCell ⟨n + 3, 2, none⟩ v) vr vm v :=
  ⟨by rw [size_set]; exact h.lt, by rw [World.cell?_setCell_other _ _ _ _ (by simp)]; exact h.c0, by rw [World.cell?_setCell_other _ _ _ _ (by simp)]; exact h.c1, World.cell?_setCell_same _ _ _ h.c2, by rw [World.cell?_setCell_other _ _ _ _ (by simp)]; exact h.c3, by rw [World.cell?_setCell_other _ _ _ _ (by simp)]; exact h.c4, by rw [World.cell?_setCell_other _ _ _ _ (by simp)]; exact h.c5, by simpa using h.f0, by simpa using h.f1, by simpa using h.f2⟩
/-- a label's own nine cells in block g -/
structure Box9 (w : World) (g : Nat) (r : Rg) : Prop where
  lt : g < w.heap.size
  b0 : w.cell? ⟨g, 0, none⟩ = some (.string r.nm)
  b1 : w.cell? ⟨g, 1, none⟩ = some (.int .u8 r.lv)
  b2 : w.cell? ⟨g, 2, none⟩ = some (.int .u16 r.cs)
  b3 : w.cell? ⟨g, 3, none⟩ = some (.int .i64 r.bl)
  b4 : w.cell? ⟨g, 4, none⟩ = some (.int .i64 r.nd)
  b5 : w.cell? ⟨g, 5, none⟩ = some (.int .i64 r.fr)
  b6 : w.cell? ⟨g, 6, none⟩ = some (.int .i64 r.pr)
  b7 : w.cell? ⟨g, 7, none⟩ = some (.int .i64 r.op)
  b8 : w.cell? ⟨g, 8, none⟩ = some (.int .i64 r.cl)
theorem Box9.new (w : World) (r : Rg) (t : TypeId) : Box9 (w.alloc (.cells #[.string r.nm, .int .u8 r.lv, .int .u16 r.cs, .int .i64 r.bl, .int .i64 r.nd, .int .i64 r.fr, .int .i64 r.pr, .int .i64 r.op, .int .i64 r.cl] t)) w.heap.size r :=
  ⟨by simp, by simp [World.cell?_alloc_new], by simp [World.cell?_alloc_new], by simp [World.cell?_alloc_new], by simp [World.cell?_alloc_new], by simp [World.cell?_alloc_new], by simp [World.cell?_alloc_new], by simp [World.cell?_alloc_new], by simp [World.cell?_alloc_new], by simp [World.cell?_alloc_new]⟩
theorem Box9.below {w w' : World} {B g : Nat} {r : Rg} (h : Box9 w g r) (hb : Below B w w') (hg : g < B) : Box9 w' g r :=
  ⟨Nat.lt_of_lt_of_le h.lt hb.size, (hb.cell (p := ⟨g, 0, none⟩) hg).trans h.b0, (hb.cell (p := ⟨g, 1, none⟩) hg).trans h.b1, (hb.cell (p := ⟨g, 2, none⟩) hg).trans h.b2, (hb.cell (p := ⟨g, 3, none⟩) hg).trans h.b3, (hb.cell (p := ⟨g, 4, none⟩) hg).trans h.b4, (hb.cell (p := ⟨g, 5, none⟩) hg).trans h.b5, (hb.cell (p := ⟨g, 6, none⟩) hg).trans h.b6, (hb.cell (p := ⟨g, 7, none⟩) hg).trans h.b7, (hb.cell (p := ⟨g, 8, none⟩) hg).trans h.b8⟩
theorem Box9.same {w w' : World} {g : Nat} {r : Rg} (h : Box9 w g r) (hs : w.heap.size ≤ w'.heap.size) (e : w'.heap[g]? = w.heap[g]?) : Box9 w' g r :=
  ⟨Nat.lt_of_lt_of_le h.lt hs, (cell_same e).trans h.b0, (cell_same e).trans h.b1, (cell_same e).trans h.b2, (cell_same e).trans h.b3, (cell_same e).trans h.b4, (cell_same e).trans h.b5, (cell_same e).trans h.b6, (cell_same e).trans h.b7, (cell_same e).trans h.b8⟩
def Rg.ok (r : Rg) : Prop := r.nm.size ≤ maxLen ∧ 0 ≤ r.lv ∧ r.lv < 256 ∧ 0 ≤ r.cs ∧ r.cs < 65536
def regE (Dn Dl : DataW Unit) (many : Int) (r : Rg) : Int :=
  if nameB r.nm = false then 30 else if (haveB r && decide (0 ≤ r.cl) && decide (r.cl < many)) = false then 27 else if (Maps.has Dn (strKey r.nm) || Maps.has Dl (labKey r.lv r.cs)) = true then 29 else 0

set_option maxHeartbeats 2000000 in
set_option maxRecDepth 100000 in
theorem register_any (n : Nat) (vr : Value) (rs : List Rg) (Dn Dl : DataW Unit) (many : Int) (r : Rg) (hr : r.ok) (w : World) (h : RS n w vr rs Dn Dl) (hm : rs.length < 64) :
    Calls Tryz.prog 77 #[.pointer (some ⟨n + 3, 0, none⟩), r.val, .int .i64 many] w fun e w' => e = .returned (.int .i64 (regE Dn Dl many r)) ∧
      (regE Dn Dl many r ≠ 0 → Below w.heap.size w w') ∧ (regE Dn Dl many r = 0 → Below n w w' ∧ ∃ vr', RS n w' vr' (rs ++ [r]) (Dn.put (strKey r.nm) (.lit (.int .i64 rs.length))) (Dl.put (labKey r.lv r.cs) (.lit (.int .i64 rs.length)))) := by
  obtain ⟨nm, lv, cs, bl, nd, fr, pr, op, cl⟩ := r
  obtain ⟨hs, l0, l1, k0, k1⟩ := hr
  simp only at hs l0 l1 k0 k1
  have HS := Lib.hid h
  clear h
  simp only [Rg.val]
  generalize hE : regE Dn Dl many ⟨nm, lv, cs, bl, nd, fr, pr, op, cl⟩ = E
  have HE := Lib.hid hE
  clear hE
  have hN := fun W => isname_any nm W
  have hR := fun W => inrange_any nm lv cs bl nd fr pr op cl W
  have hx0 := Box9.new w ⟨nm, lv, cs, bl, nd, fr, pr, op, cl⟩ 41
  simp only at hx0
  have HX0 := Lib.hid hx0
  clear hx0
  obtain ⟨i0, hi, hz0, hz1, hz2⟩ := info_parts Tryz.info39
  go_enter Tryz.func77, Tryz.ntmps77
  go_wp2_with fail
  refine (hN _).mono ?_
  rintro e w1 ⟨rfl, hb1⟩
  have HX1 := Lib.hid (HX0.out.below hb1 (by simp))
  have HB1 := Lib.hid hb1
  clear HX0
  cases hname : nameB nm
  · have hE : Hid (E = 30) := by show E = 30; rw [← HE.out, regE, if_pos hname]
    clear hb1
    go_wp2
    go_ret
    rw [hE.out]
    exact ⟨rfl, fun _ => ((Below.refl _ w).alloc (Nat.le_refl _) _).trans (HB1.out.mono (by simp)), fun h => by cases h⟩
  · have HNm := Lib.hid hname
    obtain ⟨xlt, b0, b1, b2, b3, b4, b5, b6, b7, b8⟩ := id HX1.out
    clear hb1 hname
    go_wp2_with fail
    refine (hR _).mono ?_
    rintro e w2 ⟨rfl, hb2⟩
    have HX2 := Lib.hid (HX1.out.below hb2 xlt)
    have HB2 := Lib.hid (HB1.out.trans (hb2.mono (by have := HB1.out.size; simpa using this)))
    clear HX1 HB1 b0 b1 b2 b3 b4 b5 b6 b7 b8 hb2 xlt w1
    obtain ⟨xlt, b0, b1, b2, b3, b4, b5, b6, b7, b8⟩ := id HX2.out
    by_cases hhave : (haveB ⟨nm, lv, cs, bl, nd, fr, pr, op, cl⟩ && decide (0 ≤ cl) && decide (cl < many)) = true
    · have HB := Lib.hid (((Below.refl _ w).alloc (Nat.le_refl _) _).trans (HB2.out.mono (by simp)))
      clear HB2
      have hh : haveB ⟨nm, lv, cs, bl, nd, fr, pr, op, cl⟩ = true := by simp at hhave; exact hhave.1.1
      have hc0 : ¬ (cl < 0) := by simp at hhave; omega
      have hc1 : ¬ (many ≤ cl) := by simp at hhave; omega
      have HH := Lib.hid hhave
      clear hhave
      have HS2 := Lib.hid (HS.out.below HB.out)
      obtain ⟨cb, row, mn, ml, mt⟩ := id HS2.out
      obtain ⟨lt, c0, c1, c2, c3, c4, c5, f0, f1, f2⟩ := cb
      clear row mt c1 c2 c5 f1 f2
      have L1 : ∀ m, (Instr.lookup 122 (.map (some n)) (.string nm) true).run Tryz.prog (w2.drewN m) = _ := fun m => look_int (w := w2.drewN m) mn Tryz.lawStr Tryz.underlying122 (strKey_is nm hs)
      have L2 : ∀ m, (Instr.lookup 123 (.map (some (n + 1))) (.agg #[.int .u8 lv, .int .u16 cs]) true).run Tryz.prog (w2.drewN m) = _ := fun m => look_int (w := w2.drewN m) ml Tryz.lawLab Tryz.underlying123 (labKey_is lv cs l0 l1 k0 k1)
      clear mn ml
      simp only at b0 b1 b2 b3 b4 b5 b6 b7 b8
      obtain ⟨tn, htn⟩ : ∃ b, Maps.has Dn (strKey nm) = b := ⟨_, rfl⟩
      obtain ⟨tl, htl⟩ : ∃ b, Maps.has Dl (labKey lv cs) = b := ⟨_, rfl⟩
      have hE : Hid (E = if (tn || tl) = true then 29 else 0) := by
        show E = _
        rw [← HE.out, regE, if_neg (by rw [HNm.out]; decide), if_neg (by rw [HH.out]; decide), htn, htl]
      rw [htn] at L1
      rw [htl] at L2
      clear htn htl
      have HX2 := Lib.hid HX2.out
      cases tn
      · cases tl
        · go_wp2
          go_quiet (fail)
          obtain ⟨p1, rfl⟩ : ∃ x, x = nq := ⟨nq, rfl⟩
          clear L1
          go_wp2
          go_quiet (fail)
          clear L2
          go_wp2
          obtain ⟨W, hW⟩ : ∃ W, w2.drewN (p1 + nq) = W := ⟨_, rfl⟩
          rw [hW]
          have hbW : Below w2.heap.size w2 W := hW ▸ below_drewN' (Below.refl _ _) _
          have hsW : W.heap.size = w2.heap.size := by rw [← hW]; rfl
          have HSW := Lib.hid (HS2.out.below hbW)
          have HXW := Lib.hid (HX2.out.below hbW xlt)
          have HBW := Lib.hid (HB.out.trans (hbW.mono (by have := HB.out.size; omega)))
          clear hbW hsW hW HS2 HX2 HB b0 b1 b2 b3 b4 b5 b6 b7 b8 c0 c3 c4 f0 lt xlt HE
          obtain ⟨⟨lt, c0, c1, c2, c3, c4, c5, f0, f1, f2⟩, row, mn, ml, mt⟩ := id HSW.out
          obtain ⟨xlt, b0, b1, b2, b3, b4, b5, b6, b7, b8⟩ := id HXW.out
          obtain ⟨ra, rc, rfl⟩ := ownsRow_form row
          have HR := Lib.hid row
          have HMN := Lib.hid mn
          clear row mn ml mt c1 c2 c4 c5 f0 f1 f2
          simp only at b0 b1 b2 b3 b4 b5 b6 b7 b8
          refine wp_region_split (C := fun w' => ∃ m, w' = W.drewN m) 11 (by kernel_rfl) (of_decide_eq_true (by kernel_rfl)) (by kernel_rfl) (by kernel_rfl) (by kernel_rfl) ⟨1, rfl⟩ ?_
          simp only [List.take_succ_cons, List.take_zero]
          repeat (quiet_step (fail))
          refine wpQuiet_nil ?_
          intro wy hw'
          obtain ⟨m, rfl⟩ := hw'
          refine wpAny_last 11 (by kernel_rfl) (by kernel_rfl) (wpOp_step0 rfl rfl (fun K hK => ?_))
          obtain ⟨w4, hrun, hmn, hg4⟩ := World.ownsMap.update (w := W.drewN m) (t := 122) HMN.out Tryz.lawStr Tryz.underlying122 (by unfold maxLen; omega) (strKey_is nm hs) (plainElem_int (a := (rs.length : Int)) Tryz.underlying3 (by simp [Lit.wf, IntKind.min, IntKind.max, IntKind.bits, IntKind.signed]; omega))
          go_simp
          refine hK _ _ ?_
          have hz4 : W.heap.size ≤ w4.heap.size := hg4.size
          have hk4 : ∀ b, b < W.heap.size → b ≠ n → w4.heap[b]? = W.heap[b]? := fun b hb hne => hg4.block b hb (by simp; omega)
          have hwl : n + 4 ≤ w.heap.size := HS.out.cb.lt
          have HB4 := Lib.hid ((below_drewN' (HBW.out.mono (show n ≤ w.heap.size by omega)) m).grown hg4 (by show n ≤ W.heap.size; omega) (fun k hk => by simp at hk; omega))
          have HX4 := Lib.hid (HXW.out.same hz4 (hk4 _ xlt (by omega)))
          have HR4 := Lib.hid (ownsRow_same HR.out (fun b hb hb2 => hk4 b hb2 (by omega)))
          have HC4 := Lib.hid (HSW.out.cb.same hz4 (hk4 _ (by omega) (by omega)))
          have HN4 := Lib.hid hmn
          have HL4 := Lib.hid (ownsMap_same HSW.out.ml (hk4 _ (by omega) (by omega)))
          have HT4 := Lib.hid (ownsMap_same HSW.out.mt (hk4 _ (by omega) (by omega)))
          have hx4 : w.heap.size < w4.heap.size := by omega
          clear hmn hrun hg4 hk4 hz4 HSW HXW HR HMN HBW b0 b1 b2 b3 b4 b5 b6 b7 b8 c0 c3 lt xlt hK K
          clear m W
          obtain ⟨lt, c0, c1, c2, c3, c4, c5, f0, f1, f2⟩ := id HC4.out
          obtain ⟨xlt, b0, b1, b2, b3, b4, b5, b6, b7, b8⟩ := id HX4.out
          clear c1 c2 c3 c5 f0 f1 f2
          simp only at b0 b1 b2 b3 b4 b5 b6 b7 b8
          go_wp2
          refine wp_region_split (C := fun w' => ∃ m, w' = w4.drewN m) 11 (by kernel_rfl) (of_decide_eq_true (by kernel_rfl)) (by kernel_rfl) (by kernel_rfl) (by kernel_rfl) ⟨1, rfl⟩ ?_
          simp only [List.take_succ_cons, List.take_zero]
          repeat (quiet_step (fail))
          refine wpQuiet_nil ?_
          intro wy hw'
          obtain ⟨m, rfl⟩ := hw'
          refine wpAny_last 11 (by kernel_rfl) (by kernel_rfl) (wpOp_step0 rfl rfl (fun K hK => ?_))
          obtain ⟨w5, hrun, hml, hg5⟩ := World.ownsMap.update (w := w4.drewN m) (t := 123) HL4.out Tryz.lawLab Tryz.underlying123 (by unfold maxLen; omega) (labKey_is lv cs l0 l1 k0 k1) (plainElem_int (a := (rs.length : Int)) Tryz.underlying3 (by simp [Lit.wf, IntKind.min, IntKind.max, IntKind.bits, IntKind.signed]; omega))
          go_simp
          refine hK _ _ ?_
          have hz5 : w4.heap.size ≤ w5.heap.size := hg5.size
          have hk5 : ∀ b, b < w4.heap.size → b ≠ n + 1 → w5.heap[b]? = w4.heap[b]? := fun b hb hne => hg5.block b hb (by simp; omega)
          have HB5 := Lib.hid ((below_drewN' HB4.out m).grown hg5 (by show n ≤ w4.heap.size; omega) (fun k hk => by simp at hk; omega))
          have HX5 := Lib.hid (HX4.out.same hz5 (hk5 _ xlt (by omega)))
          have HR5 := Lib.hid (ownsRow_same HR4.out (fun b hb hb2 => hk5 b hb2 (by omega)))
          have HC5 := Lib.hid (HC4.out.same hz5 (hk5 _ (by omega) (by omega)))
          have HN5 := Lib.hid (ownsMap_same HN4.out (hk5 _ (by omega) (by omega)))
          have HL5 := Lib.hid hml
          have HT5 := Lib.hid (ownsMap_same HT4.out (hk5 _ (by omega) (by omega)))
          have hx5 : w.heap.size < w5.heap.size := by omega
          clear hml hrun hg5 hk5 hz5 HX4 HR4 HC4 HN4 HL4 HT4 HB4 b0 b1 b2 b3 b4 b5 b6 b7 b8 c0 c4 lt xlt hK K hx4
          clear m w4
          obtain ⟨lt, c0, c1, c2, c3, c4, c5, f0, f1, f2⟩ := id HC5.out
          obtain ⟨xlt, b0, b1, b2, b3, b4, b5, b6, b7, b8⟩ := id HX5.out
          clear c1 c2 c3 c4 c5 f1 f2
          simp only at b0 b1 b2 b3 b4 b5 b6 b7 b8
          go_wp2
          have lt3 : n + 3 < w5.heap.size := by omega
          refine wp_region_any (by kernel_rfl) ?_
          change wpAny _ _ _ _ _ _ _ (World.drew _)
          refine wpAny_take (i := 0) (v := ?_) rfl (by kernel_rfl) (by kernel_rfl) (by kernel_rfl) (fun _ _ _ h => h) (Or.inl ⟨by rfl, ?_⟩) ?_
          rotate_left 1
          · intro w; go_simp; try with_reducible rfl
          refine wpAny_take (i := 1) (v := ?_) rfl (by kernel_rfl) (by kernel_rfl) (by kernel_rfl) (fun _ _ _ h => h) (Or.inl ⟨by rfl, ?_⟩) ?_
          rotate_left 1
          · intro w; go_simp; try with_reducible rfl
          refine wpAny_take (i := 2) (v := ?_) rfl (by kernel_rfl) (by kernel_rfl) (by kernel_rfl) (fun _ _ _ h => h) (Or.inl ⟨by rfl, ?_⟩) ?_
          rotate_left 1
          · intro w; go_simp; try with_reducible rfl
          refine wpAny_take (i := 3) (v := ?_) rfl (by kernel_rfl) (by kernel_rfl) (by kernel_rfl) (fun _ _ _ h => h) (Or.inl ⟨by rfl, ?_⟩) ?_
          rotate_left 1
          · intro w; go_simp; try with_reducible rfl
          refine wpAny_ready (rs := [4, 5]) (by kernel_rfl) (by simp) (AllReady.cons rfl (fun K hK => ?_) (AllReady.cons rfl (fun K hK => ?_) AllReady.nil))
          · go_simp
            refine hK _ _ ?_
            clear hK K
            refine wpAny_ready (rs := [5]) (by kernel_rfl) (by simp) (AllReady.cons rfl (fun K hK => ?_) AllReady.nil)
            go_simp
            refine hK _ _ ?_
            clear hK K
            refine wpAny_ready (rs := [6]) (by kernel_rfl) (by simp) (AllReady.cons rfl (fun K hK => ?_) AllReady.nil)
            go_simp
            refine hK _ _ ?_
            clear hK K
            refine wpAny_ready (rs := [7]) (by kernel_rfl) (by simp) (AllReady.cons rfl (fun K hK => ?_) AllReady.nil)
            simp only [Region.wanted, if_true]
            refine wp_append_own _ _ _ 107 rfl (n + 4) 41 i0 _ 9 72 Tryz.underlying107 hi hz0 hz1 hz2 rfl (by decide) _ _ _ rfl (HR5.out.alloc _) ⟨w5.heap.size, 0, none⟩ 1 1 [.string nm, .int .u8 lv, .int .u16 cs, .int .i64 bl, .int .i64 nd, .int .i64 fr, .int .i64 pr, .int .i64 op, .int .i64 cl] rfl rfl (cells_new w5 _ 41) (by simp [Value.oneCell']) (by unfold maxLen; omega) (by omega) (by simp; omega) (fun v' w6 hown hg6 _ => ?_)
            obtain ⟨ra', rc', rfl⟩ := ownsRow_form hown
            refine hK _ _ ?_
            clear hK K
            have hz6 : w5.heap.size + 1 ≤ w6.heap.size := by have := hg6.size; simpa using this
            have hk6 : ∀ b, b < n + 4 → w6.heap[b]? = w5.heap[b]? := fun b hb => (hg6.block b (by simp; omega) (fun e => by have := ownsRow_block HR5.out b e.symm; omega)).trans ((MapKept.heap_alloc w5 _).2 b (by omega))
            have HC6 := Lib.hid (HC5.out.same (by omega) (hk6 _ (by omega)))
            have HB6 := Lib.hid ((HB5.out.alloc (by omega) (.cells #[.string nm, .int .u8 lv, .int .u16 cs, .int .i64 bl, .int .i64 nd, .int .i64 fr, .int .i64 pr, .int .i64 op, .int .i64 cl] 41)).drew.grown hg6 (by simp; omega) (fun k hk => by have := ownsRow_block HR5.out k hk; omega))
            have HN6 := Lib.hid (ownsMap_same HN5.out (hk6 _ (by omega)))
            have HL6 := Lib.hid (ownsMap_same HL5.out (hk6 _ (by omega)))
            have HT6 := Lib.hid (ownsMap_same HT5.out (hk6 _ (by omega)))
            have HO6 := Lib.hid hown
            clear hown hg6 hk6 HR5 HB5 HC5 HN5 HL5 HT5 HX5 b0 b1 b2 b3 b4 b5 b6 b7 b8 c0 f0 lt xlt hx5
            obtain ⟨lt, c0, c1, c2, c3, c4, c5, f0, f1, f2⟩ := id HC6.out
            clear c1 c2 c3 c4 c5 f1 f2
            refine wpAny_ready (rs := [8]) (by kernel_rfl) (by simp) (AllReady.cons rfl (fun K hK => ?_) AllReady.nil)
            go_simp
            refine hK _ _ ?_
            clear hK K
            refine wpAny_ready (rs := [9]) (by kernel_rfl) (by simp) (AllReady.cons rfl (fun K hK => ?_) AllReady.nil)
            go_simp
            refine hK _ _ ?_
            clear hK K
            refine wpAny_ready (rs := [10]) (by kernel_rfl) (by simp) (AllReady.cons rfl (fun K hK => ?_) AllReady.nil)
            go_simp
            refine hK _ _ ?_
            clear hK K
            refine wpAny_done (by kernel_rfl) ?_ _
            go_wp2
            go_ret
            rw [hE.out]
            refine ⟨rfl, fun h => absurd rfl h, fun _ => ⟨HB6.out.setCell (by simp) _, .slice ra' (rs.length + 1) rc', ?_⟩⟩
            have e6 : ∀ b, b ≠ n + 3 → (w6.setCell ⟨n + 3, 0, none⟩ (.slice ra' (rs.length + 1) rc')).heap[b]? = w6.heap[b]? := fun b hb => heap_set _ _ _ _ hb
            refine ⟨HC6.out.set0 _, ?_, ?_, ?_, ownsMap_same HT6.out (e6 _ (by omega))⟩
            · rw [flatR, List.flatMap_append, List.length_append]
              simpa [flatR, Rg.cells] using ownsRow_same HO6.out (fun b hb _ => e6 b (by omega))
            · rw [List.length_append]; exact ownsMap_same HN6.out (e6 _ (by omega))
            · rw [List.length_append]; exact ownsMap_same HL6.out (e6 _ (by omega))
          · go_simp
            refine hK _ _ ?_
            clear hK K
            refine wpAny_ready (rs := [4, 6]) (by kernel_rfl) (by simp) (AllReady.cons rfl (fun K hK => ?_) (AllReady.cons rfl (fun K hK => ?_) AllReady.nil))
            · go_simp
              refine hK _ _ ?_
              clear hK K
              refine wpAny_ready (rs := [6]) (by kernel_rfl) (by simp) (AllReady.cons rfl (fun K hK => ?_) AllReady.nil)
              go_simp
              refine hK _ _ ?_
              clear hK K
              refine wpAny_ready (rs := [7]) (by kernel_rfl) (by simp) (AllReady.cons rfl (fun K hK => ?_) AllReady.nil)
              simp only [Region.wanted, if_true]
              refine wp_append_own _ _ _ 107 rfl (n + 4) 41 i0 _ 9 72 Tryz.underlying107 hi hz0 hz1 hz2 rfl (by decide) _ _ _ rfl (HR5.out.alloc _) ⟨w5.heap.size, 0, none⟩ 1 1 [.string nm, .int .u8 lv, .int .u16 cs, .int .i64 bl, .int .i64 nd, .int .i64 fr, .int .i64 pr, .int .i64 op, .int .i64 cl] rfl rfl (cells_new w5 _ 41) (by simp [Value.oneCell']) (by unfold maxLen; omega) (by omega) (by simp; omega) (fun v' w6 hown hg6 _ => ?_)
              obtain ⟨ra', rc', rfl⟩ := ownsRow_form hown
              refine hK _ _ ?_
              clear hK K
              have hz6 : w5.heap.size + 1 ≤ w6.heap.size := by have := hg6.size; simpa using this
              have hk6 : ∀ b, b < n + 4 → w6.heap[b]? = w5.heap[b]? := fun b hb => (hg6.block b (by simp; omega) (fun e => by have := ownsRow_block HR5.out b e.symm; omega)).trans ((MapKept.heap_alloc w5 _).2 b (by omega))
              have HC6 := Lib.hid (HC5.out.same (by omega) (hk6 _ (by omega)))
              have HB6 := Lib.hid ((HB5.out.alloc (by omega) (.cells #[.string nm, .int .u8 lv, .int .u16 cs, .int .i64 bl, .int .i64 nd, .int .i64 fr, .int .i64 pr, .int .i64 op, .int .i64 cl] 41)).drew.grown hg6 (by simp; omega) (fun k hk => by have := ownsRow_block HR5.out k hk; omega))
              have HN6 := Lib.hid (ownsMap_same HN5.out (hk6 _ (by omega)))
              have HL6 := Lib.hid (ownsMap_same HL5.out (hk6 _ (by omega)))
              have HT6 := Lib.hid (ownsMap_same HT5.out (hk6 _ (by omega)))
              have HO6 := Lib.hid hown
              clear hown hg6 hk6 HR5 HB5 HC5 HN5 HL5 HT5 HX5 b0 b1 b2 b3 b4 b5 b6 b7 b8 c0 f0 lt xlt hx5
              obtain ⟨lt, c0, c1, c2, c3, c4, c5, f0, f1, f2⟩ := id HC6.out
              clear c1 c2 c3 c4 c5 f1 f2
              refine wpAny_ready (rs := [8]) (by kernel_rfl) (by simp) (AllReady.cons rfl (fun K hK => ?_) AllReady.nil)
              go_simp
              refine hK _ _ ?_
              clear hK K
              refine wpAny_ready (rs := [9]) (by kernel_rfl) (by simp) (AllReady.cons rfl (fun K hK => ?_) AllReady.nil)
              go_simp
              refine hK _ _ ?_
              clear hK K
              refine wpAny_ready (rs := [10]) (by kernel_rfl) (by simp) (AllReady.cons rfl (fun K hK => ?_) AllReady.nil)
              go_simp
              refine hK _ _ ?_
              clear hK K
              refine wpAny_done (by kernel_rfl) ?_ _
              go_wp2
              go_ret
              rw [hE.out]
              refine ⟨rfl, fun h => absurd rfl h, fun _ => ⟨HB6.out.setCell (by simp) _, .slice ra' (rs.length + 1) rc', ?_⟩⟩
              have e6 : ∀ b, b ≠ n + 3 → (w6.setCell ⟨n + 3, 0, none⟩ (.slice ra' (rs.length + 1) rc')).heap[b]? = w6.heap[b]? := fun b hb => heap_set _ _ _ _ hb
              refine ⟨HC6.out.set0 _, ?_, ?_, ?_, ownsMap_same HT6.out (e6 _ (by omega))⟩
              · rw [flatR, List.flatMap_append, List.length_append]
                simpa [flatR, Rg.cells] using ownsRow_same HO6.out (fun b hb _ => e6 b (by omega))
              · rw [List.length_append]; exact ownsMap_same HN6.out (e6 _ (by omega))
              · rw [List.length_append]; exact ownsMap_same HL6.out (e6 _ (by omega))
            · go_simp
              refine hK _ _ ?_
              clear hK K
              refine wpAny_ready (rs := [4]) (by kernel_rfl) (by simp) (AllReady.cons rfl (fun K hK => ?_) AllReady.nil)
              go_simp
              refine hK _ _ ?_
              clear hK K
              refine wpAny_ready (rs := [7]) (by kernel_rfl) (by simp) (AllReady.cons rfl (fun K hK => ?_) AllReady.nil)
              simp only [Region.wanted, if_true]
              refine wp_append_own _ _ _ 107 rfl (n + 4) 41 i0 _ 9 72 Tryz.underlying107 hi hz0 hz1 hz2 rfl (by decide) _ _ _ rfl (HR5.out.alloc _) ⟨w5.heap.size, 0, none⟩ 1 1 [.string nm, .int .u8 lv, .int .u16 cs, .int .i64 bl, .int .i64 nd, .int .i64 fr, .int .i64 pr, .int .i64 op, .int .i64 cl] rfl rfl (cells_new w5 _ 41) (by simp [Value.oneCell']) (by unfold maxLen; omega) (by omega) (by simp; omega) (fun v' w6 hown hg6 _ => ?_)
              obtain ⟨ra', rc', rfl⟩ := ownsRow_form hown
              refine hK _ _ ?_
              clear hK K
              have hz6 : w5.heap.size + 1 ≤ w6.heap.size := by have := hg6.size; simpa using this
              have hk6 : ∀ b, b < n + 4 → w6.heap[b]? = w5.heap[b]? := fun b hb => (hg6.block b (by simp; omega) (fun e => by have := ownsRow_block HR5.out b e.symm; omega)).trans ((MapKept.heap_alloc w5 _).2 b (by omega))
              have HC6 := Lib.hid (HC5.out.same (by omega) (hk6 _ (by omega)))
              have HB6 := Lib.hid ((HB5.out.alloc (by omega) (.cells #[.string nm, .int .u8 lv, .int .u16 cs, .int .i64 bl, .int .i64 nd, .int .i64 fr, .int .i64 pr, .int .i64 op, .int .i64 cl] 41)).drew.grown hg6 (by simp; omega) (fun k hk => by have := ownsRow_block HR5.out k hk; omega))
              have HN6 := Lib.hid (ownsMap_same HN5.out (hk6 _ (by omega)))
              have HL6 := Lib.hid (ownsMap_same HL5.out (hk6 _ (by omega)))
              have HT6 := Lib.hid (ownsMap_same HT5.out (hk6 _ (by omega)))
              have HO6 := Lib.hid hown
              clear hown hg6 hk6 HR5 HB5 HC5 HN5 HL5 HT5 HX5 b0 b1 b2 b3 b4 b5 b6 b7 b8 c0 f0 lt xlt hx5
              obtain ⟨lt, c0, c1, c2, c3, c4, c5, f0, f1, f2⟩ := id HC6.out
              clear c1 c2 c3 c4 c5 f1 f2
              refine wpAny_ready (rs := [8]) (by kernel_rfl) (by simp) (AllReady.cons rfl (fun K hK => ?_) AllReady.nil)
              go_simp
              refine hK _ _ ?_
              clear hK K
              refine wpAny_ready (rs := [9]) (by kernel_rfl) (by simp) (AllReady.cons rfl (fun K hK => ?_) AllReady.nil)
              go_simp
              refine hK _ _ ?_
              clear hK K
              refine wpAny_ready (rs := [10]) (by kernel_rfl) (by simp) (AllReady.cons rfl (fun K hK => ?_) AllReady.nil)
              go_simp
              refine hK _ _ ?_
              clear hK K
              refine wpAny_done (by kernel_rfl) ?_ _
              go_wp2
              go_ret
              rw [hE.out]
              refine ⟨rfl, fun h => absurd rfl h, fun _ => ⟨HB6.out.setCell (by simp) _, .slice ra' (rs.length + 1) rc', ?_⟩⟩
              have e6 : ∀ b, b ≠ n + 3 → (w6.setCell ⟨n + 3, 0, none⟩ (.slice ra' (rs.length + 1) rc')).heap[b]? = w6.heap[b]? := fun b hb => heap_set _ _ _ _ hb
              refine ⟨HC6.out.set0 _, ?_, ?_, ?_, ownsMap_same HT6.out (e6 _ (by omega))⟩
              · rw [flatR, List.flatMap_append, List.length_append]
                simpa [flatR, Rg.cells] using ownsRow_same HO6.out (fun b hb _ => e6 b (by omega))
              · rw [List.length_append]; exact ownsMap_same HN6.out (e6 _ (by omega))
              · rw [List.length_append]; exact ownsMap_same HL6.out (e6 _ (by omega))
        · go_wp2
          go_quiet (fail)
          clear L1
          go_wp2
          go_quiet (fail)
          clear L2
          go_wp2
          go_ret
          rw [hE.out]
          exact ⟨rfl, fun _ => below_drewN' HB.out _, fun h => by cases h⟩
      · go_wp2
        go_quiet (fail)
        clear L1
        go_wp2
        go_quiet (fail)
        clear L2
        go_wp2
        go_ret
        rw [hE.out]
        exact ⟨rfl, fun _ => below_drewN' HB.out _, fun h => by cases h⟩
    · have hE : Hid (E = 27) := by show E = 27; rw [← HE.out, regE, if_neg (by rw [HNm.out]; decide), if_pos (by simpa using hhave)]
      have HB := Lib.hid (((Below.refl _ w).alloc (Nat.le_refl _) _).trans (HB2.out.mono (by simp)))
      clear HB2
      cases hh : haveB ⟨nm, lv, cs, bl, nd, fr, pr, op, cl⟩
      · go_wp2
        go_ret
        rw [hE.out]
        exact ⟨rfl, fun _ => HB.out, fun h => by cases h⟩
      · by_cases hc0 : cl < 0
        · go_wp2
          go_ret
          rw [hE.out]
          exact ⟨rfl, fun _ => HB.out, fun h => by cases h⟩
        · have hc1 : many ≤ cl := by
            simp [hh] at hhave; omega
          clear hhave
          go_wp2
          go_ret
          rw [hE.out]
          exact ⟨rfl, fun _ => HB.out, fun h => by cases h⟩
end Go.Proofs.YtnfadmifdncjoaaGreat.Cf
namespace Go.Proofs.YtnfadmifdncjoaaGreat.Cf
set_option linter.unusedSimpArgs false
set_option linter.unusedVariables false
open Go.RowKit Go.Maps

theorem flat_get {α : Type} (f : α → List Value) (k : Nat) (hk : ∀ x, (f x).length = k) : ∀ (l : List α) (i j : Nat) (hi : i < l.length), j < k → (l.flatMap f)[i * k + j]? = (f l[i])[j]?
  | x :: l, 0, j, _, hj => by
    rw [List.flatMap_cons, List.getElem?_append_left (by rw [hk]; omega)]; simp
  | x :: l, i + 1, j, hi, hj => by
    rw [List.flatMap_cons, List.getElem?_append_right (by rw [hk, Nat.add_mul]; omega), hk]
    have e : (i + 1) * k + j - k = i * k + j := by rw [Nat.add_mul]; omega
    rw [e, flat_get f k hk l i j (by simpa using hi) hj]
    simp
theorem ownsRow_cell {α : Type} {w : World} {base : Nat} {e : TypeId} {k n : Nat} {v : Value} {f : α → List Value} {l : List α} (hk : ∀ x, (f x).length = k) (hn : n = l.length) (h : w.ownsRow base e k v n (l.flatMap f)) :
    (v = .slice none 0 0 ∧ l = []) ∨ ∃ g cap, v = .slice (some ⟨g, 0, none⟩) l.length cap ∧ base ≤ g ∧ g < w.heap.size ∧ l.length ≤ maxLen ∧ ∀ i (hi : i < l.length) j, j < k → w.cell? ⟨g, i * k + j, none⟩ = (f l[i])[j]? := by
  subst hn
  obtain ⟨hl, ⟨hv, hn⟩ | ⟨g, cap, cur, hv, hg, hh, hc, hm, hs, ht⟩⟩ := h
  · exact .inl ⟨hv, List.eq_nil_of_length_eq_zero hn⟩
  · refine .inr ⟨g, cap, hv, hg, (Array.getElem?_eq_some_iff.1 hh).1, Nat.le_trans hc hm, fun i hi j hj => ?_⟩
    have hlt : i * k + j < l.length * k := by
      have : (i + 1) * k ≤ l.length * k := Nat.mul_le_mul_right _ hi
      rw [Nat.add_mul] at this
      omega
    have hx : (cur.toList.take (l.length * k))[i * k + j]? = (l.flatMap f)[i * k + j]? := by rw [ht]
    rw [List.getElem?_take_of_lt hlt, flat_get f k hk l i j hi hj] at hx
    rw [← hx]
    simp only [World.cell?, hh]
    simp
theorem regs_of_row {w : World} {base : Nat} {v : Value} {rs : List Rg} (h : w.ownsRow base 41 9 v rs.length (flatR rs)) : Regs w v rs := by
  rcases ownsRow_cell (k := 9) (fun _ => rfl) rfl h with ⟨hv, hn⟩ | ⟨g, cap, hv, hg, hlt, hm, hc⟩
  · exact .inl ⟨none, 0, hv, hn⟩
  · refine .inr ⟨g, 0, cap, hv, hlt, hm, ?_⟩
    constructor
    · intro i hi; have := hc i hi 0 (by omega); simpa [Rg.cells] using this
    · intro i hi; have := hc i hi 1 (by omega); simpa [Rg.cells] using this
    · intro i hi; have := hc i hi 2 (by omega); simpa [Rg.cells] using this
    · intro i hi; have := hc i hi 3 (by omega); simpa [Rg.cells] using this
    · intro i hi; have := hc i hi 4 (by omega); simpa [Rg.cells] using this
    · intro i hi; have := hc i hi 5 (by omega); simpa [Rg.cells] using this
    · intro i hi; have := hc i hi 6 (by omega); simpa [Rg.cells] using this
    · intro i hi; have := hc i hi 7 (by omega); simpa [Rg.cells] using this
    · intro i hi; have := hc i hi 8 (by omega); simpa [Rg.cells] using this

def markCells (m : Int × Int) : List Value := [.int .u8 m.1, .int .u16 m.2]
def flatM (ms : List (Int × Int)) : List Value := ms.flatMap markCells
structure MS (n b2 : Nat) (w : World) (vr vm : Value) (rs : List Rg) (ms : List (Int × Int)) (Dn Dl Dt : DataW Unit) : Prop where
  cb : CB n w vr vm (.slice none 0 0)
  lo : n + 4 ≤ b2
  hi : b2 ≤ w.heap.size
  row : w.ownsRow (n + 4) 41 9 vr rs.length (flatR rs)
  rb : ∀ k, vr.ownBlock = some k → k < b2
  rm : w.ownsRow b2 177 2 vm ms.length (flatM ms)
  mn : w.ownsMap Tryz.prog 9 (plainElem Tryz.prog 3) n rs.length Dn
  ml : w.ownsMap Tryz.prog 39 (plainElem Tryz.prog 3) (n + 1) rs.length Dl
  mt : w.ownsMap Tryz.prog 177 (unitElem (H := Unit)) (n + 2) ms.length Dt
theorem MS.below {n b2 : Nat} {w w' : World} {vr vm : Value} {rs : List Rg} {ms : List (Int × Int)} {Dn Dl Dt : DataW Unit} (h : MS n b2 w vr vm rs ms Dn Dl Dt) (hb : Below w.heap.size w w') : MS n b2 w' vr vm rs ms Dn Dl Dt := by
  have := h.cb.lt
  exact ⟨h.cb.below hb this, h.lo, Nat.le_trans h.hi hb.size, ownsRow_below h.row hb, h.rb, ownsRow_below h.rm hb, ownsMap_below h.mn hb (by omega), ownsMap_below h.ml hb (by omega), ownsMap_below h.mt hb (by omega)⟩
theorem ownsRow_same2 {w w' : World} {base : Nat} {e : TypeId} {size : Nat} {v : Value} {n : Nat} {xs : List Value} (h : w.ownsRow base e size v n xs) (he : ∀ b, v.ownBlock = some b → w'.heap[b]? = w.heap[b]?) : w'.ownsRow base e size v n xs := by
  obtain ⟨hl, h | ⟨g, cap, cur, hv, hg, hh, r⟩⟩ := h
  · exact ⟨hl, .inl h⟩
  · exact ⟨hl, .inr ⟨g, cap, cur, hv, hg, (he g (by rw [hv]; rfl)).trans hh, r⟩⟩
theorem look_unit {w : World} {k t : TypeId} {b n : Nat} {D : DataW Unit} {key : Value} {kl : Lit} (h : w.ownsMap Tryz.prog k (unitElem (H := Unit)) b n D) (K : Keyed Tryz.prog k) (ht : Tryz.prog.underlying t = some (.map k 217)) (hkey : keyOf Tryz.prog k key = some kl) :
    (Instr.lookup t (.map (some b)) key true).run Tryz.prog w = .ok (.tuple #[.agg #[], .bool (Maps.has D kl)]) w := by
  obtain ⟨v, ps, hu, hp⟩ := h.look_ok K ht (Tryz.zero129 _) unitElem_mk hkey
  obtain ⟨rfl, -⟩ := unitElem_inv hp
  exact hu
def markE (rs : List Rg) (Dt : DataW Unit) (m : Int × Int) : Int :=
  if ((regAt rs m.1).2 && decide (1 ≤ m.2) && decide (m.2 ≤ (regAt rs m.1).1.nd)) = false then 27 else if Maps.has Dt (labKey m.1 m.2) = true then 29 else 0

set_option maxHeartbeats 2000000 in
set_option maxRecDepth 100000 in
theorem trust_any (n b2 : Nat) (vr vm : Value) (rs : List Rg) (ms : List (Int × Int)) (Dn Dl Dt : DataW Unit) (lab num : Int) (l0 : 0 ≤ lab) (l1 : lab < 256) (k0 : 0 ≤ num) (k1 : num < 65536) (w : World) (h : MS n b2 w vr vm rs ms Dn Dl Dt) (hm : ms.length < 10000) :
    Calls Tryz.prog 79 #[.pointer (some ⟨n + 3, 0, none⟩), .agg #[.int .u8 lab, .int .u16 num]] w fun e w' => e = .returned (.int .i64 (markE rs Dt (lab, num))) ∧
      (markE rs Dt (lab, num) ≠ 0 → Below w.heap.size w w') ∧ (markE rs Dt (lab, num) = 0 → Below n w w' ∧ ∃ vm', MS n b2 w' vr vm' rs (ms ++ [(lab, num)]) Dn Dl (Dt.put (labKey lab num) (.agg []))) := by
  have HS := Lib.hid h
  have q0 := fun W (hb : Below w.heap.size w W) => reg_any (n + 3) vr rs lab W (Nat.lt_of_lt_of_le (Nat.lt_of_lt_of_le (by omega) h.cb.lt) hb.size) (h.below hb).cb.c0 (regs_of_row (h.below hb).row)
  clear h
  generalize hE : markE rs Dt (lab, num) = E
  have HE := Lib.hid hE
  clear hE
  obtain ⟨x, hx⟩ : ∃ x, regAt rs lab = x := ⟨_, rfl⟩
  obtain ⟨⟨nm, lv, cs, bl, nd, fr, pr, op, cl⟩, ok⟩ := x
  rw [hx] at q0
  have HX := Lib.hid hx
  clear hx
  simp only [Rg.val] at q0
  obtain ⟨i0, hi, hz0, hz1, hz2⟩ := info_parts Tryz.info34
  have hl255 : lab ≤ 255 := by omega
  go_enter Tryz.func79, Tryz.ntmps79
  go_wp2_with fail
  refine (q0 _ ((Below.refl _ _).alloc (Nat.le_refl _) _)).mono ?_
  rintro e w1 ⟨rfl, hb1⟩
  have hzz := hb1.size
  simp at hzz
  have p0 : w1.cell? ⟨w.heap.size, 0, none⟩ = some (.int .u8 lab) := (hb1.cell (p := ⟨w.heap.size, 0, none⟩) (by simp)).trans (by simp [World.cell?_alloc_new])
  have p1 : w1.cell? ⟨w.heap.size, 1, none⟩ = some (.int .u16 num) := (hb1.cell (p := ⟨w.heap.size, 1, none⟩) (by simp)).trans (by simp [World.cell?_alloc_new])
  have hwl : n + 4 ≤ w.heap.size := HS.out.cb.lt
  have hlt : w.heap.size < w1.heap.size := by omega
  have HB := Lib.hid (((Below.refl _ w).alloc (Nat.le_refl _) _).trans (hb1.mono (by simp)))
  have HS1 := Lib.hid (HS.out.below HB.out)
  clear hb1 hzz
  by_cases hgood : (ok && decide (1 ≤ num) && decide (num ≤ nd)) = true
  · have hok : ok = true := by simp at hgood; exact hgood.1.1
    have h1 : ¬ (num < 1) := by simp at hgood; omega
    have h2 : ¬ (nd < num) := by simp at hgood; omega
    subst hok
    obtain ⟨tn, htn⟩ : ∃ b, Maps.has Dt (labKey lab num) = b := ⟨_, rfl⟩
    have hE : Hid (E = if tn = true then 29 else 0) := by
      show E = _
      rw [← HE.out, markE, HX.out]
      simp only
      rw [if_neg (by rw [hgood]; decide), htn]
    clear hgood HE HX q0
    -- past the first region's last store
    obtain ⟨⟨lt, c0, c1, c2, c3, c4, c5, f0, f1, f2⟩, -, -, -, -, -, mn, ml, mt⟩ := id HS1.out
    clear c0 c2 c3 c4 f0 f1 f2 mn ml
    clear c1
    go_wp2
    obtain ⟨W1, hW1⟩ : ∃ W, w1.alloc (.cells #[.string nm, .int .u8 lv, .int .u16 cs, .int .i64 bl, .int .i64 nd, .int .i64 fr, .int .i64 pr, .int .i64 op, .int .i64 cl] 41) = W := ⟨_, rfl⟩
    rw [hW1]
    have hbW : Below w1.heap.size w1 W1 := hW1 ▸ (Below.refl _ w1).alloc (Nat.le_refl _) _
    replace p0 := (hbW.cell (p := ⟨w.heap.size, 0, none⟩) hlt).trans p0
    replace p1 := (hbW.cell (p := ⟨w.heap.size, 1, none⟩) hlt).trans p1
    replace c5 := (hbW.cell (p := ⟨n + 3, 5, none⟩) (by simp; omega)).trans c5
    have hltW : w.heap.size < W1.heap.size := Nat.lt_of_lt_of_le hlt hbW.size
    have HSW := Lib.hid (HS1.out.below hbW)
    have HBW := Lib.hid (HB.out.trans (hbW.mono (by omega)))
    have L1 : ∀ W, Below W1.heap.size W1 W → (Instr.lookup 124 (.map (some (n + 2))) (.agg #[.int .u8 lab, .int .u16 num]) true).run Tryz.prog W = _ := fun W hW => look_unit (w := W) (HSW.out.below hW).mt Tryz.lawMark Tryz.underlying124 (markKey_is lab num l0 l1 k0 k1)
    rw [htn] at L1
    clear mt htn hW1 HS1 HB hlt lt
    replace hlt := hltW
    clear hltW hbW
    cases tn
    · skip
      refine wp_region_held (S := fun w' => Below W1.heap.size W1 w') (by kernel_rfl) ?_
      change wpAnyH _ _ _ _ _ _ _ _ (World.drew _)
      have hS0 : Below W1.heap.size W1 W1.drew := (Below.refl _ W1).drew
      refine wpAnyH_take (i := 0) (v := ?_) rfl (by kernel_rfl) (by kernel_rfl) (by kernel_rfl) (fun _ _ _ h => h) (Or.inl ⟨by rfl, ?_⟩) hS0 ?_
      rotate_left 1
      · intro W hW
        go_simp
        try with_reducible rfl
      try simp only [Act.put, List.setIfInBounds_toArray, List.set_cons_zero, List.set_cons_succ]
      refine wpAnyH_take (i := 1) (v := ?_) rfl (by kernel_rfl) (by kernel_rfl) (by kernel_rfl) (fun _ _ _ h => h) (Or.inl ⟨by rfl, ?_⟩) hS0 ?_
      rotate_left 1
      · intro W hW
        go_simp
        try with_reducible rfl
      try simp only [Act.put, List.setIfInBounds_toArray, List.set_cons_zero, List.set_cons_succ]
      refine wpAnyH_take (i := 2) (v := ?_) rfl (by kernel_rfl) (by kernel_rfl) (by kernel_rfl) (fun _ _ _ h => h) (Or.inl ⟨by rfl, ?_⟩) hS0 ?_
      rotate_left 1
      · intro W hW
        go_simp
        try with_reducible rfl
      try simp only [Act.put, List.setIfInBounds_toArray, List.set_cons_zero, List.set_cons_succ]
      refine wpAnyH_take (i := 3) (v := ?_) rfl (by kernel_rfl) (by kernel_rfl) (by kernel_rfl) (fun _ _ _ h => h) (Or.inl ⟨by rfl, ?_⟩) hS0 ?_
      rotate_left 1
      · intro W hW
        have e5 := (hW.cell (p := ⟨n + 3, 5, none⟩) (by simp; omega)).trans c5
        go_simp
        try with_reducible rfl
      try simp only [Act.put, List.setIfInBounds_toArray, List.set_cons_zero, List.set_cons_succ]
      refine wpAnyH_take (i := 4) (v := ?_) rfl (by kernel_rfl) (by kernel_rfl) (by kernel_rfl) (fun _ _ _ h => h) (Or.inl ⟨by rfl, ?_⟩) hS0 ?_
      rotate_left 1
      · intro W hW
        have e0 := (hW.cell (p := ⟨w.heap.size, 0, none⟩) hlt).trans p0
        have e1 := (hW.cell (p := ⟨w.heap.size, 1, none⟩) hlt).trans p1
        go_simp
        try with_reducible rfl
      try simp only [Act.put, List.setIfInBounds_toArray, List.set_cons_zero, List.set_cons_succ]
      refine wpAnyH_take (i := 5) (v := ?_) rfl (by kernel_rfl) (by kernel_rfl) (by kernel_rfl) (fun _ _ _ h => h) (Or.inl ⟨by rfl, ?_⟩) hS0 ?_
      rotate_left 1
      · intro W hW
        have eL := L1 W hW
        go_simp
        try with_reducible rfl
      try simp only [Act.put, List.setIfInBounds_toArray, List.set_cons_zero, List.set_cons_succ]
      refine wpAnyH_take (i := 6) (v := ?_) rfl (by kernel_rfl) (by kernel_rfl) (by kernel_rfl) (fun _ _ _ h => h) (Or.inl ⟨by rfl, ?_⟩) hS0 ?_
      rotate_left 1
      · intro W hW
        go_simp
        try with_reducible rfl
      try simp only [Act.put, List.setIfInBounds_toArray, List.set_cons_zero, List.set_cons_succ]
      refine wpAnyH_take (i := 7) (v := ?_) rfl (by kernel_rfl) (by kernel_rfl) (by kernel_rfl) (fun _ _ _ h => h) (Or.inl ⟨by rfl, ?_⟩) hS0 ?_
      rotate_left 1
      · intro W hW
        go_simp
        try with_reducible rfl
      try simp only [Act.put, List.setIfInBounds_toArray, List.set_cons_zero, List.set_cons_succ]
      refine wpAnyH_take (i := 8) (v := ?_) rfl (by kernel_rfl) (by kernel_rfl) (by kernel_rfl) (fun _ _ _ h => h) (Or.inl ⟨by rfl, ?_⟩) hS0 ?_
      rotate_left 1
      · intro W hW
        go_simp
        try with_reducible rfl
      try simp only [Act.put, List.setIfInBounds_toArray, List.set_cons_zero, List.set_cons_succ]
      refine wpAnyH_ready (rs := [9]) (by kernel_rfl) (by simp) (AllReadyH.cons rfl (fun K hK => ?_) AllReadyH.nil)
      go_simp
      refine hK _ _ ?_ ?_
      · exact ((Below.refl _ W1).drew).alloc (Nat.le_refl _) _
      try intro _
      clear hK K
      refine wpAnyH_ready (rs := [10]) (by kernel_rfl) (by simp) (AllReadyH.cons rfl (fun K hK => ?_) AllReadyH.nil)
      go_simp
      refine hK _ _ ?_ ?_
      · exact ((Below.refl _ W1).drew).alloc (Nat.le_refl _) _
      try intro _
      clear hK K
      refine wpAnyH_ready (rs := [11]) (by kernel_rfl) (by simp) (AllReadyH.cons rfl (fun K hK => ?_) AllReadyH.nil)
      go_simp
      refine hK _ _ ?_ ?_
      · exact ((Below.refl _ W1).drew).alloc (Nat.le_refl _) _
      try intro _
      clear hK K
      refine wpAnyH_done (by kernel_rfl) ?_ _
      clear L1
      obtain ⟨W2, hW2⟩ : ∃ W, W1.alloc (.cells #[] 217) = W := ⟨_, rfl⟩
      go_wp2
      rw [hW2]
      have hb2' : Below W1.heap.size W1 W2.drew := hW2 ▸ ((Below.refl _ W1).alloc (Nat.le_refl _) _).drew
      obtain ⟨W3, hW3⟩ : ∃ W, W2.drew = W := ⟨_, rfl⟩
      rw [hW3] at hb2' ⊢
      have hz3 : W1.heap.size ≤ W3.heap.size := hb2'.size
      have HS3 := Lib.hid (HSW.out.below hb2')
      have HB3 := Lib.hid (HBW.out.trans (hb2'.mono (by omega)))
      replace p0 := (hb2'.cell (p := ⟨w.heap.size, 0, none⟩) hlt).trans p0
      replace p1 := (hb2'.cell (p := ⟨w.heap.size, 1, none⟩) hlt).trans p1
      have hlt3 : w.heap.size < W3.heap.size := by omega
      have hlo := HS.out.lo
      have hhi : b2 ≤ w.heap.size := HS.out.hi
      have hrb := HS.out.rb
      have HRB := Lib.hid hrb
      clear c5 HSW HBW hb2' hW3 hW2 hS0 hrb
      obtain ⟨⟨lt, c0, c1, c2, c3, c4, c5, f0, f1, f2⟩, -, -, -, -, rm, -, -, mt⟩ := id HS3.out
      have HMT := Lib.hid mt
      clear c0 c2 c3 c4 f0 f1 f2 rm c1 mt
      refine wp_region_split (C := fun w' => ∃ m, w' = W3.drewN m) 6 (by kernel_rfl) (of_decide_eq_true (by kernel_rfl)) (by kernel_rfl) (by kernel_rfl) (by kernel_rfl) ⟨1, rfl⟩ ?_
      simp only [List.take_succ_cons, List.take_zero]
      repeat (quiet_step (fail))
      refine wpQuiet_nil ?_
      intro wy hw'
      obtain ⟨m, rfl⟩ := hw'
      refine wpAny_last 6 (by kernel_rfl) (by kernel_rfl) (wpOp_step0 rfl rfl (fun K hK => ?_))
      obtain ⟨w4, hrun, hmt, hg4⟩ := World.ownsMap.update (w := W3.drewN m) (t := 124) HMT.out Tryz.lawMark Tryz.underlying124 (by unfold maxLen; omega) (markKey_is lab num l0 l1 k0 k1) unitElem_mk
      go_simp
      refine hK _ _ ?_
      have hz4 : W3.heap.size ≤ w4.heap.size := hg4.size
      have hk4 : ∀ b, b < W3.heap.size → b ≠ n + 2 → w4.heap[b]? = W3.heap[b]? := fun b hb hne => hg4.block b hb (by simp; omega)
      have HB4 := Lib.hid ((below_drewN' (HB3.out.mono (show n ≤ w.heap.size by omega)) m).grown hg4 (by show n ≤ W3.heap.size; omega) (fun k hk => by simp at hk; omega))
      have HC4 := Lib.hid (HS3.out.cb.same hz4 (hk4 _ (by omega) (by omega)))
      have HR4 := Lib.hid (ownsRow_same2 HS3.out.row (fun b hb => hk4 b (by have := HRB.out b hb; omega) (by have := ownsRow_block HS3.out.row b hb; omega)))
      have HM4 := Lib.hid (ownsRow_same HS3.out.rm (fun b hb hb2 => hk4 b hb2 (by omega)))
      have HN4 := Lib.hid (ownsMap_same HS3.out.mn (hk4 _ (by omega) (by omega)))
      have HL4 := Lib.hid (ownsMap_same HS3.out.ml (hk4 _ (by omega) (by omega)))
      have HT4 := Lib.hid hmt
      replace p0 := (cell_same (hk4 w.heap.size hlt3 (by omega))).trans p0
      replace p1 := (cell_same (hk4 w.heap.size hlt3 (by omega))).trans p1
      have hlt4 : w.heap.size < w4.heap.size := by omega
      have hbw4 : b2 ≤ w4.heap.size := by omega
      clear hmt hrun hg4 hk4 HS3 HB3 HMT hK K lt c5
      clear m
      have hrb := HRB.out
      obtain ⟨lt, c0, c1, c2, c3, c4, c5, f0, f1, f2⟩ := id HC4.out
      clear c0 c2 c3 c4 c5 f0 f2
      obtain ⟨ma, mc, rfl⟩ := ownsRow_form HM4.out
      go_wp2
      have lt3 : n + 3 < w4.heap.size := by omega
      have HRB2 := Lib.hid hrb
      clear hrb
      refine wp_region_any (by kernel_rfl) ?_
      change wpAny _ _ _ _ _ _ _ (World.drew _)
      refine wpAny_take (i := 0) (v := ?_) rfl (by kernel_rfl) (by kernel_rfl) (by kernel_rfl) (fun _ _ _ h => h) (Or.inl ⟨by rfl, ?_⟩) ?_
      rotate_left 1
      · intro w; go_simp; try with_reducible rfl
      refine wpAny_take (i := 1) (v := ?_) rfl (by kernel_rfl) (by kernel_rfl) (by kernel_rfl) (fun _ _ _ h => h) (Or.inl ⟨by rfl, ?_⟩) ?_
      rotate_left 1
      · intro w; go_simp; try with_reducible rfl
      refine wpAny_take (i := 2) (v := ?_) rfl (by kernel_rfl) (by kernel_rfl) (by kernel_rfl) (fun _ _ _ h => h) (Or.inl ⟨by rfl, ?_⟩) ?_
      rotate_left 1
      · intro w; go_simp; try with_reducible rfl
      refine wpAny_take (i := 3) (v := ?_) rfl (by kernel_rfl) (by kernel_rfl) (by kernel_rfl) (fun _ _ _ h => h) (Or.inl ⟨by rfl, ?_⟩) ?_
      rotate_left 1
      · intro w; go_simp; try with_reducible rfl
      refine wpAny_ready (rs := [4, 5]) (by kernel_rfl) (by simp) (AllReady.cons rfl (fun K hK => ?_) (AllReady.cons rfl (fun K hK => ?_) AllReady.nil))
      · go_simp
        refine hK _ _ ?_
        clear hK K
        refine wpAny_ready (rs := [5]) (by kernel_rfl) (by simp) (AllReady.cons rfl (fun K hK => ?_) AllReady.nil)
        go_simp
        refine hK _ _ ?_
        clear hK K
        refine wpAny_ready (rs := [6]) (by kernel_rfl) (by simp) (AllReady.cons rfl (fun K hK => ?_) AllReady.nil)
        go_simp
        refine hK _ _ ?_
        clear hK K
        have hrb := HRB2.out
        refine wpAny_ready (rs := [7]) (by kernel_rfl) (by simp) (AllReady.cons rfl (fun K hK => ?_) AllReady.nil)
        simp only [Region.wanted, if_true]
        refine wp_append_own _ _ _ 114 rfl b2 177 i0 _ 2 4 Tryz.underlying114 hi hz0 hz1 hz2 rfl (by decide) _ _ _ rfl (HM4.out.alloc _) ⟨w4.heap.size, 0, none⟩ 1 1 [.int .u8 lab, .int .u16 num] rfl rfl (cells_new w4 _ 177) (by simp [Value.oneCell']) (by unfold maxLen; omega) (by omega) (by simp; omega) (fun v' w6 hown hg6 _ => ?_)
        obtain ⟨ra', rc', rfl⟩ := ownsRow_form hown
        refine hK _ _ ?_
        clear hK K
        have hz6 : w4.heap.size + 1 ≤ w6.heap.size := by have := hg6.size; simpa using this
        have hk6 : ∀ b, b < b2 → w6.heap[b]? = w4.heap[b]? := fun b hb => (hg6.block b (by simp; omega) (fun e => by have := ownsRow_block HM4.out b e.symm; omega)).trans ((MapKept.heap_alloc w4 _).2 b (by omega))
        have HC6 := Lib.hid (HC4.out.same (by omega) (hk6 _ (by omega)))
        have HB6 := Lib.hid ((HB4.out.alloc (by omega) (.cells #[.int .u8 lab, .int .u16 num] 177)).drew.grown hg6 (by simp; omega) (fun k hk => by have := ownsRow_block HM4.out k hk; omega))
        have HN6 := Lib.hid (ownsMap_same HN4.out (hk6 _ (by omega)))
        have HL6 := Lib.hid (ownsMap_same HL4.out (hk6 _ (by omega)))
        have HT6 := Lib.hid (ownsMap_same HT4.out (hk6 _ (by omega)))
        have HR6 := Lib.hid (ownsRow_same2 HR4.out (fun b hb => hk6 b (hrb b hb)))
        have HO6 := Lib.hid hown
        clear hown hg6 hk6 HR4 HM4 HB4 HC4 HN4 HL4 HT4 p0 p1 c1 f1 lt
        obtain ⟨lt, c0, c1, c2, c3, c4, c5, f0, f1, f2⟩ := id HC6.out
        clear c0 c2 c3 c4 c5 f0 f2
        refine wpAny_ready (rs := [8]) (by kernel_rfl) (by simp) (AllReady.cons rfl (fun K hK => ?_) AllReady.nil)
        go_simp
        refine hK _ _ ?_
        clear hK K
        refine wpAny_ready (rs := [9]) (by kernel_rfl) (by simp) (AllReady.cons rfl (fun K hK => ?_) AllReady.nil)
        go_simp
        refine hK _ _ ?_
        clear hK K
        refine wpAny_ready (rs := [10]) (by kernel_rfl) (by simp) (AllReady.cons rfl (fun K hK => ?_) AllReady.nil)
        go_simp
        refine hK _ _ ?_
        clear hK K
        refine wpAny_done (by kernel_rfl) ?_ _
        go_wp2
        go_ret
        rw [hE.out]
        refine ⟨rfl, fun h => absurd rfl h, fun _ => ⟨HB6.out.setCell (by simp) _, .slice ra' (ms.length + 1) rc', ?_⟩⟩
        have e6 : ∀ b, b ≠ n + 3 → (w6.setCell ⟨n + 3, 1, none⟩ (.slice ra' (ms.length + 1) rc')).heap[b]? = w6.heap[b]? := fun b hb => heap_set _ _ _ _ hb
        refine ⟨HC6.out.set1 _, hlo, by rw [size_set]; omega, ownsRow_same HR6.out (fun b hb _ => e6 b (by omega)), hrb, ?_, ownsMap_same HN6.out (e6 _ (by omega)), ownsMap_same HL6.out (e6 _ (by omega)), ?_⟩
        · rw [flatM, List.flatMap_append, List.length_append]
          simpa [flatM, markCells] using ownsRow_same HO6.out (fun b hb _ => e6 b (by omega))
        · rw [List.length_append]; exact ownsMap_same HT6.out (e6 _ (by omega))
      · go_simp
        refine hK _ _ ?_
        clear hK K
        refine wpAny_ready (rs := [4, 6]) (by kernel_rfl) (by simp) (AllReady.cons rfl (fun K hK => ?_) (AllReady.cons rfl (fun K hK => ?_) AllReady.nil))
        · go_simp
          refine hK _ _ ?_
          clear hK K
          refine wpAny_ready (rs := [6]) (by kernel_rfl) (by simp) (AllReady.cons rfl (fun K hK => ?_) AllReady.nil)
          go_simp
          refine hK _ _ ?_
          clear hK K
          have hrb := HRB2.out
          refine wpAny_ready (rs := [7]) (by kernel_rfl) (by simp) (AllReady.cons rfl (fun K hK => ?_) AllReady.nil)
          simp only [Region.wanted, if_true]
          refine wp_append_own _ _ _ 114 rfl b2 177 i0 _ 2 4 Tryz.underlying114 hi hz0 hz1 hz2 rfl (by decide) _ _ _ rfl (HM4.out.alloc _) ⟨w4.heap.size, 0, none⟩ 1 1 [.int .u8 lab, .int .u16 num] rfl rfl (cells_new w4 _ 177) (by simp [Value.oneCell']) (by unfold maxLen; omega) (by omega) (by simp; omega) (fun v' w6 hown hg6 _ => ?_)
          obtain ⟨ra', rc', rfl⟩ := ownsRow_form hown
          refine hK _ _ ?_
          clear hK K
          have hz6 : w4.heap.size + 1 ≤ w6.heap.size := by have := hg6.size; simpa using this
          have hk6 : ∀ b, b < b2 → w6.heap[b]? = w4.heap[b]? := fun b hb => (hg6.block b (by simp; omega) (fun e => by have := ownsRow_block HM4.out b e.symm; omega)).trans ((MapKept.heap_alloc w4 _).2 b (by omega))
          have HC6 := Lib.hid (HC4.out.same (by omega) (hk6 _ (by omega)))
          have HB6 := Lib.hid ((HB4.out.alloc (by omega) (.cells #[.int .u8 lab, .int .u16 num] 177)).drew.grown hg6 (by simp; omega) (fun k hk => by have := ownsRow_block HM4.out k hk; omega))
          have HN6 := Lib.hid (ownsMap_same HN4.out (hk6 _ (by omega)))
          have HL6 := Lib.hid (ownsMap_same HL4.out (hk6 _ (by omega)))
          have HT6 := Lib.hid (ownsMap_same HT4.out (hk6 _ (by omega)))
          have HR6 := Lib.hid (ownsRow_same2 HR4.out (fun b hb => hk6 b (hrb b hb)))
          have HO6 := Lib.hid hown
          clear hown hg6 hk6 HR4 HM4 HB4 HC4 HN4 HL4 HT4 p0 p1 c1 f1 lt
          obtain ⟨lt, c0, c1, c2, c3, c4, c5, f0, f1, f2⟩ := id HC6.out
          clear c0 c2 c3 c4 c5 f0 f2
          refine wpAny_ready (rs := [8]) (by kernel_rfl) (by simp) (AllReady.cons rfl (fun K hK => ?_) AllReady.nil)
          go_simp
          refine hK _ _ ?_
          clear hK K
          refine wpAny_ready (rs := [9]) (by kernel_rfl) (by simp) (AllReady.cons rfl (fun K hK => ?_) AllReady.nil)
          go_simp
          refine hK _ _ ?_
          clear hK K
          refine wpAny_ready (rs := [10]) (by kernel_rfl) (by simp) (AllReady.cons rfl (fun K hK => ?_) AllReady.nil)
          go_simp
          refine hK _ _ ?_
          clear hK K
          refine wpAny_done (by kernel_rfl) ?_ _
          go_wp2
          go_ret
          rw [hE.out]
          refine ⟨rfl, fun h => absurd rfl h, fun _ => ⟨HB6.out.setCell (by simp) _, .slice ra' (ms.length + 1) rc', ?_⟩⟩
          have e6 : ∀ b, b ≠ n + 3 → (w6.setCell ⟨n + 3, 1, none⟩ (.slice ra' (ms.length + 1) rc')).heap[b]? = w6.heap[b]? := fun b hb => heap_set _ _ _ _ hb
          refine ⟨HC6.out.set1 _, hlo, by rw [size_set]; omega, ownsRow_same HR6.out (fun b hb _ => e6 b (by omega)), hrb, ?_, ownsMap_same HN6.out (e6 _ (by omega)), ownsMap_same HL6.out (e6 _ (by omega)), ?_⟩
          · rw [flatM, List.flatMap_append, List.length_append]
            simpa [flatM, markCells] using ownsRow_same HO6.out (fun b hb _ => e6 b (by omega))
          · rw [List.length_append]; exact ownsMap_same HT6.out (e6 _ (by omega))
        · go_simp
          refine hK _ _ ?_
          clear hK K
          refine wpAny_ready (rs := [4]) (by kernel_rfl) (by simp) (AllReady.cons rfl (fun K hK => ?_) AllReady.nil)
          go_simp
          refine hK _ _ ?_
          clear hK K
          have hrb := HRB2.out
          refine wpAny_ready (rs := [7]) (by kernel_rfl) (by simp) (AllReady.cons rfl (fun K hK => ?_) AllReady.nil)
          simp only [Region.wanted, if_true]
          refine wp_append_own _ _ _ 114 rfl b2 177 i0 _ 2 4 Tryz.underlying114 hi hz0 hz1 hz2 rfl (by decide) _ _ _ rfl (HM4.out.alloc _) ⟨w4.heap.size, 0, none⟩ 1 1 [.int .u8 lab, .int .u16 num] rfl rfl (cells_new w4 _ 177) (by simp [Value.oneCell']) (by unfold maxLen; omega) (by omega) (by simp; omega) (fun v' w6 hown hg6 _ => ?_)
          obtain ⟨ra', rc', rfl⟩ := ownsRow_form hown
          refine hK _ _ ?_
          clear hK K
          have hz6 : w4.heap.size + 1 ≤ w6.heap.size := by have := hg6.size; simpa using this
          have hk6 : ∀ b, b < b2 → w6.heap[b]? = w4.heap[b]? := fun b hb => (hg6.block b (by simp; omega) (fun e => by have := ownsRow_block HM4.out b e.symm; omega)).trans ((MapKept.heap_alloc w4 _).2 b (by omega))
          have HC6 := Lib.hid (HC4.out.same (by omega) (hk6 _ (by omega)))
          have HB6 := Lib.hid ((HB4.out.alloc (by omega) (.cells #[.int .u8 lab, .int .u16 num] 177)).drew.grown hg6 (by simp; omega) (fun k hk => by have := ownsRow_block HM4.out k hk; omega))
          have HN6 := Lib.hid (ownsMap_same HN4.out (hk6 _ (by omega)))
          have HL6 := Lib.hid (ownsMap_same HL4.out (hk6 _ (by omega)))
          have HT6 := Lib.hid (ownsMap_same HT4.out (hk6 _ (by omega)))
          have HR6 := Lib.hid (ownsRow_same2 HR4.out (fun b hb => hk6 b (hrb b hb)))
          have HO6 := Lib.hid hown
          clear hown hg6 hk6 HR4 HM4 HB4 HC4 HN4 HL4 HT4 p0 p1 c1 f1 lt
          obtain ⟨lt, c0, c1, c2, c3, c4, c5, f0, f1, f2⟩ := id HC6.out
          clear c0 c2 c3 c4 c5 f0 f2
          refine wpAny_ready (rs := [8]) (by kernel_rfl) (by simp) (AllReady.cons rfl (fun K hK => ?_) AllReady.nil)
          go_simp
          refine hK _ _ ?_
          clear hK K
          refine wpAny_ready (rs := [9]) (by kernel_rfl) (by simp) (AllReady.cons rfl (fun K hK => ?_) AllReady.nil)
          go_simp
          refine hK _ _ ?_
          clear hK K
          refine wpAny_ready (rs := [10]) (by kernel_rfl) (by simp) (AllReady.cons rfl (fun K hK => ?_) AllReady.nil)
          go_simp
          refine hK _ _ ?_
          clear hK K
          refine wpAny_done (by kernel_rfl) ?_ _
          go_wp2
          go_ret
          rw [hE.out]
          refine ⟨rfl, fun h => absurd rfl h, fun _ => ⟨HB6.out.setCell (by simp) _, .slice ra' (ms.length + 1) rc', ?_⟩⟩
          have e6 : ∀ b, b ≠ n + 3 → (w6.setCell ⟨n + 3, 1, none⟩ (.slice ra' (ms.length + 1) rc')).heap[b]? = w6.heap[b]? := fun b hb => heap_set _ _ _ _ hb
          refine ⟨HC6.out.set1 _, hlo, by rw [size_set]; omega, ownsRow_same HR6.out (fun b hb _ => e6 b (by omega)), hrb, ?_, ownsMap_same HN6.out (e6 _ (by omega)), ownsMap_same HL6.out (e6 _ (by omega)), ?_⟩
          · rw [flatM, List.flatMap_append, List.length_append]
            simpa [flatM, markCells] using ownsRow_same HO6.out (fun b hb _ => e6 b (by omega))
          · rw [List.length_append]; exact ownsMap_same HT6.out (e6 _ (by omega))
    · skip
      refine wp_region_held (S := fun w' => Below W1.heap.size W1 w') (by kernel_rfl) ?_
      change wpAnyH _ _ _ _ _ _ _ _ (World.drew _)
      have hS0 : Below W1.heap.size W1 W1.drew := (Below.refl _ W1).drew
      refine wpAnyH_take (i := 0) (v := ?_) rfl (by kernel_rfl) (by kernel_rfl) (by kernel_rfl) (fun _ _ _ h => h) (Or.inl ⟨by rfl, ?_⟩) hS0 ?_
      rotate_left 1
      · intro W hW
        go_simp
        try with_reducible rfl
      try simp only [Act.put, List.setIfInBounds_toArray, List.set_cons_zero, List.set_cons_succ]
      refine wpAnyH_take (i := 1) (v := ?_) rfl (by kernel_rfl) (by kernel_rfl) (by kernel_rfl) (fun _ _ _ h => h) (Or.inl ⟨by rfl, ?_⟩) hS0 ?_
      rotate_left 1
      · intro W hW
        go_simp
        try with_reducible rfl
      try simp only [Act.put, List.setIfInBounds_toArray, List.set_cons_zero, List.set_cons_succ]
      refine wpAnyH_take (i := 2) (v := ?_) rfl (by kernel_rfl) (by kernel_rfl) (by kernel_rfl) (fun _ _ _ h => h) (Or.inl ⟨by rfl, ?_⟩) hS0 ?_
      rotate_left 1
      · intro W hW
        go_simp
        try with_reducible rfl
      try simp only [Act.put, List.setIfInBounds_toArray, List.set_cons_zero, List.set_cons_succ]
      refine wpAnyH_take (i := 3) (v := ?_) rfl (by kernel_rfl) (by kernel_rfl) (by kernel_rfl) (fun _ _ _ h => h) (Or.inl ⟨by rfl, ?_⟩) hS0 ?_
      rotate_left 1
      · intro W hW
        have e5 := (hW.cell (p := ⟨n + 3, 5, none⟩) (by simp; omega)).trans c5
        go_simp
        try with_reducible rfl
      try simp only [Act.put, List.setIfInBounds_toArray, List.set_cons_zero, List.set_cons_succ]
      refine wpAnyH_take (i := 4) (v := ?_) rfl (by kernel_rfl) (by kernel_rfl) (by kernel_rfl) (fun _ _ _ h => h) (Or.inl ⟨by rfl, ?_⟩) hS0 ?_
      rotate_left 1
      · intro W hW
        have e0 := (hW.cell (p := ⟨w.heap.size, 0, none⟩) hlt).trans p0
        have e1 := (hW.cell (p := ⟨w.heap.size, 1, none⟩) hlt).trans p1
        go_simp
        try with_reducible rfl
      try simp only [Act.put, List.setIfInBounds_toArray, List.set_cons_zero, List.set_cons_succ]
      refine wpAnyH_take (i := 5) (v := ?_) rfl (by kernel_rfl) (by kernel_rfl) (by kernel_rfl) (fun _ _ _ h => h) (Or.inl ⟨by rfl, ?_⟩) hS0 ?_
      rotate_left 1
      · intro W hW
        have eL := L1 W hW
        go_simp
        try with_reducible rfl
      try simp only [Act.put, List.setIfInBounds_toArray, List.set_cons_zero, List.set_cons_succ]
      refine wpAnyH_take (i := 6) (v := ?_) rfl (by kernel_rfl) (by kernel_rfl) (by kernel_rfl) (fun _ _ _ h => h) (Or.inl ⟨by rfl, ?_⟩) hS0 ?_
      rotate_left 1
      · intro W hW
        go_simp
        try with_reducible rfl
      try simp only [Act.put, List.setIfInBounds_toArray, List.set_cons_zero, List.set_cons_succ]
      refine wpAnyH_take (i := 7) (v := ?_) rfl (by kernel_rfl) (by kernel_rfl) (by kernel_rfl) (fun _ _ _ h => h) (Or.inl ⟨by rfl, ?_⟩) hS0 ?_
      rotate_left 1
      · intro W hW
        go_simp
        try with_reducible rfl
      try simp only [Act.put, List.setIfInBounds_toArray, List.set_cons_zero, List.set_cons_succ]
      refine wpAnyH_take (i := 8) (v := ?_) rfl (by kernel_rfl) (by kernel_rfl) (by kernel_rfl) (fun _ _ _ h => h) (Or.inl ⟨by rfl, ?_⟩) hS0 ?_
      rotate_left 1
      · intro W hW
        go_simp
        try with_reducible rfl
      try simp only [Act.put, List.setIfInBounds_toArray, List.set_cons_zero, List.set_cons_succ]
      refine wpAnyH_ready (rs := [9]) (by kernel_rfl) (by simp) (AllReadyH.cons rfl (fun K hK => ?_) AllReadyH.nil)
      go_simp
      refine hK _ _ ?_ ?_
      · exact ((Below.refl _ W1).drew).alloc (Nat.le_refl _) _
      try intro _
      clear hK K
      refine wpAnyH_ready (rs := [10]) (by kernel_rfl) (by simp) (AllReadyH.cons rfl (fun K hK => ?_) AllReadyH.nil)
      go_simp
      refine hK _ _ ?_ ?_
      · exact ((Below.refl _ W1).drew).alloc (Nat.le_refl _) _
      try intro _
      clear hK K
      refine wpAnyH_ready (rs := [11]) (by kernel_rfl) (by simp) (AllReadyH.cons rfl (fun K hK => ?_) AllReadyH.nil)
      go_simp
      refine hK _ _ ?_ ?_
      · exact ((Below.refl _ W1).drew).alloc (Nat.le_refl _) _
      try intro _
      clear hK K
      refine wpAnyH_done (by kernel_rfl) ?_ _
      clear L1
      go_wp2
      go_ret
      rw [hE.out]
      exact ⟨rfl, fun _ => by repeat (first | exact HBW.out | apply Below.drew | refine Below.alloc ?_ (by omega) _), fun h => by cases h⟩
  · have hE : Hid (E = 27) := by
      show E = 27
      rw [← HE.out, markE, HX.out]
      simp only
      rw [if_pos (by simpa using hgood)]
    clear HE HX q0
    cases ok
    · go_wp2
      go_ret
      rw [hE.out]
      exact ⟨rfl, fun _ => HB.out.alloc (by omega) _, fun h => by cases h⟩
    · by_cases h1 : num < 1
      · go_wp2
        go_ret
        rw [hE.out]
        exact ⟨rfl, fun _ => HB.out.alloc (by omega) _, fun h => by cases h⟩
      · have h2 : nd < num := by simp at hgood; omega
        clear hgood
        go_wp2
        go_ret
        rw [hE.out]
        exact ⟨rfl, fun _ => HB.out.alloc (by omega) _, fun h => by cases h⟩
end Go.Proofs.YtnfadmifdncjoaaGreat.Cf
namespace Go.Proofs.YtnfadmifdncjoaaGreat.Cf
set_option linter.unusedSimpArgs false
set_option linter.unusedVariables false
open Go.RowKit Go.Maps

structure Ge where
  base : Int
  bm : Int
  tb : Int
  da : Int
  bl : Int
  nd : Int
def Ge.cells (g : Ge) : List Value := [.int .i64 g.base, .int .i64 g.bm, .int .i64 g.tb, .int .i64 g.da, .int .i64 g.bl, .int .i64 g.nd]
def geoAt (b : Int) (r : Rg) : Ge := ⟨b, ((r.bl + 7) / 8 + 63) / 64, (r.nd * 32 + 63) / 64, b + ((r.bl + 7) / 8 + 63) / 64 + (r.nd * 32 + 63) / 64, r.bl, r.nd⟩
def Ge.fin (g : Ge) : Int := g.da + g.bl
def layStep (a : List Ge × Int) (r : Rg) : List Ge × Int := (a.1 ++ [geoAt a.2 r], (geoAt a.2 r).fin)
def layF (rs : List Rg) : List Ge × Int := rs.foldl layStep ([], 32)
def flatG (gs : List Ge) : List Value := gs.flatMap Ge.cells
def Small (r : Rg) : Prop := 4 ≤ r.bl ∧ r.bl ≤ 512 ∧ 4 ≤ r.nd ∧ r.nd ≤ 128

theorem layF_take (rs : List Rg) (k : Nat) (h : k < rs.length) : layF (rs.take (k + 1)) = layStep (layF (rs.take k)) rs[k] := fold_take _ _ _ _ h
theorem layF_len (rs : List Rg) : ∀ k, k ≤ rs.length → (layF (rs.take k)).1.length = k
  | 0, _ => by simp [layF]
  | k + 1, h => by
    rw [layF_take rs k (by omega), layStep]
    simp only [List.length_append, List.length_singleton]
    rw [layF_len rs k (by omega)]
theorem layF_range (rs : List Rg) (hs : ∀ r ∈ rs, Small r) : ∀ k : Nat, k ≤ rs.length → 32 ≤ (layF (rs.take k)).2 ∧ (layF (rs.take k)).2 ≤ 32 + 600 * k
  | 0, _ => by simp [layF]
  | k + 1, h => by
    obtain ⟨h1, h2⟩ := layF_range rs hs k (by omega)
    obtain ⟨s1, s2, s3, s4⟩ := hs rs[k] (List.getElem_mem _)
    rw [layF_take rs k (by omega), layStep]
    simp only [geoAt, Ge.fin]
    omega

theorem blocks_any (n : Int) (w : World) (h0 : 0 ≤ n) (h1 : n < 1000000) : Calls Tryz.prog 115 #[.int .i64 n] w fun e w' => e = .returned (.int .i64 ((n + 63) / 64)) ∧ w' = w := by
  go_enter Tryz.func115, Tryz.ntmps115
  go_wp2
  go_ret
  exact ⟨ret_int (by congr 1; omega), rfl⟩
theorem end_any (b bm tb da bl nd : Int) (w : World) (h0 : 0 ≤ da) (h1 : da < 1000000) (h2 : 0 ≤ bl) (h3 : bl < 1000000) : Calls Tryz.prog 87 #[.agg #[.int .i64 b, .int .i64 bm, .int .i64 tb, .int .i64 da, .int .i64 bl, .int .i64 nd]] w fun e w' => e = .returned (.int .i64 (da + bl)) ∧ Below w.heap.size w w' := by
  go_enter Tryz.func87, Tryz.ntmps87
  go_wp2
  go_ret
  exact ⟨rfl, (Below.refl _ _).alloc (Nat.le_refl _) _⟩

set_option maxHeartbeats 2000000 in
set_option maxRecDepth 100000 in
theorem lay_some (b off cap : Nat) (rs : List Rg) (w : World) (hbl : b < w.heap.size) (hm : rs.length ≤ 64) (hs : ∀ r ∈ rs, Small r) (hr : Row9 w b off rs) :
    Calls Tryz.prog 80 #[.slice (some ⟨b, off, none⟩) rs.length cap] w fun e w' => ∃ v, e = .returned v ∧ w'.ownsRow w.heap.size 133 6 v rs.length (flatG (layF rs).1) ∧ Below w.heap.size w w' := by
  obtain ⟨i0, hi, hz0, hz1, hz2⟩ := info_parts Tryz.info69
  obtain ⟨W0, hmk, hown0, hg0⟩ := run_make_own (P := Tryz.prog) w w.heap.size 121 133 i0 _ 6 Tryz.underlying121 hi hz0 hz1 .i64 .i64 rs.length (by rw [hz2]; omega) (by unfold maxLen; omega) (Nat.le_refl _)
  have hb0 : Below w.heap.size w W0 := (Below.refl _ w).grown hg0 (Nat.le_refl _) (fun k hk => by cases hk)
  have HR := Lib.hid hr
  have HS := Lib.hid hs
  have HO := Lib.hid hown0
  clear hr hs hown0 hg0
  go_enter Tryz.func80, Tryz.ntmps80
  go_wp2
  go_loopw [3, 4, 13] (fun v bs i wr => ∃ k : Nat, k ≤ rs.length ∧ i = .int .i64 k ∧ bs = .int .i64 (layF (rs.take k)).2 ∧ wr.ownsRow w.heap.size 133 6 v k (flatG (layF (rs.take k)).1) ∧ Below w.heap.size w wr) (fun _ _ i _ => rs.length - (intOf i).toNat)
  case atStart => exact ⟨0, by omega, rfl, by simp [layF], by simpa [layF, flatG] using HO.out, hb0⟩
  case round =>
    obtain ⟨k, hk, rfl, rfl, hown, hb⟩ := hrel
    have HW := Lib.hid hown
    clear hown
    have hwz := hb.size
    by_cases hlt : k < rs.length
    · have HL := Lib.hid (layF_take rs k hlt)
      have e0 := (hb.cell (p := ⟨b, off + k * 9, none⟩) hbl).trans (HR.out.k0 k hlt)
      have e1 := (hb.cell (p := ⟨b, off + k * 9 + 1, none⟩) hbl).trans (HR.out.k1 k hlt)
      have e2 := (hb.cell (p := ⟨b, off + k * 9 + 2, none⟩) hbl).trans (HR.out.k2 k hlt)
      have e3 := (hb.cell (p := ⟨b, off + k * 9 + 3, none⟩) hbl).trans (HR.out.k3 k hlt)
      have e4 := (hb.cell (p := ⟨b, off + k * 9 + 4, none⟩) hbl).trans (HR.out.k4 k hlt)
      have e5 := (hb.cell (p := ⟨b, off + k * 9 + 5, none⟩) hbl).trans (HR.out.k5 k hlt)
      have e6 := (hb.cell (p := ⟨b, off + k * 9 + 6, none⟩) hbl).trans (HR.out.k6 k hlt)
      have e7 := (hb.cell (p := ⟨b, off + k * 9 + 7, none⟩) hbl).trans (HR.out.k7 k hlt)
      have e8 := (hb.cell (p := ⟨b, off + k * 9 + 8, none⟩) hbl).trans (HR.out.k8 k hlt)
      obtain ⟨r1, r2⟩ := layF_range rs HS.out k hk
      obtain ⟨s1, s2, s3, s4⟩ := HS.out rs[k] (List.getElem_mem _)
      generalize rs[k] = r at *
      obtain ⟨nm, lv, cs, bl, nd, fr, pr, op, cl⟩ := r
      obtain ⟨bs, hbs⟩ : ∃ x, (layF (rs.take k)).2 = x := ⟨_, rfl⟩
      rw [hbs] at r1 r2 ⊢
      have HBS := Lib.hid hbs
      clear hbs
      simp only at s1 s2 s3 s4 e0 e1 e2 e3 e4 e5 e6 e7 e8
      have hB := Lib.hid hb
      clear hb hmk HO hb0
      go_wp2_with fail
      refine (blocks_any _ _ (by omega) (by omega)).mono ?_
      rintro e w1 ⟨rfl, rfl⟩
      go_wp2_with fail
      refine (blocks_any _ _ (by omega) (by omega)).mono ?_
      rintro e w1 ⟨rfl, rfl⟩
      go_wp2_with fail
      obtain ⟨X, hX⟩ : ∃ x, ((bl + 7) / 8 + 63) / 64 = x := ⟨_, rfl⟩
      obtain ⟨Y, hY⟩ : ∃ x, (nd * 32 + 63) / 64 = x := ⟨_, rfl⟩
      have hX0 : 0 ≤ X ∧ X ≤ 2 := by omega
      have hY0 : 0 ≤ Y ∧ Y ≤ 70 := by omega
      have HG : Hid (geoAt bs ⟨nm, lv, cs, bl, nd, fr, pr, op, cl⟩ = ⟨bs, X, Y, bs + X + Y, bl, nd⟩) := by
        show geoAt _ _ = _
        simp only [geoAt, hX, hY]
      rw [hX, hY]
      clear hX hY
      refine (end_any bs X Y (bs + X + Y) bl nd _ (by omega) (by omega) (by omega) (by omega)).mono ?_
      rintro e w1 ⟨rfl, hb1⟩
      have hzw := hb1.size
      simp at hzw
      have hlt1 : wr.heap.size + 1 < w1.heap.size := by omega
      have g0 : w1.cell? ⟨wr.heap.size + 1, 0, none⟩ = some (.int .i64 bs) := (hb1.cell (p := ⟨wr.heap.size + 1, 0, none⟩) (by simp)).trans (by simp)
      have g1 : w1.cell? ⟨wr.heap.size + 1, 1, none⟩ = some (.int .i64 X) := (hb1.cell (p := ⟨wr.heap.size + 1, 1, none⟩) (by simp)).trans (by simp)
      have g2 : w1.cell? ⟨wr.heap.size + 1, 2, none⟩ = some (.int .i64 Y) := (hb1.cell (p := ⟨wr.heap.size + 1, 2, none⟩) (by simp)).trans (by simp)
      have g3 : w1.cell? ⟨wr.heap.size + 1, 3, none⟩ = some (.int .i64 (bs + X + Y)) := (hb1.cell (p := ⟨wr.heap.size + 1, 3, none⟩) (by simp)).trans (by simp)
      have g4 : w1.cell? ⟨wr.heap.size + 1, 4, none⟩ = some (.int .i64 bl) := (hb1.cell (p := ⟨wr.heap.size + 1, 4, none⟩) (by simp)).trans (by simp)
      have g5 : w1.cell? ⟨wr.heap.size + 1, 5, none⟩ = some (.int .i64 nd) := (hb1.cell (p := ⟨wr.heap.size + 1, 5, none⟩) (by simp)).trans (by simp)
      have hB01 : Below wr.heap.size wr w1 := (((Below.refl _ wr).alloc (Nat.le_refl _) _).alloc (by simp) _).trans (hb1.mono (by simp; omega))
      have HB1 := Lib.hid (hB.out.trans (hB01.mono hwz))
      have HO1 := Lib.hid (ownsRow_below HW.out hB01)
      clear hb1 hB01 e0 e1 e2 e3 e4 e5 e6 e7 e8 HW hB
      go_wp2_with (first | (at_builtin; refine wpList_append_own _ rfl _ _ 121 rfl w.heap.size 133 i0 _ 6 48 Tryz.underlying121 hi hz0 hz1 hz2 rfl (by decide) _ _ _ rfl (HO1.out.alloc _) ⟨w1.heap.size, 0, none⟩ 1 1 [.int .i64 bs, .int .i64 X, .int .i64 Y, .int .i64 (bs + X + Y), .int .i64 bl, .int .i64 nd] rfl rfl (cells_new w1 _ 133) (by simp [Value.oneCell']) (by unfold maxLen; omega) (by omega) (by simp; omega) ?_))
      intro v' w2 hown' hgrow _
      have hb2 := Lib.hid ((HB1.out.alloc (by omega) (.cells #[.int .i64 bs, .int .i64 X, .int .i64 Y, .int .i64 (bs + X + Y), .int .i64 bl, .int .i64 nd] 133)).grown hgrow (by simp; omega) (ownsRow_block HO1.out))
      have HO2 := Lib.hid hown'
      clear hown' hgrow HO1 HB1 g0 g1 g2 g3 g4 g5
      go_wp2
      go_roundw
      case rel =>
        refine ⟨k + 1, by omega, by go_num, ?_, ?_, hb2.out⟩
        · rw [HL.out, layStep, HBS.out, HG.out]; rfl
        · rw [HL.out, layStep, HBS.out, HG.out]
          simpa [flatG, Ge.cells] using HO2.out
      case measure => simp [intOf]; omega
    · obtain rfl : k = rs.length := by omega
      go_wp2
      go_ret
      refine ⟨_, rfl, ?_, hb⟩
      have := HW.out
      rwa [List.take_length] at this
end Go.Proofs.YtnfadmifdncjoaaGreat.Cf

namespace Go.Proofs.YtnfadmifdncjoaaGreat.Cf
set_option linter.unusedSimpArgs false
set_option linter.unusedVariables false
open Go.RowKit Go.Maps

def putAt (key : Rg → Lit) (a : DataW Unit × Nat) (r : Rg) : DataW Unit × Nat := (a.1.put (key r) (.lit (.int .i64 a.2)), a.2 + 1)
/-- a map filled with the places of a list's members -/
def gF (key : Rg → Lit) (rs : List Rg) : DataW Unit × Nat := rs.foldl (putAt key) (.map [], 0)
def gD (key : Rg → Lit) (rs : List Rg) : DataW Unit := (gF key rs).1
theorem gF_snd (key : Rg → Lit) : ∀ (rs : List Rg) (a : DataW Unit × Nat), (rs.foldl (putAt key) a).2 = a.2 + rs.length
  | [], a => by simp
  | r :: rs, a => by rw [List.foldl_cons, gF_snd key rs]; simp [putAt]; omega
theorem gD_snoc (key : Rg → Lit) (rs : List Rg) (r : Rg) : gD key (rs ++ [r]) = (gD key rs).put (key r) (.lit (.int .i64 rs.length)) := by
  unfold gD gF
  rw [List.foldl_append, List.foldl_cons, List.foldl_nil, putAt, gF_snd]
  simp
theorem gD_isMap (key : Rg → Lit) (rs : List Rg) : IsMap (gD key rs) := by
  have : ∀ (rs : List Rg) (a : DataW Unit × Nat), IsMap a.1 → IsMap (rs.foldl (putAt key) a).1 := by
    intro rs
    induction rs with
    | nil => intro a h; exact h
    | cons r rs ih => intro a h; rw [List.foldl_cons]; exact ih _ (h.put _ _)
  exact this rs _ isMap_empty
theorem list_snoc_rec {α : Type} {P : List α → Prop} (h0 : P []) (h1 : ∀ l a, P l → P (l ++ [a])) (l : List α) : P l := by
  have : ∀ n (l : List α), l.length = n → P l := by
    intro n
    induction n with
    | zero => intro l hl; obtain rfl := List.eq_nil_of_length_eq_zero hl; exact h0
    | succ n ih =>
      intro l hl
      have hne : l ≠ [] := by intro e; subst e; simp at hl
      rw [← List.dropLast_concat_getLast hne]
      exact h1 _ _ (ih _ (by simp [hl]))
  exact this _ l rfl
theorem gD_has (key : Rg → Lit) (hk : ∀ r, WideAt.IsKeyLit (key r)) (kl : Lit) (rs : List Rg) : Maps.has (gD key rs) kl = rs.any (fun r => (key r).sameKey kl) := by
  induction rs using list_snoc_rec with
  | h0 => rfl
  | h1 rs r ih =>
    rw [gD_snoc, List.any_append]
    by_cases e : key r = kl
    · subst e
      rw [has_put_same (gD_isMap key rs) (hk r)]
      simp [WideAt.sameKey_self (hk r)]
    · rw [has_put_other (fun h => e h.symm), ih]
      simp [sameKey_ne e]
theorem gD_at (key : Rg → Lit) (hk : ∀ r, WideAt.IsKeyLit (key r)) (rs : List Rg) (hd : ∀ i j (hi : i < rs.length) (hj : j < rs.length), key rs[i] = key rs[j] → i = j) (i : Nat) (hi : i < rs.length) : atI (gD key rs) (key rs[i]) = i := by
  induction rs using list_snoc_rec with
  | h0 => simp at hi
  | h1 rs r ih =>
    rw [gD_snoc]
    have hl : (rs ++ [r]).length = rs.length + 1 := by simp
    by_cases e : i = rs.length
    · subst e
      have : (rs ++ [r])[rs.length] = r := by simp
      rw [this]
      unfold atI
      rw [atKey_put_same (gD_isMap key rs) (hk r)]
    · have hi' : i < rs.length := by omega
      have e1 : (rs ++ [r])[i] = rs[i] := by rw [List.getElem_append_left hi']
      have e2 : (rs ++ [r])[rs.length]'(by omega) = r := by simp
      rw [e1]
      have hne : key rs[i] ≠ key r := by
        intro h
        have := hd i rs.length hi (by omega) (by rw [e1, e2]; exact h)
        omega
      have : atI ((gD key rs).put (key r) (.lit (.int .i64 rs.length))) (key rs[i]) = atI (gD key rs) (key rs[i]) := by
        unfold atI
        rw [atKey_put_other hne]
      rw [this]
      refine ih (fun a b ha hb h => hd a b (by omega) (by omega) ?_) hi'
      rw [List.getElem_append_left ha, List.getElem_append_left hb]
      exact h

/-- the mistake of the k-th label, as its own sentence says -/
def oneE (rs : List Rg) (k : Nat) : Int :=
  let r := rs.getD k zeroRg
  if nameB r.nm = false then 30 else if (haveB r && decide (0 ≤ r.cl) && decide (r.cl < rs.length)) = false then 27
  else if ((rs.take k).any fun x => decide (x.nm = r.nm) || (decide (x.lv = r.lv) && decide (x.cs = r.cs))) = true then 29 else 0
def regsE (rs : List Rg) : Nat → Int
  | 0 => 0
  | k + 1 => if regsE rs k = 0 then oneE rs k else regsE rs k
theorem regsE_bad (rs : List Rg) (k : Nat) (h : regsE rs k ≠ 0) : ∀ n, k ≤ n → regsE rs n = regsE rs k := by
  intro n hn
  induction n with
  | zero => obtain rfl : k = 0 := by omega
            rfl
  | succ n ih =>
    rcases Nat.lt_or_ge n k with h' | h'
    · obtain rfl : k = n + 1 := by omega
      rfl
    · rw [regsE, ih h', if_neg h]
def permB (rs : List Rg) : Nat → Bool
  | 0 => true
  | k + 1 => permB rs k && leqAt rs k (rs.getD k zeroRg).cl
theorem permB_bad (rs : List Rg) (k : Nat) (h : permB rs k = false) : ∀ n, k ≤ n → permB rs n = false := by
  intro n hn
  induction n with
  | zero => obtain rfl : k = 0 := by omega
            exact h
  | succ n ih =>
    rcases Nat.lt_or_ge n k with h' | h'
    · obtain rfl : k = n + 1 := by omega
      exact h
    · rw [permB, ih h']; rfl
def markOne (rs : List Rg) (ms : List (Int × Int)) (k : Nat) : Int :=
  let m := ms.getD k (0, 0)
  if ((regAt rs m.1).2 && decide (1 ≤ m.2) && decide (m.2 ≤ (regAt rs m.1).1.nd)) = false then 27 else if ((ms.take k).any fun x => decide (x.1 = m.1) && decide (x.2 = m.2)) = true then 29 else 0
def marksE (rs : List Rg) (ms : List (Int × Int)) : Nat → Int
  | 0 => 0
  | k + 1 => if marksE rs ms k = 0 then markOne rs ms k else marksE rs ms k
theorem marksE_bad (rs : List Rg) (ms : List (Int × Int)) (k : Nat) (h : marksE rs ms k ≠ 0) : ∀ n, k ≤ n → marksE rs ms n = marksE rs ms k := by
  intro n hn
  induction n with
  | zero => obtain rfl : k = 0 := by omega
            rfl
  | succ n ih =>
    rcases Nat.lt_or_ge n k with h' | h'
    · obtain rfl : k = n + 1 := by omega
      rfl
    · rw [marksE, ih h', if_neg h]
/-- New's error -/
def newE (rs : List Rg) (ms : List (Int × Int)) : Int :=
  if rs.length < 1 ∨ 64 < rs.length then 23
  else if regsE rs rs.length ≠ 0 then regsE rs rs.length
  else if (decide ((rs.getD 0 zeroRg).lv = 0) && decide ((rs.getD 0 zeroRg).cs = 0)) = false then 25
  else if permB rs rs.length = false then 2
  else marksE rs ms ms.length

theorem any_or2 {α : Type} (p q : α → Bool) : ∀ l : List α, (l.any p || l.any q) = l.any fun x => p x || q x
  | [] => rfl
  | x :: l => by
    rw [List.any_cons, List.any_cons, List.any_cons, ← any_or2 p q l]
    cases p x <;> cases q x <;> cases l.any p <;> rfl
def nmKey (r : Rg) : Lit := strKey r.nm
def lbKey (r : Rg) : Lit := labKey r.lv r.cs
theorem regE_one (rs : List Rg) (hok : ∀ r ∈ rs, r.ok) (k : Nat) (hk : k < rs.length) : regE (gD nmKey (rs.take k)) (gD lbKey (rs.take k)) rs.length rs[k] = oneE rs k := by
  unfold regE oneE
  have e : rs.getD k zeroRg = rs[k] := by rw [List.getD_eq_getElem?_getD, List.getElem?_eq_getElem hk]; rfl
  simp only [e]
  rw [gD_has nmKey (fun r => strKey_key _), gD_has lbKey (fun r => labKey_key _ _)]
  have e1 : (List.any (rs.take k) fun r => (nmKey r).sameKey (strKey rs[k].nm)) = (List.any (rs.take k) fun r => decide (r.nm = rs[k].nm)) := by
    apply List.any_congr rfl
    intro r
    rw [Bool.eq_iff_iff, WideAt.sameKey_iff (strKey_key _), decide_eq_true_iff]
    exact ⟨fun h => strKey_inj h, fun h => by unfold nmKey; rw [h]⟩
  have e2 : (List.any (rs.take k) fun r => (lbKey r).sameKey (labKey rs[k].lv rs[k].cs)) = (List.any (rs.take k) fun x => (decide (x.lv = rs[k].lv) && decide (x.cs = rs[k].cs))) := by
    rw [Bool.eq_iff_iff, List.any_eq_true, List.any_eq_true]
    have hkok := hok rs[k] (List.getElem_mem _)
    constructor
    · rintro ⟨x, hx, h⟩
      have hxok := hok x (List.mem_of_mem_take hx)
      obtain ⟨h1, h2⟩ := labKey_inj ⟨hxok.2.1, hxok.2.2.1⟩ ⟨hxok.2.2.2.1, hxok.2.2.2.2⟩ ⟨hkok.2.1, hkok.2.2.1⟩ ⟨hkok.2.2.2.1, hkok.2.2.2.2⟩ ((WideAt.sameKey_iff (labKey_key _ _)).1 h)
      exact ⟨x, hx, by simp [h1, h2]⟩
    · rintro ⟨x, hx, h⟩
      refine ⟨x, hx, ?_⟩
      simp only [Bool.and_eq_true, decide_eq_true_eq] at h
      rw [WideAt.sameKey_iff (labKey_key _ _)]
      unfold lbKey
      rw [h.1, h.2]
  rw [e1, e2, any_or2]
end Go.Proofs.YtnfadmifdncjoaaGreat.Cf

namespace Go.Proofs.YtnfadmifdncjoaaGreat.Cf
set_option linter.unusedSimpArgs false
set_option linter.unusedVariables false
open Go.RowKit Go.Maps

/-- a slice of marks -/
structure Row2 (w : World) (b off : Nat) (ms : List (Int × Int)) : Prop where
  k0 : ∀ i (h : i < ms.length), w.cell? ⟨b, off + i * 2, none⟩ = some (.int .u8 ms[i].1)
  k1 : ∀ i (h : i < ms.length), w.cell? ⟨b, off + i * 2 + 1, none⟩ = some (.int .u16 ms[i].2)
theorem Row2.below {w w' : World} {B b off : Nat} {ms : List (Int × Int)} (h : Row2 w b off ms) (hb : Below B w w') (hB : b < B) : Row2 w' b off ms :=
  ⟨fun i hi => (hb.cell (p := ⟨b, off + i * 2, none⟩) hB).trans (h.k0 i hi), fun i hi => (hb.cell (p := ⟨b, off + i * 2 + 1, none⟩) hB).trans (h.k1 i hi)⟩
def Mks (w : World) (v : Value) (ms : List (Int × Int)) : Prop :=
  (∃ a cap, v = .slice a 0 cap ∧ ms = []) ∨ ∃ b off cap, v = .slice (some ⟨b, off, none⟩) ms.length cap ∧ b < w.heap.size ∧ ms.length ≤ maxLen ∧ Row2 w b off ms
theorem Mks.below {w w' : World} {v : Value} {ms : List (Int × Int)} (h : Mks w v ms) (hb : Below w.heap.size w w') : Mks w' v ms := by
  rcases h with h | ⟨b, off, cap, hv, hl, hm, hr⟩
  · exact .inl h
  · exact .inr ⟨b, off, cap, hv, Nat.lt_of_lt_of_le hl hb.size, hm, hr.below hb hl⟩
theorem Mks.form {w : World} {v : Value} {ms : List (Int × Int)} (h : Mks w v ms) : ∃ a cap, v = .slice a ms.length cap := by
  rcases h with ⟨a, cap, rfl, rfl⟩ | ⟨b, off, cap, rfl, _⟩
  · exact ⟨a, cap, rfl⟩
  · exact ⟨_, cap, rfl⟩
theorem Mks.row {w : World} {v : Value} {ms : List (Int × Int)} (h : Mks w v ms) (h0 : 0 < ms.length) : ∃ b off cap, v = .slice (some ⟨b, off, none⟩) ms.length cap ∧ b < w.heap.size ∧ ms.length ≤ maxLen ∧ Row2 w b off ms := by
  rcases h with ⟨a, cap, rfl, rfl⟩ | h
  · exact absurd h0 (Nat.lt_irrefl _)
  · exact h
def markOk (m : Int × Int) : Prop := 0 ≤ m.1 ∧ m.1 < 256 ∧ 0 ≤ m.2 ∧ m.2 < 65536
/-- the set of marks, as a map -/
def tD (ms : List (Int × Int)) : DataW Unit := ms.foldl (fun D m => D.put (labKey m.1 m.2) (.agg [])) (.map [])
theorem tD_snoc (ms : List (Int × Int)) (m : Int × Int) : tD (ms ++ [m]) = (tD ms).put (labKey m.1 m.2) (.agg []) := by
  unfold tD; rw [List.foldl_append]; rfl
theorem tD_isMap (ms : List (Int × Int)) : IsMap (tD ms) := by
  induction ms using list_snoc_rec with
  | h0 => exact isMap_empty
  | h1 ms m ih => rw [tD_snoc]; exact ih.put _ _
theorem tD_has (kl : Lit) (ms : List (Int × Int)) : Maps.has (tD ms) kl = ms.any (fun m => (labKey m.1 m.2).sameKey kl) := by
  induction ms using list_snoc_rec with
  | h0 => rfl
  | h1 ms m ih =>
    rw [tD_snoc, List.any_append]
    by_cases e : labKey m.1 m.2 = kl
    · subst e
      rw [has_put_same (tD_isMap ms) (labKey_key _ _)]
      simp [WideAt.sameKey_self (labKey_key _ _)]
    · rw [has_put_other (fun h => e h.symm), ih]
      simp [sameKey_ne e]
theorem tD_has2 (a b : Int) (ms : List (Int × Int)) (hok : ∀ m ∈ ms, markOk m) (h : markOk (a, b)) : Maps.has (tD ms) (labKey a b) = ms.any (fun m => decide (m.1 = a) && decide (m.2 = b)) := by
  rw [tD_has, Bool.eq_iff_iff, List.any_eq_true, List.any_eq_true]
  constructor
  · rintro ⟨x, hx, h'⟩
    have hxok := hok x hx
    obtain ⟨h1, h2⟩ := labKey_inj ⟨hxok.1, hxok.2.1⟩ ⟨hxok.2.2.1, hxok.2.2.2⟩ ⟨h.1, h.2.1⟩ ⟨h.2.2.1, h.2.2.2⟩ ((WideAt.sameKey_iff (labKey_key _ _)).1 h')
    exact ⟨x, hx, by simp [h1, h2]⟩
  · rintro ⟨x, hx, h'⟩
    simp only [Bool.and_eq_true, decide_eq_true_eq] at h'
    refine ⟨x, hx, ?_⟩
    rw [WideAt.sameKey_iff (labKey_key _ _), h'.1, h'.2]
theorem markE_one (rs : List Rg) (ms : List (Int × Int)) (hok : ∀ m ∈ ms, markOk m) (k : Nat) (hk : k < ms.length) : markE rs (tD (ms.take k)) ms[k] = markOne rs ms k := by
  unfold markE markOne
  have e : ms.getD k (0, 0) = ms[k] := by rw [List.getD_eq_getElem?_getD, List.getElem?_eq_getElem hk]; rfl
  simp only [e]
  rw [tD_has2 ms[k].1 ms[k].2 _ (fun m hm => hok m (List.mem_of_mem_take hm)) (hok ms[k] (List.getElem_mem _))]
/-- a configuration as New leaves it -/
structure CF (n : Nat) (w : World) (vr vm vg : Value) (rs : List Rg) (ms : List (Int × Int)) : Prop where
  cb : CB n w vr vm vg
  row : w.ownsRow (n + 4) 41 9 vr rs.length (flatR rs)
  rm : w.ownsRow (n + 4) 177 2 vm ms.length (flatM ms)
  rg : w.ownsRow (n + 4) 133 6 vg rs.length (flatG (layF rs).1)
  mn : w.ownsMap Tryz.prog 9 (plainElem Tryz.prog 3) n rs.length (gD nmKey rs)
  ml : w.ownsMap Tryz.prog 39 (plainElem Tryz.prog 3) (n + 1) rs.length (gD lbKey rs)
  mt : w.ownsMap Tryz.prog 177 (unitElem (H := Unit)) (n + 2) ms.length (tD ms)
theorem CF.below {n : Nat} {w w' : World} {vr vm vg : Value} {rs : List Rg} {ms : List (Int × Int)} (h : CF n w vr vm vg rs ms) (hb : Below w.heap.size w w') : CF n w' vr vm vg rs ms := by
  have := h.cb.lt
  exact ⟨h.cb.below hb this, ownsRow_below h.row hb, ownsRow_below h.rm hb, ownsRow_below h.rg hb, ownsMap_below h.mn hb (by omega), ownsMap_below h.ml hb (by omega), ownsMap_below h.mt hb (by omega)⟩
/-- what New leaves -/
def NewPost (rs : List Rg) (ms : List (Int × Int)) (w : World) (e : Ending) (w' : World) : Prop :=
  (newE rs ms ≠ 0 → e = .returned (.tuple #[.pointer none, .int .i64 (newE rs ms)]) ∧ Below w.heap.size w w') ∧
  (newE rs ms = 0 → ∃ n vr vm vg, e = .returned (.tuple #[.pointer (some ⟨n + 3, 0, none⟩), .int .i64 0]) ∧ w.heap.size ≤ n ∧ Below w.heap.size w w' ∧ CF n w' vr vm vg rs ms)
theorem NewPost.bad {rs : List Rg} {ms : List (Int × Int)} {w w' : World} {e : Ending} (E : Int) (hE : newE rs ms = E) (h0 : E ≠ 0) (he : e = .returned (.tuple #[.pointer none, .int .i64 E])) (hb : Below w.heap.size w w') : NewPost rs ms w e w' := by
  subst hE
  exact ⟨fun _ => ⟨he, hb⟩, fun h => absurd h h0⟩
end Go.Proofs.YtnfadmifdncjoaaGreat.Cf

namespace Go.Proofs.YtnfadmifdncjoaaGreat.Cf
set_option linter.unusedSimpArgs false
set_option linter.unusedVariables false
open Go.RowKit Go.Maps

theorem wpAnyH_mono {P : Program} {md : Region.Mode} {ops : Array Oper} {Q : Exit → Act → World → Prop} {S S' : World → Prop} (h : ∀ w, S' w → S w) :
    ∀ (fuel : Nat) (listed : Array Bool) (a : Act) (w : World), wpAnyH P md ops Q S' fuel listed a w → wpAnyH P md ops Q S fuel listed a w
  | 0, _, _, _, hh => hh
  | fuel + 1, listed, a, w, hh => ⟨hh.1, fun i hi => wpOp_mono (fun a' w' h' => ⟨h w' h'.1, wpAnyH_mono h fuel _ a' w' h'.2⟩) (hh.2 i hi)⟩

def nmL (i : Nat) : ByteArray := if i = 0 then ⟨#[108, 111, 119]⟩ else if i = 1 then ⟨#[114, 101, 100]⟩ else if i = 2 then ⟨#[98, 108, 117, 101]⟩ else if i = 3 then ⟨#[116, 111, 112]⟩ else ⟨#[104, 105, 103, 104]⟩
def lvL (i : Nat) : Int := if i = 0 then 0 else if i = 1 then 1 else if i = 2 then 1 else if i = 3 then 2 else 9
def csL (i : Nat) : Int := if i = 0 then 0 else if i = 1 then 1 else if i = 2 then 2 else if i = 3 then 3 else 7

theorem lawnames_any (w : World) : Calls Tryz.prog 85 #[] w fun e w' => ∃ A, e = .returned (.slice (some ⟨A, 0, none⟩) 5 5) ∧ w.heap.size ≤ A ∧ A < w'.heap.size ∧ (∀ i, i < 5 → w'.cell? ⟨A, i, none⟩ = some (.string (nmL i))) ∧ Below w.heap.size w w' := by
  go_enter Tryz.func85, Tryz.ntmps85
  go_wp2
  go_ret
  refine ⟨w.heap.size, rfl, Nat.le_refl _, by simp, fun i hi => ?_, (Below.refl _ _).alloc (Nat.le_refl _) _⟩
  match i, hi with
  | 0, _ | 1, _ | 2, _ | 3, _ | 4, _ => simp [World.cell?_alloc_new, nmL]
theorem lawlabels_any (w : World) : Calls Tryz.prog 86 #[] w fun e w' => ∃ A, e = .returned (.slice (some ⟨A, 0, none⟩) 5 5) ∧ w.heap.size ≤ A ∧ A < w'.heap.size ∧ (∀ i, i < 5 → w'.cell? ⟨A, i * 2, none⟩ = some (.int .u8 (lvL i))) ∧ (∀ i, i < 5 → w'.cell? ⟨A, i * 2 + 1, none⟩ = some (.int .u16 (csL i))) ∧ Below w.heap.size w w' := by
  go_enter Tryz.func86, Tryz.ntmps86
  go_wp2
  go_ret
  refine ⟨w.heap.size, rfl, Nat.le_refl _, by simp, fun i hi => ?_, fun i hi => ?_, (Below.refl _ _).alloc (Nat.le_refl _) _⟩
  all_goals
    match i, hi with
    | 0, _ | 1, _ | 2, _ | 3, _ | 4, _ => simp [World.cell?_alloc_new, lvL, csL]

/-- what a size says of one label -/
def sizeRg (many : Nat) (H : Nat → Nat → Int) (i : Nat) : Rg :=
  ⟨nmL i, lvL i, csL i, 8 + H i 0 % 60, 8 + 2 * (H i 1 % 12), 4 + H i 2 % 40, 1 + H i 3 % 6, 2 + H i 4 % 14, if many = 2 then 1 else if many < 4 ∧ 0 < i then (i : Int) else (many : Int) - 1⟩
def sizeR0 (many : Nat) (H : Nat → Nat → Int) : List Rg := (List.range many).map (sizeRg many H)
/-- .. and of all of them -/
def sizeRs (many : Nat) (H : Nat → Nat → Int) : List Rg := if many = 3 then (sizeR0 many H).set 0 { sizeRg many H 0 with cl := 1 } else sizeR0 many H
def sizeMk (many : Nat) (x : Int) : Int × Int := (x % (many : Int), 4 + x / 8 % 4)
def sizeMStep (many : Nat) (a : List (Int × Int) × Nat) (x : Int) : List (Int × Int) × Nat :=
  (if 8 < a.2 ∨ sizeMk many x ∈ a.1 then a.1 else a.1 ++ [sizeMk many x], a.2 + 1)
def sizeMs (many : Nat) (ts : List Int) : List (Int × Int) := (ts.foldl (sizeMStep many) ([], 0)).1
end Go.Proofs.YtnfadmifdncjoaaGreat.Cf

namespace Go.Proofs.YtnfadmifdncjoaaGreat.Cf
set_option linter.unusedSimpArgs false
set_option linter.unusedVariables false
open Go.RowKit Go.Maps

/-- block g has nine cells that may be written -/
structure Free9 (w : World) (g : Nat) : Prop where
  lt : g < w.heap.size
  c0 : ∃ v, w.cell? ⟨g, 0, none⟩ = some v
  c1 : ∃ v, w.cell? ⟨g, 1, none⟩ = some v
  c2 : ∃ v, w.cell? ⟨g, 2, none⟩ = some v
  c3 : ∃ v, w.cell? ⟨g, 3, none⟩ = some v
  c4 : ∃ v, w.cell? ⟨g, 4, none⟩ = some v
  c5 : ∃ v, w.cell? ⟨g, 5, none⟩ = some v
  c6 : ∃ v, w.cell? ⟨g, 6, none⟩ = some v
  c7 : ∃ v, w.cell? ⟨g, 7, none⟩ = some v
  c8 : ∃ v, w.cell? ⟨g, 8, none⟩ = some v
  f0 : w.frozen? ⟨g, 0, none⟩ = false
  f1 : w.frozen? ⟨g, 1, none⟩ = false
  f2 : w.frozen? ⟨g, 2, none⟩ = false
  f3 : w.frozen? ⟨g, 3, none⟩ = false
  f4 : w.frozen? ⟨g, 4, none⟩ = false
  f5 : w.frozen? ⟨g, 5, none⟩ = false
  f6 : w.frozen? ⟨g, 6, none⟩ = false
  f7 : w.frozen? ⟨g, 7, none⟩ = false
  f8 : w.frozen? ⟨g, 8, none⟩ = false
theorem Free9.below {w w' : World} {B g : Nat} (h : Free9 w g) (hb : Below B w w') (hg : g < B) : Free9 w' g :=
  ⟨Nat.lt_of_lt_of_le h.lt hb.size, (by obtain ⟨v, hv⟩ := h.c0; exact ⟨v, (hb.cell (p := ⟨g, 0, none⟩) hg).trans hv⟩), (by obtain ⟨v, hv⟩ := h.c1; exact ⟨v, (hb.cell (p := ⟨g, 1, none⟩) hg).trans hv⟩), (by obtain ⟨v, hv⟩ := h.c2; exact ⟨v, (hb.cell (p := ⟨g, 2, none⟩) hg).trans hv⟩), (by obtain ⟨v, hv⟩ := h.c3; exact ⟨v, (hb.cell (p := ⟨g, 3, none⟩) hg).trans hv⟩), (by obtain ⟨v, hv⟩ := h.c4; exact ⟨v, (hb.cell (p := ⟨g, 4, none⟩) hg).trans hv⟩), (by obtain ⟨v, hv⟩ := h.c5; exact ⟨v, (hb.cell (p := ⟨g, 5, none⟩) hg).trans hv⟩), (by obtain ⟨v, hv⟩ := h.c6; exact ⟨v, (hb.cell (p := ⟨g, 6, none⟩) hg).trans hv⟩), (by obtain ⟨v, hv⟩ := h.c7; exact ⟨v, (hb.cell (p := ⟨g, 7, none⟩) hg).trans hv⟩), (by obtain ⟨v, hv⟩ := h.c8; exact ⟨v, (hb.cell (p := ⟨g, 8, none⟩) hg).trans hv⟩), (hb.frozen (p := ⟨g, 0, none⟩) hg).trans h.f0, (hb.frozen (p := ⟨g, 1, none⟩) hg).trans h.f1, (hb.frozen (p := ⟨g, 2, none⟩) hg).trans h.f2, (hb.frozen (p := ⟨g, 3, none⟩) hg).trans h.f3, (hb.frozen (p := ⟨g, 4, none⟩) hg).trans h.f4, (hb.frozen (p := ⟨g, 5, none⟩) hg).trans h.f5, (hb.frozen (p := ⟨g, 6, none⟩) hg).trans h.f6, (hb.frozen (p := ⟨g, 7, none⟩) hg).trans h.f7, (hb.frozen (p := ⟨g, 8, none⟩) hg).trans h.f8⟩
theorem Free9.new (w : World) (a0 a1 a2 a3 a4 a5 a6 a7 a8 : Value) (t : TypeId) : Free9 (w.alloc (.cells #[a0, a1, a2, a3, a4, a5, a6, a7, a8] t)) w.heap.size := by
  refine ⟨by simp, ⟨a0, ?_⟩, ⟨a1, ?_⟩, ⟨a2, ?_⟩, ⟨a3, ?_⟩, ⟨a4, ?_⟩, ⟨a5, ?_⟩, ⟨a6, ?_⟩, ⟨a7, ?_⟩, ⟨a8, ?_⟩, ?_, ?_, ?_, ?_, ?_, ?_, ?_, ?_, ?_⟩
  all_goals first | (simp [World.cell?_alloc_new]; done) | (simp; done)
/-- nine cells, stored one behind the other -/
def set9 (w : World) (g : Nat) (r : Rg) : World := (((((((((w.setCell ⟨g, 0, none⟩ (.string r.nm)).setCell ⟨g, 1, none⟩ (.int .u8 r.lv)).setCell ⟨g, 2, none⟩ (.int .u16 r.cs)).setCell ⟨g, 3, none⟩ (.int .i64 r.bl)).setCell ⟨g, 4, none⟩ (.int .i64 r.nd)).setCell ⟨g, 5, none⟩ (.int .i64 r.fr)).setCell ⟨g, 6, none⟩ (.int .i64 r.pr)).setCell ⟨g, 7, none⟩ (.int .i64 r.op)).setCell ⟨g, 8, none⟩ (.int .i64 r.cl))
theorem set9_box {w : World} {g : Nat} (h : Free9 w g) (r : Rg) : Box9 (set9 w g r) g r := by
  obtain ⟨lt, ⟨v0, c0⟩, ⟨v1, c1⟩, ⟨v2, c2⟩, ⟨v3, c3⟩, ⟨v4, c4⟩, ⟨v5, c5⟩, ⟨v6, c6⟩, ⟨v7, c7⟩, ⟨v8, c8⟩, -, -, -, -, -, -, -, -, -⟩ := h
  unfold set9
  refine ⟨by simp only [size_set]; exact lt, ?_, ?_, ?_, ?_, ?_, ?_, ?_, ?_, ?_⟩
  · rw [World.cell?_setCell_other _ _ _ _ (by simp)]; rw [World.cell?_setCell_other _ _ _ _ (by simp)]; rw [World.cell?_setCell_other _ _ _ _ (by simp)]; rw [World.cell?_setCell_other _ _ _ _ (by simp)]; rw [World.cell?_setCell_other _ _ _ _ (by simp)]; rw [World.cell?_setCell_other _ _ _ _ (by simp)]; rw [World.cell?_setCell_other _ _ _ _ (by simp)]; rw [World.cell?_setCell_other _ _ _ _ (by simp)]; exact World.cell?_setCell_same _ _ _ (show _ = some v0 from by exact c0)
  · rw [World.cell?_setCell_other _ _ _ _ (by simp)]; rw [World.cell?_setCell_other _ _ _ _ (by simp)]; rw [World.cell?_setCell_other _ _ _ _ (by simp)]; rw [World.cell?_setCell_other _ _ _ _ (by simp)]; rw [World.cell?_setCell_other _ _ _ _ (by simp)]; rw [World.cell?_setCell_other _ _ _ _ (by simp)]; rw [World.cell?_setCell_other _ _ _ _ (by simp)]; exact World.cell?_setCell_same _ _ _ (show _ = some v1 from by rw [World.cell?_setCell_other _ _ _ _ (by simp)]; exact c1)
  · rw [World.cell?_setCell_other _ _ _ _ (by simp)]; rw [World.cell?_setCell_other _ _ _ _ (by simp)]; rw [World.cell?_setCell_other _ _ _ _ (by simp)]; rw [World.cell?_setCell_other _ _ _ _ (by simp)]; rw [World.cell?_setCell_other _ _ _ _ (by simp)]; rw [World.cell?_setCell_other _ _ _ _ (by simp)]; exact World.cell?_setCell_same _ _ _ (show _ = some v2 from by rw [World.cell?_setCell_other _ _ _ _ (by simp)]; rw [World.cell?_setCell_other _ _ _ _ (by simp)]; exact c2)
  · rw [World.cell?_setCell_other _ _ _ _ (by simp)]; rw [World.cell?_setCell_other _ _ _ _ (by simp)]; rw [World.cell?_setCell_other _ _ _ _ (by simp)]; rw [World.cell?_setCell_other _ _ _ _ (by simp)]; rw [World.cell?_setCell_other _ _ _ _ (by simp)]; exact World.cell?_setCell_same _ _ _ (show _ = some v3 from by rw [World.cell?_setCell_other _ _ _ _ (by simp)]; rw [World.cell?_setCell_other _ _ _ _ (by simp)]; rw [World.cell?_setCell_other _ _ _ _ (by simp)]; exact c3)
  · rw [World.cell?_setCell_other _ _ _ _ (by simp)]; rw [World.cell?_setCell_other _ _ _ _ (by simp)]; rw [World.cell?_setCell_other _ _ _ _ (by simp)]; rw [World.cell?_setCell_other _ _ _ _ (by simp)]; exact World.cell?_setCell_same _ _ _ (show _ = some v4 from by rw [World.cell?_setCell_other _ _ _ _ (by simp)]; rw [World.cell?_setCell_other _ _ _ _ (by simp)]; rw [World.cell?_setCell_other _ _ _ _ (by simp)]; rw [World.cell?_setCell_other _ _ _ _ (by simp)]; exact c4)
  · rw [World.cell?_setCell_other _ _ _ _ (by simp)]; rw [World.cell?_setCell_other _ _ _ _ (by simp)]; rw [World.cell?_setCell_other _ _ _ _ (by simp)]; exact World.cell?_setCell_same _ _ _ (show _ = some v5 from by rw [World.cell?_setCell_other _ _ _ _ (by simp)]; rw [World.cell?_setCell_other _ _ _ _ (by simp)]; rw [World.cell?_setCell_other _ _ _ _ (by simp)]; rw [World.cell?_setCell_other _ _ _ _ (by simp)]; rw [World.cell?_setCell_other _ _ _ _ (by simp)]; exact c5)
  · rw [World.cell?_setCell_other _ _ _ _ (by simp)]; rw [World.cell?_setCell_other _ _ _ _ (by simp)]; exact World.cell?_setCell_same _ _ _ (show _ = some v6 from by rw [World.cell?_setCell_other _ _ _ _ (by simp)]; rw [World.cell?_setCell_other _ _ _ _ (by simp)]; rw [World.cell?_setCell_other _ _ _ _ (by simp)]; rw [World.cell?_setCell_other _ _ _ _ (by simp)]; rw [World.cell?_setCell_other _ _ _ _ (by simp)]; rw [World.cell?_setCell_other _ _ _ _ (by simp)]; exact c6)
  · rw [World.cell?_setCell_other _ _ _ _ (by simp)]; exact World.cell?_setCell_same _ _ _ (show _ = some v7 from by rw [World.cell?_setCell_other _ _ _ _ (by simp)]; rw [World.cell?_setCell_other _ _ _ _ (by simp)]; rw [World.cell?_setCell_other _ _ _ _ (by simp)]; rw [World.cell?_setCell_other _ _ _ _ (by simp)]; rw [World.cell?_setCell_other _ _ _ _ (by simp)]; rw [World.cell?_setCell_other _ _ _ _ (by simp)]; rw [World.cell?_setCell_other _ _ _ _ (by simp)]; exact c7)
  · exact World.cell?_setCell_same _ _ _ (show _ = some v8 from by rw [World.cell?_setCell_other _ _ _ _ (by simp)]; rw [World.cell?_setCell_other _ _ _ _ (by simp)]; rw [World.cell?_setCell_other _ _ _ _ (by simp)]; rw [World.cell?_setCell_other _ _ _ _ (by simp)]; rw [World.cell?_setCell_other _ _ _ _ (by simp)]; rw [World.cell?_setCell_other _ _ _ _ (by simp)]; rw [World.cell?_setCell_other _ _ _ _ (by simp)]; rw [World.cell?_setCell_other _ _ _ _ (by simp)]; exact c8)
theorem set9_free {w : World} {g : Nat} (h : Free9 w g) (r : Rg) (j : Nat) (hj : w.frozen? ⟨g, j, none⟩ = false) : (set9 w g r).frozen? ⟨g, j, none⟩ = false := by
  unfold set9
  simp only [World.frozen?_setCell]
  exact hj
theorem set9_below {B : Nat} {a w : World} (h : Below B a w) {g : Nat} (hg : B ≤ g) (r : Rg) : Below B a (set9 w g r) := by
  unfold set9
  exact ((((((((h.setCell hg _).setCell hg _).setCell hg _).setCell hg _).setCell hg _).setCell hg _).setCell hg _).setCell hg _).setCell hg _
theorem set9_size (w : World) (g : Nat) (r : Rg) : (set9 w g r).heap.size = w.heap.size := by unfold set9; simp only [size_set]

theorem ownsRow_set {w : World} {base : Nat} {e : TypeId} {size g cap n : Nat} {xs : List Value} (h : w.ownsRow base e size (.slice (some ⟨g, 0, none⟩) n cap) n xs) (i : Nat) (u : Value) (hi : i < xs.length) :
    (w.setCell ⟨g, i, none⟩ u).ownsRow base e size (.slice (some ⟨g, 0, none⟩) n cap) n (xs.set i u) := by
  obtain ⟨hl, ⟨hv, _⟩ | ⟨g', cap', cur, hv, hg, hh, hc, hm, hs, ht⟩⟩ := h
  · cases hv
  · obtain ⟨rfl, rfl⟩ : g = g' ∧ cap = cap' := by simpa using hv
    refine ⟨by simpa using hl, .inr ⟨g, cap, cur.setIfInBounds i u, rfl, hg, ?_, hc, hm, by simpa using hs, ?_⟩⟩
    · simp only [World.setCell, Array.getElem?_modify, hh]
      simp
    · rw [Array.toList_setIfInBounds, List.take_set, ht]
end Go.Proofs.YtnfadmifdncjoaaGreat.Cf

namespace Go.Proofs.YtnfadmifdncjoaaGreat.Cf
set_option linter.unusedSimpArgs false
set_option linter.unusedVariables false
open Go.RowKit Go.Maps

/-- a size, as a value -/
def sizeVal (m : Int) (H : Nat → Nat → Int) (tv : Value) : Value := .agg #[.int .u8 m, .int .u8 (H 0 0), .int .u8 (H 0 1), .int .u8 (H 0 2), .int .u8 (H 0 3), .int .u8 (H 0 4), .int .u8 (H 1 0), .int .u8 (H 1 1), .int .u8 (H 1 2), .int .u8 (H 1 3), .int .u8 (H 1 4), .int .u8 (H 2 0), .int .u8 (H 2 1), .int .u8 (H 2 2), .int .u8 (H 2 3), .int .u8 (H 2 4), .int .u8 (H 3 0), .int .u8 (H 3 1), .int .u8 (H 3 2), .int .u8 (H 3 3), .int .u8 (H 3 4), .int .u8 (H 4 0), .int .u8 (H 4 1), .int .u8 (H 4 2), .int .u8 (H 4 3), .int .u8 (H 4 4), tv]
/-- a slice of small numbers -/
def U8s (w : World) (v : Value) (ts : List Int) : Prop :=
  (∃ a cap, v = .slice a 0 cap ∧ ts = []) ∨ ∃ b off cap, v = .slice (some ⟨b, off, none⟩) ts.length cap ∧ b < w.heap.size ∧ ts.length ≤ maxLen ∧ ∀ i (h : i < ts.length), w.cell? ⟨b, off + i, none⟩ = some (.int .u8 ts[i])
def Hok (H : Nat → Nat → Int) : Prop := ∀ i j, i < 5 → j < 5 → 0 ≤ H i j ∧ H i j < 256
structure BoxS (w : World) (b : Nat) (m : Int) (H : Nat → Nat → Int) (tv : Value) : Prop where
  lt : b < w.heap.size
  c0 : w.cell? ⟨b, 0, none⟩ = some (.int .u8 m)
  ch : ∀ i j, i < 5 → j < 5 → w.cell? ⟨b, 1 + i * 5 + j, none⟩ = some (.int .u8 (H i j))
  c26 : w.cell? ⟨b, 26, none⟩ = some tv
theorem BoxS.below {w w' : World} {B b : Nat} {m : Int} {H : Nat → Nat → Int} {tv : Value} (h : BoxS w b m H tv) (hb : Below B w w') (hB : b < B) : BoxS w' b m H tv :=
  ⟨Nat.lt_of_lt_of_le h.lt hb.size, (hb.cell (p := ⟨b, 0, none⟩) hB).trans h.c0, fun i j hi hj => (hb.cell (p := ⟨b, 1 + i * 5 + j, none⟩) hB).trans (h.ch i j hi hj), (hb.cell (p := ⟨b, 26, none⟩) hB).trans h.c26⟩
theorem BoxS.new (w : World) (m : Int) (H : Nat → Nat → Int) (tv : Value) (t : TypeId) : BoxS (w.alloc (.cells #[.int .u8 m, .int .u8 (H 0 0), .int .u8 (H 0 1), .int .u8 (H 0 2), .int .u8 (H 0 3), .int .u8 (H 0 4), .int .u8 (H 1 0), .int .u8 (H 1 1), .int .u8 (H 1 2), .int .u8 (H 1 3), .int .u8 (H 1 4), .int .u8 (H 2 0), .int .u8 (H 2 1), .int .u8 (H 2 2), .int .u8 (H 2 3), .int .u8 (H 2 4), .int .u8 (H 3 0), .int .u8 (H 3 1), .int .u8 (H 3 2), .int .u8 (H 3 3), .int .u8 (H 3 4), .int .u8 (H 4 0), .int .u8 (H 4 1), .int .u8 (H 4 2), .int .u8 (H 4 3), .int .u8 (H 4 4), tv] t)) w.heap.size m H tv := by
  refine ⟨by simp, by simp [World.cell?_alloc_new], fun i j hi hj => ?_, by simp [World.cell?_alloc_new]⟩
  match i, j, hi, hj with
  | 0, 0, _, _
  | 0, 1, _, _
  | 0, 2, _, _
  | 0, 3, _, _
  | 0, 4, _, _
  | 1, 0, _, _
  | 1, 1, _, _
  | 1, 2, _, _
  | 1, 3, _, _
  | 1, 4, _, _
  | 2, 0, _, _
  | 2, 1, _, _
  | 2, 2, _, _
  | 2, 3, _, _
  | 2, 4, _, _
  | 3, 0, _, _
  | 3, 1, _, _
  | 3, 2, _, _
  | 3, 3, _, _
  | 3, 4, _, _
  | 4, 0, _, _
  | 4, 1, _, _
  | 4, 2, _, _
  | 4, 3, _, _
  | 4, 4, _, _ =>
    simp [World.cell?_alloc_new]
end Go.Proofs.YtnfadmifdncjoaaGreat.Cf
