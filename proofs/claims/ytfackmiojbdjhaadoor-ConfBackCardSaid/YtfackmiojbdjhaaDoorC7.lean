import Derived.Test.YtfackmiojbdjhaaDoorC6
import Derived.Deep.RegionHeld
/- The state of a configuration while its marks are added; trust. -/
namespace Go.Proofs.YtfackmiojbdjhaaDoor
set_option linter.unusedSimpArgs false
set_option linter.unusedVariables false
open Go.RowKit Go.Maps

theorem flat_get {α : Type} (f : α → List Value) (k : Nat) (hk : ∀ x, (f x).length = k) : ∀ (l : List α) (i j : Nat) (hi : i < l.length), j < k → (l.flatMap f)[i * k + j]? = (f l[i])[j]?
  | x :: l, 0, j, _, hj => by
    rw [List.flatMap_cons, List.getElem?_append_left (by rw [hk]; omega)]; simp
  | x :: l, i + 1, j, hi, hj => by
    rw [List.flatMap_cons, List.getElem?_append_right (by rw [hk, Nat.add_mul]; omega), hk]
    have e : (i + 1) * k + j - k = i * k + j := by rw [Nat.add_mul]; omega
    rw [e, flat_get f k hk l i j (by simpa using hi) hj]
    simp
theorem ownsRow_cell {α : Type} {w : World} {base : Nat} {e : TypeId} {k n : Nat} {v : Value} {f : α → List Value} {l : List α} (hk : ∀ x, (f x).length = k) (hn : n = l.length) (h : w.ownsRow base e k v n (l.flatMap f)) :
    (v = .slice none 0 0 ∧ l = []) ∨ ∃ g cap, v = .slice (some ⟨g, 0, none⟩) l.length cap ∧ base ≤ g ∧ g < w.heap.size ∧ l.length ≤ maxLen ∧ ∀ i (hi : i < l.length) j, j < k → w.cell? ⟨g, i * k + j, none⟩ = (f l[i])[j]? := by
  subst hn
  obtain ⟨hl, ⟨hv, hn⟩ | ⟨g, cap, cur, hv, hg, hh, hc, hm, hs, ht⟩⟩ := h
  · exact .inl ⟨hv, List.eq_nil_of_length_eq_zero hn⟩
  · refine .inr ⟨g, cap, hv, hg, (Array.getElem?_eq_some_iff.1 hh).1, Nat.le_trans hc hm, fun i hi j hj => ?_⟩
    have hlt : i * k + j < l.length * k := by
      have : (i + 1) * k ≤ l.length * k := Nat.mul_le_mul_right _ hi
      rw [Nat.add_mul] at this
      omega
    have hx : (cur.toList.take (l.length * k))[i * k + j]? = (l.flatMap f)[i * k + j]? := by rw [ht]
    rw [List.getElem?_take_of_lt hlt, flat_get f k hk l i j hi hj] at hx
    rw [← hx]
    simp only [World.cell?, hh]
    simp
theorem regs_of_row {w : World} {base : Nat} {v : Value} {rs : List Rg} (h : w.ownsRow base 39 9 v rs.length (flatR rs)) : Regs w v rs := by
  rcases ownsRow_cell (k := 9) (fun _ => rfl) rfl h with ⟨hv, hn⟩ | ⟨g, cap, hv, hg, hlt, hm, hc⟩
  · exact .inl ⟨none, 0, hv, hn⟩
  · refine .inr ⟨g, 0, cap, hv, hlt, hm, ?_⟩
    constructor
    · intro i hi; have := hc i hi 0 (by omega); simpa [Rg.cells] using this
    · intro i hi; have := hc i hi 1 (by omega); simpa [Rg.cells] using this
    · intro i hi; have := hc i hi 2 (by omega); simpa [Rg.cells] using this
    · intro i hi; have := hc i hi 3 (by omega); simpa [Rg.cells] using this
    · intro i hi; have := hc i hi 4 (by omega); simpa [Rg.cells] using this
    · intro i hi; have := hc i hi 5 (by omega); simpa [Rg.cells] using this
    · intro i hi; have := hc i hi 6 (by omega); simpa [Rg.cells] using this
    · intro i hi; have := hc i hi 7 (by omega); simpa [Rg.cells] using this
    · intro i hi; have := hc i hi 8 (by omega); simpa [Rg.cells] using this

def markCells (m : Int × Int) : List Value := [.int .u8 m.1, .int .u16 m.2]
def flatM (ms : List (Int × Int)) : List Value := ms.flatMap markCells
structure MS (n b2 : Nat) (w : World) (vr vm : Value) (rs : List Rg) (ms : List (Int × Int)) (Dn Dl Dt : DataW Unit) : Prop where
  cb : CB n w vr vm (.slice none 0 0)
  lo : n + 4 ≤ b2
  hi : b2 ≤ w.heap.size
  row : w.ownsRow (n + 4) 39 9 vr rs.length (flatR rs)
  rb : ∀ k, vr.ownBlock = some k → k < b2
  rm : w.ownsRow b2 34 2 vm ms.length (flatM ms)
  mn : w.ownsMap Tryd.prog 9 (plainElem Tryd.prog 3) n rs.length Dn
  ml : w.ownsMap Tryd.prog 37 (plainElem Tryd.prog 3) (n + 1) rs.length Dl
  mt : w.ownsMap Tryd.prog 34 (unitElem (H := Unit)) (n + 2) ms.length Dt
theorem MS.below {n b2 : Nat} {w w' : World} {vr vm : Value} {rs : List Rg} {ms : List (Int × Int)} {Dn Dl Dt : DataW Unit} (h : MS n b2 w vr vm rs ms Dn Dl Dt) (hb : Below w.heap.size w w') : MS n b2 w' vr vm rs ms Dn Dl Dt := by
  have := h.cb.lt
  exact ⟨h.cb.below hb this, h.lo, Nat.le_trans h.hi hb.size, ownsRow_below h.row hb, h.rb, ownsRow_below h.rm hb, ownsMap_below h.mn hb (by omega), ownsMap_below h.ml hb (by omega), ownsMap_below h.mt hb (by omega)⟩
theorem ownsRow_same2 {w w' : World} {base : Nat} {e : TypeId} {size : Nat} {v : Value} {n : Nat} {xs : List Value} (h : w.ownsRow base e size v n xs) (he : ∀ b, v.ownBlock = some b → w'.heap[b]? = w.heap[b]?) : w'.ownsRow base e size v n xs := by
  obtain ⟨hl, h | ⟨g, cap, cur, hv, hg, hh, r⟩⟩ := h
  · exact ⟨hl, .inl h⟩
  · exact ⟨hl, .inr ⟨g, cap, cur, hv, hg, (he g (by rw [hv]; rfl)).trans hh, r⟩⟩
theorem look_unit {w : World} {k t : TypeId} {b n : Nat} {D : DataW Unit} {key : Value} {kl : Lit} (h : w.ownsMap Tryd.prog k (unitElem (H := Unit)) b n D) (K : Keyed Tryd.prog k) (ht : Tryd.prog.underlying t = some (.map k 129)) (hkey : keyOf Tryd.prog k key = some kl) :
    (Instr.lookup t (.map (some b)) key true).run Tryd.prog w = .ok (.tuple #[.agg #[], .bool (Maps.has D kl)]) w := by
  obtain ⟨v, ps, hu, hp⟩ := h.look_ok K ht (Tryd.zero129 _) unitElem_mk hkey
  obtain ⟨rfl, -⟩ := unitElem_inv hp
  exact hu
def markE (rs : List Rg) (Dt : DataW Unit) (m : Int × Int) : Int :=
  if ((regAt rs m.1).2 && decide (1 ≤ m.2) && decide (m.2 ≤ (regAt rs m.1).1.nd)) = false then 27 else if Maps.has Dt (labKey m.1 m.2) = true then 29 else 0

set_option maxHeartbeats 2000000 in
set_option maxRecDepth 100000 in
theorem trust_any (n b2 : Nat) (vr vm : Value) (rs : List Rg) (ms : List (Int × Int)) (Dn Dl Dt : DataW Unit) (lab num : Int) (l0 : 0 ≤ lab) (l1 : lab < 256) (k0 : 0 ≤ num) (k1 : num < 65536) (w : World) (h : MS n b2 w vr vm rs ms Dn Dl Dt) (hm : ms.length < 10000) :
    Calls Tryd.prog 27 #[.pointer (some ⟨n + 3, 0, none⟩), .agg #[.int .u8 lab, .int .u16 num]] w fun e w' => e = .returned (.int .i64 (markE rs Dt (lab, num))) ∧
      (markE rs Dt (lab, num) ≠ 0 → Below w.heap.size w w') ∧ (markE rs Dt (lab, num) = 0 → Below n w w' ∧ ∃ vm', MS n b2 w' vr vm' rs (ms ++ [(lab, num)]) Dn Dl (Dt.put (labKey lab num) (.agg []))) := by
  have HS := Lib.hid h
  have q0 := fun W (hb : Below w.heap.size w W) => reg_any (n + 3) vr rs lab W (Nat.lt_of_lt_of_le (Nat.lt_of_lt_of_le (by omega) h.cb.lt) hb.size) (h.below hb).cb.c0 (regs_of_row (h.below hb).row)
  clear h
  generalize hE : markE rs Dt (lab, num) = E
  have HE := Lib.hid hE
  clear hE
  obtain ⟨x, hx⟩ : ∃ x, regAt rs lab = x := ⟨_, rfl⟩
  obtain ⟨⟨nm, lv, cs, bl, nd, fr, pr, op, cl⟩, ok⟩ := x
  rw [hx] at q0
  have HX := Lib.hid hx
  clear hx
  simp only [Rg.val] at q0
  obtain ⟨i0, hi, hz0, hz1, hz2⟩ := info_parts Tryd.info34
  have hl255 : lab ≤ 255 := by omega
  go_enter Tryd.func27, Tryd.ntmps27
  go_wp2_with fail
  refine (q0 _ ((Below.refl _ _).alloc (Nat.le_refl _) _)).mono ?_
  rintro e w1 ⟨rfl, hb1⟩
  have hzz := hb1.size
  simp at hzz
  have p0 : w1.cell? ⟨w.heap.size, 0, none⟩ = some (.int .u8 lab) := (hb1.cell (p := ⟨w.heap.size, 0, none⟩) (by simp)).trans (by simp [World.cell?_alloc_new])
  have p1 : w1.cell? ⟨w.heap.size, 1, none⟩ = some (.int .u16 num) := (hb1.cell (p := ⟨w.heap.size, 1, none⟩) (by simp)).trans (by simp [World.cell?_alloc_new])
  have hwl : n + 4 ≤ w.heap.size := HS.out.cb.lt
  have hlt : w.heap.size < w1.heap.size := by omega
  have HB := Lib.hid (((Below.refl _ w).alloc (Nat.le_refl _) _).trans (hb1.mono (by simp)))
  have HS1 := Lib.hid (HS.out.below HB.out)
  clear hb1 hzz
  by_cases hgood : (ok && decide (1 ≤ num) && decide (num ≤ nd)) = true
  · have hok : ok = true := by simp at hgood; exact hgood.1.1
    have h1 : ¬ (num < 1) := by simp at hgood; omega
    have h2 : ¬ (nd < num) := by simp at hgood; omega
    subst hok
    obtain ⟨tn, htn⟩ : ∃ b, Maps.has Dt (labKey lab num) = b := ⟨_, rfl⟩
    have hE : Hid (E = if tn = true then 29 else 0) := by
      show E = _
      rw [← HE.out, markE, HX.out]
      simp only
      rw [if_neg (by rw [hgood]; decide), htn]
    clear hgood HE HX q0
    -- past the first region's last store
    obtain ⟨⟨lt, c0, c1, c2, c3, c4, c5, f0, f1, f2⟩, -, -, -, -, -, mn, ml, mt⟩ := id HS1.out
    clear c0 c2 c3 c4 f0 f1 f2 mn ml
    clear c1
    go_wp2
    obtain ⟨W1, hW1⟩ : ∃ W, w1.alloc (.cells #[.string nm, .int .u8 lv, .int .u16 cs, .int .i64 bl, .int .i64 nd, .int .i64 fr, .int .i64 pr, .int .i64 op, .int .i64 cl] 39) = W := ⟨_, rfl⟩
    rw [hW1]
    have hbW : Below w1.heap.size w1 W1 := hW1 ▸ (Below.refl _ w1).alloc (Nat.le_refl _) _
    replace p0 := (hbW.cell (p := ⟨w.heap.size, 0, none⟩) hlt).trans p0
    replace p1 := (hbW.cell (p := ⟨w.heap.size, 1, none⟩) hlt).trans p1
    replace c5 := (hbW.cell (p := ⟨n + 3, 5, none⟩) (by simp; omega)).trans c5
    have hltW : w.heap.size < W1.heap.size := Nat.lt_of_lt_of_le hlt hbW.size
    have HSW := Lib.hid (HS1.out.below hbW)
    have HBW := Lib.hid (HB.out.trans (hbW.mono (by omega)))
    have L1 : ∀ W, Below W1.heap.size W1 W → (Instr.lookup 77 (.map (some (n + 2))) (.agg #[.int .u8 lab, .int .u16 num]) true).run Tryd.prog W = _ := fun W hW => look_unit (w := W) (HSW.out.below hW).mt Tryd.lawMark Tryd.underlying77 (markKey_is lab num l0 l1 k0 k1)
    rw [htn] at L1
    clear mt htn hW1 HS1 HB hlt lt
    replace hlt := hltW
    clear hltW hbW
    cases tn
    · skip
      refine wp_region_held (S := fun w' => Below W1.heap.size W1 w') (by kernel_rfl) ?_
      change wpAnyH _ _ _ _ _ _ _ _ (World.drew _)
      have hS0 : Below W1.heap.size W1 W1.drew := (Below.refl _ W1).drew
      refine wpAnyH_take (i := 0) (v := ?_) rfl (by kernel_rfl) (by kernel_rfl) (by kernel_rfl) (fun _ _ _ h => h) (Or.inl ⟨by rfl, ?_⟩) hS0 ?_
      rotate_left 1
      · intro W hW
        go_simp
        try with_reducible rfl
      try simp only [Act.put, List.setIfInBounds_toArray, List.set_cons_zero, List.set_cons_succ]
      refine wpAnyH_take (i := 1) (v := ?_) rfl (by kernel_rfl) (by kernel_rfl) (by kernel_rfl) (fun _ _ _ h => h) (Or.inl ⟨by rfl, ?_⟩) hS0 ?_
      rotate_left 1
      · intro W hW
        go_simp
        try with_reducible rfl
      try simp only [Act.put, List.setIfInBounds_toArray, List.set_cons_zero, List.set_cons_succ]
      refine wpAnyH_take (i := 2) (v := ?_) rfl (by kernel_rfl) (by kernel_rfl) (by kernel_rfl) (fun _ _ _ h => h) (Or.inl ⟨by rfl, ?_⟩) hS0 ?_
      rotate_left 1
      · intro W hW
        go_simp
        try with_reducible rfl
      try simp only [Act.put, List.setIfInBounds_toArray, List.set_cons_zero, List.set_cons_succ]
      refine wpAnyH_take (i := 3) (v := ?_) rfl (by kernel_rfl) (by kernel_rfl) (by kernel_rfl) (fun _ _ _ h => h) (Or.inl ⟨by rfl, ?_⟩) hS0 ?_
      rotate_left 1
      · intro W hW
        have e5 := (hW.cell (p := ⟨n + 3, 5, none⟩) (by simp; omega)).trans c5
        go_simp
        try with_reducible rfl
      try simp only [Act.put, List.setIfInBounds_toArray, List.set_cons_zero, List.set_cons_succ]
      refine wpAnyH_take (i := 4) (v := ?_) rfl (by kernel_rfl) (by kernel_rfl) (by kernel_rfl) (fun _ _ _ h => h) (Or.inl ⟨by rfl, ?_⟩) hS0 ?_
      rotate_left 1
      · intro W hW
        have e0 := (hW.cell (p := ⟨w.heap.size, 0, none⟩) hlt).trans p0
        have e1 := (hW.cell (p := ⟨w.heap.size, 1, none⟩) hlt).trans p1
        go_simp
        try with_reducible rfl
      try simp only [Act.put, List.setIfInBounds_toArray, List.set_cons_zero, List.set_cons_succ]
      refine wpAnyH_take (i := 5) (v := ?_) rfl (by kernel_rfl) (by kernel_rfl) (by kernel_rfl) (fun _ _ _ h => h) (Or.inl ⟨by rfl, ?_⟩) hS0 ?_
      rotate_left 1
      · intro W hW
        have eL := L1 W hW
        go_simp
        try with_reducible rfl
      try simp only [Act.put, List.setIfInBounds_toArray, List.set_cons_zero, List.set_cons_succ]
      refine wpAnyH_take (i := 6) (v := ?_) rfl (by kernel_rfl) (by kernel_rfl) (by kernel_rfl) (fun _ _ _ h => h) (Or.inl ⟨by rfl, ?_⟩) hS0 ?_
      rotate_left 1
      · intro W hW
        go_simp
        try with_reducible rfl
      try simp only [Act.put, List.setIfInBounds_toArray, List.set_cons_zero, List.set_cons_succ]
      refine wpAnyH_take (i := 7) (v := ?_) rfl (by kernel_rfl) (by kernel_rfl) (by kernel_rfl) (fun _ _ _ h => h) (Or.inl ⟨by rfl, ?_⟩) hS0 ?_
      rotate_left 1
      · intro W hW
        go_simp
        try with_reducible rfl
      try simp only [Act.put, List.setIfInBounds_toArray, List.set_cons_zero, List.set_cons_succ]
      refine wpAnyH_take (i := 8) (v := ?_) rfl (by kernel_rfl) (by kernel_rfl) (by kernel_rfl) (fun _ _ _ h => h) (Or.inl ⟨by rfl, ?_⟩) hS0 ?_
      rotate_left 1
      · intro W hW
        go_simp
        try with_reducible rfl
      try simp only [Act.put, List.setIfInBounds_toArray, List.set_cons_zero, List.set_cons_succ]
      refine wpAnyH_ready (rs := [9]) (by kernel_rfl) (by simp) (AllReadyH.cons rfl (fun K hK => ?_) AllReadyH.nil)
      go_simp
      refine hK _ _ ?_ ?_
      · exact ((Below.refl _ W1).drew).alloc (Nat.le_refl _) _
      try intro _
      clear hK K
      refine wpAnyH_ready (rs := [10]) (by kernel_rfl) (by simp) (AllReadyH.cons rfl (fun K hK => ?_) AllReadyH.nil)
      go_simp
      refine hK _ _ ?_ ?_
      · exact ((Below.refl _ W1).drew).alloc (Nat.le_refl _) _
      try intro _
      clear hK K
      refine wpAnyH_ready (rs := [11]) (by kernel_rfl) (by simp) (AllReadyH.cons rfl (fun K hK => ?_) AllReadyH.nil)
      go_simp
      refine hK _ _ ?_ ?_
      · exact ((Below.refl _ W1).drew).alloc (Nat.le_refl _) _
      try intro _
      clear hK K
      refine wpAnyH_done (by kernel_rfl) ?_ _
      clear L1
      obtain ⟨W2, hW2⟩ : ∃ W, W1.alloc (.cells #[] 129) = W := ⟨_, rfl⟩
      go_wp2
      rw [hW2]
      have hb2' : Below W1.heap.size W1 W2.drew := hW2 ▸ ((Below.refl _ W1).alloc (Nat.le_refl _) _).drew
      obtain ⟨W3, hW3⟩ : ∃ W, W2.drew = W := ⟨_, rfl⟩
      rw [hW3] at hb2' ⊢
      have hz3 : W1.heap.size ≤ W3.heap.size := hb2'.size
      have HS3 := Lib.hid (HSW.out.below hb2')
      have HB3 := Lib.hid (HBW.out.trans (hb2'.mono (by omega)))
      replace p0 := (hb2'.cell (p := ⟨w.heap.size, 0, none⟩) hlt).trans p0
      replace p1 := (hb2'.cell (p := ⟨w.heap.size, 1, none⟩) hlt).trans p1
      have hlt3 : w.heap.size < W3.heap.size := by omega
      have hlo := HS.out.lo
      have hhi : b2 ≤ w.heap.size := HS.out.hi
      have hrb := HS.out.rb
      have HRB := Lib.hid hrb
      clear c5 HSW HBW hb2' hW3 hW2 hS0 hrb
      obtain ⟨⟨lt, c0, c1, c2, c3, c4, c5, f0, f1, f2⟩, -, -, -, -, rm, -, -, mt⟩ := id HS3.out
      have HMT := Lib.hid mt
      clear c0 c2 c3 c4 f0 f1 f2 rm c1 mt
      refine wp_region_split (C := fun w' => ∃ m, w' = W3.drewN m) 6 (by kernel_rfl) (of_decide_eq_true (by kernel_rfl)) (by kernel_rfl) (by kernel_rfl) (by kernel_rfl) ⟨1, rfl⟩ ?_
      simp only [List.take_succ_cons, List.take_zero]
      repeat (quiet_step (fail))
      refine wpQuiet_nil ?_
      intro wy hw'
      obtain ⟨m, rfl⟩ := hw'
      refine wpAny_last 6 (by kernel_rfl) (by kernel_rfl) (wpOp_step0 rfl rfl (fun K hK => ?_))
      obtain ⟨w4, hrun, hmt, hg4⟩ := World.ownsMap.update (w := W3.drewN m) (t := 77) HMT.out Tryd.lawMark Tryd.underlying77 (by unfold maxLen; omega) (markKey_is lab num l0 l1 k0 k1) unitElem_mk
      go_simp
      refine hK _ _ ?_
      have hz4 : W3.heap.size ≤ w4.heap.size := hg4.size
      have hk4 : ∀ b, b < W3.heap.size → b ≠ n + 2 → w4.heap[b]? = W3.heap[b]? := fun b hb hne => hg4.block b hb (by simp; omega)
      have HB4 := Lib.hid ((below_drewN' (HB3.out.mono (show n ≤ w.heap.size by omega)) m).grown hg4 (by show n ≤ W3.heap.size; omega) (fun k hk => by simp at hk; omega))
      have HC4 := Lib.hid (HS3.out.cb.same hz4 (hk4 _ (by omega) (by omega)))
      have HR4 := Lib.hid (ownsRow_same2 HS3.out.row (fun b hb => hk4 b (by have := HRB.out b hb; omega) (by have := ownsRow_block HS3.out.row b hb; omega)))
      have HM4 := Lib.hid (ownsRow_same HS3.out.rm (fun b hb hb2 => hk4 b hb2 (by omega)))
      have HN4 := Lib.hid (ownsMap_same HS3.out.mn (hk4 _ (by omega) (by omega)))
      have HL4 := Lib.hid (ownsMap_same HS3.out.ml (hk4 _ (by omega) (by omega)))
      have HT4 := Lib.hid hmt
      replace p0 := (cell_same (hk4 w.heap.size hlt3 (by omega))).trans p0
      replace p1 := (cell_same (hk4 w.heap.size hlt3 (by omega))).trans p1
      have hlt4 : w.heap.size < w4.heap.size := by omega
      have hbw4 : b2 ≤ w4.heap.size := by omega
      clear hmt hrun hg4 hk4 HS3 HB3 HMT hK K lt c5
      clear m
      have hrb := HRB.out
      obtain ⟨lt, c0, c1, c2, c3, c4, c5, f0, f1, f2⟩ := id HC4.out
      clear c0 c2 c3 c4 c5 f0 f2
      obtain ⟨ma, mc, rfl⟩ := ownsRow_form HM4.out
      go_wp2
      have lt3 : n + 3 < w4.heap.size := by omega
      have HRB2 := Lib.hid hrb
      clear hrb
      refine wp_region_any (by kernel_rfl) ?_
      change wpAny _ _ _ _ _ _ _ (World.drew _)
      refine wpAny_take (i := 0) (v := ?_) rfl (by kernel_rfl) (by kernel_rfl) (by kernel_rfl) (fun _ _ _ h => h) (Or.inl ⟨by rfl, ?_⟩) ?_
      rotate_left 1
      · intro w; go_simp; try with_reducible rfl
      refine wpAny_take (i := 1) (v := ?_) rfl (by kernel_rfl) (by kernel_rfl) (by kernel_rfl) (fun _ _ _ h => h) (Or.inl ⟨by rfl, ?_⟩) ?_
      rotate_left 1
      · intro w; go_simp; try with_reducible rfl
      refine wpAny_take (i := 2) (v := ?_) rfl (by kernel_rfl) (by kernel_rfl) (by kernel_rfl) (fun _ _ _ h => h) (Or.inl ⟨by rfl, ?_⟩) ?_
      rotate_left 1
      · intro w; go_simp; try with_reducible rfl
      refine wpAny_take (i := 3) (v := ?_) rfl (by kernel_rfl) (by kernel_rfl) (by kernel_rfl) (fun _ _ _ h => h) (Or.inl ⟨by rfl, ?_⟩) ?_
      rotate_left 1
      · intro w; go_simp; try with_reducible rfl
      refine wpAny_ready (rs := [4, 5]) (by kernel_rfl) (by simp) (AllReady.cons rfl (fun K hK => ?_) (AllReady.cons rfl (fun K hK => ?_) AllReady.nil))
      · go_simp
        refine hK _ _ ?_
        clear hK K
        refine wpAny_ready (rs := [5]) (by kernel_rfl) (by simp) (AllReady.cons rfl (fun K hK => ?_) AllReady.nil)
        go_simp
        refine hK _ _ ?_
        clear hK K
        refine wpAny_ready (rs := [6]) (by kernel_rfl) (by simp) (AllReady.cons rfl (fun K hK => ?_) AllReady.nil)
        go_simp
        refine hK _ _ ?_
        clear hK K
        have hrb := HRB2.out
        refine wpAny_ready (rs := [7]) (by kernel_rfl) (by simp) (AllReady.cons rfl (fun K hK => ?_) AllReady.nil)
        simp only [Region.wanted, if_true]
        refine wp_append_own _ _ _ 23 rfl b2 34 i0 _ 2 4 Tryd.underlying23 hi hz0 hz1 hz2 rfl (by decide) _ _ _ rfl (HM4.out.alloc _) ⟨w4.heap.size, 0, none⟩ 1 1 [.int .u8 lab, .int .u16 num] rfl rfl (cells_new w4 _ 34) (by simp [Value.oneCell']) (by unfold maxLen; omega) (by omega) (by simp; omega) (fun v' w6 hown hg6 _ => ?_)
        obtain ⟨ra', rc', rfl⟩ := ownsRow_form hown
        refine hK _ _ ?_
        clear hK K
        have hz6 : w4.heap.size + 1 ≤ w6.heap.size := by have := hg6.size; simpa using this
        have hk6 : ∀ b, b < b2 → w6.heap[b]? = w4.heap[b]? := fun b hb => (hg6.block b (by simp; omega) (fun e => by have := ownsRow_block HM4.out b e.symm; omega)).trans ((MapKept.heap_alloc w4 _).2 b (by omega))
        have HC6 := Lib.hid (HC4.out.same (by omega) (hk6 _ (by omega)))
        have HB6 := Lib.hid ((HB4.out.alloc (by omega) (.cells #[.int .u8 lab, .int .u16 num] 34)).drew.grown hg6 (by simp; omega) (fun k hk => by have := ownsRow_block HM4.out k hk; omega))
        have HN6 := Lib.hid (ownsMap_same HN4.out (hk6 _ (by omega)))
        have HL6 := Lib.hid (ownsMap_same HL4.out (hk6 _ (by omega)))
        have HT6 := Lib.hid (ownsMap_same HT4.out (hk6 _ (by omega)))
        have HR6 := Lib.hid (ownsRow_same2 HR4.out (fun b hb => hk6 b (hrb b hb)))
        have HO6 := Lib.hid hown
        clear hown hg6 hk6 HR4 HM4 HB4 HC4 HN4 HL4 HT4 p0 p1 c1 f1 lt
        obtain ⟨lt, c0, c1, c2, c3, c4, c5, f0, f1, f2⟩ := id HC6.out
        clear c0 c2 c3 c4 c5 f0 f2
        refine wpAny_ready (rs := [8]) (by kernel_rfl) (by simp) (AllReady.cons rfl (fun K hK => ?_) AllReady.nil)
        go_simp
        refine hK _ _ ?_
        clear hK K
        refine wpAny_ready (rs := [9]) (by kernel_rfl) (by simp) (AllReady.cons rfl (fun K hK => ?_) AllReady.nil)
        go_simp
        refine hK _ _ ?_
        clear hK K
        refine wpAny_ready (rs := [10]) (by kernel_rfl) (by simp) (AllReady.cons rfl (fun K hK => ?_) AllReady.nil)
        go_simp
        refine hK _ _ ?_
        clear hK K
        refine wpAny_done (by kernel_rfl) ?_ _
        go_wp2
        go_ret
        rw [hE.out]
        refine ⟨rfl, fun h => absurd rfl h, fun _ => ⟨HB6.out.setCell (by simp) _, .slice ra' (ms.length + 1) rc', ?_⟩⟩
        have e6 : ∀ b, b ≠ n + 3 → (w6.setCell ⟨n + 3, 1, none⟩ (.slice ra' (ms.length + 1) rc')).heap[b]? = w6.heap[b]? := fun b hb => heap_set _ _ _ _ hb
        refine ⟨HC6.out.set1 _, hlo, by rw [size_set]; omega, ownsRow_same HR6.out (fun b hb _ => e6 b (by omega)), hrb, ?_, ownsMap_same HN6.out (e6 _ (by omega)), ownsMap_same HL6.out (e6 _ (by omega)), ?_⟩
        · rw [flatM, List.flatMap_append, List.length_append]
          simpa [flatM, markCells] using ownsRow_same HO6.out (fun b hb _ => e6 b (by omega))
        · rw [List.length_append]; exact ownsMap_same HT6.out (e6 _ (by omega))
      · go_simp
        refine hK _ _ ?_
        clear hK K
        refine wpAny_ready (rs := [4, 6]) (by kernel_rfl) (by simp) (AllReady.cons rfl (fun K hK => ?_) (AllReady.cons rfl (fun K hK => ?_) AllReady.nil))
        · go_simp
          refine hK _ _ ?_
          clear hK K
          refine wpAny_ready (rs := [6]) (by kernel_rfl) (by simp) (AllReady.cons rfl (fun K hK => ?_) AllReady.nil)
          go_simp
          refine hK _ _ ?_
          clear hK K
          have hrb := HRB2.out
          refine wpAny_ready (rs := [7]) (by kernel_rfl) (by simp) (AllReady.cons rfl (fun K hK => ?_) AllReady.nil)
          simp only [Region.wanted, if_true]
          refine wp_append_own _ _ _ 23 rfl b2 34 i0 _ 2 4 Tryd.underlying23 hi hz0 hz1 hz2 rfl (by decide) _ _ _ rfl (HM4.out.alloc _) ⟨w4.heap.size, 0, none⟩ 1 1 [.int .u8 lab, .int .u16 num] rfl rfl (cells_new w4 _ 34) (by simp [Value.oneCell']) (by unfold maxLen; omega) (by omega) (by simp; omega) (fun v' w6 hown hg6 _ => ?_)
          obtain ⟨ra', rc', rfl⟩ := ownsRow_form hown
          refine hK _ _ ?_
          clear hK K
          have hz6 : w4.heap.size + 1 ≤ w6.heap.size := by have := hg6.size; simpa using this
          have hk6 : ∀ b, b < b2 → w6.heap[b]? = w4.heap[b]? := fun b hb => (hg6.block b (by simp; omega) (fun e => by have := ownsRow_block HM4.out b e.symm; omega)).trans ((MapKept.heap_alloc w4 _).2 b (by omega))
          have HC6 := Lib.hid (HC4.out.same (by omega) (hk6 _ (by omega)))
          have HB6 := Lib.hid ((HB4.out.alloc (by omega) (.cells #[.int .u8 lab, .int .u16 num] 34)).drew.grown hg6 (by simp; omega) (fun k hk => by have := ownsRow_block HM4.out k hk; omega))
          have HN6 := Lib.hid (ownsMap_same HN4.out (hk6 _ (by omega)))
          have HL6 := Lib.hid (ownsMap_same HL4.out (hk6 _ (by omega)))
          have HT6 := Lib.hid (ownsMap_same HT4.out (hk6 _ (by omega)))
          have HR6 := Lib.hid (ownsRow_same2 HR4.out (fun b hb => hk6 b (hrb b hb)))
          have HO6 := Lib.hid hown
          clear hown hg6 hk6 HR4 HM4 HB4 HC4 HN4 HL4 HT4 p0 p1 c1 f1 lt
          obtain ⟨lt, c0, c1, c2, c3, c4, c5, f0, f1, f2⟩ := id HC6.out
          clear c0 c2 c3 c4 c5 f0 f2
          refine wpAny_ready (rs := [8]) (by kernel_rfl) (by simp) (AllReady.cons rfl (fun K hK => ?_) AllReady.nil)
          go_simp
          refine hK _ _ ?_
          clear hK K
          refine wpAny_ready (rs := [9]) (by kernel_rfl) (by simp) (AllReady.cons rfl (fun K hK => ?_) AllReady.nil)
          go_simp
          refine hK _ _ ?_
          clear hK K
          refine wpAny_ready (rs := [10]) (by kernel_rfl) (by simp) (AllReady.cons rfl (fun K hK => ?_) AllReady.nil)
          go_simp
          refine hK _ _ ?_
          clear hK K
          refine wpAny_done (by kernel_rfl) ?_ _
          go_wp2
          go_ret
          rw [hE.out]
          refine ⟨rfl, fun h => absurd rfl h, fun _ => ⟨HB6.out.setCell (by simp) _, .slice ra' (ms.length + 1) rc', ?_⟩⟩
          have e6 : ∀ b, b ≠ n + 3 → (w6.setCell ⟨n + 3, 1, none⟩ (.slice ra' (ms.length + 1) rc')).heap[b]? = w6.heap[b]? := fun b hb => heap_set _ _ _ _ hb
          refine ⟨HC6.out.set1 _, hlo, by rw [size_set]; omega, ownsRow_same HR6.out (fun b hb _ => e6 b (by omega)), hrb, ?_, ownsMap_same HN6.out (e6 _ (by omega)), ownsMap_same HL6.out (e6 _ (by omega)), ?_⟩
          · rw [flatM, List.flatMap_append, List.length_append]
            simpa [flatM, markCells] using ownsRow_same HO6.out (fun b hb _ => e6 b (by omega))
          · rw [List.length_append]; exact ownsMap_same HT6.out (e6 _ (by omega))
        · go_simp
          refine hK _ _ ?_
          clear hK K
          refine wpAny_ready (rs := [4]) (by kernel_rfl) (by simp) (AllReady.cons rfl (fun K hK => ?_) AllReady.nil)
          go_simp
          refine hK _ _ ?_
          clear hK K
          have hrb := HRB2.out
          refine wpAny_ready (rs := [7]) (by kernel_rfl) (by simp) (AllReady.cons rfl (fun K hK => ?_) AllReady.nil)
          simp only [Region.wanted, if_true]
          refine wp_append_own _ _ _ 23 rfl b2 34 i0 _ 2 4 Tryd.underlying23 hi hz0 hz1 hz2 rfl (by decide) _ _ _ rfl (HM4.out.alloc _) ⟨w4.heap.size, 0, none⟩ 1 1 [.int .u8 lab, .int .u16 num] rfl rfl (cells_new w4 _ 34) (by simp [Value.oneCell']) (by unfold maxLen; omega) (by omega) (by simp; omega) (fun v' w6 hown hg6 _ => ?_)
          obtain ⟨ra', rc', rfl⟩ := ownsRow_form hown
          refine hK _ _ ?_
          clear hK K
          have hz6 : w4.heap.size + 1 ≤ w6.heap.size := by have := hg6.size; simpa using this
          have hk6 : ∀ b, b < b2 → w6.heap[b]? = w4.heap[b]? := fun b hb => (hg6.block b (by simp; omega) (fun e => by have := ownsRow_block HM4.out b e.symm; omega)).trans ((MapKept.heap_alloc w4 _).2 b (by omega))
          have HC6 := Lib.hid (HC4.out.same (by omega) (hk6 _ (by omega)))
          have HB6 := Lib.hid ((HB4.out.alloc (by omega) (.cells #[.int .u8 lab, .int .u16 num] 34)).drew.grown hg6 (by simp; omega) (fun k hk => by have := ownsRow_block HM4.out k hk; omega))
          have HN6 := Lib.hid (ownsMap_same HN4.out (hk6 _ (by omega)))
          have HL6 := Lib.hid (ownsMap_same HL4.out (hk6 _ (by omega)))
          have HT6 := Lib.hid (ownsMap_same HT4.out (hk6 _ (by omega)))
          have HR6 := Lib.hid (ownsRow_same2 HR4.out (fun b hb => hk6 b (hrb b hb)))
          have HO6 := Lib.hid hown
          clear hown hg6 hk6 HR4 HM4 HB4 HC4 HN4 HL4 HT4 p0 p1 c1 f1 lt
          obtain ⟨lt, c0, c1, c2, c3, c4, c5, f0, f1, f2⟩ := id HC6.out
          clear c0 c2 c3 c4 c5 f0 f2
          refine wpAny_ready (rs := [8]) (by kernel_rfl) (by simp) (AllReady.cons rfl (fun K hK => ?_) AllReady.nil)
          go_simp
          refine hK _ _ ?_
          clear hK K
          refine wpAny_ready (rs := [9]) (by kernel_rfl) (by simp) (AllReady.cons rfl (fun K hK => ?_) AllReady.nil)
          go_simp
          refine hK _ _ ?_
          clear hK K
          refine wpAny_ready (rs := [10]) (by kernel_rfl) (by simp) (AllReady.cons rfl (fun K hK => ?_) AllReady.nil)
          go_simp
          refine hK _ _ ?_
          clear hK K
          refine wpAny_done (by kernel_rfl) ?_ _
          go_wp2
          go_ret
          rw [hE.out]
          refine ⟨rfl, fun h => absurd rfl h, fun _ => ⟨HB6.out.setCell (by simp) _, .slice ra' (ms.length + 1) rc', ?_⟩⟩
          have e6 : ∀ b, b ≠ n + 3 → (w6.setCell ⟨n + 3, 1, none⟩ (.slice ra' (ms.length + 1) rc')).heap[b]? = w6.heap[b]? := fun b hb => heap_set _ _ _ _ hb
          refine ⟨HC6.out.set1 _, hlo, by rw [size_set]; omega, ownsRow_same HR6.out (fun b hb _ => e6 b (by omega)), hrb, ?_, ownsMap_same HN6.out (e6 _ (by omega)), ownsMap_same HL6.out (e6 _ (by omega)), ?_⟩
          · rw [flatM, List.flatMap_append, List.length_append]
            simpa [flatM, markCells] using ownsRow_same HO6.out (fun b hb _ => e6 b (by omega))
          · rw [List.length_append]; exact ownsMap_same HT6.out (e6 _ (by omega))
    · skip
      refine wp_region_held (S := fun w' => Below W1.heap.size W1 w') (by kernel_rfl) ?_
      change wpAnyH _ _ _ _ _ _ _ _ (World.drew _)
      have hS0 : Below W1.heap.size W1 W1.drew := (Below.refl _ W1).drew
      refine wpAnyH_take (i := 0) (v := ?_) rfl (by kernel_rfl) (by kernel_rfl) (by kernel_rfl) (fun _ _ _ h => h) (Or.inl ⟨by rfl, ?_⟩) hS0 ?_
      rotate_left 1
      · intro W hW
        go_simp
        try with_reducible rfl
      try simp only [Act.put, List.setIfInBounds_toArray, List.set_cons_zero, List.set_cons_succ]
      refine wpAnyH_take (i := 1) (v := ?_) rfl (by kernel_rfl) (by kernel_rfl) (by kernel_rfl) (fun _ _ _ h => h) (Or.inl ⟨by rfl, ?_⟩) hS0 ?_
      rotate_left 1
      · intro W hW
        go_simp
        try with_reducible rfl
      try simp only [Act.put, List.setIfInBounds_toArray, List.set_cons_zero, List.set_cons_succ]
      refine wpAnyH_take (i := 2) (v := ?_) rfl (by kernel_rfl) (by kernel_rfl) (by kernel_rfl) (fun _ _ _ h => h) (Or.inl ⟨by rfl, ?_⟩) hS0 ?_
      rotate_left 1
      · intro W hW
        go_simp
        try with_reducible rfl
      try simp only [Act.put, List.setIfInBounds_toArray, List.set_cons_zero, List.set_cons_succ]
      refine wpAnyH_take (i := 3) (v := ?_) rfl (by kernel_rfl) (by kernel_rfl) (by kernel_rfl) (fun _ _ _ h => h) (Or.inl ⟨by rfl, ?_⟩) hS0 ?_
      rotate_left 1
      · intro W hW
        have e5 := (hW.cell (p := ⟨n + 3, 5, none⟩) (by simp; omega)).trans c5
        go_simp
        try with_reducible rfl
      try simp only [Act.put, List.setIfInBounds_toArray, List.set_cons_zero, List.set_cons_succ]
      refine wpAnyH_take (i := 4) (v := ?_) rfl (by kernel_rfl) (by kernel_rfl) (by kernel_rfl) (fun _ _ _ h => h) (Or.inl ⟨by rfl, ?_⟩) hS0 ?_
      rotate_left 1
      · intro W hW
        have e0 := (hW.cell (p := ⟨w.heap.size, 0, none⟩) hlt).trans p0
        have e1 := (hW.cell (p := ⟨w.heap.size, 1, none⟩) hlt).trans p1
        go_simp
        try with_reducible rfl
      try simp only [Act.put, List.setIfInBounds_toArray, List.set_cons_zero, List.set_cons_succ]
      refine wpAnyH_take (i := 5) (v := ?_) rfl (by kernel_rfl) (by kernel_rfl) (by kernel_rfl) (fun _ _ _ h => h) (Or.inl ⟨by rfl, ?_⟩) hS0 ?_
      rotate_left 1
      · intro W hW
        have eL := L1 W hW
        go_simp
        try with_reducible rfl
      try simp only [Act.put, List.setIfInBounds_toArray, List.set_cons_zero, List.set_cons_succ]
      refine wpAnyH_take (i := 6) (v := ?_) rfl (by kernel_rfl) (by kernel_rfl) (by kernel_rfl) (fun _ _ _ h => h) (Or.inl ⟨by rfl, ?_⟩) hS0 ?_
      rotate_left 1
      · intro W hW
        go_simp
        try with_reducible rfl
      try simp only [Act.put, List.setIfInBounds_toArray, List.set_cons_zero, List.set_cons_succ]
      refine wpAnyH_take (i := 7) (v := ?_) rfl (by kernel_rfl) (by kernel_rfl) (by kernel_rfl) (fun _ _ _ h => h) (Or.inl ⟨by rfl, ?_⟩) hS0 ?_
      rotate_left 1
      · intro W hW
        go_simp
        try with_reducible rfl
      try simp only [Act.put, List.setIfInBounds_toArray, List.set_cons_zero, List.set_cons_succ]
      refine wpAnyH_take (i := 8) (v := ?_) rfl (by kernel_rfl) (by kernel_rfl) (by kernel_rfl) (fun _ _ _ h => h) (Or.inl ⟨by rfl, ?_⟩) hS0 ?_
      rotate_left 1
      · intro W hW
        go_simp
        try with_reducible rfl
      try simp only [Act.put, List.setIfInBounds_toArray, List.set_cons_zero, List.set_cons_succ]
      refine wpAnyH_ready (rs := [9]) (by kernel_rfl) (by simp) (AllReadyH.cons rfl (fun K hK => ?_) AllReadyH.nil)
      go_simp
      refine hK _ _ ?_ ?_
      · exact ((Below.refl _ W1).drew).alloc (Nat.le_refl _) _
      try intro _
      clear hK K
      refine wpAnyH_ready (rs := [10]) (by kernel_rfl) (by simp) (AllReadyH.cons rfl (fun K hK => ?_) AllReadyH.nil)
      go_simp
      refine hK _ _ ?_ ?_
      · exact ((Below.refl _ W1).drew).alloc (Nat.le_refl _) _
      try intro _
      clear hK K
      refine wpAnyH_ready (rs := [11]) (by kernel_rfl) (by simp) (AllReadyH.cons rfl (fun K hK => ?_) AllReadyH.nil)
      go_simp
      refine hK _ _ ?_ ?_
      · exact ((Below.refl _ W1).drew).alloc (Nat.le_refl _) _
      try intro _
      clear hK K
      refine wpAnyH_done (by kernel_rfl) ?_ _
      clear L1
      go_wp2
      go_ret
      rw [hE.out]
      exact ⟨rfl, fun _ => by repeat (first | exact HBW.out | apply Below.drew | refine Below.alloc ?_ (by omega) _), fun h => by cases h⟩
  · have hE : Hid (E = 27) := by
      show E = 27
      rw [← HE.out, markE, HX.out]
      simp only
      rw [if_pos (by simpa using hgood)]
    clear HE HX q0
    cases ok
    · go_wp2
      go_ret
      rw [hE.out]
      exact ⟨rfl, fun _ => HB.out.alloc (by omega) _, fun h => by cases h⟩
    · by_cases h1 : num < 1
      · go_wp2
        go_ret
        rw [hE.out]
        exact ⟨rfl, fun _ => HB.out.alloc (by omega) _, fun h => by cases h⟩
      · have h2 : nd < num := by simp at hgood; omega
        clear hgood
        go_wp2
        go_ret
        rw [hE.out]
        exact ⟨rfl, fun _ => HB.out.alloc (by omega) _, fun h => by cases h⟩
end Go.Proofs.YtfackmiojbdjhaaDoor
