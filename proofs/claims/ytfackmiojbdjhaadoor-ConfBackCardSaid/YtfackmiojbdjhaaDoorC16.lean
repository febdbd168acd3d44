import Derived.Test.YtfackmiojbdjhaaDoorCN
import Derived.Test.YtfackmiojbdjhaaDoorMT
import Derived.Lib.SmallJoins
import Derived.Deep.RegionHeld
/- A label's line. -/
namespace Go.Proofs.YtfackmiojbdjhaaDoor
set_option linter.unusedSimpArgs false
set_option linter.unusedVariables false
open Go.RowKit Go.Maps

theorem str_is (a : ByteArray) (l : List UInt8) : (a.toList == l) = decide (a = ⟨l.toArray⟩) := by
  rw [ByteArray.toList_eq, Bool.eq_iff_iff, beq_iff_eq, decide_eq_true_iff]
  constructor
  · intro h; obtain ⟨⟨x⟩⟩ := a; simp at h; rw [h]
  · rintro rfl; rfl
theorem str_is2 (a b : ByteArray) : (a.toList == b.toList) = decide (a = b) := by
  rw [str_is, ByteArray.toList_eq]
def kw (i : Nat) : ByteArray := if i = 0 then ⟨#[98, 108, 111, 99, 107, 115]⟩ else if i = 1 then ⟨#[110, 111, 100, 101, 115]⟩ else if i = 2 then ⟨#[102, 114, 97, 109, 101, 115]⟩ else if i = 3 then ⟨#[112, 114, 111, 99, 115]⟩ else ⟨#[111, 112, 101, 110, 115]⟩
def clearW : ByteArray := ⟨#[99, 108, 101, 97, 114]⟩
structure Gl (w : World) : Prop where
  keys : ∀ i, i < 5 → w.cell? ⟨0, i, none⟩ = some (.string (kw i))
  max : ∃ m, w.cell? ⟨1, 0, none⟩ = some (.int .i64 m)
theorem Gl.lt {w : World} (h : Gl w) : 1 < w.heap.size := by
  obtain ⟨m, hm⟩ := h.max
  exact World.block_lt_of_cell? w _ hm
theorem Gl.below {w w' : World} {B : Nat} (h : Gl w) (hb : Below B w w') (hB : 2 ≤ B) : Gl w' :=
  ⟨fun i hi => (hb.cell (p := ⟨0, i, none⟩) (by show 0 < B; omega)).trans (h.keys i hi), by obtain ⟨m, hm⟩ := h.max; exact ⟨m, (hb.cell (p := ⟨1, 0, none⟩) (by show 1 < B; omega)).trans hm⟩⟩

def wAt (ws : List ByteArray) (i : Nat) : ByteArray := ws.getD i ByteArray.empty
theorem wAt_is (ws : List ByteArray) (i : Nat) (h : i < ws.length) : ws[i] = wAt ws i := by
  unfold wAt; rw [List.getD_eq_getElem?_getD, List.getElem?_eq_getElem h]; rfl
def numsB (ws : List ByteArray) : Nat → Bool
  | 0 => true
  | k + 1 => numsB ws k && decide (wAt ws (3 + 2 * k) = kw k) && (numC (wAt ws (3 + 2 * k + 1))).isSome
theorem numsB_bad (ws : List ByteArray) (k : Nat) (h : numsB ws k = false) : ∀ n, k ≤ n → numsB ws n = false := by
  intro n hn
  induction n with
  | zero => obtain rfl : k = 0 := by omega
            exact h
  | succ n ih =>
    rcases Nat.lt_or_ge n k with h' | h'
    · obtain rfl : k = n + 1 := by omega
      exact h
    · rw [numsB, ih h']; rfl
def labN (ws : List ByteArray) (i : Nat) : Int := ((numC (wAt ws (3 + 2 * i + 1))).getD 0 : Nat)
def labE (ws : List ByteArray) : Int :=
  if ws.length ≠ 15 ∨ wAt ws 13 ≠ clearW then 28 else if readEr (wAt ws 2).data.toList ≠ 0 then readEr (wAt ws 2).data.toList else if numsB ws 5 = false then 28 else 0
def labRg (ws : List ByteArray) : Rg := ⟨wAt ws 1, readLv (wAt ws 2).data.toList, readCs (wAt ws 2).data.toList, labN ws 0, labN ws 1, labN ws 2, labN ws 3, labN ws 4, 0⟩

theorem Tryd.info9 : (Tryd.prog.info? 9).map (fun i => (i.zero, i.size, i.bytes)) = some (some (.string ByteArray.empty), 1, 16) := by kernel_rfl
/-- the five numbers, as far as they are read -/
structure N5 (w : World) (g : Nat) (ws : List ByteArray) (k : Nat) : Prop where
  lt : g < w.heap.size
  c : ∀ j, j < 5 → w.cell? ⟨g, j, none⟩ = some (.int .i64 (if j < k then labN ws j else 0))
  f : ∀ j, j < 5 → w.frozen? ⟨g, j, none⟩ = false
theorem N5.new (w : World) (ws : List ByteArray) (t : TypeId) : N5 (w.alloc (.cells #[.int .i64 0, .int .i64 0, .int .i64 0, .int .i64 0, .int .i64 0] t)) w.heap.size ws 0 := by
  refine ⟨by simp, fun j hj => ?_, fun j hj => by simp⟩
  match j, hj with
  | 0, _ | 1, _ | 2, _ | 3, _ | 4, _ => simp [World.cell?_alloc_new]
theorem N5.below {w w' : World} {B g : Nat} {ws : List ByteArray} {k : Nat} (h : N5 w g ws k) (hb : Below B w w') (hg : g < B) : N5 w' g ws k :=
  ⟨Nat.lt_of_lt_of_le h.lt hb.size, fun j hj => (hb.cell (p := ⟨g, j, none⟩) hg).trans (h.c j hj), fun j hj => (hb.frozen (p := ⟨g, j, none⟩) hg).trans (h.f j hj)⟩
theorem N5.set {w : World} {g : Nat} {ws : List ByteArray} {k : Nat} (h : N5 w g ws k) (hk : k < 5) : N5 (w.setCell ⟨g, k, none⟩ (.int .i64 (labN ws k))) g ws (k + 1) := by
  refine ⟨by rw [size_set]; exact h.lt, fun j hj => ?_, fun j hj => by rw [World.frozen?_setCell]; exact h.f j hj⟩
  by_cases e : j = k
  · subst e
    rw [World.cell?_setCell_same _ _ _ (h.c j hj), if_pos (Nat.lt_succ_self j)]
  · rw [World.cell?_setCell_other _ _ _ _ (by simp <;> omega), h.c j hj]
    by_cases hjk : j < k
    · rw [if_pos hjk, if_pos (by omega)]
    · rw [if_neg hjk, if_neg (by omega)]
theorem N5.drewN {w : World} {g : Nat} {ws : List ByteArray} {k : Nat} (h : N5 w g ws k) (m : Nat) : N5 (w.drewN m) g ws k := ⟨h.lt, h.c, h.f⟩
theorem numsB_step (ws : List ByteArray) (k : Nat) (h : numsB ws k = true) : numsB ws (k + 1) = (decide (wAt ws (3 + 2 * k) = kw k) && (numC (wAt ws (3 + 2 * k + 1))).isSome) := by
  rw [numsB, h, Bool.true_and]
/-- what a label's line leaves -/
def LabPost (bt : Nat) (vr vc vt : Value) (rs : List Rg) (cls : List ByteArray) (trs : List (Int × ByteArray × ByteArray)) (ws : List ByteArray) (w : World) (e : Ending) (w' : World) : Prop :=
  e = .returned (.int .i64 (labE ws)) ∧ (labE ws ≠ 0 → Below w.heap.size w w') ∧
    (labE ws = 0 → ∃ vr' vc', TX bt w' vr' vc' vt (rs ++ [labRg ws]) (cls ++ [wAt ws 14]) trs ∧ Fr bt (Own3 vr vc vt) (Own3 vr' vc' vt) w w')
theorem LabPost.bad {bt : Nat} {vr vc vt : Value} {rs : List Rg} {cls : List ByteArray} {trs : List (Int × ByteArray × ByteArray)} {ws : List ByteArray} {w w' : World} {e : Ending} (E : Int) (hE : labE ws = E) (h0 : E ≠ 0) (he : e = .returned (.int .i64 E)) (hb : Below w.heap.size w w') : LabPost bt vr vc vt rs cls trs ws w e w' := by
  subst hE
  exact ⟨he, fun _ => hb, fun h => absurd h h0⟩

set_option maxHeartbeats 4000000 in
set_option maxRecDepth 100000 in
theorem readlabel_any (bt A : Nat) (vr vc vt : Value) (rs : List Rg) (cls : List ByteArray) (trs : List (Int × ByteArray × ByteArray)) (ws : List ByteArray) (w : World) (hT : TX bt w vr vc vt rs cls trs) (hG : Gl w) (hbt : 2 ≤ bt)
    (hw : Wd w A ws) (hA : bt < A) (hO : ¬ Own3 vr vc vt A) (hl : ws.length ≤ 5000) (hsz : ∀ s ∈ ws, s.size ≤ 4000) (hr : rs.length ≤ 5000) (hc : cls.length ≤ 5000) :
    Calls Tryd.prog 62 #[.pointer (some ⟨bt, 0, none⟩), .slice (some ⟨A, 0, none⟩) ws.length ws.length] w (LabPost bt vr vc vt rs cls trs ws w) := by
  have HW := Lib.hid hw
  have HT := Lib.hid hT
  have HG := Lib.hid hG
  have HO := Lib.hid hO
  have HZ := Lib.hid hsz
  obtain ⟨i0, hi, hz0, hz1, hz2⟩ := info_parts Tryd.info39
  have hwl : bt < w.heap.size := hT.lt
  clear hT hG hO hsz hw
  by_cases hn : ws.length = 15
  · have HN := Lib.hid hn
    have e13 := HW.out.c 13 (by omega)
    have e2 := HW.out.c 2 (by omega)
    rw [wAt_is ws 13 (by omega)] at e13
    rw [wAt_is ws 2 (by omega)] at e2
    have hz2w : (wAt ws 2).size ≤ 4000 := by rw [← wAt_is ws 2 (by omega)]; exact HZ.out _ (List.getElem_mem _)
    have hb13 := str_is (wAt ws 13) [99, 108, 101, 97, 114]
    by_cases h13 : wAt ws 13 = clearW
    · have q13 : ((wAt ws 13).toList == [99, 108, 101, 97, 114]) = true := by rw [hb13]; simpa [clearW] using h13
      have HE1 : Hid (labE ws = if readEr (wAt ws 2).data.toList ≠ 0 then readEr (wAt ws 2).data.toList else if numsB ws 5 = false then 28 else 0) := by
        show labE ws = _
        unfold labE
        rw [if_neg (fun h => by rcases h with h | h; exact h HN.out; exact h h13)]
      have HP := Lib.hid (fun (W : World) (hb : Below w.heap.size w W) => by
        obtain ⟨m, hm⟩ := (HG.out.below hb (by omega)).max
        exact parse_any (wAt ws 2).data.toList m W (by have : (wAt ws 2).data.toList.length = (wAt ws 2).size := Array.length_toList
                                                       omega) hm)
      have hS2 : (⟨(wAt ws 2).data.toList.toArray⟩ : ByteArray) = wAt ws 2 := by rw [Array.toArray_toList]
      rw [hS2] at HP
      obtain ⟨lv, hlv⟩ : ∃ x, readLv (wAt ws 2).data.toList = x := ⟨_, rfl⟩
      obtain ⟨cs, hcs⟩ : ∃ x, readCs (wAt ws 2).data.toList = x := ⟨_, rfl⟩
      obtain ⟨er, her⟩ : ∃ x, readEr (wAt ws 2).data.toList = x := ⟨_, rfl⟩
      rw [hlv, hcs, her] at HP
      rw [her] at HE1
      have HLR : Hid (labRg ws = ⟨wAt ws 1, lv, cs, labN ws 0, labN ws 1, labN ws 2, labN ws 3, labN ws 4, 0⟩) := by show labRg ws = _; unfold labRg; rw [hlv, hcs]
      have HLv := Lib.hid hlv
      have HCs := Lib.hid hcs
      rw [hn]
      clear hb13 h13 hS2 hlv hcs her hn hz2w
      generalize wAt ws 13 = S13 at *
      generalize wAt ws 2 = S2 at *
      go_enter Tryd.func62, Tryd.ntmps62
      go_wp2_with fail
      refine (HP.out w (Below.refl _ _)).mono ?_
      rintro e w1 ⟨rfl, hb1⟩
      have HB1 := Lib.hid hb1
      have hz1' := hb1.size
      clear hb1 e13 e2 q13
      by_cases he0 : er = 0
      · have HE2 : Hid (labE ws = if numsB ws 5 = false then 28 else 0) := by show labE ws = _; rw [HE1.out, if_neg (by rw [he0]; simp)]
        subst he0
        have hP0 := Pair.new w1 (.int .u8 lv) (.int .u16 cs) 37
        go_wp2
        go_loopw [30] (fun i wr => ∃ k : Nat, k ≤ 5 ∧ i = .int .i64 k ∧ Below w1.heap.size w1 wr ∧ Pair wr w1.heap.size (.int .u8 lv) (.int .u16 cs) ∧ N5 wr (w1.heap.size + 1) ws k ∧ numsB ws k = true) (fun i _ => 5 - (intOf i).toNat)
        case atStart =>
          refine ⟨0, by omega, rfl, ((Below.refl _ w1).alloc (Nat.le_refl _) _).alloc (by simp) _, (Pair.new w1 _ _ _).alloc _, ?_, rfl⟩
          have := N5.new (w1.alloc (.cells #[.int .u8 lv, .int .u16 cs] 37)) ws 115
          simpa using this
        case round =>
          obtain ⟨k, hk, rfl, hb, hp, hn5, hnb⟩ := hrel
          have HNB := Lib.hid hnb
          have HN5 := Lib.hid hn5
          have HPr := Lib.hid hp
          have HB := Lib.hid hb
          have hbW := HB1.out.trans (hb.mono hz1')
          have HBW := Lib.hid hbW
          clear hnb hn5 hp hb hP0
          have hlw : w1.heap.size + 1 < wr.heap.size := HN5.out.lt
          by_cases hlt : k < 5
          · have hsn := HW.out.c (3 + 2 * k + 1) (by rw [HN.out]; omega)
            have hsk := HW.out.c (3 + 2 * k) (by rw [HN.out]; omega)
            rw [wAt_is ws _ (by rw [HN.out]; omega)] at hsn
            rw [wAt_is ws _ (by rw [HN.out]; omega)] at hsk
            have en := (hbW.cell (p := ⟨A, 3 + 2 * k + 1, none⟩) HW.out.lt).trans hsn
            have ek := (hbW.cell (p := ⟨A, 3 + 2 * k, none⟩) HW.out.lt).trans hsk
            have eg := (HG.out.below hbW (by omega)).keys k hlt
            have ec := HN5.out.c k hlt
            have ef := HN5.out.f k hlt
            have hA2 : A < wr.heap.size := Nat.lt_of_lt_of_le HW.out.lt hbW.size
            rw [if_neg (Nat.lt_irrefl k)] at ec
            have HNS := Lib.hid (numsB_step ws k HNB.out)
            have HLN : Hid (labN ws k = ((numC (wAt ws (3 + 2 * k + 1))).getD 0 : Nat)) := rfl
            have hcmp := str_is2 (wAt ws (3 + 2 * k)) (kw k)
            generalize wAt ws (3 + 2 * k + 1) = SN at *
            generalize wAt ws (3 + 2 * k) = SK at *
            generalize kw k = K at *
            clear hsn hsk hbW
            go_wp2_with fail
            refine (number_any4 SN _).mono ?_
            rintro e w2 ⟨rfl, hb2⟩
            have HB2 := Lib.hid (HB.out.trans (hb2.mono HB.out.size))
            have HPr2 := Lib.hid (HPr.out.below hb2 (by omega))
            have HN52 := Lib.hid (HN5.out.below hb2 hlw)
            replace ek := (hb2.cell (p := ⟨A, 3 + 2 * k, none⟩) hA2).trans ek
            replace eg := (hb2.cell (p := ⟨0, k, none⟩) (by show 0 < wr.heap.size; omega)).trans eg
            replace ec := (hb2.cell (p := ⟨w1.heap.size + 1, k, none⟩) hlw).trans ec
            replace ef := (hb2.frozen (p := ⟨w1.heap.size + 1, k, none⟩) hlw).trans ef
            have hlw2 : w1.heap.size + 1 < w2.heap.size := Nat.lt_of_lt_of_le hlw hb2.size
            clear hb2 en HB HPr HN5 HBW hA2
            obtain ⟨V, hV⟩ : ∃ x, (numC SN).getD 0 = x := ⟨_, rfl⟩
            obtain ⟨ok, hok⟩ : ∃ x, (numC SN).isSome = x := ⟨_, rfl⟩
            rw [hV, hok]
            rw [hV] at HLN
            rw [hok] at HNS
            clear hV hok
            have HBad : Hid (numsB ws (k + 1) = false → labE ws = 28) := by
              intro h
              rw [HE2.out, if_pos (numsB_bad ws (k + 1) h 5 (by omega))]
            by_cases hSK : SK = K
            · have hc : (SK.toList == K.toList) = true := by rw [hcmp]; simpa using hSK
              have HSK := Lib.hid hSK
              clear hcmp hSK
              cases ok
              · have HE3 : Hid (labE ws = 28) := HBad.out (by rw [HNS.out, Bool.and_false])
                go_wp2
                go_quiet (fail)
                go_wp2
                go_ret
                exact LabPost.bad 28 HE3.out (by decide) rfl (HB1.out.trans ((below_drewN' HB2.out _).mono hz1'))
              · have HT1 : Hid (numsB ws (k + 1) = true) := by show numsB ws (k + 1) = true; rw [HNS.out, HSK.out]; simp
                go_wp2
                go_quiet (fail)
                go_wp2
                go_roundw
                case rel =>
                  refine ⟨k + 1, by omega, by go_num, ?_, ?_, ?_, HT1.out⟩
                  · exact (below_drewN' HB2.out _).setCell (by simp) _
                  · exact (HPr2.out.drewN _).set_far (by simp) _
                  · have := (N5.drewN HN52.out nq).set hlt
                    rw [HLN.out] at this
                    exact this
                case measure => simp [intOf]; omega
            · have hc : (SK.toList == K.toList) = false := by rw [hcmp]; simpa using hSK
              have HE3 : Hid (labE ws = 28) := HBad.out (by rw [HNS.out]; simp [hSK])
              clear hcmp hSK
              go_wp2
              go_quiet (fail)
              go_wp2
              go_ret
              exact LabPost.bad 28 HE3.out (by decide) rfl (HB1.out.trans ((below_drewN' HB2.out _).mono hz1'))
          · obtain rfl : k = 5 := by omega
            have HE3 : Hid (labE ws = 0) := by show labE ws = 0; rw [HE2.out, if_neg (by rw [HNB.out]; decide)]
            obtain ⟨w3, rfl⟩ : ∃ x, x = wr := ⟨wr, rfl⟩
            have HT3 := Lib.hid (HT.out.below hbW)
            have HW3 := Lib.hid (HW.out.below hbW)
            have hzw : w.heap.size ≤ w1.heap.size := hz1'
            have hb3 : Below w.heap.size w w3 := hbW
            clear hbW
            obtain ⟨-, p0, p1, -, -⟩ := HPr.out
            have n0 := HN5.out.c 0 (by omega)
            have n1 := HN5.out.c 1 (by omega)
            have n2 := HN5.out.c 2 (by omega)
            have n3 := HN5.out.c 3 (by omega)
            have n4 := HN5.out.c 4 (by omega)
            simp only [Nat.reduceLT, if_true] at n0 n1 n2 n3 n4
            generalize labN ws 0 = N0 at *
            generalize labN ws 1 = N1 at *
            generalize labN ws 2 = N2 at *
            generalize labN ws 3 = N3 at *
            generalize labN ws 4 = N4 at *
            have e1 := HW3.out.c 1 (by rw [HN.out]; omega)
            have e14 := HW3.out.c 14 (by rw [HN.out]; omega)
            rw [wAt_is ws _ (by rw [HN.out]; omega)] at e1 e14
            have HA3 := Lib.hid HW3.out.lt
            obtain ⟨lt, c0, c1, c2, f0, f1, f2, rr, rc, rt, d1, d2, d3⟩ := id HT3.out
            have HRR := Lib.hid rr
            have hOr : ∀ g, w.heap.size ≤ g → Value.ownBlock vr ≠ some g := fun g hg e => by have := ownsRow_lt0 HT.out.rr g e; omega
            have HOR := Lib.hid hOr
            have HOA : Hid (Value.ownBlock vr ≠ some A) := fun e => HO.out (.inl e)
            generalize wAt ws 1 = S1 at *
            clear rr rc rt d1 d2 d3 c1 c2 f1 f2 hOr
            obtain ⟨ra, rcap, rfl⟩ := ownsRow_form HRR.out
            have hlt3 : bt < w3.heap.size := lt
            go_wp2
            obtain ⟨S14, hS14⟩ : ∃ x, wAt ws 14 = x := ⟨_, rfl⟩
            rw [hS14] at e14
            have HS14 := Lib.hid hS14
            clear hS14
            refine wp_region_held (S := Sx w3 bt (.slice ra rs.length rcap)) (by kernel_rfl) ?_
            change wpAnyH _ _ _ _ _ _ _ _ (World.drew _)
            have hS0 : Sx w3 bt (.slice ra rs.length rcap) w3.drew := (Sx.refl _ _ _).drew
            refine wpAnyH_take (i := 0) (v := ?_) rfl (by kernel_rfl) (by kernel_rfl) (by kernel_rfl) (fun _ _ _ h => h) (Or.inl ⟨by rfl, ?_⟩) hS0 ?_
            rotate_left 1
            · intro W hW
              go_simp
              try with_reducible rfl
            try simp only [Act.put, List.setIfInBounds_toArray, List.set_cons_zero, List.set_cons_succ]
            refine wpAnyH_take (i := 1) (v := ?_) rfl (by kernel_rfl) (by kernel_rfl) (by kernel_rfl) (fun _ _ _ h => h) (Or.inl ⟨by rfl, ?_⟩) hS0 ?_
            rotate_left 1
            · intro W hW
              go_simp
              try with_reducible rfl
            try simp only [Act.put, List.setIfInBounds_toArray, List.set_cons_zero, List.set_cons_succ]
            refine wpAnyH_take (i := 2) (v := ?_) rfl (by kernel_rfl) (by kernel_rfl) (by kernel_rfl) (fun _ _ _ h => h) (Or.inl ⟨by rfl, ?_⟩) hS0 ?_
            rotate_left 1
            · intro W hW
              go_simp
              try with_reducible rfl
            try simp only [Act.put, List.setIfInBounds_toArray, List.set_cons_zero, List.set_cons_succ]
            refine wpAnyH_take (i := 3) (v := ?_) rfl (by kernel_rfl) (by kernel_rfl) (by kernel_rfl) (fun _ _ _ h => h) (Or.inl ⟨by rfl, ?_⟩) hS0 ?_
            rotate_left 1
            · intro W hW
              go_simp
              try with_reducible rfl
            try simp only [Act.put, List.setIfInBounds_toArray, List.set_cons_zero, List.set_cons_succ]
            refine wpAnyH_take (i := 5) (v := ?_) rfl (by kernel_rfl) (by kernel_rfl) (by kernel_rfl) (fun _ _ _ h => h) (Or.inl ⟨by rfl, ?_⟩) hS0 ?_
            rotate_left 1
            · intro W hW
              go_simp
              try with_reducible rfl
            try simp only [Act.put, List.setIfInBounds_toArray, List.set_cons_zero, List.set_cons_succ]
            refine wpAnyH_take (i := 6) (v := ?_) rfl (by kernel_rfl) (by kernel_rfl) (by kernel_rfl) (fun _ _ _ h => h) (Or.inl ⟨by rfl, ?_⟩) hS0 ?_
            rotate_left 1
            · intro W hW
              go_simp
              try with_reducible rfl
            try simp only [Act.put, List.setIfInBounds_toArray, List.set_cons_zero, List.set_cons_succ]
            refine wpAnyH_take (i := 7) (v := ?_) rfl (by kernel_rfl) (by kernel_rfl) (by kernel_rfl) (fun _ _ _ h => h) (Or.inl ⟨by rfl, ?_⟩) hS0 ?_
            rotate_left 1
            · intro W hW
              have e1_ := (hW.cell (b := A) (o := 1) HA3.out (by omega) HOA.out).trans e1
              go_simp
              try with_reducible rfl
            try simp only [Act.put, List.setIfInBounds_toArray, List.set_cons_zero, List.set_cons_succ]
            refine wpAnyH_take (i := 8) (v := ?_) rfl (by kernel_rfl) (by kernel_rfl) (by kernel_rfl) (fun _ _ _ h => h) (Or.inl ⟨by rfl, ?_⟩) hS0 ?_
            rotate_left 1
            · intro W hW
              have p0_ := (hW.cell (b := w1.heap.size) (o := 0) (by omega) (by omega) (HOR.out _ (by omega))).trans p0
              have p1_ := (hW.cell (b := w1.heap.size) (o := 1) (by omega) (by omega) (HOR.out _ (by omega))).trans p1
              go_simp
              try with_reducible rfl
            try simp only [Act.put, List.setIfInBounds_toArray, List.set_cons_zero, List.set_cons_succ]
            refine wpAnyH_take (i := 9) (v := ?_) rfl (by kernel_rfl) (by kernel_rfl) (by kernel_rfl) (fun _ _ _ h => h) (Or.inl ⟨by rfl, ?_⟩) hS0 ?_
            rotate_left 1
            · intro W hW
              go_simp
              try with_reducible rfl
            try simp only [Act.put, List.setIfInBounds_toArray, List.set_cons_zero, List.set_cons_succ]
            refine wpAnyH_take (i := 10) (v := ?_) rfl (by kernel_rfl) (by kernel_rfl) (by kernel_rfl) (fun _ _ _ h => h) (Or.inl ⟨by rfl, ?_⟩) hS0 ?_
            rotate_left 1
            · intro W hW
              have n0_ := (hW.cell (b := w1.heap.size + 1) (o := 0) (by omega) (by omega) (HOR.out _ (by omega))).trans n0
              go_simp
              try with_reducible rfl
            try simp only [Act.put, List.setIfInBounds_toArray, List.set_cons_zero, List.set_cons_succ]
            refine wpAnyH_take (i := 11) (v := ?_) rfl (by kernel_rfl) (by kernel_rfl) (by kernel_rfl) (fun _ _ _ h => h) (Or.inl ⟨by rfl, ?_⟩) hS0 ?_
            rotate_left 1
            · intro W hW
              go_simp
              try with_reducible rfl
            try simp only [Act.put, List.setIfInBounds_toArray, List.set_cons_zero, List.set_cons_succ]
            refine wpAnyH_take (i := 12) (v := ?_) rfl (by kernel_rfl) (by kernel_rfl) (by kernel_rfl) (fun _ _ _ h => h) (Or.inl ⟨by rfl, ?_⟩) hS0 ?_
            rotate_left 1
            · intro W hW
              have n1_ := (hW.cell (b := w1.heap.size + 1) (o := 1) (by omega) (by omega) (HOR.out _ (by omega))).trans n1
              go_simp
              try with_reducible rfl
            try simp only [Act.put, List.setIfInBounds_toArray, List.set_cons_zero, List.set_cons_succ]
            refine wpAnyH_take (i := 13) (v := ?_) rfl (by kernel_rfl) (by kernel_rfl) (by kernel_rfl) (fun _ _ _ h => h) (Or.inl ⟨by rfl, ?_⟩) hS0 ?_
            rotate_left 1
            · intro W hW
              go_simp
              try with_reducible rfl
            try simp only [Act.put, List.setIfInBounds_toArray, List.set_cons_zero, List.set_cons_succ]
            refine wpAnyH_take (i := 14) (v := ?_) rfl (by kernel_rfl) (by kernel_rfl) (by kernel_rfl) (fun _ _ _ h => h) (Or.inl ⟨by rfl, ?_⟩) hS0 ?_
            rotate_left 1
            · intro W hW
              have n2_ := (hW.cell (b := w1.heap.size + 1) (o := 2) (by omega) (by omega) (HOR.out _ (by omega))).trans n2
              go_simp
              try with_reducible rfl
            try simp only [Act.put, List.setIfInBounds_toArray, List.set_cons_zero, List.set_cons_succ]
            refine wpAnyH_take (i := 15) (v := ?_) rfl (by kernel_rfl) (by kernel_rfl) (by kernel_rfl) (fun _ _ _ h => h) (Or.inl ⟨by rfl, ?_⟩) hS0 ?_
            rotate_left 1
            · intro W hW
              go_simp
              try with_reducible rfl
            try simp only [Act.put, List.setIfInBounds_toArray, List.set_cons_zero, List.set_cons_succ]
            refine wpAnyH_take (i := 16) (v := ?_) rfl (by kernel_rfl) (by kernel_rfl) (by kernel_rfl) (fun _ _ _ h => h) (Or.inl ⟨by rfl, ?_⟩) hS0 ?_
            rotate_left 1
            · intro W hW
              have n3_ := (hW.cell (b := w1.heap.size + 1) (o := 3) (by omega) (by omega) (HOR.out _ (by omega))).trans n3
              go_simp
              try with_reducible rfl
            try simp only [Act.put, List.setIfInBounds_toArray, List.set_cons_zero, List.set_cons_succ]
            refine wpAnyH_take (i := 17) (v := ?_) rfl (by kernel_rfl) (by kernel_rfl) (by kernel_rfl) (fun _ _ _ h => h) (Or.inl ⟨by rfl, ?_⟩) hS0 ?_
            rotate_left 1
            · intro W hW
              go_simp
              try with_reducible rfl
            try simp only [Act.put, List.setIfInBounds_toArray, List.set_cons_zero, List.set_cons_succ]
            refine wpAnyH_take (i := 18) (v := ?_) rfl (by kernel_rfl) (by kernel_rfl) (by kernel_rfl) (fun _ _ _ h => h) (Or.inl ⟨by rfl, ?_⟩) hS0 ?_
            rotate_left 1
            · intro W hW
              have n4_ := (hW.cell (b := w1.heap.size + 1) (o := 4) (by omega) (by omega) (HOR.out _ (by omega))).trans n4
              go_simp
              try with_reducible rfl
            try simp only [Act.put, List.setIfInBounds_toArray, List.set_cons_zero, List.set_cons_succ]
            refine wpAnyH_take (i := 19) (v := ?_) rfl (by kernel_rfl) (by kernel_rfl) (by kernel_rfl) (fun _ _ _ h => h) (Or.inl ⟨by rfl, ?_⟩) hS0 ?_
            rotate_left 1
            · intro W hW
              go_simp
              try with_reducible rfl
            try simp only [Act.put, List.setIfInBounds_toArray, List.set_cons_zero, List.set_cons_succ]
            clear hS0
            refine wpAnyH_ready (rs := [4, 20]) (by kernel_rfl) (by simp) (AllReadyH.cons rfl (fun K hK => ?_) (AllReadyH.cons rfl (fun K hK => ?_) AllReadyH.nil))
            · go_simp
              refine hK _ _ ?_ ?_
              · exact (Sx.refl w3 bt _).drew
              try intro _
              clear hK K
              refine wpAnyH_ready (rs := [20]) (by kernel_rfl) (by simp) (AllReadyH.cons rfl (fun K hK => ?_) AllReadyH.nil)
              go_simp
              refine hK _ _ ?_ ?_
              · exact ((Sx.refl w3 bt _).alloc (by omega) _).drew
              try intro _
              clear hK K
              refine wpAnyH_ready (rs := [21]) (by kernel_rfl) (by simp) (AllReadyH.cons rfl (fun K hK => ?_) AllReadyH.nil)
              simp only [Region.wanted, if_true]
              refine wp_append_at _ _ 22 rfl (bt + 1) 39 i0 _ 9 72 Tryd.underlying22 hi hz0 hz1 hz2 rfl (by decide) _ _ _ rfl (HRR.out.alloc _) ⟨w3.heap.size, 0, none⟩ 1 1 [.string S1, .int .u8 lv, .int .u16 cs, .int .i64 N0, .int .i64 N1, .int .i64 N2, .int .i64 N3, .int .i64 N4, .int .i64 0] rfl rfl (cells_new w3 _ 39) (by simp [Value.oneCell']) (by unfold maxLen; omega) (by omega) (by simp; omega) (fun v' w6 hown hg6 hloc => ?_)
              obtain ⟨ra', rc', rfl⟩ := ownsRow_form hown
              have hS6 : Sx w3 bt (.slice ra rs.length rcap) w6 := (((Sx.refl w3 bt _).alloc (by omega) _).drew).grown hg6 (by omega) (fun k hk => by have := ownsRow_block HRR.out k hk; omega)
              refine hK _ _ hS6 ?_
              try intro _
              clear hK K
              have hbt6 : w6.heap[bt]? = w3.heap[bt]? := (hg6.block bt (by simp; omega) (fun e => by have := ownsRow_block HRR.out bt e.symm; omega)).trans ((MapKept.heap_alloc w3 _).2 bt (by omega))
              have c06 := (cell_same hbt6).trans c0
              have f06 := (frozen_same hbt6).trans f0
              have HOWN := Lib.hid hown
              have HLOC := Lib.hid hloc
              have HS6 := Lib.hid hS6
              have HBT6 := Lib.hid hbt6
              clear hown hloc hg6 hbt6 c0 f0 hS6
              refine wpAnyH_ready (rs := [22]) (by kernel_rfl) (by simp) (AllReadyH.cons rfl (fun K hK => ?_) AllReadyH.nil)
              go_simp
              refine hK _ _ ?_ ?_
              · exact HS6.out
              try intro _
              clear hK K
              refine wpAnyH_ready (rs := [23]) (by kernel_rfl) (by simp) (AllReadyH.cons rfl (fun K hK => ?_) AllReadyH.nil)
              go_simp
              refine hK _ _ ?_ ?_
              · exact HS6.out
              try intro _
              clear hK K
              refine wpAnyH_ready (rs := [24]) (by kernel_rfl) (by simp) (AllReadyH.cons rfl (fun K hK => ?_) AllReadyH.nil)
              go_simp
              refine hK _ _ ?_ ?_
              · exact HS6.out.set 0 _
              try intro _
              clear hK K
              refine wpAnyH_done (by kernel_rfl) ?_ _
              have HX := Lib.hid (TX.step0 (v := .slice ra' (rs.length + 1) rc') (rs ++ [⟨S1, lv, cs, N0, N1, N2, N3, N4, 0⟩]) HT3.out HS6.out HBT6.out (by
                rw [List.length_append, flatR, List.flatMap_append]
                simpa [flatR, Rg.cells] using HOWN.out) (by
                rcases HLOC.out with h | h
                · exact .inl h
                · exact .inr ⟨_, h, by simp⟩))
              clear c06 f06 HOWN HLOC HS6 HBT6 e1 p0 p1 n0 n1 n2 n3 n4
              obtain ⟨w7, hw7⟩ : ∃ x, w6.setCell ⟨bt, 0, none⟩ (.slice ra' (rs.length + 1) rc') = x := ⟨_, rfl⟩
              go_wp2
              rw [hw7] at HX ⊢
              obtain ⟨HT7, HF7⟩ := HX.out
              have HT7 := Lib.hid HT7
              have HF7 := Lib.hid HF7
              have q14 := (cell_same (HF7.out.same A HA3.out (by omega) HO.out)).trans e14
              have hA7 : A < w7.heap.size := Nat.lt_of_lt_of_le HA3.out HF7.out.sz
              clear HX hw7
              obtain ⟨lt, c0, c1, c2, f0, f1, f2, rr, rc, rt, d1, d2, d3⟩ := id HT7.out
              have HRC := Lib.hid rc
              have HOC : Hid (Value.ownBlock vc ≠ some A) := fun e => HO.out (.inr (.inl e))
              clear rr rc rt d1 d2 d3 c0 c2 f0 f2
              obtain ⟨ca, ccap, rfl⟩ := ownsRow_form HRC.out
              have hlt7 : bt < w7.heap.size := lt
              obtain ⟨i1, hi', hz0', hz1'', hz2'⟩ := info_parts Tryd.info9
              refine wp_region_held (S := Sx w7 bt (.slice ca cls.length ccap)) (by kernel_rfl) ?_
              change wpAnyH _ _ _ _ _ _ _ _ (World.drew _)
              have hS0 : Sx w7 bt (.slice ca cls.length ccap) w7.drew := (Sx.refl _ _ _).drew
              refine wpAnyH_take (i := 0) (v := ?_) rfl (by kernel_rfl) (by kernel_rfl) (by kernel_rfl) (fun _ _ _ h => h) (Or.inl ⟨by rfl, ?_⟩) hS0 ?_
              rotate_left 1
              · intro W hW
                go_simp
                try with_reducible rfl
              try simp only [Act.put, List.setIfInBounds_toArray, List.set_cons_zero, List.set_cons_succ]
              refine wpAnyH_take (i := 1) (v := ?_) rfl (by kernel_rfl) (by kernel_rfl) (by kernel_rfl) (fun _ _ _ h => h) (Or.inl ⟨by rfl, ?_⟩) hS0 ?_
              rotate_left 1
              · intro W hW
                go_simp
                try with_reducible rfl
              try simp only [Act.put, List.setIfInBounds_toArray, List.set_cons_zero, List.set_cons_succ]
              refine wpAnyH_take (i := 2) (v := ?_) rfl (by kernel_rfl) (by kernel_rfl) (by kernel_rfl) (fun _ _ _ h => h) (Or.inl ⟨by rfl, ?_⟩) hS0 ?_
              rotate_left 1
              · intro W hW
                go_simp
                try with_reducible rfl
              try simp only [Act.put, List.setIfInBounds_toArray, List.set_cons_zero, List.set_cons_succ]
              refine wpAnyH_take (i := 3) (v := ?_) rfl (by kernel_rfl) (by kernel_rfl) (by kernel_rfl) (fun _ _ _ h => h) (Or.inl ⟨by rfl, ?_⟩) hS0 ?_
              rotate_left 1
              · intro W hW
                go_simp
                try with_reducible rfl
              try simp only [Act.put, List.setIfInBounds_toArray, List.set_cons_zero, List.set_cons_succ]
              refine wpAnyH_take (i := 5) (v := ?_) rfl (by kernel_rfl) (by kernel_rfl) (by kernel_rfl) (fun _ _ _ h => h) (Or.inl ⟨by rfl, ?_⟩) hS0 ?_
              rotate_left 1
              · intro W hW
                go_simp
                try with_reducible rfl
              try simp only [Act.put, List.setIfInBounds_toArray, List.set_cons_zero, List.set_cons_succ]
              refine wpAnyH_take (i := 6) (v := ?_) rfl (by kernel_rfl) (by kernel_rfl) (by kernel_rfl) (fun _ _ _ h => h) (Or.inl ⟨by rfl, ?_⟩) hS0 ?_
              rotate_left 1
              · intro W hW
                go_simp
                try with_reducible rfl
              try simp only [Act.put, List.setIfInBounds_toArray, List.set_cons_zero, List.set_cons_succ]
              refine wpAnyH_take (i := 7) (v := ?_) rfl (by kernel_rfl) (by kernel_rfl) (by kernel_rfl) (fun _ _ _ h => h) (Or.inl ⟨by rfl, ?_⟩) hS0 ?_
              rotate_left 1
              · intro W hW
                have q14_ := (hW.cell (b := A) (o := 14) hA7 (by omega) HOC.out).trans q14
                go_simp
                try with_reducible rfl
              try simp only [Act.put, List.setIfInBounds_toArray, List.set_cons_zero, List.set_cons_succ]
              refine wpAnyH_ready (rs := [4, 8]) (by kernel_rfl) (by simp) (AllReadyH.cons rfl (fun K hK => ?_) (AllReadyH.cons rfl (fun K hK => ?_) AllReadyH.nil))
              · go_simp
                refine hK _ _ ?_ ?_
                · exact (Sx.refl w7 bt _).drew
                try intro _
                clear hK K
                refine wpAnyH_ready (rs := [8]) (by kernel_rfl) (by simp) (AllReadyH.cons rfl (fun K hK => ?_) AllReadyH.nil)
                go_simp
                refine hK _ _ ?_ ?_
                · exact ((Sx.refl w7 bt _).alloc (by omega) _).drew
                try intro _
                clear hK K
                refine wpAnyH_ready (rs := [9]) (by kernel_rfl) (by simp) (AllReadyH.cons rfl (fun K hK => ?_) AllReadyH.nil)
                simp only [Region.wanted, if_true]
                refine wp_append_at _ _ 51 rfl (bt + 1) 9 i1 _ 1 16 Tryd.underlying51 hi' hz0' hz1'' hz2' rfl (by decide) _ _ _ rfl (HRC.out.alloc _) ⟨w7.heap.size, 0, none⟩ 1 1 [.string S14] rfl rfl (cells_new w7 _ 9) (by simp [Value.oneCell']) (by unfold maxLen; omega) (by omega) (by simp; omega) (fun v8 w8 hown hg8 hloc => ?_)
                obtain ⟨ra8, rc8, rfl⟩ := ownsRow_form hown
                have hS8 : Sx w7 bt (.slice ca cls.length ccap) w8 := (((Sx.refl w7 bt _).alloc (by omega) _).drew).grown hg8 (by omega) (fun k hk => by have := ownsRow_block HRC.out k hk; omega)
                refine hK _ _ hS8 ?_
                try intro _
                clear hK K
                have hbt8 : w8.heap[bt]? = w7.heap[bt]? := (hg8.block bt (by simp; omega) (fun e => by have := ownsRow_block HRC.out bt e.symm; omega)).trans ((MapKept.heap_alloc w7 _).2 bt (by omega))
                have c18 := (cell_same hbt8).trans c1
                have f18 := (frozen_same hbt8).trans f1
                have HOWN := Lib.hid hown
                have HLOC := Lib.hid hloc
                have HS8 := Lib.hid hS8
                have HBT8 := Lib.hid hbt8
                clear hown hloc hg8 hbt8 c1 f1 hS8
                refine wpAnyH_ready (rs := [10]) (by kernel_rfl) (by simp) (AllReadyH.cons rfl (fun K hK => ?_) AllReadyH.nil)
                go_simp
                refine hK _ _ ?_ ?_
                · exact HS8.out
                try intro _
                clear hK K
                refine wpAnyH_ready (rs := [11]) (by kernel_rfl) (by simp) (AllReadyH.cons rfl (fun K hK => ?_) AllReadyH.nil)
                go_simp
                refine hK _ _ ?_ ?_
                · exact HS8.out
                try intro _
                clear hK K
                refine wpAnyH_ready (rs := [12]) (by kernel_rfl) (by simp) (AllReadyH.cons rfl (fun K hK => ?_) AllReadyH.nil)
                go_simp
                refine hK _ _ ?_ ?_
                · exact HS8.out.set 1 _
                try intro _
                clear hK K
                refine wpAnyH_done (by kernel_rfl) ?_ _
                have HX := Lib.hid (TX.step1 (v := .slice ra8 (cls.length + 1) rc8) (cls ++ [S14]) HT7.out HS8.out HBT8.out (by
                  rw [List.length_append, List.map_append]
                  exact HOWN.out) (by
                  rcases HLOC.out with h | h
                  · exact .inl h
                  · exact .inr ⟨_, h, by simp⟩))
                clear c18 f18 q14
                go_wp2
                go_ret
                refine ⟨by rw [HE3.out]; rfl, fun h => absurd HE3.out h, fun _ => ⟨.slice ra' (rs.length + 1) rc', .slice ra8 (cls.length + 1) rc8, ?_, ?_⟩⟩
                · rw [HLR.out, HS14.out]; exact HX.out.1
                · exact ((Fr.below hb3 (by omega)).trans HF7.out).trans HX.out.2
              · go_simp
                refine hK _ _ ?_ ?_
                · exact ((Sx.refl w7 bt _).alloc (by omega) _).drew
                try intro _
                clear hK K
                refine wpAnyH_ready (rs := [4]) (by kernel_rfl) (by simp) (AllReadyH.cons rfl (fun K hK => ?_) AllReadyH.nil)
                go_simp
                refine hK _ _ ?_ ?_
                · exact ((Sx.refl w7 bt _).alloc (by omega) _).drew
                try intro _
                clear hK K
                refine wpAnyH_ready (rs := [9]) (by kernel_rfl) (by simp) (AllReadyH.cons rfl (fun K hK => ?_) AllReadyH.nil)
                simp only [Region.wanted, if_true]
                refine wp_append_at _ _ 51 rfl (bt + 1) 9 i1 _ 1 16 Tryd.underlying51 hi' hz0' hz1'' hz2' rfl (by decide) _ _ _ rfl (HRC.out.alloc _) ⟨w7.heap.size, 0, none⟩ 1 1 [.string S14] rfl rfl (cells_new w7 _ 9) (by simp [Value.oneCell']) (by unfold maxLen; omega) (by omega) (by simp; omega) (fun v8 w8 hown hg8 hloc => ?_)
                obtain ⟨ra8, rc8, rfl⟩ := ownsRow_form hown
                have hS8 : Sx w7 bt (.slice ca cls.length ccap) w8 := (((Sx.refl w7 bt _).alloc (by omega) _).drew).grown hg8 (by omega) (fun k hk => by have := ownsRow_block HRC.out k hk; omega)
                refine hK _ _ hS8 ?_
                try intro _
                clear hK K
                have hbt8 : w8.heap[bt]? = w7.heap[bt]? := (hg8.block bt (by simp; omega) (fun e => by have := ownsRow_block HRC.out bt e.symm; omega)).trans ((MapKept.heap_alloc w7 _).2 bt (by omega))
                have c18 := (cell_same hbt8).trans c1
                have f18 := (frozen_same hbt8).trans f1
                have HOWN := Lib.hid hown
                have HLOC := Lib.hid hloc
                have HS8 := Lib.hid hS8
                have HBT8 := Lib.hid hbt8
                clear hown hloc hg8 hbt8 c1 f1 hS8
                refine wpAnyH_ready (rs := [10]) (by kernel_rfl) (by simp) (AllReadyH.cons rfl (fun K hK => ?_) AllReadyH.nil)
                go_simp
                refine hK _ _ ?_ ?_
                · exact HS8.out
                try intro _
                clear hK K
                refine wpAnyH_ready (rs := [11]) (by kernel_rfl) (by simp) (AllReadyH.cons rfl (fun K hK => ?_) AllReadyH.nil)
                go_simp
                refine hK _ _ ?_ ?_
                · exact HS8.out
                try intro _
                clear hK K
                refine wpAnyH_ready (rs := [12]) (by kernel_rfl) (by simp) (AllReadyH.cons rfl (fun K hK => ?_) AllReadyH.nil)
                go_simp
                refine hK _ _ ?_ ?_
                · exact HS8.out.set 1 _
                try intro _
                clear hK K
                refine wpAnyH_done (by kernel_rfl) ?_ _
                have HX := Lib.hid (TX.step1 (v := .slice ra8 (cls.length + 1) rc8) (cls ++ [S14]) HT7.out HS8.out HBT8.out (by
                  rw [List.length_append, List.map_append]
                  exact HOWN.out) (by
                  rcases HLOC.out with h | h
                  · exact .inl h
                  · exact .inr ⟨_, h, by simp⟩))
                clear c18 f18 q14
                go_wp2
                go_ret
                refine ⟨by rw [HE3.out]; rfl, fun h => absurd HE3.out h, fun _ => ⟨.slice ra' (rs.length + 1) rc', .slice ra8 (cls.length + 1) rc8, ?_, ?_⟩⟩
                · rw [HLR.out, HS14.out]; exact HX.out.1
                · exact ((Fr.below hb3 (by omega)).trans HF7.out).trans HX.out.2
            · go_simp
              refine hK _ _ ?_ ?_
              · exact ((Sx.refl w3 bt _).alloc (by omega) _).drew
              try intro _
              clear hK K
              refine wpAnyH_ready (rs := [4]) (by kernel_rfl) (by simp) (AllReadyH.cons rfl (fun K hK => ?_) AllReadyH.nil)
              go_simp
              refine hK _ _ ?_ ?_
              · exact ((Sx.refl w3 bt _).alloc (by omega) _).drew
              try intro _
              clear hK K
              refine wpAnyH_ready (rs := [21]) (by kernel_rfl) (by simp) (AllReadyH.cons rfl (fun K hK => ?_) AllReadyH.nil)
              simp only [Region.wanted, if_true]
              refine wp_append_at _ _ 22 rfl (bt + 1) 39 i0 _ 9 72 Tryd.underlying22 hi hz0 hz1 hz2 rfl (by decide) _ _ _ rfl (HRR.out.alloc _) ⟨w3.heap.size, 0, none⟩ 1 1 [.string S1, .int .u8 lv, .int .u16 cs, .int .i64 N0, .int .i64 N1, .int .i64 N2, .int .i64 N3, .int .i64 N4, .int .i64 0] rfl rfl (cells_new w3 _ 39) (by simp [Value.oneCell']) (by unfold maxLen; omega) (by omega) (by simp; omega) (fun v' w6 hown hg6 hloc => ?_)
              obtain ⟨ra', rc', rfl⟩ := ownsRow_form hown
              have hS6 : Sx w3 bt (.slice ra rs.length rcap) w6 := (((Sx.refl w3 bt _).alloc (by omega) _).drew).grown hg6 (by omega) (fun k hk => by have := ownsRow_block HRR.out k hk; omega)
              refine hK _ _ hS6 ?_
              try intro _
              clear hK K
              have hbt6 : w6.heap[bt]? = w3.heap[bt]? := (hg6.block bt (by simp; omega) (fun e => by have := ownsRow_block HRR.out bt e.symm; omega)).trans ((MapKept.heap_alloc w3 _).2 bt (by omega))
              have c06 := (cell_same hbt6).trans c0
              have f06 := (frozen_same hbt6).trans f0
              have HOWN := Lib.hid hown
              have HLOC := Lib.hid hloc
              have HS6 := Lib.hid hS6
              have HBT6 := Lib.hid hbt6
              clear hown hloc hg6 hbt6 c0 f0 hS6
              refine wpAnyH_ready (rs := [22]) (by kernel_rfl) (by simp) (AllReadyH.cons rfl (fun K hK => ?_) AllReadyH.nil)
              go_simp
              refine hK _ _ ?_ ?_
              · exact HS6.out
              try intro _
              clear hK K
              refine wpAnyH_ready (rs := [23]) (by kernel_rfl) (by simp) (AllReadyH.cons rfl (fun K hK => ?_) AllReadyH.nil)
              go_simp
              refine hK _ _ ?_ ?_
              · exact HS6.out
              try intro _
              clear hK K
              refine wpAnyH_ready (rs := [24]) (by kernel_rfl) (by simp) (AllReadyH.cons rfl (fun K hK => ?_) AllReadyH.nil)
              go_simp
              refine hK _ _ ?_ ?_
              · exact HS6.out.set 0 _
              try intro _
              clear hK K
              refine wpAnyH_done (by kernel_rfl) ?_ _
              have HX := Lib.hid (TX.step0 (v := .slice ra' (rs.length + 1) rc') (rs ++ [⟨S1, lv, cs, N0, N1, N2, N3, N4, 0⟩]) HT3.out HS6.out HBT6.out (by
                rw [List.length_append, flatR, List.flatMap_append]
                simpa [flatR, Rg.cells] using HOWN.out) (by
                rcases HLOC.out with h | h
                · exact .inl h
                · exact .inr ⟨_, h, by simp⟩))
              clear c06 f06 HOWN HLOC HS6 HBT6 e1 p0 p1 n0 n1 n2 n3 n4
              obtain ⟨w7, hw7⟩ : ∃ x, w6.setCell ⟨bt, 0, none⟩ (.slice ra' (rs.length + 1) rc') = x := ⟨_, rfl⟩
              go_wp2
              rw [hw7] at HX ⊢
              obtain ⟨HT7, HF7⟩ := HX.out
              have HT7 := Lib.hid HT7
              have HF7 := Lib.hid HF7
              have q14 := (cell_same (HF7.out.same A HA3.out (by omega) HO.out)).trans e14
              have hA7 : A < w7.heap.size := Nat.lt_of_lt_of_le HA3.out HF7.out.sz
              clear HX hw7
              obtain ⟨lt, c0, c1, c2, f0, f1, f2, rr, rc, rt, d1, d2, d3⟩ := id HT7.out
              have HRC := Lib.hid rc
              have HOC : Hid (Value.ownBlock vc ≠ some A) := fun e => HO.out (.inr (.inl e))
              clear rr rc rt d1 d2 d3 c0 c2 f0 f2
              obtain ⟨ca, ccap, rfl⟩ := ownsRow_form HRC.out
              have hlt7 : bt < w7.heap.size := lt
              obtain ⟨i1, hi', hz0', hz1'', hz2'⟩ := info_parts Tryd.info9
              refine wp_region_held (S := Sx w7 bt (.slice ca cls.length ccap)) (by kernel_rfl) ?_
              change wpAnyH _ _ _ _ _ _ _ _ (World.drew _)
              have hS0 : Sx w7 bt (.slice ca cls.length ccap) w7.drew := (Sx.refl _ _ _).drew
              refine wpAnyH_take (i := 0) (v := ?_) rfl (by kernel_rfl) (by kernel_rfl) (by kernel_rfl) (fun _ _ _ h => h) (Or.inl ⟨by rfl, ?_⟩) hS0 ?_
              rotate_left 1
              · intro W hW
                go_simp
                try with_reducible rfl
              try simp only [Act.put, List.setIfInBounds_toArray, List.set_cons_zero, List.set_cons_succ]
              refine wpAnyH_take (i := 1) (v := ?_) rfl (by kernel_rfl) (by kernel_rfl) (by kernel_rfl) (fun _ _ _ h => h) (Or.inl ⟨by rfl, ?_⟩) hS0 ?_
              rotate_left 1
              · intro W hW
                go_simp
                try with_reducible rfl
              try simp only [Act.put, List.setIfInBounds_toArray, List.set_cons_zero, List.set_cons_succ]
              refine wpAnyH_take (i := 2) (v := ?_) rfl (by kernel_rfl) (by kernel_rfl) (by kernel_rfl) (fun _ _ _ h => h) (Or.inl ⟨by rfl, ?_⟩) hS0 ?_
              rotate_left 1
              · intro W hW
                go_simp
                try with_reducible rfl
              try simp only [Act.put, List.setIfInBounds_toArray, List.set_cons_zero, List.set_cons_succ]
              refine wpAnyH_take (i := 3) (v := ?_) rfl (by kernel_rfl) (by kernel_rfl) (by kernel_rfl) (fun _ _ _ h => h) (Or.inl ⟨by rfl, ?_⟩) hS0 ?_
              rotate_left 1
              · intro W hW
                go_simp
                try with_reducible rfl
              try simp only [Act.put, List.setIfInBounds_toArray, List.set_cons_zero, List.set_cons_succ]
              refine wpAnyH_take (i := 5) (v := ?_) rfl (by kernel_rfl) (by kernel_rfl) (by kernel_rfl) (fun _ _ _ h => h) (Or.inl ⟨by rfl, ?_⟩) hS0 ?_
              rotate_left 1
              · intro W hW
                go_simp
                try with_reducible rfl
              try simp only [Act.put, List.setIfInBounds_toArray, List.set_cons_zero, List.set_cons_succ]
              refine wpAnyH_take (i := 6) (v := ?_) rfl (by kernel_rfl) (by kernel_rfl) (by kernel_rfl) (fun _ _ _ h => h) (Or.inl ⟨by rfl, ?_⟩) hS0 ?_
              rotate_left 1
              · intro W hW
                go_simp
                try with_reducible rfl
              try simp only [Act.put, List.setIfInBounds_toArray, List.set_cons_zero, List.set_cons_succ]
              refine wpAnyH_take (i := 7) (v := ?_) rfl (by kernel_rfl) (by kernel_rfl) (by kernel_rfl) (fun _ _ _ h => h) (Or.inl ⟨by rfl, ?_⟩) hS0 ?_
              rotate_left 1
              · intro W hW
                have q14_ := (hW.cell (b := A) (o := 14) hA7 (by omega) HOC.out).trans q14
                go_simp
                try with_reducible rfl
              try simp only [Act.put, List.setIfInBounds_toArray, List.set_cons_zero, List.set_cons_succ]
              refine wpAnyH_ready (rs := [4, 8]) (by kernel_rfl) (by simp) (AllReadyH.cons rfl (fun K hK => ?_) (AllReadyH.cons rfl (fun K hK => ?_) AllReadyH.nil))
              · go_simp
                refine hK _ _ ?_ ?_
                · exact (Sx.refl w7 bt _).drew
                try intro _
                clear hK K
                refine wpAnyH_ready (rs := [8]) (by kernel_rfl) (by simp) (AllReadyH.cons rfl (fun K hK => ?_) AllReadyH.nil)
                go_simp
                refine hK _ _ ?_ ?_
                · exact ((Sx.refl w7 bt _).alloc (by omega) _).drew
                try intro _
                clear hK K
                refine wpAnyH_ready (rs := [9]) (by kernel_rfl) (by simp) (AllReadyH.cons rfl (fun K hK => ?_) AllReadyH.nil)
                simp only [Region.wanted, if_true]
                refine wp_append_at _ _ 51 rfl (bt + 1) 9 i1 _ 1 16 Tryd.underlying51 hi' hz0' hz1'' hz2' rfl (by decide) _ _ _ rfl (HRC.out.alloc _) ⟨w7.heap.size, 0, none⟩ 1 1 [.string S14] rfl rfl (cells_new w7 _ 9) (by simp [Value.oneCell']) (by unfold maxLen; omega) (by omega) (by simp; omega) (fun v8 w8 hown hg8 hloc => ?_)
                obtain ⟨ra8, rc8, rfl⟩ := ownsRow_form hown
                have hS8 : Sx w7 bt (.slice ca cls.length ccap) w8 := (((Sx.refl w7 bt _).alloc (by omega) _).drew).grown hg8 (by omega) (fun k hk => by have := ownsRow_block HRC.out k hk; omega)
                refine hK _ _ hS8 ?_
                try intro _
                clear hK K
                have hbt8 : w8.heap[bt]? = w7.heap[bt]? := (hg8.block bt (by simp; omega) (fun e => by have := ownsRow_block HRC.out bt e.symm; omega)).trans ((MapKept.heap_alloc w7 _).2 bt (by omega))
                have c18 := (cell_same hbt8).trans c1
                have f18 := (frozen_same hbt8).trans f1
                have HOWN := Lib.hid hown
                have HLOC := Lib.hid hloc
                have HS8 := Lib.hid hS8
                have HBT8 := Lib.hid hbt8
                clear hown hloc hg8 hbt8 c1 f1 hS8
                refine wpAnyH_ready (rs := [10]) (by kernel_rfl) (by simp) (AllReadyH.cons rfl (fun K hK => ?_) AllReadyH.nil)
                go_simp
                refine hK _ _ ?_ ?_
                · exact HS8.out
                try intro _
                clear hK K
                refine wpAnyH_ready (rs := [11]) (by kernel_rfl) (by simp) (AllReadyH.cons rfl (fun K hK => ?_) AllReadyH.nil)
                go_simp
                refine hK _ _ ?_ ?_
                · exact HS8.out
                try intro _
                clear hK K
                refine wpAnyH_ready (rs := [12]) (by kernel_rfl) (by simp) (AllReadyH.cons rfl (fun K hK => ?_) AllReadyH.nil)
                go_simp
                refine hK _ _ ?_ ?_
                · exact HS8.out.set 1 _
                try intro _
                clear hK K
                refine wpAnyH_done (by kernel_rfl) ?_ _
                have HX := Lib.hid (TX.step1 (v := .slice ra8 (cls.length + 1) rc8) (cls ++ [S14]) HT7.out HS8.out HBT8.out (by
                  rw [List.length_append, List.map_append]
                  exact HOWN.out) (by
                  rcases HLOC.out with h | h
                  · exact .inl h
                  · exact .inr ⟨_, h, by simp⟩))
                clear c18 f18 q14
                go_wp2
                go_ret
                refine ⟨by rw [HE3.out]; rfl, fun h => absurd HE3.out h, fun _ => ⟨.slice ra' (rs.length + 1) rc', .slice ra8 (cls.length + 1) rc8, ?_, ?_⟩⟩
                · rw [HLR.out, HS14.out]; exact HX.out.1
                · exact ((Fr.below hb3 (by omega)).trans HF7.out).trans HX.out.2
              · go_simp
                refine hK _ _ ?_ ?_
                · exact ((Sx.refl w7 bt _).alloc (by omega) _).drew
                try intro _
                clear hK K
                refine wpAnyH_ready (rs := [4]) (by kernel_rfl) (by simp) (AllReadyH.cons rfl (fun K hK => ?_) AllReadyH.nil)
                go_simp
                refine hK _ _ ?_ ?_
                · exact ((Sx.refl w7 bt _).alloc (by omega) _).drew
                try intro _
                clear hK K
                refine wpAnyH_ready (rs := [9]) (by kernel_rfl) (by simp) (AllReadyH.cons rfl (fun K hK => ?_) AllReadyH.nil)
                simp only [Region.wanted, if_true]
                refine wp_append_at _ _ 51 rfl (bt + 1) 9 i1 _ 1 16 Tryd.underlying51 hi' hz0' hz1'' hz2' rfl (by decide) _ _ _ rfl (HRC.out.alloc _) ⟨w7.heap.size, 0, none⟩ 1 1 [.string S14] rfl rfl (cells_new w7 _ 9) (by simp [Value.oneCell']) (by unfold maxLen; omega) (by omega) (by simp; omega) (fun v8 w8 hown hg8 hloc => ?_)
                obtain ⟨ra8, rc8, rfl⟩ := ownsRow_form hown
                have hS8 : Sx w7 bt (.slice ca cls.length ccap) w8 := (((Sx.refl w7 bt _).alloc (by omega) _).drew).grown hg8 (by omega) (fun k hk => by have := ownsRow_block HRC.out k hk; omega)
                refine hK _ _ hS8 ?_
                try intro _
                clear hK K
                have hbt8 : w8.heap[bt]? = w7.heap[bt]? := (hg8.block bt (by simp; omega) (fun e => by have := ownsRow_block HRC.out bt e.symm; omega)).trans ((MapKept.heap_alloc w7 _).2 bt (by omega))
                have c18 := (cell_same hbt8).trans c1
                have f18 := (frozen_same hbt8).trans f1
                have HOWN := Lib.hid hown
                have HLOC := Lib.hid hloc
                have HS8 := Lib.hid hS8
                have HBT8 := Lib.hid hbt8
                clear hown hloc hg8 hbt8 c1 f1 hS8
                refine wpAnyH_ready (rs := [10]) (by kernel_rfl) (by simp) (AllReadyH.cons rfl (fun K hK => ?_) AllReadyH.nil)
                go_simp
                refine hK _ _ ?_ ?_
                · exact HS8.out
                try intro _
                clear hK K
                refine wpAnyH_ready (rs := [11]) (by kernel_rfl) (by simp) (AllReadyH.cons rfl (fun K hK => ?_) AllReadyH.nil)
                go_simp
                refine hK _ _ ?_ ?_
                · exact HS8.out
                try intro _
                clear hK K
                refine wpAnyH_ready (rs := [12]) (by kernel_rfl) (by simp) (AllReadyH.cons rfl (fun K hK => ?_) AllReadyH.nil)
                go_simp
                refine hK _ _ ?_ ?_
                · exact HS8.out.set 1 _
                try intro _
                clear hK K
                refine wpAnyH_done (by kernel_rfl) ?_ _
                have HX := Lib.hid (TX.step1 (v := .slice ra8 (cls.length + 1) rc8) (cls ++ [S14]) HT7.out HS8.out HBT8.out (by
                  rw [List.length_append, List.map_append]
                  exact HOWN.out) (by
                  rcases HLOC.out with h | h
                  · exact .inl h
                  · exact .inr ⟨_, h, by simp⟩))
                clear c18 f18 q14
                go_wp2
                go_ret
                refine ⟨by rw [HE3.out]; rfl, fun h => absurd HE3.out h, fun _ => ⟨.slice ra' (rs.length + 1) rc', .slice ra8 (cls.length + 1) rc8, ?_, ?_⟩⟩
                · rw [HLR.out, HS14.out]; exact HX.out.1
                · exact ((Fr.below hb3 (by omega)).trans HF7.out).trans HX.out.2
      · have HE2 : Hid (labE ws = er) := by show labE ws = _; rw [HE1.out, if_pos he0]
        go_wp2
        go_ret
        exact LabPost.bad er HE2.out he0 rfl (HB1.out.alloc hz1' _)
    · have q13 : ((wAt ws 13).toList == [99, 108, 101, 97, 114]) = false := by rw [hb13]; simpa [clearW] using h13
      have HE : Hid (labE ws = 28) := by show labE ws = 28; unfold labE; rw [if_pos (Or.inr h13)]
      rw [hn]
      clear hb13 h13 hn e2 hz2w
      generalize wAt ws 13 = S13 at *
      go_enter Tryd.func62, Tryd.ntmps62
      go_wp2
      go_ret
      exact LabPost.bad 28 HE.out (by decide) rfl (Below.refl _ _)
  · have hn' : ¬ ((ws.length : Int) = 15) := by omega
    have HE : Hid (labE ws = 28) := by show labE ws = 28; unfold labE; rw [if_pos (Or.inl hn)]
    obtain ⟨N, hN⟩ : ∃ N, ws.length = N := ⟨_, rfl⟩
    rw [hN] at hn hn' ⊢
    clear hN
    go_enter Tryd.func62, Tryd.ntmps62
    go_wp2
    go_ret
    exact LabPost.bad 28 HE.out (by decide) rfl (Below.refl _ _)
end Go.Proofs.YtfackmiojbdjhaaDoor
