import Derived.Test.YtfackmiojbdjhaaDoorC18
/- The labels that clears name: findClears. -/
namespace Go.Proofs.YtfackmiojbdjhaaDoor
set_option linter.unusedSimpArgs false
set_option linter.unusedVariables false
open Go.RowKit Go.Maps

def clB (rs : List Rg) (cls : List ByteArray) : Bool := cls.all fun s => (place rs s).isSome
def clR (rs : List Rg) (r : Rg) (s : ByteArray) : Rg := { r with cl := ((place rs s).getD 0 : Nat) }
def clF (rs : List Rg) (cls : List ByteArray) : List Rg := List.zipWith (clR rs) rs cls
theorem clF_len (rs : List Rg) (cls : List ByteArray) (h : cls.length = rs.length) : (clF rs cls).length = rs.length := by simp [clF, h]
theorem clF_get (rs : List Rg) (cls : List ByteArray) (h : cls.length = rs.length) (i : Nat) (hi : i < rs.length) : (clF rs cls)[i]'(by rw [clF_len rs cls h]; exact hi) = clR rs rs[i] (cls[i]'(by omega)) := by simp [clF]
theorem ownsRow_free {w : World} {base : Nat} {e : TypeId} {size : Nat} {v : Value} {n : Nat} {xs : List Value} (h : w.ownsRow base e size v n xs) (g : Nat) (hg : v.ownBlock = some g) (o : Nat) : w.frozen? ⟨g, o, none⟩ = false := by
  obtain ⟨_, ⟨hv, _⟩ | ⟨g', cap, cur, hv, _, hh, _⟩⟩ := h
  · rw [hv] at hg; simp [Value.ownBlock] at hg
  · rw [hv] at hg
    simp only [Value.ownBlock, Option.some.injEq] at hg
    subst hg
    simp [World.frozen?, hh]

theorem map_flat (l : List ByteArray) : l.map Value.string = l.flatMap fun s => [Value.string s] := by
  induction l with
  | nil => rfl
  | cons a l ih => rw [List.map_cons, List.flatMap_cons, ih]; rfl
/-- what findClears leaves -/
structure ClW (bt : Nat) (vr : Value) (rs : List Rg) (w w' : World) : Prop where
  sz : w'.heap.size = w.heap.size
  same : ∀ b, vr.ownBlock ≠ some b → w'.heap[b]? = w.heap[b]?
  bel : Below bt w w'
/-- the row, when the first k clears are found -/
structure ClK (g : Nat) (rs : List Rg) (cls : List ByteArray) (w w' : World) (k : Nat) : Prop where
  c : ∀ j (_ : j < rs.length) q, q < 8 → w'.cell? ⟨g, j * 9 + q, none⟩ = w.cell? ⟨g, j * 9 + q, none⟩
  d : ∀ j (hj : j < rs.length) (hj2 : j < cls.length), w'.cell? ⟨g, j * 9 + 8, none⟩ = some (.int .i64 (if j < k then ((place rs cls[j]).getD 0 : Nat) else rs[j].cl))
  f : ∀ o, w'.frozen? ⟨g, o, none⟩ = false
def ClPost (bt : Nat) (vr : Value) (rs : List Rg) (cls : List ByteArray) (w : World) (e : Ending) (w' : World) : Prop :=
  (clB rs cls = false → e = .returned (.int .i64 3) ∧ Below bt w w') ∧ (clB rs cls = true → e = .returned (.int .i64 0) ∧ Regs w' vr (clF rs cls) ∧ ClW bt vr rs w w')

set_option maxHeartbeats 2000000 in
set_option maxRecDepth 100000 in
theorem clears_any (bt B n : Nat) (vr vc vt : Value) (rs : List Rg) (cls : List ByteArray) (trs : List (Int × ByteArray × ByteArray)) (w : World) (hT : TX bt w vr vc vt rs cls trs) (hlen : cls.length = rs.length) (hsz : ∀ s ∈ cls, s.size ≤ maxLen) (hr : rs.length ≤ 5000)
    (hm : w.ownsMap Tryd.prog 9 (plainElem Tryd.prog 3) B n (fD rs)) (hB1 : Value.ownBlock vr ≠ some B) :
    Calls Tryd.prog 43 #[.pointer (some ⟨bt, 0, none⟩), .map (some B)] w (ClPost bt vr rs cls w) := by
  have HT := Lib.hid hT
  have HZ := Lib.hid hsz
  have HM := Lib.hid hm
  have hbl := hT.lt
  rcases ownsRow_cell (k := 9) (fun _ => rfl) rfl hT.rr with ⟨hv, hn⟩ | ⟨g, gcap, hv, hgb, hgl, -, hcell⟩
  · have hcl : cls = [] := List.eq_nil_of_length_eq_zero (by rw [hlen, hn]; rfl)
    subst hn hcl
    have c1 := hT.c1
    obtain ⟨ca, ccap, rfl⟩ := ownsRow_form hT.rc
    simp only [List.length_nil] at c1
    clear hT hsz hm
    go_enter Tryd.func43, Tryd.ntmps43
    go_wp2
    refine wp_loop_rounds 1 ?_
    rw [rounds_succ]
    go_wp2
    go_ret
    refine ⟨fun h => by simp [clB] at h, fun _ => ⟨rfl, .inl ⟨none, 0, hv, rfl⟩, ⟨rfl, fun _ _ => rfl, Below.refl _ _⟩⟩⟩
  · have HC := Lib.hid hcell
    have hown : Value.ownBlock vr = some g := by rw [hv]; rfl
    have hfree := Lib.hid (ownsRow_free hT.rr g hown)
    obtain ⟨lt, c0, c1, c2, f0, f1, f2, rr, rc, rt, d1, d2, d3⟩ := id hT
    have HRC := Lib.hid rc
    have HV := Lib.hid hv
    have HOW := Lib.hid hown
    have hgbt : g ≠ bt := by omega
    have hgB : g ≠ B := fun e => hB1 (by rw [hown, e])
    obtain ⟨ca, ccap, rfl⟩ := ownsRow_form rc
    have hcg : ∀ k, Value.ownBlock (.slice ca cls.length ccap) = some k → k ≠ g := fun k hk e => d1 g hown (by rw [← e]; exact hk)
    have HCG := Lib.hid hcg
    subst hv
    obtain ⟨N, hN⟩ : ∃ N, rs.length = N := ⟨_, rfl⟩
    have HN := Lib.hid hN
    have hN2 : cls.length = N := hlen.trans hN
    have HN2 := Lib.hid hN2
    have HLEN := Lib.hid hlen
    rw [hN] at c0 hr
    rw [hN2] at c1
    clear hT hsz hm hcell hown rr rc rt d1 d2 d3 hN hN2 hcg f0 f1 f2 c2 hB1 hlen
    have hbl2 : bt < w.heap.size := lt
    go_enter Tryd.func43, Tryd.ntmps43
    go_wp2
    go_loopw [14] (fun i wr => ∃ k : Nat, k ≤ N ∧ i = .int .i64 k ∧ (∀ j (hj : j < cls.length), j < k → (place rs cls[j]).isSome = true) ∧ ClW bt (.slice (some ⟨g, 0, none⟩) rs.length gcap) rs w wr ∧ ClK g rs cls w wr k) (fun i _ => N - (intOf i).toNat)
    case atStart =>
      refine ⟨0, by omega, rfl, fun j _ h => by omega, ⟨rfl, fun _ _ => rfl, Below.refl _ _⟩, ⟨fun _ _ _ _ => rfl, fun j hj hj2 => ?_, hfree.out⟩⟩
      have := HC.out j hj 8 (by omega)
      rw [if_neg (by omega)]
      simpa [Rg.cells] using this
    case round =>
      obtain ⟨k, hk, rfl, hall, hW, hK⟩ := hrel
      have HA := Lib.hid hall
      have HW := Lib.hid hW
      have HK := Lib.hid hK
      have s0 : Hid (∀ b, b ≠ g → wr.heap[b]? = w.heap[b]?) := fun b hb => hW.same b (fun e => hb (by have := HOW.out.symm.trans e; simpa using this.symm))
      have hsz := hW.sz
      clear hall hW hK
      by_cases hlt : k < N
      · have hltr : k < rs.length := by rw [HN.out]; exact hlt
        have hltc : k < cls.length := by rw [HN2.out]; exact hlt
        have q0 := (cell_same (o := 0) (s0.out bt (Ne.symm hgbt))).trans c0
        have HRCw : Hid (wr.ownsRow (bt + 1) 9 1 (.slice ca cls.length ccap) cls.length (cls.map Value.string)) := ownsRow_same2 HRC.out (fun b hb => s0.out b (HCG.out b hb))
        rcases ownsRow_cell (k := 1) (f := fun s => [Value.string s]) (l := cls) (fun _ => rfl) rfl (by rw [← map_flat]; exact HRCw.out) with ⟨-, hn⟩ | ⟨gc, cc, hvc, -, hgcl, -, hcc⟩
        · rw [hn] at hltc; simp at hltc
        · have ek := hcc k hltc 0 (by omega)
          simp at ek
          obtain ⟨rfl, rfl⟩ : ca = some ⟨gc, 0, none⟩ ∧ ccap = cc := by simpa using hvc
          have hsk := HZ.out cls[k] (List.getElem_mem _)
          have HMw := Lib.hid (ownsMap_same HM.out (s0.out B (Ne.symm hgB)))
          have hL := look_int HMw.out Tryd.lawStr Tryd.underlying75 (strKey_is cls[k] hsk)
          have hat := fD_at cls[k] rs
          have hhas := fD_has cls[k] rs
          rw [← place_some] at hhas
          have e8 := HK.out.d k hltr hltc
          have f8 := HK.out.f (k * 9 + 8)
          have HBad : Hid ((place rs cls[k]).isSome = false → clB rs cls = false) := by
            intro h
            unfold clB
            rw [List.all_eq_false]
            exact ⟨cls[k], List.getElem_mem _, by rw [h]; decide⟩
          have HSet : Hid (∀ v : Nat, (place rs cls[k]).getD 0 = v → ClK g rs cls w (wr.setCell ⟨g, k * 9 + 8, none⟩ (.int .i64 v)) (k + 1)) := by
            intro v hv
            refine ⟨fun j hj q hq => ?_, fun j hj hj2 => ?_, fun o => by rw [World.frozen?_setCell]; exact HK.out.f o⟩
            · rw [World.cell?_setCell_other _ _ _ _ (by simp <;> omega)]; exact HK.out.c j hj q hq
            · by_cases e : j = k
              · subst e
                rw [World.cell?_setCell_same _ _ _ (HK.out.d j hj hj2), if_pos (Nat.lt_succ_self j), hv]
              · rw [World.cell?_setCell_other _ _ _ _ (by simp <;> omega), HK.out.d j hj hj2]
                by_cases hjk : j < k
                · rw [if_pos hjk, if_pos (by omega)]
                · rw [if_neg hjk, if_neg (by omega)]
          have HNext : Hid ((place rs cls[k]).isSome = true → ∀ j (hj : j < cls.length), j < k + 1 → (place rs cls[j]).isSome = true) := by
            intro h j hj hjk
            by_cases e : j = k
            · subst e; exact h
            · exact HA.out j hj (by omega)
          clear hcc hvc hsk
          generalize cls[k] = S at *
          cases hp : place rs S with
          | none =>
            rw [hp] at hhas
            rw [hhas] at hL
            have HF : Hid (clB rs cls = false) := HBad.out (by rw [hp]; rfl)
            clear hat hhas hp e8 f8
            go_wp2
            go_ret
            exact ⟨fun _ => ⟨rfl, HW.out.bel⟩, (fun h => by rw [HF.out] at h; cases h)⟩
          | some p =>
            rw [hp] at hhas
            have hat' := hat p hp
            rw [hhas, hat'] at hL
            have HS1 := Lib.hid (HSet.out p (by rw [hp]; rfl))
            have HNx := Lib.hid (HNext.out (by rw [hp]; rfl))
            have hgw : g < wr.heap.size := by omega
            clear hat hhas hp hat'
            go_wp2
            go_roundw
            case rel =>
              refine ⟨k + 1, by omega, by go_num, HNx.out, ⟨by rw [size_set]; exact HW.out.sz, fun b hb => ?_, HW.out.bel.setCell (by simp; omega) _⟩, HS1.out⟩
              exact (heap_set _ _ _ _ (fun e => hb (by rw [e]; rfl))).trans (HW.out.same b hb)
            case measure => simp [intOf]; omega
      · obtain rfl : k = N := by omega
        have HT1 : Hid (clB rs cls = true) := by
          show clB rs cls = true
          unfold clB
          rw [List.all_eq_true]
          intro s hs
          obtain ⟨j, hj, rfl⟩ := List.mem_iff_getElem.1 hs
          exact HA.out j hj (by rw [← HN2.out]; exact hj)
        go_wp2
        go_ret
        refine ⟨(fun h => by rw [HT1.out] at h; cases h), fun _ => ⟨rfl, .inr ⟨g, 0, gcap, ?_, by omega, ?_, ?_⟩, HW.out⟩⟩
        · rw [clF_len rs cls HLEN.out]
        · rw [clF_len rs cls HLEN.out, HN.out]; unfold maxLen; omega
        · have key : ∀ i (hi : i < rs.length) q, q < 8 → wr.cell? ⟨g, i * 9 + q, none⟩ = (rs[i].cells)[q]? := fun i hi q hq => (HK.out.c i hi q hq).trans (HC.out i hi q (by omega))
          have hl := clF_len rs cls HLEN.out
          constructor
          all_goals
            intro i hi
            rw [hl] at hi
            have hcl : i < cls.length := by rw [HLEN.out]; exact hi
            have hg := clF_get rs cls HLEN.out i hi
            first
              | (have := key i hi 0 (by omega); rw [hg]; simpa [Rg.cells, clR] using this; done)
              | (have := key i hi 1 (by omega); rw [hg]; simpa [Rg.cells, clR] using this; done)
              | (have := key i hi 2 (by omega); rw [hg]; simpa [Rg.cells, clR] using this; done)
              | (have := key i hi 3 (by omega); rw [hg]; simpa [Rg.cells, clR] using this; done)
              | (have := key i hi 4 (by omega); rw [hg]; simpa [Rg.cells, clR] using this; done)
              | (have := key i hi 5 (by omega); rw [hg]; simpa [Rg.cells, clR] using this; done)
              | (have := key i hi 6 (by omega); rw [hg]; simpa [Rg.cells, clR] using this; done)
              | (have := key i hi 7 (by omega); rw [hg]; simpa [Rg.cells, clR] using this; done)
              | (have := HK.out.d i hi hcl; rw [if_pos (by rw [← HN.out]; exact hi)] at this; rw [hg]; simpa [Rg.cells, clR] using this; done)
end Go.Proofs.YtfackmiojbdjhaaDoor
