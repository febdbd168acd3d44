import Derived.Test.YtfackmiojbdjhaaDoorC17
import Derived.Test.YtfackmiojbdjhaaDoorC9
/- Which label a name means: names. -/
namespace Go.Proofs.YtfackmiojbdjhaaDoor
set_option linter.unusedSimpArgs false
set_option linter.unusedVariables false
open Go.RowKit Go.Maps

/-- the first of a name -/
def place (rs : List Rg) (s : ByteArray) : Option Nat := rs.findIdx? fun r => decide (r.nm = s)
def fStep (a : DataW Unit × Nat) (r : Rg) : DataW Unit × Nat := (if Maps.has a.1 (nmKey r) = true then a.1 else a.1.put (nmKey r) (.lit (.int .i64 a.2)), a.2 + 1)
def fF (rs : List Rg) : DataW Unit × Nat := rs.foldl fStep (.map [], 0)
def fD (rs : List Rg) : DataW Unit := (fF rs).1
theorem fF_snd : ∀ (rs : List Rg) (a : DataW Unit × Nat), (rs.foldl fStep a).2 = a.2 + rs.length
  | [], a => by simp
  | r :: rs, a => by rw [List.foldl_cons, fF_snd rs]; simp [fStep]; omega
theorem fD_snoc (rs : List Rg) (r : Rg) : fD (rs ++ [r]) = if Maps.has (fD rs) (nmKey r) = true then fD rs else (fD rs).put (nmKey r) (.lit (.int .i64 rs.length)) := by
  unfold fD fF
  rw [List.foldl_append, List.foldl_cons, List.foldl_nil, fStep, fF_snd]
  simp
theorem fD_isMap (rs : List Rg) : IsMap (fD rs) := by
  induction rs using list_snoc_rec with
  | h0 => exact isMap_empty
  | h1 rs r ih =>
    rw [fD_snoc]
    split
    · exact ih
    · exact ih.put _ _
theorem fD_has (s : ByteArray) (rs : List Rg) : Maps.has (fD rs) (strKey s) = rs.any (fun r => decide (r.nm = s)) := by
  induction rs using list_snoc_rec with
  | h0 => rfl
  | h1 rs r ih =>
    rw [fD_snoc, List.any_append]
    by_cases e : r.nm = s
    · have ek : nmKey r = strKey s := by unfold nmKey; rw [e]
      split
      · rename_i h; rw [ek] at h; rw [h]; simp [e]
      · rw [ek, has_put_same (fD_isMap rs) (strKey_key s)]; simp [e]
    · have hne : strKey s ≠ nmKey r := fun h => e (strKey_inj h).symm
      split
      · rw [ih]; simp [e]
      · rw [has_put_other hne, ih]; simp [e]
theorem place_snoc (rs : List Rg) (r : Rg) (s : ByteArray) : place (rs ++ [r]) s = (place rs s).or (if r.nm = s then some rs.length else none) := by
  unfold place
  rw [List.findIdx?_append]
  by_cases e : r.nm = s
  · simp [e]
  · simp [e]
theorem place_some (rs : List Rg) (s : ByteArray) : (place rs s).isSome = rs.any (fun r => decide (r.nm = s)) := by
  unfold place; exact List.findIdx?_isSome
theorem fD_at (s : ByteArray) (rs : List Rg) : ∀ i, place rs s = some i → atI (fD rs) (strKey s) = i := by
  induction rs using list_snoc_rec with
  | h0 => intro i h; cases h
  | h1 rs r ih =>
    intro i hi
    rw [place_snoc] at hi
    rw [fD_snoc]
    have hh := fD_has s rs
    rw [← place_some] at hh
    by_cases e : r.nm = s
    · have ek : nmKey r = strKey s := by unfold nmKey; rw [e]
      cases hp : place rs s with
      | none =>
        rw [hp] at hi hh
        rw [ek, hh]
        simp [e] at hi
        subst hi
        simp only [Option.isSome_none, Bool.false_eq_true, if_false]
        unfold atI
        rw [atKey_put_same (fD_isMap rs) (strKey_key s)]
      | some j =>
        rw [hp] at hi hh
        rw [ek, hh]
        simp at hi
        subst hi
        simp only [Option.isSome_some, if_true]
        exact ih _ hp
    · have hne : strKey s ≠ nmKey r := fun h => e (strKey_inj h).symm
      simp [e] at hi
      split
      · exact ih _ hi
      · have : atI ((fD rs).put (nmKey r) (.lit (.int .i64 rs.length))) (strKey s) = atI (fD rs) (strKey s) := by
          unfold atI
          rw [atKey_put_other hne]
        rw [this]; exact ih _ hi

set_option maxHeartbeats 2000000 in
set_option maxRecDepth 100000 in
theorem names_any (bt : Nat) (vr vc vt : Value) (rs : List Rg) (cls : List ByteArray) (trs : List (Int × ByteArray × ByteArray)) (w : World) (hT : TX bt w vr vc vt rs cls trs) (hsz : ∀ r ∈ rs, r.nm.size ≤ maxLen) (hr : rs.length ≤ 5000) :
    Calls Tryd.prog 42 #[.pointer (some ⟨bt, 0, none⟩)] w fun e w' => e = .returned (.map (some w.heap.size)) ∧ w'.ownsMap Tryd.prog 9 (plainElem Tryd.prog 3) w.heap.size rs.length (fD rs) ∧ Below w.heap.size w w' := by
  have HT := Lib.hid hT
  have HZ := Lib.hid hsz
  have c0 := hT.c0
  have hlt := hT.lt
  have hRg := regs_of_row hT.rr
  have HRg := Lib.hid hRg
  obtain ⟨ra, rcap, rfl⟩ := hRg.form
  clear hT hsz hRg
  have hmm := @run_makeMap Tryd.prog
  have HM0 := Lib.hid (World.ownsMap_made w Tryd.prog 9 (plainElem (H := Unit) Tryd.prog 3))
  obtain ⟨N, hN⟩ : ∃ N, rs.length = N := ⟨_, rfl⟩
  have HN := Lib.hid hN
  rw [hN] at c0 hr
  clear hN
  go_enter Tryd.func42, Tryd.ntmps42
  go_wp2
  clear hmm
  go_loopw [14] (fun i wr => ∃ k : Nat, k ≤ N ∧ i = .int .i64 k ∧ Below w.heap.size w wr ∧ wr.ownsMap Tryd.prog 9 (plainElem Tryd.prog 3) w.heap.size k (fD (rs.take k))) (fun i _ => N - (intOf i).toNat)
  case atStart => exact ⟨0, by omega, rfl, (Below.refl _ _).alloc (Nat.le_refl _) _, HM0.out⟩
  case round =>
    obtain ⟨k, hk, rfl, hb, hm⟩ := hrel
    have HM := Lib.hid hm
    have HB := Lib.hid hb
    clear hm HM0
    by_cases hlt : k < N
    · have hltr : k < rs.length := by rw [HN.out]; exact hlt
      obtain ⟨g, go, gcap, hv, hgl, -, hrow⟩ := HRg.out.row (by omega)
      obtain ⟨rfl, rfl⟩ : ra = some ⟨g, go, none⟩ ∧ rcap = gcap := by simpa using hv
      have e0 := (hb.cell (p := ⟨g, go + k * 9, none⟩) hgl).trans (hrow.k0 k hltr)
      have e1 := (hb.cell (p := ⟨g, go + k * 9 + 1, none⟩) hgl).trans (hrow.k1 k hltr)
      have e2 := (hb.cell (p := ⟨g, go + k * 9 + 2, none⟩) hgl).trans (hrow.k2 k hltr)
      have e3 := (hb.cell (p := ⟨g, go + k * 9 + 3, none⟩) hgl).trans (hrow.k3 k hltr)
      have e4 := (hb.cell (p := ⟨g, go + k * 9 + 4, none⟩) hgl).trans (hrow.k4 k hltr)
      have e5 := (hb.cell (p := ⟨g, go + k * 9 + 5, none⟩) hgl).trans (hrow.k5 k hltr)
      have e6 := (hb.cell (p := ⟨g, go + k * 9 + 6, none⟩) hgl).trans (hrow.k6 k hltr)
      have e7 := (hb.cell (p := ⟨g, go + k * 9 + 7, none⟩) hgl).trans (hrow.k7 k hltr)
      have e8 := (hb.cell (p := ⟨g, go + k * 9 + 8, none⟩) hgl).trans (hrow.k8 k hltr)
      have HTk := Lib.hid (List.take_succ_eq_append_getElem hltr)
      have hnm := HZ.out rs[k] (List.getElem_mem _)
      have HL := Lib.hid (show (rs.take k).length = k by rw [List.length_take]; omega)
      have HS := Lib.hid (fD_snoc (rs.take k) rs[k])
      rw [← HTk.out, HL.out] at HS
      have hwlt := HM.out.lt
      clear hv hrow hb
      generalize rs[k] = r at *
      obtain ⟨nm, lv, cs, bl, nd, fr, pr, op, cl⟩ := r
      simp only at e0 e1 e2 e3 e4 e5 e6 e7 e8 hnm
      have hmA := HM.out.alloc (.cells #[.string nm, .int .u8 lv, .int .u16 cs, .int .i64 bl, .int .i64 nd, .int .i64 fr, .int .i64 pr, .int .i64 op, .int .i64 cl] 39)
      have hL := look_int hmA Tryd.lawStr Tryd.underlying75 (strKey_is nm hnm)
      obtain ⟨w4, hrun, hm4, hg4⟩ := World.ownsMap.update hmA Tryd.lawStr Tryd.underlying75 (by unfold maxLen; omega) (strKey_is nm hnm) (plainElem_int (a := (k : Int)) Tryd.underlying3 (by simp [Lit.wf, IntKind.min, IntKind.max, IntKind.bits, IntKind.signed]; omega))
      have HMA := Lib.hid hmA
      have HM4 := Lib.hid hm4
      have HB4 := Lib.hid ((HB.out.alloc HB.out.size (.cells #[.string nm, .int .u8 lv, .int .u16 cs, .int .i64 bl, .int .i64 nd, .int .i64 fr, .int .i64 pr, .int .i64 op, .int .i64 cl] 39)).grown hg4 (by simp; omega) (fun k hk => by simp at hk; omega))
      clear hmA hm4 hg4
      cases hh : Maps.has (fD (rs.take k)) (strKey nm)
      · rw [hh] at hL
        have HS' : Hid (fD (rs.take (k + 1)) = (fD (rs.take k)).put (strKey nm) (.lit (.int .i64 k))) := by
          show fD _ = _
          rw [HS.out]
          show (if Maps.has _ (strKey nm) = true then _ else _) = _
          rw [hh]; rfl
        clear hh
        go_wp2
        go_roundw
        case rel => exact ⟨k + 1, by omega, by go_num, HB4.out, by rw [HS'.out]; exact HM4.out⟩
        case measure => simp [intOf]; omega
      · rw [hh] at hL
        have HS' : Hid (fD (rs.take (k + 1)) = fD (rs.take k)) := by
          show fD _ = _
          rw [HS.out]
          show (if Maps.has _ (strKey nm) = true then _ else _) = _
          rw [hh]; rfl
        clear hh hrun
        go_wp2
        go_roundw
        case rel => exact ⟨k + 1, by omega, by go_num, HB.out.alloc HB.out.size _, by rw [HS'.out]; exact HMA.out.mono (by omega)⟩
        case measure => simp [intOf]; omega
    · obtain rfl : k = N := by omega
      have HMn : Hid (wr.ownsMap Tryd.prog 9 (plainElem Tryd.prog 3) w.heap.size rs.length (fD rs)) := by
        have := HM.out
        rw [← HN.out, List.take_length] at this
        exact this
      go_wp2
      go_ret
      exact ⟨rfl, HMn.out, hb⟩
end Go.Proofs.YtfackmiojbdjhaaDoor
