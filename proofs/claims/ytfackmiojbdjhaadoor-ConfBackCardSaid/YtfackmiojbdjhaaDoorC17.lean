import Derived.Test.YtfackmiojbdjhaaDoorC16
/- A line. -/
namespace Go.Proofs.YtfackmiojbdjhaaDoor
set_option linter.unusedSimpArgs false
set_option linter.unusedVariables false
open Go.RowKit Go.Maps

theorem Tryd.info138 : (Tryd.prog.info? 138).map (fun i => (i.zero, i.size, i.bytes)) = some (some (.agg #[.int .i64 0, .string ByteArray.empty, .string ByteArray.empty]), 3, 40) := by kernel_rfl
def labelW : ByteArray := ⟨#[108, 97, 98, 101, 108]⟩
def trustW : ByteArray := ⟨#[116, 114, 117, 115, 116]⟩
def lineE (ws : List ByteArray) : Int :=
  if ws.length = 0 then 0 else if wAt ws 0 = labelW then labE ws else if wAt ws 0 = trustW ∧ ws.length = 3 then 0 else 28
structure TS where
  rs : List Rg
  cls : List ByteArray
  trs : List (Int × ByteArray × ByteArray)
def lineF (s : TS) (line : Int) (ws : List ByteArray) : TS :=
  if ws.length = 0 then s else if wAt ws 0 = labelW then ⟨s.rs ++ [labRg ws], s.cls ++ [wAt ws 14], s.trs⟩ else ⟨s.rs, s.cls, s.trs ++ [(line, wAt ws 1, wAt ws 2)]⟩
/-- what a line leaves -/
def ReadPost (bt : Nat) (vr vc vt : Value) (s : TS) (line : Int) (ws : List ByteArray) (w : World) (e : Ending) (w' : World) : Prop :=
  e = .returned (.int .i64 (lineE ws)) ∧ (lineE ws ≠ 0 → Below w.heap.size w w') ∧
    (lineE ws = 0 → ∃ vr' vc' vt', TX bt w' vr' vc' vt' (lineF s line ws).rs (lineF s line ws).cls (lineF s line ws).trs ∧ Fr bt (Own3 vr vc vt) (Own3 vr' vc' vt') w w')

set_option maxHeartbeats 4000000 in
set_option maxRecDepth 100000 in
theorem read_any (bt A : Nat) (vr vc vt : Value) (rs : List Rg) (cls : List ByteArray) (trs : List (Int × ByteArray × ByteArray)) (line : Int) (ws : List ByteArray) (w : World) (hT : TX bt w vr vc vt rs cls trs) (hG : Gl w) (hbt : 2 ≤ bt)
    (hw : Wd w A ws) (hA : bt < A) (hO : ¬ Own3 vr vc vt A) (hl : ws.length ≤ 5000) (hsz : ∀ s ∈ ws, s.size ≤ 4000) (hr : rs.length ≤ 5000) (hc : cls.length ≤ 5000) (ht : trs.length ≤ 5000) :
    Calls Tryd.prog 39 #[.pointer (some ⟨bt, 0, none⟩), .int .i64 line, .slice (some ⟨A, 0, none⟩) ws.length ws.length] w (ReadPost bt vr vc vt ⟨rs, cls, trs⟩ line ws w) := by
  have hLab := readlabel_any bt A vr vc vt rs cls trs ws w hT hG hbt hw hA hO hl hsz hr hc
  have HW := Lib.hid hw
  have HT := Lib.hid hT
  have HO := Lib.hid hO
  obtain ⟨i0, hi, hz0, hz1, hz2⟩ := info_parts Tryd.info138
  have hwl : bt < w.heap.size := hT.lt
  clear hT hG hO hsz hw
  by_cases hn : ws.length = 0
  · have HE : Hid (lineE ws = 0) := by show lineE ws = 0; unfold lineE; rw [if_pos hn]
    have HLF : Hid (lineF ⟨rs, cls, trs⟩ line ws = ⟨rs, cls, trs⟩) := by show lineF _ _ _ = _; unfold lineF; rw [if_pos hn]
    rw [hn]
    clear hn hLab
    go_enter Tryd.func39, Tryd.ntmps39
    go_wp2
    go_ret
    refine ⟨by rw [HE.out]; rfl, fun h => absurd HE.out h, fun _ => ⟨vr, vc, vt, ?_, Fr.refl _ _ _⟩⟩
    rw [HLF.out]; exact HT.out
  · have hn' : ¬ ((ws.length : Int) = 0) := by omega
    have e0 := HW.out.c 0 (by omega)
    rw [wAt_is ws 0 (by omega)] at e0
    have hb0 := str_is (wAt ws 0) [108, 97, 98, 101, 108]
    have hb1 := str_is (wAt ws 0) [116, 114, 117, 115, 116]
    by_cases h0 : wAt ws 0 = labelW
    · have q0 : ((wAt ws 0).toList == [108, 97, 98, 101, 108]) = true := by rw [hb0]; simpa [labelW] using h0
      have HE : Hid (lineE ws = labE ws) := by show lineE ws = _; unfold lineE; rw [if_neg hn, if_pos h0]
      have HLF : Hid (lineF ⟨rs, cls, trs⟩ line ws = ⟨rs ++ [labRg ws], cls ++ [wAt ws 14], trs⟩) := by show lineF _ _ _ = _; unfold lineF; rw [if_neg hn, if_pos h0]
      clear hb0 hb1 h0
      generalize wAt ws 0 = S0 at *
      obtain ⟨N, hN⟩ : ∃ N, ws.length = N := ⟨_, rfl⟩
      rw [hN] at hLab hn hn' ⊢
      have hN0 : 0 < N := by omega
      clear hN
      go_enter Tryd.func39, Tryd.ntmps39
      go_wp2_with fail
      refine hLab.mono ?_
      rintro e w1 ⟨rfl, hbad, hgood⟩
      clear hLab e0
      go_wp2
      go_ret
      refine ⟨by rw [HE.out]; rfl, fun h => hbad (by rw [← HE.out]; exact h), fun h => ?_⟩
      obtain ⟨vr', vc', hT', hF'⟩ := hgood (by rw [← HE.out]; exact h)
      refine ⟨vr', vc', vt, ?_, hF'⟩
      rw [HLF.out]; exact hT'
    · have q0 : ((wAt ws 0).toList == [108, 97, 98, 101, 108]) = false := by rw [hb0]; simpa [labelW] using h0
      clear hLab
      by_cases h1 : wAt ws 0 = trustW
      · have q1 : ((wAt ws 0).toList == [116, 114, 117, 115, 116]) = true := by rw [hb1]; simpa [trustW] using h1
        by_cases h3 : ws.length = 3
        · have HE : Hid (lineE ws = 0) := by show lineE ws = 0; unfold lineE; rw [if_neg hn, if_neg h0, if_pos ⟨h1, h3⟩]
          have HLF : Hid (lineF ⟨rs, cls, trs⟩ line ws = ⟨rs, cls, trs ++ [(line, wAt ws 1, wAt ws 2)]⟩) := by show lineF _ _ _ = _; unfold lineF; rw [if_neg hn, if_neg h0]
          have e1 := HW.out.c 1 (by omega)
          have e2 := HW.out.c 2 (by omega)
          rw [wAt_is ws 1 (by omega)] at e1
          rw [wAt_is ws 2 (by omega)] at e2
          have hAw := HW.out.lt
          have HOT : Hid (Value.ownBlock vt ≠ some A) := fun e => HO.out (.inr (.inr e))
          obtain ⟨lt, c0, c1, c2, f0, f1, f2, rr, rc, rt, d1, d2, d3⟩ := id HT.out
          have HRT := Lib.hid rt
          clear c0 c1 f0 f1 rr rc rt d1 d2 d3 hb0 hb1 h0 h1 hn hn'
          generalize wAt ws 0 = S0 at *
          generalize wAt ws 1 = S1 at *
          generalize wAt ws 2 = S2 at *
          obtain ⟨ta, tcap, rfl⟩ := ownsRow_form HRT.out
          rw [h3]
          clear h3
          go_enter Tryd.func39, Tryd.ntmps39
          go_wp2
          refine wp_region_held (S := Sx w bt (.slice ta trs.length tcap)) (by kernel_rfl) ?_
          change wpAnyH _ _ _ _ _ _ _ _ (World.drew _)
          have hS0 : Sx w bt (.slice ta trs.length tcap) w.drew := (Sx.refl _ _ _).drew
          refine wpAnyH_take (i := 0) (v := ?_) rfl (by kernel_rfl) (by kernel_rfl) (by kernel_rfl) (fun _ _ _ h => h) (Or.inl ⟨by rfl, ?_⟩) hS0 ?_
          rotate_left 1
          · intro W hW
            go_simp
            try with_reducible rfl
          try simp only [Act.put, List.setIfInBounds_toArray, List.set_cons_zero, List.set_cons_succ]
          refine wpAnyH_take (i := 1) (v := ?_) rfl (by kernel_rfl) (by kernel_rfl) (by kernel_rfl) (fun _ _ _ h => h) (Or.inl ⟨by rfl, ?_⟩) hS0 ?_
          rotate_left 1
          · intro W hW
            go_simp
            try with_reducible rfl
          try simp only [Act.put, List.setIfInBounds_toArray, List.set_cons_zero, List.set_cons_succ]
          refine wpAnyH_take (i := 2) (v := ?_) rfl (by kernel_rfl) (by kernel_rfl) (by kernel_rfl) (fun _ _ _ h => h) (Or.inl ⟨by rfl, ?_⟩) hS0 ?_
          rotate_left 1
          · intro W hW
            go_simp
            try with_reducible rfl
          try simp only [Act.put, List.setIfInBounds_toArray, List.set_cons_zero, List.set_cons_succ]
          refine wpAnyH_take (i := 3) (v := ?_) rfl (by kernel_rfl) (by kernel_rfl) (by kernel_rfl) (fun _ _ _ h => h) (Or.inl ⟨by rfl, ?_⟩) hS0 ?_
          rotate_left 1
          · intro W hW
            go_simp
            try with_reducible rfl
          try simp only [Act.put, List.setIfInBounds_toArray, List.set_cons_zero, List.set_cons_succ]
          refine wpAnyH_take (i := 5) (v := ?_) rfl (by kernel_rfl) (by kernel_rfl) (by kernel_rfl) (fun _ _ _ h => h) (Or.inl ⟨by rfl, ?_⟩) hS0 ?_
          rotate_left 1
          · intro W hW
            go_simp
            try with_reducible rfl
          try simp only [Act.put, List.setIfInBounds_toArray, List.set_cons_zero, List.set_cons_succ]
          refine wpAnyH_take (i := 6) (v := ?_) rfl (by kernel_rfl) (by kernel_rfl) (by kernel_rfl) (fun _ _ _ h => h) (Or.inl ⟨by rfl, ?_⟩) hS0 ?_
          rotate_left 1
          · intro W hW
            go_simp
            try with_reducible rfl
          try simp only [Act.put, List.setIfInBounds_toArray, List.set_cons_zero, List.set_cons_succ]
          refine wpAnyH_take (i := 7) (v := ?_) rfl (by kernel_rfl) (by kernel_rfl) (by kernel_rfl) (fun _ _ _ h => h) (Or.inl ⟨by rfl, ?_⟩) hS0 ?_
          rotate_left 1
          · intro W hW
            go_simp
            try with_reducible rfl
          try simp only [Act.put, List.setIfInBounds_toArray, List.set_cons_zero, List.set_cons_succ]
          refine wpAnyH_take (i := 8) (v := ?_) rfl (by kernel_rfl) (by kernel_rfl) (by kernel_rfl) (fun _ _ _ h => h) (Or.inl ⟨by rfl, ?_⟩) hS0 ?_
          rotate_left 1
          · intro W hW
            have e1_ := (hW.cell (b := A) (o := 1) hAw (by omega) HOT.out).trans e1
            go_simp
            try with_reducible rfl
          try simp only [Act.put, List.setIfInBounds_toArray, List.set_cons_zero, List.set_cons_succ]
          refine wpAnyH_take (i := 9) (v := ?_) rfl (by kernel_rfl) (by kernel_rfl) (by kernel_rfl) (fun _ _ _ h => h) (Or.inl ⟨by rfl, ?_⟩) hS0 ?_
          rotate_left 1
          · intro W hW
            go_simp
            try with_reducible rfl
          try simp only [Act.put, List.setIfInBounds_toArray, List.set_cons_zero, List.set_cons_succ]
          refine wpAnyH_take (i := 10) (v := ?_) rfl (by kernel_rfl) (by kernel_rfl) (by kernel_rfl) (fun _ _ _ h => h) (Or.inl ⟨by rfl, ?_⟩) hS0 ?_
          rotate_left 1
          · intro W hW
            go_simp
            try with_reducible rfl
          try simp only [Act.put, List.setIfInBounds_toArray, List.set_cons_zero, List.set_cons_succ]
          refine wpAnyH_take (i := 11) (v := ?_) rfl (by kernel_rfl) (by kernel_rfl) (by kernel_rfl) (fun _ _ _ h => h) (Or.inl ⟨by rfl, ?_⟩) hS0 ?_
          rotate_left 1
          · intro W hW
            have e2_ := (hW.cell (b := A) (o := 2) hAw (by omega) HOT.out).trans e2
            go_simp
            try with_reducible rfl
          try simp only [Act.put, List.setIfInBounds_toArray, List.set_cons_zero, List.set_cons_succ]
          refine wpAnyH_take (i := 12) (v := ?_) rfl (by kernel_rfl) (by kernel_rfl) (by kernel_rfl) (fun _ _ _ h => h) (Or.inl ⟨by rfl, ?_⟩) hS0 ?_
          rotate_left 1
          · intro W hW
            go_simp
            try with_reducible rfl
          try simp only [Act.put, List.setIfInBounds_toArray, List.set_cons_zero, List.set_cons_succ]
          clear hS0
          refine wpAnyH_ready (rs := [4, 13]) (by kernel_rfl) (by simp) (AllReadyH.cons rfl (fun K hK => ?_) (AllReadyH.cons rfl (fun K hK => ?_) AllReadyH.nil))
          · go_simp
            refine hK _ _ ?_ ?_
            · exact (Sx.refl w bt _).drew
            try intro _
            clear hK K
            refine wpAnyH_ready (rs := [13]) (by kernel_rfl) (by simp) (AllReadyH.cons rfl (fun K hK => ?_) AllReadyH.nil)
            go_simp
            refine hK _ _ ?_ ?_
            · exact ((Sx.refl w bt _).alloc (by omega) _).drew
            try intro _
            clear hK K
            refine wpAnyH_ready (rs := [14]) (by kernel_rfl) (by simp) (AllReadyH.cons rfl (fun K hK => ?_) AllReadyH.nil)
            simp only [Region.wanted, if_true]
            refine wp_append_at _ _ 97 rfl (bt + 1) 138 i0 _ 3 40 Tryd.underlying97 hi hz0 hz1 hz2 rfl (by decide) _ _ _ rfl (HRT.out.alloc _) ⟨w.heap.size, 0, none⟩ 1 1 [.int .i64 line, .string S1, .string S2] rfl rfl (cells_new w _ 138) (by simp [Value.oneCell']) (by unfold maxLen; omega) (by omega) (by simp; omega) (fun v8 w8 hown hg8 hloc => ?_)
            obtain ⟨ra8, rc8, rfl⟩ := ownsRow_form hown
            have hS8 : Sx w bt (.slice ta trs.length tcap) w8 := (((Sx.refl w bt _).alloc (by omega) _).drew).grown hg8 (by omega) (fun k hk => by have := ownsRow_block HRT.out k hk; omega)
            refine hK _ _ hS8 ?_
            try intro _
            clear hK K
            have hbt8 : w8.heap[bt]? = w.heap[bt]? := (hg8.block bt (by simp; omega) (fun e => by have := ownsRow_block HRT.out bt e.symm; omega)).trans ((MapKept.heap_alloc w _).2 bt (by omega))
            have c28 := (cell_same hbt8).trans c2
            have f28 := (frozen_same hbt8).trans f2
            have HOWN := Lib.hid hown
            have HLOC := Lib.hid hloc
            have HS8 := Lib.hid hS8
            have HBT8 := Lib.hid hbt8
            clear hown hloc hg8 hbt8 c2 f2 hS8
            refine wpAnyH_ready (rs := [15]) (by kernel_rfl) (by simp) (AllReadyH.cons rfl (fun K hK => ?_) AllReadyH.nil)
            go_simp
            refine hK _ _ ?_ ?_
            · exact HS8.out
            try intro _
            clear hK K
            refine wpAnyH_ready (rs := [16]) (by kernel_rfl) (by simp) (AllReadyH.cons rfl (fun K hK => ?_) AllReadyH.nil)
            go_simp
            refine hK _ _ ?_ ?_
            · exact HS8.out
            try intro _
            clear hK K
            refine wpAnyH_ready (rs := [17]) (by kernel_rfl) (by simp) (AllReadyH.cons rfl (fun K hK => ?_) AllReadyH.nil)
            go_simp
            refine hK _ _ ?_ ?_
            · exact HS8.out.set 2 _
            try intro _
            clear hK K
            refine wpAnyH_done (by kernel_rfl) ?_ _
            have HX := Lib.hid (TX.step2 (v := .slice ra8 (trs.length + 1) rc8) (trs ++ [(line, S1, S2)]) HT.out HS8.out HBT8.out (by
              rw [List.length_append, List.flatMap_append]
              simpa [trustCells] using HOWN.out) (by
              rcases HLOC.out with h | h
              · exact .inl h
              · exact .inr ⟨_, h, by simp⟩))
            clear c28 f28 e1 e2
            go_wp2
            go_ret
            refine ⟨by rw [HE.out]; rfl, fun h => absurd HE.out h, fun _ => ⟨vr, vc, .slice ra8 (trs.length + 1) rc8, ?_, HX.out.2⟩⟩
            rw [HLF.out]; exact HX.out.1
          · go_simp
            refine hK _ _ ?_ ?_
            · exact ((Sx.refl w bt _).alloc (by omega) _).drew
            try intro _
            clear hK K
            refine wpAnyH_ready (rs := [4]) (by kernel_rfl) (by simp) (AllReadyH.cons rfl (fun K hK => ?_) AllReadyH.nil)
            go_simp
            refine hK _ _ ?_ ?_
            · exact ((Sx.refl w bt _).alloc (by omega) _).drew
            try intro _
            clear hK K
            refine wpAnyH_ready (rs := [14]) (by kernel_rfl) (by simp) (AllReadyH.cons rfl (fun K hK => ?_) AllReadyH.nil)
            simp only [Region.wanted, if_true]
            refine wp_append_at _ _ 97 rfl (bt + 1) 138 i0 _ 3 40 Tryd.underlying97 hi hz0 hz1 hz2 rfl (by decide) _ _ _ rfl (HRT.out.alloc _) ⟨w.heap.size, 0, none⟩ 1 1 [.int .i64 line, .string S1, .string S2] rfl rfl (cells_new w _ 138) (by simp [Value.oneCell']) (by unfold maxLen; omega) (by omega) (by simp; omega) (fun v8 w8 hown hg8 hloc => ?_)
            obtain ⟨ra8, rc8, rfl⟩ := ownsRow_form hown
            have hS8 : Sx w bt (.slice ta trs.length tcap) w8 := (((Sx.refl w bt _).alloc (by omega) _).drew).grown hg8 (by omega) (fun k hk => by have := ownsRow_block HRT.out k hk; omega)
            refine hK _ _ hS8 ?_
            try intro _
            clear hK K
            have hbt8 : w8.heap[bt]? = w.heap[bt]? := (hg8.block bt (by simp; omega) (fun e => by have := ownsRow_block HRT.out bt e.symm; omega)).trans ((MapKept.heap_alloc w _).2 bt (by omega))
            have c28 := (cell_same hbt8).trans c2
            have f28 := (frozen_same hbt8).trans f2
            have HOWN := Lib.hid hown
            have HLOC := Lib.hid hloc
            have HS8 := Lib.hid hS8
            have HBT8 := Lib.hid hbt8
            clear hown hloc hg8 hbt8 c2 f2 hS8
            refine wpAnyH_ready (rs := [15]) (by kernel_rfl) (by simp) (AllReadyH.cons rfl (fun K hK => ?_) AllReadyH.nil)
            go_simp
            refine hK _ _ ?_ ?_
            · exact HS8.out
            try intro _
            clear hK K
            refine wpAnyH_ready (rs := [16]) (by kernel_rfl) (by simp) (AllReadyH.cons rfl (fun K hK => ?_) AllReadyH.nil)
            go_simp
            refine hK _ _ ?_ ?_
            · exact HS8.out
            try intro _
            clear hK K
            refine wpAnyH_ready (rs := [17]) (by kernel_rfl) (by simp) (AllReadyH.cons rfl (fun K hK => ?_) AllReadyH.nil)
            go_simp
            refine hK _ _ ?_ ?_
            · exact HS8.out.set 2 _
            try intro _
            clear hK K
            refine wpAnyH_done (by kernel_rfl) ?_ _
            have HX := Lib.hid (TX.step2 (v := .slice ra8 (trs.length + 1) rc8) (trs ++ [(line, S1, S2)]) HT.out HS8.out HBT8.out (by
              rw [List.length_append, List.flatMap_append]
              simpa [trustCells] using HOWN.out) (by
              rcases HLOC.out with h | h
              · exact .inl h
              · exact .inr ⟨_, h, by simp⟩))
            clear c28 f28 e1 e2
            go_wp2
            go_ret
            refine ⟨by rw [HE.out]; rfl, fun h => absurd HE.out h, fun _ => ⟨vr, vc, .slice ra8 (trs.length + 1) rc8, ?_, HX.out.2⟩⟩
            rw [HLF.out]; exact HX.out.1
        · have HE : Hid (lineE ws = 28) := by show lineE ws = 28; unfold lineE; rw [if_neg hn, if_neg h0, if_neg (fun h => h3 h.2)]
          have h3' : ¬ ((ws.length : Int) = 3) := by omega
          clear hb0 hb1 h0 h1
          generalize wAt ws 0 = S0 at *
          obtain ⟨N, hN⟩ : ∃ N, ws.length = N := ⟨_, rfl⟩
          rw [hN] at hn hn' h3 h3' ⊢
          have hN0 : 0 < N := by omega
          clear hN
          go_enter Tryd.func39, Tryd.ntmps39
          go_wp2
          go_ret
          exact ⟨by rw [HE.out]; rfl, fun _ => Below.refl _ _, fun h => by rw [HE.out] at h; cases h⟩
      · have q1 : ((wAt ws 0).toList == [116, 114, 117, 115, 116]) = false := by rw [hb1]; simpa [trustW] using h1
        have HE : Hid (lineE ws = 28) := by show lineE ws = 28; unfold lineE; rw [if_neg hn, if_neg h0, if_neg (fun h => h1 h.1)]
        clear hb0 hb1 h0 h1
        generalize wAt ws 0 = S0 at *
        obtain ⟨N, hN⟩ : ∃ N, ws.length = N := ⟨_, rfl⟩
        rw [hN] at hn hn' ⊢
        have hN0 : 0 < N := by omega
        clear hN
        go_enter Tryd.func39, Tryd.ntmps39
        go_wp2
        go_ret
        exact ⟨by rw [HE.out]; rfl, fun _ => Below.refl _ _, fun h => by rw [HE.out] at h; cases h⟩
end Go.Proofs.YtfackmiojbdjhaaDoor
