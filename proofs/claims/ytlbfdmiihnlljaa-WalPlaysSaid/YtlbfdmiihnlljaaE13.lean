import Derived.Test.YtlbfdmiihnlljaaP1
/- Awake. -/
namespace Go.Proofs.Ytlbfdmiihnlljaa
set_option linter.unusedSimpArgs false
set_option linter.unusedVariables false
open Go.RowKit Go.Maps

theorem one7_byt : Byt (one 7) := by
  intro j _
  unfold one
  split <;> omega
theorem Sane.new (n : Nat) : Sane (DS.new n) n 0 := ⟨rfl, Int.le_refl _, Int.le_refl _, Int.le_refl _, Int.le_refl _, (fun h => by cases h), (by show (0 : Int) < 9223372036854775808; decide), fun j => ⟨Int.le_refl _, (by show (0 : Int) < 256; decide)⟩⟩
theorem commit_awake (f : Nat → Int) (hA : SB f 1 (headF [])) : ∃ F, commit 1 [(40, one 7)] 0 ⟨50, f, false, 0, false, 0, 1⟩ = (0, [], ⟨50, F, false, 0, false, 1, 5⟩) ∧ SB F 40 (one 7) := by
  have hT : TOk [(40, one 7)] 50 1 := ⟨by simp [Rise], by decide, by simp [Out], by
    intro p hp
    simp at hp
    subst hp
    exact one7_byt⟩
  have hs : StA ⟨50, f, false, 0, false, 0, 1⟩ 50 1 (fun k i => f (k * 64 + i)) := ⟨rfl, hA, fun k _ i _ => rfl⟩
  have he : ∃ F, commit 1 [(40, one 7)] 0 ⟨50, f, false, 0, false, 0, 1⟩ = (0, [], ⟨50, F, false, 0, false, 1, 5⟩) := by
    refine ⟨(commit 1 [(40, one 7)] 0 ⟨50, f, false, 0, false, 0, 1⟩).2.2.f, ?_⟩
    simp [commit, writeLog, wlog, keys, install, inst, DS.write, DS.rdd]
  obtain ⟨F, hF⟩ := he
  refine ⟨F, hF, ?_⟩
  rcases commit_whole hT _ (by decide) _ hs with ⟨_, _, h, _⟩ | ⟨h, _, _⟩
  · rw [hF] at h
    have := h.out 40 (by simp [Out])
    rwa [show over [(40, one 7)] (fun k i => f (k * 64 + i)) 40 = one 7 from rfl] at this
  · rw [hF] at h
    cases h

set_option maxHeartbeats 8000000 in
set_option maxRecDepth 100000 in
theorem awake_any (w : World) : Calls Try.prog 8 #[] w fun e w' => e = .returned (.bool true) ∧ Below w.heap.size w w' := by
  have hN := Lib.hid (new_any 50 (by decide) w)
  go_enter Try.func8, Try.ntmps8
  go_wp2_with fail
  refine hN.out.mono ?_
  rintro e w1 ⟨d, g, rfl, hd, hg, hD, hb⟩
  have HD1 := Lib.hid hD
  have HB1 := Lib.hid hb
  have hdl := hD.lt
  have hgl := hD.fl.lt
  clear hD hb hN
  go_wp2_with fail
  refine (open_in d g _ 1 (by decide) (by decide) w1 HD1.out).mono ?_
  rintro e w2 ⟨l, rfl, hl, hL, hb⟩
  have HL2 := Lib.hid hL
  have HD2 := Lib.hid (HD1.out.keep hb)
  have HB2 := Lib.hid (HB1.out.trans (hb.mono HB1.out.size))
  have h12 := hb.size
  clear hL hb HD1 HB1
  have hS0 : Sane (DS.new 50) 50 0 := Sane.new 50
  go_wp2_with fail
  refine (format_any l d g 1 50 0 _ (by decide) (by decide) (by decide) hS0 w2 HL2.out HD2.out (by omega) (by omega)).mono ?_
  have hw0 : (DS.new 50).write 1 (headF []) = (0, ⟨50, upd (fun _ => 0) (1 * 64) 64 (headF []), false, 0, false, 0, 1⟩) := by simp [DS.write, DS.new]
  rw [hw0]
  rintro e w3 ⟨rfl, hD3, hk3⟩
  obtain ⟨f, hf⟩ : ∃ f, upd (fun _ => 0) (1 * 64) 64 (headF []) = f := ⟨_, rfl⟩
  have HSB : Hid (SB f 1 (headF [])) := by rw [← hf]; exact SB.upd_same _ _ _
  have HS3 : Hid (Sane ⟨50, f, false, 0, false, 0, 1⟩ 50 1) := by
    have := hS0.write 1 (headF []) (headF_byt _)
    rw [hw0, hf] at this
    exact this
  rw [hf] at hD3
  have HD3 := Lib.hid hD3
  have HL3 := Lib.hid (HL2.out.kp hk3 (by omega) (by omega))
  have HB3 := Lib.hid (HB2.out.trans (hk3.below hd hg HB2.out.size))
  have h23 := hk3.size
  clear hD3 hk3 HD2 HB2 hf hw0 hS0 HL2
  go_wp2_with fail
  refine (begin_any l d 1 (by decide) w3 HL3.out).mono ?_
  rintro e w4 ⟨t, m, rfl, ht, hm, hT, hb⟩
  have HT4 := Lib.hid hT
  have HD4 := Lib.hid (HD3.out.keep hb)
  have HB4 := Lib.hid (HB3.out.trans (hb.mono HB3.out.size))
  clear hT hb HD3 HB3 HL3
  obtain ⟨hc1, hc2⟩ : putT 50 1 40 (one 7) [] 0 = (0, [(40, one 7)], 0) ∧ True := by
    refine ⟨?_, trivial⟩
    simp [putT, mayB, outB, find, put]
  have HP : Hid (∀ W, Tx W t m d 1 [] 0 → Dk W d g ⟨50, f, false, 0, false, 0, 1⟩ → Calls Try.prog 24 #[.pointer (some ⟨t, 0, none⟩), .int .i64 40, .agg (byts 64 (one 7)).toArray] W fun e w' => e = .returned (.int .i64 0) ∧ Tx w' t m d 1 [(40, one 7)] 0 ∧ Kp W w' t m) := fun W h1 h2 => by
    have h := put_any t m d g 1 50 1 [] 0 _ 40 (one 7) (by decide) (by decide) (by decide) (by decide) (by decide) HS3.out W h1 h2 (by decide)
    rwa [hc1] at h
  clear hc1 hc2
  go_wp2_with (refine wpList_yields _ (yields_build1 rfl 7 rfl) ?_)
  refine (HP.out w4 HT4.out HD4.out).mono ?_
  rintro e w5 ⟨rfl, hT5, hk5⟩
  have HT5 := Lib.hid hT5
  have HD5 := Lib.hid (HD4.out.kp hk5 (by omega) (by omega) (by omega) (by omega))
  have HB5 := Lib.hid (HB4.out.trans (hk5.below (by omega) (by omega) HB4.out.size))
  clear hT5 hk5 HT4 HD4 HB4 HP
  obtain ⟨F, hF1, hF2⟩ := commit_awake f HSB.out
  have HF2 := Lib.hid hF2
  have HC : Hid (∀ W, Tx W t m d 1 [(40, one 7)] 0 → Dk W d g ⟨50, f, false, 0, false, 0, 1⟩ → Calls Try.prog 16 #[.pointer (some ⟨t, 0, none⟩)] W fun e w' => e = .returned (.int .i64 0) ∧ Tx w' t m d 1 [] 0 ∧ Dk w' d g ⟨50, F, false, 0, false, 1, 5⟩ ∧ Kc W w' d g m) := fun W h1 h2 => by
    have h := commit_any t m d g 1 50 1 [(40, one 7)] 0 _ (by decide) (fun p hp => by
      simp at hp
      subst hp
      exact ⟨by decide, one7_byt⟩) (by decide) (by decide) (by decide) (by decide) HS3.out W h1 h2 (by omega) (by omega) (by omega) (by omega)
    rwa [hF1] at h
  have HSF : Hid (Sane ⟨50, F, false, 0, false, 1, 5⟩ 50 93) := by
    have h := Sane.commit (fi := 1) [(40, one 7)] 0 1 _ (by decide) (fun p hp => by
      simp at hp
      subst hp
      exact one7_byt) HS3.out
    rw [hF1] at h
    exact h
  clear hF1 hF2
  go_wp2_with fail
  refine (HC.out w5 HT5.out HD5.out).mono ?_
  rintro e w6 ⟨rfl, hT6, hD6, hk6⟩
  have HD6 := Lib.hid hD6
  have HB6 := Lib.hid (HB5.out.trans (hk6.below hd hg (by omega) HB5.out.size))
  clear hT6 hD6 hk6 HT5 HD5 HB5 HC
  go_wp2_with fail
  refine (counts_any d g _ w6 HD6.out).mono ?_
  rintro e w7 ⟨rfl, hb⟩
  have HD7 := Lib.hid (HD6.out.keep hb)
  have HB7 := Lib.hid (HB6.out.trans (hb.mono HB6.out.size))
  clear hb HD6 HB6
  obtain ⟨V, hV⟩ : ∃ V, DS.blk ⟨50, F, false, 0, false, 1, 5⟩ 40 = V := ⟨_, rfl⟩
  have e36 : ∀ W, (Op.equalIn 10000 50 (.agg (byts 64 V).toArray) (.agg (byts 64 (one 7)).toArray)).run Try.prog W = .ok true W := fun W => by
    rw [eq36, eqb_same fun i hi => by rw [← hV]; exact HF2.out i hi]
  have HE := Lib.hid e36
  have HRd : Hid (∀ W, Dk W d g ⟨50, F, false, 0, false, 1, 5⟩ → Calls Try.prog 35 #[.pointer (some ⟨d, 0, none⟩), .int .i64 40] W fun e w' => e = .returned (.tuple #[.agg (byts 64 V).toArray, .int .i64 0]) ∧ Dk w' d g (DS.rdd ⟨50, F, false, 0, false, 1, 5⟩) ∧ Kp W w' d g) := fun W h => by
    have := read_any d g _ 40 50 93 (by decide) (by decide) (by decide) HSF.out W h
    rwa [hV] at this
  clear e36 hV
  go_wp2_with fail
  refine (HRd.out w7 HD7.out).mono ?_
  rintro e w8 ⟨rfl, hD8, hk8⟩
  have HB8 := Lib.hid (HB7.out.trans (hk8.below hd hg HB7.out.size))
  clear hD8 hk8 HB7 HD7 HRd
  have e36 := HE.out
  go_wp2_with (first | (refine wpList_alloc_byts rfl 50 64 rfl Try.zero36 ?_; intro w9 F9 hb9 hz9; have HB9 := Lib.hid (HB8.out.trans (hb9.mono HB8.out.size)); clear hb9 hz9) | (refine wpList_store_blk rfl (.tmp 11) (.tmp 39) rfl w8.heap.size 0 64 (fun _ => 0) V F9.out (by omega) rfl rfl ?_; intro w10 F10 HK10; have hR10 := (F10.out.congr (f' := V) (fun j hj => (by unfold upd; rw [if_pos (by omega), Nat.sub_zero]))).range0; have HR10 := Lib.hid hR10; clear hR10) | (refine wpList_yields _ (yieldsIf_load_mid (S := fun W => W = w10) (by rfl) 50 (.tmp 11) rfl w8.heap.size 0 rfl (byts 64 V) (.array 64 5) (fun W hW => (by rw [hW]; exact HR10.out)) Try.arr36 rfl (size36 _)) ?_) | (refine wpList_yields _ (yields_build1 rfl 7 rfl) ?_))
  go_ret
  exact ⟨rfl, HB9.out.trans (HK10.out.below (by have := HB8.out.size; omega) (by have := HB8.out.size; omega) HB9.out.size)⟩
end Go.Proofs.Ytlbfdmiihnlljaa
