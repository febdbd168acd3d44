import Derived.Test.YtfkiinbmbbhbkaaDoorT6
namespace Go.Proofs.YtfkiinbmbbhbkaaDoor
set_option linter.unusedSimpArgs false
set_option linter.unusedVariables false
open Go.RowKit

set_option maxRecDepth 100000 in
theorem read_of (s : List UInt8) (o : Option (Int × List Int)) (h : readL s = o) : readLv s = (o.elim 0 fun x => ofLv x.1 x.2) ∧ readCs s = (o.elim 0 fun x => ofCs x.1 x.2) ∧ readEr s = (o.elim 28 fun x => if ofOk x.1 x.2 then 0 else 27) := by
  subst h
  unfold readLv readCs readEr
  cases readL s <;> exact ⟨rfl, rfl, rfl⟩
set_option maxRecDepth 100000 in
theorem of_bad0 (lv : Int) (zs : List Int) (h : ofOk lv zs = false) : ofLv lv zs = 0 ∧ ofCs lv zs = 0 := by
  unfold ofOk at h
  unfold ofLv ofCs
  split at h
  · cases h
  · rename_i hn
    rw [if_neg hn, if_neg hn]
    exact ⟨rfl, rfl⟩
set_option maxRecDepth 100000 in
theorem readL_no (s : List UInt8) (h : ∀ c : Nat, c < 100 → (splitC 58 s).1 ≠ Lib.decDigits c) : readL s = none := by
  unfold readL
  split
  · rfl
  · rename_i n hn
    obtain ⟨h1, h2⟩ := numO_is _ n hn
    exact absurd h2 (h n h1)

set_option maxRecDepth 100000 in
set_option maxHeartbeats 4000000 in
theorem refparse_any (s : List UInt8) (w : World) (hs : s.length ≤ 4000) : Calls Tryd.prog 47 #[.string ⟨s.toArray⟩] w fun e w' => e = .returned (.tuple #[.agg #[.int .u8 (readLv s), .int .u16 (readCs s)], .int .i64 (readEr s)]) ∧ Below w.heap.size w w' := by
  have hssz : (⟨s.toArray⟩ : ByteArray).size = s.length := by show s.toArray.size = _; simp
  obtain ⟨S, hS⟩ : ∃ S : ByteArray, S = ⟨s.toArray⟩ := ⟨_, rfl⟩
  rw [← hS] at hssz ⊢
  have HS := Lib.hid hS
  clear hS
  have hsl : S.size ≤ 4000 := by omega
  have HSz := Lib.hid hssz
  clear hssz
  have hB0 : Below (w.heap.size) w (w.alloc (.cells #[.int .u8 0, .int .u16 0] 37)) := (Below.refl _ _).alloc (Nat.le_refl _) _
  go_enter Tryd.func47, Tryd.ntmps47
  go_wp2_with fail
  go_loopw [4] (fun i wr => ∃ c : Nat, c ≤ 100 ∧ i = .int .i64 c ∧ Below (w.heap.size + 1) (w.alloc (.cells #[.int .u8 0, .int .u16 0] 37)) wr ∧ ∀ c' : Nat, c' < c → (splitC 58 s).1 ≠ Lib.decDigits c') (fun i _ => 100 - (intOf i).toNat)
  case atStart => exact ⟨0, by omega, rfl, Below.refl _ _, fun c' h => by omega⟩
  case round =>
    obtain ⟨c, hc1, rfl, hb, hno⟩ := hrel
    have HNo := Lib.hid hno
    clear hno
    have hsz := hb.size
    simp at hsz
    by_cases hlt : c < 100
    · have hlt' : (c : Int) < 100 := by omega
      go_wp2_with fail
      refine (refitoa_nat c (by omega) wr).mono ?_
      rintro e w1 ⟨rfl, hb1⟩
      have hB1 := hb.trans (hb1.mono (by omega))
      have hnum := numO_digits c hlt
      have hne := digits_ne c hlt 58 (by decide)
      have hDl : (Lib.decDigits c).length ≤ 20 := by rw [Lib.decDigits_length]; exact Lib.nDigits_le20 _ (by omega)
      have hNext : Hid ((splitC 58 s).1 ≠ Lib.decDigits c → ∀ c' : Nat, c' < c + 1 → (splitC 58 s).1 ≠ Lib.decDigits c') := by
        show (splitC 58 s).1 ≠ Lib.decDigits c → _
        intro hh c' h2
        rcases Nat.lt_or_ge c' c with h3 | h3
        · exact HNo.out c' h3
        · obtain rfl : c' = c := by omega
          exact hh
      generalize Lib.decDigits c = D at *
      have hDsz : (⟨D.toArray⟩ : ByteArray).size = D.length := by show D.toArray.size = _; simp
      have HFit := Lib.hid (fun hl hp hq => fits s D 58 hl hp hq)
      -- where it does not fit
      have HBad : Hid ((S = ⟨D.toArray⟩ → False) → (∀ hl : (⟨D.toArray⟩ : ByteArray).size < S.size, S.extract 0 (⟨D.toArray⟩ : ByteArray).size = ⟨D.toArray⟩ → ((S[(⟨D.toArray⟩ : ByteArray).size]'hl).toNat : Int) = 58 → False) → (splitC 58 s).1 ≠ D) := by
        show (S = ⟨D.toArray⟩ → False) → (∀ hl : (⟨D.toArray⟩ : ByteArray).size < S.size, S.extract 0 (⟨D.toArray⟩ : ByteArray).size = ⟨D.toArray⟩ → ((S[(⟨D.toArray⟩ : ByteArray).size]'hl).toNat : Int) = 58 → False) → (splitC 58 s).1 ≠ D
        intro h1 h2 h3
        cases ht : (splitC 58 s).2 with
        | none => exact h1 (by rw [HS.out, ← (splitC_none 58 s ht).1, h3])
        | some t =>
          obtain ⟨h4, -⟩ := splitC_some 58 s t ht
          rw [h3] at h4
          obtain ⟨hl, hp, hq⟩ := fits_back D t 58
          have hS := HS.out
          rw [h4] at hS
          subst hS
          exact h2 hl hp hq
      obtain ⟨H, hH⟩ : ∃ H : ByteArray, H = ⟨D.toArray⟩ := ⟨_, rfl⟩
      rw [← hH] at hDsz HFit HBad ⊢
      have hHl : H.size ≤ 20 := by omega
      have HHH := Lib.hid hH
      have HNe := Lib.hid hne
      have HNum := Lib.hid hnum
      have HB1 := Lib.hid hB1
      clear hDsz hH hne hnum hb1 hB1 hDl
      have hsz1 := HB1.out.size
      simp at hsz1
      have HR0 := Lib.hid ((Pair.new w (.int .u8 0) (.int .u16 0) 37).below HB1.out (by omega))
      by_cases hE : S = H
      · have hs' : s = D := bytes_inj (HS.out.symm.trans (hE.trans HHH.out))
        have hL : readL s = some ((c : Int), []) := by
          unfold readL
          rw [hs', splitC_all 58 D HNe.out, HNum.out]
        have hX := read_of s _ hL
        simp only [Option.elim_some] at hX
        have HX := Lib.hid hX
        clear hs' hL hX
        subst hE
        go_wp2_with fail
        refine (of_any c (.slice none 0 0) [] _ (.inl ⟨none, 0, rfl, rfl⟩)).mono ?_
        rintro e w2 ⟨rfl, hb2⟩
        have hB2 := HB1.out.trans (hb2.mono (by omega))
        have hsz2 := hB2.size
        simp at hsz2
        obtain ⟨hlt2, r0, r1, q0, q1⟩ := (Pair.new w (.int .u8 0) (.int .u16 0) 37).below hB2 (by omega)
        have HB2 := Lib.hid hB2
        clear hb2 hB2
        generalize ofLv (c : Int) [] = L at *
        generalize ofCs (c : Int) [] = C at *
        cases hok : ofOk (c : Int) []
        · have HK := Lib.hid hok
          clear hok
          go_wp2_with fail
          refine bodyPost_ret (v := .tuple #[.agg #[.int .u8 L, .int .u16 C], .int .i64 27]) (by simp [results, Tryd.results47, go_sem, r0, r1, hlt2]) rfl ⟨by rw [HX.out.1, HX.out.2.1, HX.out.2.2, HK.out]; rfl, ?_⟩
          refine Below.alloc (((hB0.trans (HB2.out.mono (by simp))).setCell (by simp) _).setCell (by simp) _) (by simp; omega) _
        · have HK := Lib.hid hok
          clear hok
          go_wp2_with fail
          refine bodyPost_ret (v := .tuple #[.agg #[.int .u8 L, .int .u16 C], .int .i64 0]) (by simp [results, Tryd.results47, go_sem, r0, r1, hlt2]) rfl ⟨by rw [HX.out.1, HX.out.2.1, HX.out.2.2, HK.out]; rfl, ?_⟩
          refine Below.alloc (((hB0.trans (HB2.out.mono (by simp))).setCell (by simp) _).setCell (by simp) _) (by simp; omega) _
      · have hE' := strT_ne hE
        have HE := Lib.hid hE
        clear hE
        by_cases hl : H.size < S.size
        · have hl' : (H.size : Int) < (S.size : Int) := by omega
          by_cases hp : S.extract 0 H.size = H
          · by_cases hq : ((S[H.size]'hl).toNat : Int) = 58
            · obtain ⟨hf1, hf2⟩ : s = D ++ 58 :: s.drop (D.length + 1) ∧ S.extract (H.size + 1) S.size = ⟨(s.drop (D.length + 1)).toArray⟩ := by
                have hS := HS.out
                have hH := HHH.out
                subst hS hH
                exact HFit.out hl hp hq
              have hdl : (s.drop (D.length + 1)).length < 4001 := by
                have := congrArg List.length hf1
                rw [List.length_append, List.length_cons] at this
                omega
              have hL : readL s = if (listO (s.drop (D.length + 1)) (-1)).2 then some ((c : Int), (listO (s.drop (D.length + 1)) (-1)).1) else none := by
                have hsp : splitC 58 s = (D, some (s.drop (D.length + 1))) := (congrArg (splitC 58) hf1).trans (splitC_app 58 D _ HNe.out)
                unfold readL
                rw [hsp, HNum.out]
              generalize s.drop (D.length + 1) = t at *
              have HL := Lib.hid hL
              have HF2 := Lib.hid hf2
              clear hf1 hf2 hL
              go_wp2_with fail
              rw [HF2.out]
              refine (list_any 4001 t hdl (Nat.le_refl _) (-1) w1 (by omega) (by omega)).mono ?_
              rintro e w2 ⟨v2, rfl, hi2, -, hb2⟩
              generalize (listO t (-1)).1 = zs at *
              have hB2 := HB1.out.trans (hb2.mono (by omega))
              have hsz2 := hB2.size
              simp at hsz2
              clear hb2
              cases hok : (listO t (-1)).2
              · have hX := read_of s none (by rw [HL.out, hok]; rfl)
                simp only [Option.elim_none] at hX
                have HX := Lib.hid hX
                obtain ⟨hlt2, r0, r1, q0, q1⟩ := (Pair.new w (.int .u8 0) (.int .u16 0) 37).below hB2 (by omega)
                have HB2 := Lib.hid hB2
                clear hX hok hB2
                go_wp2
                refine bodyPost_ret (v := .tuple #[.agg #[.int .u8 0, .int .u16 0], .int .i64 28]) (by simp [results, Tryd.results47, go_sem, r0, r1]) rfl ⟨by rw [HX.out.1, HX.out.2.1, HX.out.2.2], ?_⟩
                exact ((hB0.trans (HB2.out.mono (by simp))).setCell (by simp) _).setCell (by simp) _
              · have hX := read_of s (some ((c : Int), zs)) (by rw [HL.out, hok]; rfl)
                simp only [Option.elim_some] at hX
                have HX := Lib.hid hX
                have HB2 := Lib.hid hB2
                clear hX hok hB2
                go_wp2_with fail
                refine (of_any c v2 zs _ hi2).mono ?_
                rintro e w3 ⟨rfl, hb3⟩
                have hB3 := HB2.out.trans (hb3.mono (by omega))
                have hsz3 := hB3.size
                simp at hsz3
                obtain ⟨hlt2, r0, r1, q0, q1⟩ := (Pair.new w (.int .u8 0) (.int .u16 0) 37).below hB3 (by omega)
                have HB3 := Lib.hid hB3
                have HBad0 := Lib.hid (of_bad0 (c : Int) zs)
                clear hb3 hB3
                generalize ofLv (c : Int) zs = L at *
                generalize ofCs (c : Int) zs = C at *
                cases hok : ofOk (c : Int) zs
                · obtain ⟨hL0, hC0⟩ := HBad0.out hok
                  have HK := Lib.hid hok
                  subst hL0 hC0
                  clear hok
                  go_wp2_with fail
                  refine bodyPost_ret (v := .tuple #[.agg #[.int .u8 0, .int .u16 0], .int .i64 27]) (by simp [results, Tryd.results47, go_sem, r0, r1, hlt2]) rfl ⟨by rw [HX.out.1, HX.out.2.1, HX.out.2.2, HK.out]; rfl, ?_⟩
                  refine Below.alloc (((hB0.trans (HB3.out.mono (by simp))).setCell (by simp) _).setCell (by simp) _) (by simp; omega) _
                · have HK := Lib.hid hok
                  clear hok
                  go_wp2_with fail
                  refine bodyPost_ret (v := .tuple #[.agg #[.int .u8 L, .int .u16 C], .int .i64 0]) (by simp [results, Tryd.results47, go_sem, r0, r1, hlt2]) rfl ⟨by rw [HX.out.1, HX.out.2.1, HX.out.2.2, HK.out]; rfl, ?_⟩
                  refine Below.alloc (((hB0.trans (HB3.out.mono (by simp))).setCell (by simp) _).setCell (by simp) _) (by simp; omega) _
            · have HN := Lib.hid (hNext.out (HBad.out (fun h => HE.out h) (fun _ _ h => hq h)))
              have hq' : (((S[H.size]'hl).toNat : Int) == 58) = false := by rw [beq_eq_false_iff_ne]; exact hq
              go_wp2
              go_roundw
              case rel => exact ⟨c + 1, by omega, by go_num, HB1.out, HN.out⟩
              case measure => simp [intOf]; omega
          · have HN := Lib.hid (hNext.out (HBad.out (fun h => HE.out h) (fun _ h _ => hp h)))
            have hp' := strT_ne hp
            go_wp2
            go_roundw
            case rel => exact ⟨c + 1, by omega, by go_num, HB1.out, HN.out⟩
            case measure => simp [intOf]; omega
        · have hl' : ¬ (H.size : Int) < (S.size : Int) := by omega
          have HN := Lib.hid (hNext.out (HBad.out (fun h => HE.out h) (fun h _ _ => hl h)))
          go_wp2
          go_roundw
          case rel => exact ⟨c + 1, by omega, by go_num, HB1.out, HN.out⟩
          case measure => simp [intOf]; omega
    · obtain rfl : c = 100 := by omega
      have hX := read_of s none (readL_no s (fun c' h => HNo.out c' h))
      simp only [Option.elim_none] at hX
      have HX := Lib.hid hX
      obtain ⟨hlt2, r0, r1, q0, q1⟩ := (Pair.new w (.int .u8 0) (.int .u16 0) 37).below hb (by omega)
      have HB := Lib.hid hb
      clear hX hb
      go_wp2
      refine bodyPost_ret (v := .tuple #[.agg #[.int .u8 0, .int .u16 0], .int .i64 28]) (by simp [results, Tryd.results47, go_sem, r0, r1]) rfl ⟨by rw [HX.out.1, HX.out.2.1, HX.out.2.2], ?_⟩
      exact ((hB0.trans (HB.out.mono (by simp))).setCell (by simp) _).setCell (by simp) _
end Go.Proofs.YtfkiinbmbbhbkaaDoor
