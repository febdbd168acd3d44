import Derived.Test.YtehldpnhdnlljaaDoorPO
/- Parse: the answer's. -/
namespace Go.Proofs.YtehldpnhdnlljaaDoor.Pt
set_option linter.unusedSimpArgs false
set_option linter.unusedVariables false
open Go.RowKit Go.Maps

/-- what is left of a text from f on, if its next piece ends at k -/
theorem rest_step (l : List UInt8) (f k : Nat) (hfk : f ≤ k) (hk : k ≤ l.length) (hno : ∀ j (hj : j < l.length), f ≤ j → j < k → l[j] ≠ 47) (hend : k = l.length ∨ ∃ h : k < l.length, l[k] = 47) :
    parsP (pieW 47 (l.drop f)) = parsP ((l.drop f).take (k - f) :: pieW 47 (l.drop (k + 1))) := by
  have hx : ∀ x ∈ (l.drop f).take (k - f), x ≠ 47 := by
    intro x hx
    obtain ⟨j, hj, rfl⟩ := List.mem_iff_getElem.1 hx
    rw [List.length_take, List.length_drop] at hj
    rw [List.getElem_take, List.getElem_drop]
    exact hno (f + j) (by omega) (by omega) (by omega)
  rcases hend with rfl | ⟨h, h47⟩
  · rw [List.take_of_length_le (by simp)] at hx ⊢
    have e0 : l.drop (l.length + 1) = [] := List.drop_eq_nil_of_le (by omega)
    rw [pieW_none 47 (l.drop f) (by rw [splitC_all 47 _ hx]), e0, pieW_none 47 [] rfl]
    by_cases hd : l.drop f = []
    · rw [hd]
      simp [parsP]
    · simp [parsP, hd]
  · have e : l.drop f = (l.drop f).take (k - f) ++ 47 :: l.drop (k + 1) := by
      conv => lhs; rw [← List.take_append_drop (k - f) (l.drop f)]
      congr 1
      rw [List.drop_drop, show f + (k - f) = k by omega, List.drop_eq_getElem_cons h, h47]
    have hs := splitC_app 47 _ (l.drop (k + 1)) hx
    rw [← e] at hs
    rw [pieW_some 47 (l.drop f) (l.drop (k + 1)) (by rw [hs]), hs]
theorem ext_mid (l : List UInt8) (f k : Nat) : (baL l).extract f k = baL ((l.drop f).take (k - f)) := by
  unfold baL
  apply ByteArray.ext
  simp [ByteArray.data_extract, List.extract_eq_take_drop]
theorem baL_at (l : List UInt8) (j : Nat) (hj : j < (baL l).size) (hl : j < l.length) : (baL l)[j] = l[j] := by
  exact List.getElem_toArray (xs := l) (by simpa using hl)
set_option maxHeartbeats 40000000 in
set_option maxRecDepth 100000 in
theorem rparse_empty (w : World) :
    Calls Tryd.prog 9 #[.string (baL [])] w fun e w' => e = .returned (.tuple #[.bool false, .slice none 0 0, .int .i64 7]) ∧ w' = w := by
  have q0 : (baL []).toList.isEmpty = true := baL_nil []
  generalize baL [] = S at *
  go_enter Tryd.func9, Tryd.ntmps9
  go_wp2_with fail
  go_ret3
  exact ⟨rfl, rfl⟩
set_option maxHeartbeats 40000000 in
set_option maxRecDepth 100000 in
theorem rparse_long (l : List UInt8) (hl : 120 < l.length) (w : World) :
    Calls Tryd.prog 9 #[.string (baL l)] w fun e w' => e = .returned (.tuple #[.bool false, .slice none 0 0, .int .i64 8]) ∧ w' = w := by
  have q0 : (baL l).toList.isEmpty = false := by
    rw [baL_nil]
    cases l with
    | nil => simp at hl
    | cons a r => rfl
  have h2 : (120 : Int) < (baL l).size := by rw [baL_size]; omega
  generalize baL l = S at *
  clear hl
  go_enter Tryd.func9, Tryd.ntmps9
  go_wp2_with fail
  go_ret3
  exact ⟨rfl, rfl⟩
set_option maxHeartbeats 40000000 in
set_option maxRecDepth 100000 in
theorem rparse_mid (l : List UInt8) (h1 : l ≠ []) (h2 : l.length ≤ 120) (w : World) :
    Calls Tryd.prog 9 #[.string (baL l)] w fun e w' => ∃ v, e = .returned (.tuple #[.bool (parseC l).1.1, v, .int .i64 (parseC l).2]) ∧ w'.ownsRow w.heap.size 34 2 v (parseC l).1.2.length (flP (parseC l).1.2) ∧ Below w.heap.size w w' := by
  obtain ⟨dp, hup, hdp⟩ := Tryd.descPr
  have HUp := Lib.hid hup
  have HDp := Lib.hid hdp
  obtain ⟨iP, hi, hz, hsz, hby⟩ := Tryd.infoPr
  have HI := Lib.hid hi
  have HZ := Lib.hid hz
  have HSZ := Lib.hid hsz
  have HBY := Lib.hid hby
  have hl0 : 0 < (baL l).size := by
    rw [baL_size]
    cases l with
    | nil => exact absurd rfl h1
    | cons a r => simp
  have q0 : (baL l).toList.isEmpty = false := by
    rw [baL_nil]
    cases l with
    | nil => exact absurd rfl h1
    | cons a r => rfl
  have hPC : parseC l = if (parsP (pieW 47 l)).2 = 0 then ((decide (l.head? = some 47), (parsP (pieW 47 l)).1), 0) else ((false, []), (parsP (pieW 47 l)).2) := by
    unfold parseC
    rw [if_neg h1, if_neg (by omega)]
  rw [head_at l hl0] at hPC
  have HSt := Lib.hid (fun f k hfk hk hno hend => rest_step l f k hfk hk hno hend)
  have HEx := Lib.hid (fun f k => ext_mid l f k)
  have HAt := Lib.hid (fun j hj hl => baL_at l j hj hl)
  have HLl := Lib.hid (baL_size l)
  have HL2 := Lib.hid h2
  obtain ⟨R, hR⟩ : ∃ R, parseC l = R := ⟨_, rfl⟩
  rw [hR] at hPC ⊢
  obtain ⟨n, hn⟩ : ∃ n, (baL l).size = n := ⟨_, rfl⟩
  have HN := Lib.hid hn
  have HNl := Lib.hid (HLl.out.symm.trans hn)
  have hn0 : (0 : Int) < n := by omega
  have hn1 : (n : Int) ≤ 120 := by have := HNl.out; omega
  have hn2 : ¬ ((120 : Int) < n) := by omega
  obtain ⟨bb, hbb⟩ : ∃ b, ((baL l)[0]).toNat = b := ⟨_, rfl⟩
  rw [hbb] at hPC
  obtain ⟨ab, hab⟩ : ∃ b, decide (bb = 47) = b := ⟨_, rfl⟩
  rw [hab] at hPC
  have hab1 : decide ((bb : Int) = 47) = ab := by
    rw [← hab]
    by_cases h : bb = 47
    · rw [decide_eq_true h, decide_eq_true (by omega)]
    · rw [decide_eq_false h, decide_eq_false (by omega)]
  have hab2 : ((bb : Int) == 47) = ab := by
    rw [← hab1]
    by_cases h : (bb : Int) = 47
    · rw [decide_eq_true h]; simp [h]
    · rw [decide_eq_false h]; simpa using h
  have HRe := Lib.hid hPC
  have HH := Lib.hid (⟨hbb, hab1, hab2⟩ : ((baL l)[0]).toNat = bb ∧ decide ((bb : Int) = 47) = ab ∧ ((bb : Int) == 47) = ab)
  clear hup hdp hi hz hsz hby h1 h2 hR hPC hab hbb hab1 hab2
  go_enter Tryd.func9, Tryd.ntmps9
  go_wp2_with fail
  go_loopw [5, 6, 7, 8, 9] (fun lv fv iv _ _ wr => ∃ (k f : Nat) (A : List Pr), k ≤ n + 1 ∧ f ≤ k ∧ iv = .int .i64 k ∧ fv = .int .i64 f ∧ Hid (parsP (pieW 47 l) = (A ++ (parsP (pieW 47 (l.drop f))).1, (parsP (pieW 47 (l.drop f))).2)) ∧ Hid (k = n + 1 → f = n + 1) ∧ A.length ≤ k ∧ Hid (∀ j (hj : j < (baL l).size), f ≤ j → j < k → ((baL l)[j]).toNat ≠ 47) ∧ Hid (Below w.heap.size w wr) ∧ Hid (wr.ownsRow w.heap.size 34 2 lv A.length (flP A))) (fun _ _ iv _ _ _ => n + 2 - (Go.RowKit.intOf iv).toNat)
  case atStart => exact ⟨0, 0, [], Nat.zero_le _, Nat.le_refl _, rfl, rfl, Lib.hid (by simp), Lib.hid (fun h => by omega), Nat.le_refl _, Lib.hid (fun j hj h3 h4 => absurd h4 (Nat.not_lt_zero _)), Lib.hid (Below.refl _ _), Lib.hid (World.ownsRow_nil _ _ _ _)⟩
  case round =>
    obtain ⟨k, f, A, hk, hfk, rfl, rfl, HPr, HEnd, hA, HNo, HB, HO⟩ := hrel
    obtain ⟨pl, cl, rfl⟩ := ownsRow_form HO.out
    obtain ⟨na, hna⟩ : ∃ x, A.length = x := ⟨_, rfl⟩
    rw [hna] at hA HO
    try rw [hna]
    have HNa := Lib.hid hna
    clear hna
    by_cases hkn : k = n + 1
    · obtain rfl := hkn
      obtain rfl : f = n + 1 := HEnd.out rfl
      have e0 : l.drop (n + 1) = [] := List.drop_eq_nil_of_le (by have := HNl.out; omega)
      have HPn : Hid (parsP (pieW 47 l) = (A, 0)) := Lib.hid (by rw [HPr.out, e0, pieW_none 47 [] rfl]; simp [parsP])
      obtain ⟨hbb, hab1, hab2⟩ := HH.out
      have HRR : Hid (R = ((ab, A), 0)) := Lib.hid (by rw [HRe.out, HPn.out]; exact if_pos rfl)
      have hend : ¬ (((n + 1 : Nat) : Int) ≤ n) := by omega
      clear HPr HEnd HNo hk hfk e0 hA
      go_wp2_with fail
      go_ret3
      exact ⟨.slice pl na cl, by rw [HRR.out]; rfl, by rw [HRR.out, HNa.out]; exact HO.out, HB.out⟩
    · have hkn2 : (k : Int) ≤ n := by omega
      have hk0 : (0 : Int) ≤ k := by omega
      by_cases hcont : ∃ h : k < (baL l).size, ((baL l)[k]).toNat ≠ 47
      · obtain ⟨h, h47⟩ := hcont
        obtain ⟨b, hb⟩ : ∃ b, ((baL l)[k]).toNat = b := ⟨_, rfl⟩
        have HNo2 : Hid (∀ j (hj : j < (baL l).size), f ≤ j → j < k + 1 → ((baL l)[j]).toNat ≠ 47) := Lib.hid (fun j hj h3 h4 => by
          by_cases e : j = k
          · subst e; exact h47
          · exact HNo.out j hj h3 (by omega))
        rw [hb] at h47
        have hlt : (k : Int) < n := by omega
        have g1 : ¬ ((b : Int) = 47) := by omega
        have g2 : ((b : Int) == 47) = false := by simpa using g1
        clear h47 HNo HEnd hkn
        go_wp2_with fail
        go_roundw
        case rel => exact ⟨k + 1, f, A, by omega, by omega, by go_num, rfl, HPr, Lib.hid (fun h => by omega), by rw [HNa.out]; omega, HNo2, HB, by rw [HNa.out]; exact HO⟩
        case measure => (simp [Go.RowKit.intOf]; try omega)
      · have Hc : Hid (∀ h : k < (baL l).size, ((baL l)[k]).toNat = 47) := Lib.hid (fun h => by
          by_cases e : ((baL l)[k]).toNat = 47
          · exact e
          · exact absurd ⟨h, e⟩ hcont)
        have hkl : k ≤ l.length := by have := HNl.out; omega
        have hstep := HSt.out f k hfk hkl (fun j hj h3 h4 h5 => by
          have hj' : j < (baL l).size := by rw [HLl.out]; exact hj
          exact HNo.out j hj' h3 h4 ((congrArg UInt8.toNat (HAt.out j hj' hj)).trans (congrArg UInt8.toNat h5))) (by
          by_cases e : k = l.length
          · exact .inl e
          · refine .inr ⟨by omega, ?_⟩
            have hk' : k < (baL l).size := by rw [HLl.out]; omega
            exact UInt8.toNat_inj.1 ((congrArg UInt8.toNat (HAt.out k hk' (by omega))).symm.trans (Hc.out hk')))
        have hpr := HPr.out
        rw [hstep] at hpr
        have hex := HEx.out f k
        have hxe : (l.drop f).take (k - f) = [] ↔ f = k := by
          rw [← List.length_eq_zero_iff, List.length_take, List.length_drop]
          omega
        have hxl : ((l.drop f).take (k - f)).length ≤ 100000 := by
          have := HL2.out
          rw [List.length_take, List.length_drop]
          omega
        generalize (l.drop f).take (k - f) = x at hpr hex hxe hxl
        have HNo3 : Hid (∀ j (hj : j < (baL l).size), k + 1 ≤ j → j < k + 1 → ((baL l)[j]).toNat ≠ 47) := Lib.hid (fun j hj h3 h4 => by omega)
        clear hcont HNo HEnd HPr hstep hkl
        by_cases hfk2 : f = k
        · have hx0 := hxe.2 hfk2
          subst hx0
          rw [parsP_nil] at hpr
          have HPn := Lib.hid hpr
          have g3 : ¬ ((f : Int) < k) := by omega
          clear hpr hex hxe hxl hfk2 hfk
          by_cases hk3 : k = n
          · subst hk3
            have g0 : ¬ ((k : Int) < k) := by omega
            go_wp2_with fail
            go_roundw
            case rel => exact ⟨k + 1, k + 1, A, by omega, Nat.le_refl _, by go_num, by go_num, HPn, Lib.hid (fun h => h), by rw [HNa.out]; omega, HNo3, HB, by rw [HNa.out]; exact HO⟩
            case measure => (simp [Go.RowKit.intOf]; try omega)
          · obtain ⟨b, hb⟩ : ∃ b, ((baL l)[k]'(by omega)).toNat = b := ⟨_, rfl⟩
            obtain rfl : b = 47 := by rw [← hb]; exact Hc.out (by omega)
            have g0 : (k : Int) < n := by omega
            go_wp2_with fail
            go_roundw
            case rel => exact ⟨k + 1, k + 1, A, by omega, Nat.le_refl _, by go_num, by go_num, HPn, Lib.hid (fun h => h), by rw [HNa.out]; omega, HNo3, HB, by rw [HNa.out]; exact HO⟩
            case measure => (simp [Go.RowKit.intOf]; try omega)
        · have hx0 : x ≠ [] := fun hh => hfk2 (hxe.1 hh)
          obtain ⟨p, c, hpc⟩ : ∃ p c, partC x = (p, c) := ⟨_, _, rfl⟩
          have HPt := Lib.hid (fun W => rpart_any x W hxl)
          rw [hpc] at HPt
          change Hid (∀ W, Calls Tryd.prog 11 #[.string (baL x)] W fun e w' => e = .returned (.tuple #[.agg (pc p).toArray, .int .i64 c]) ∧ Below W.heap.size W w') at HPt
          have g3 : (f : Int) < k := by omega
          have g4 : (f : Int) ≤ k := by omega
          have g5 : (0 : Int) ≤ f := by omega
          have g6 : (k : Int) ≤ (baL l).size := by omega
          by_cases hc0 : c = 0
          · subst hc0
            rw [parsP_good x _ hx0 p hpc] at hpr
            obtain ⟨ps, pt⟩ := p
            have HPn : Hid (parsP (pieW 47 l) = ((A ++ [(ps, pt)]) ++ (parsP (pieW 47 (l.drop (k + 1)))).1, (parsP (pieW 47 (l.drop (k + 1)))).2)) := Lib.hid (by rw [hpr]; simp)
            generalize baL x = X at *
            clear hpr hxe hxl hfk2 hfk hx0 hpc
            by_cases hk3 : k = n
            · subst hk3
              have g0 : ¬ ((k : Int) < k) := by omega
              go_wp2_with (first | (refine (HPt.out wr).mono ?_; rintro e w5 ⟨rfl, hb5⟩; have B5 := Lib.hid (HB.out.trans (hb5.mono HB.out.size)); have O5 := Lib.hid (ownsRow_below HO.out hb5); clear hb5) | (refine wpList_alloc_list (w := w5) rfl 34 rfl (pc zP) Tryd.zeroPr ?_; intro w6 F6 hb6 hz6; have B6 := Lib.hid (B5.out.trans (hb6.mono B5.out.size)); have O6 := Lib.hid (ownsRow_below O5.out hb6); clear hb6 hz6) | (refine wpList_store_list rfl 34 _ _ rfl w5.heap.size (pc zP) (pc (ps, pt)) rfl rfl F6.out rfl (sizePr _) (pc_one _) ?_; intro w7 F7 HK7; have B7 := Lib.hid (B6.out.trans (HK7.out.below B5.out.size B5.out.size B6.out.size)); have O7 := Lib.hid (ownsRow_kpo O6.out HK7.out (fun k hk => by have := (O5.out.lt k hk).2; omega)); clear F6 O6) | (refine wpList_load_mid rfl 34 _ rfl w5.heap.size 0 rfl [.string ps, .string pt] dp F7.out.range0 HUp.out HDp.out Tryd.isizePr ?_) | (at_builtin; refine wpList_append_own _ rfl _ _ 25 rfl w.heap.size 34 iP _ 2 32 Tryd.underlying25 HI.out HZ.out HSZ.out HBY.out rfl (by decide) _ na _ rfl (O7.out.alloc _) ⟨w7.heap.size, 0, none⟩ 1 1 [.string ps, .string pt] rfl rfl (cells_new w7 _ 34) (pc_one (ps, pt)) (by unfold maxLen; omega) (by omega) (by have := B7.out.size; simp; omega) ?_; intro v' w9 hown' hgrow _; have O9 := Lib.hid hown'; have B9 := Lib.hid ((B7.out.alloc B7.out.size (.cells #[.string ps, .string pt] 34)).grown hgrow (by have := B7.out.size; simp; omega) (fun k hk => (O7.out.lt k hk).1)); obtain ⟨pv, cv, rfl⟩ := ownsRow_form hown'; clear hown' hgrow))
              go_roundw
              case rel => exact ⟨k + 1, k + 1, A ++ [(ps, pt)], by omega, Nat.le_refl _, by go_num, by go_num, HPn, Lib.hid (fun h => h), by rw [List.length_append, HNa.out]; simp; omega, HNo3, B9, by rw [List.length_append, HNa.out, flP_snoc]; exact O9⟩
              case measure => (simp [Go.RowKit.intOf]; try omega)
            · obtain ⟨b, hb⟩ : ∃ b, ((baL l)[k]'(by omega)).toNat = b := ⟨_, rfl⟩
              obtain rfl : b = 47 := by rw [← hb]; exact Hc.out (by omega)
              have g0 : (k : Int) < n := by omega
              go_wp2_with (first | (refine (HPt.out wr).mono ?_; rintro e w5 ⟨rfl, hb5⟩; have B5 := Lib.hid (HB.out.trans (hb5.mono HB.out.size)); have O5 := Lib.hid (ownsRow_below HO.out hb5); clear hb5) | (refine wpList_alloc_list (w := w5) rfl 34 rfl (pc zP) Tryd.zeroPr ?_; intro w6 F6 hb6 hz6; have B6 := Lib.hid (B5.out.trans (hb6.mono B5.out.size)); have O6 := Lib.hid (ownsRow_below O5.out hb6); clear hb6 hz6) | (refine wpList_store_list rfl 34 _ _ rfl w5.heap.size (pc zP) (pc (ps, pt)) rfl rfl F6.out rfl (sizePr _) (pc_one _) ?_; intro w7 F7 HK7; have B7 := Lib.hid (B6.out.trans (HK7.out.below B5.out.size B5.out.size B6.out.size)); have O7 := Lib.hid (ownsRow_kpo O6.out HK7.out (fun k hk => by have := (O5.out.lt k hk).2; omega)); clear F6 O6) | (refine wpList_load_mid rfl 34 _ rfl w5.heap.size 0 rfl [.string ps, .string pt] dp F7.out.range0 HUp.out HDp.out Tryd.isizePr ?_) | (at_builtin; refine wpList_append_own _ rfl _ _ 25 rfl w.heap.size 34 iP _ 2 32 Tryd.underlying25 HI.out HZ.out HSZ.out HBY.out rfl (by decide) _ na _ rfl (O7.out.alloc _) ⟨w7.heap.size, 0, none⟩ 1 1 [.string ps, .string pt] rfl rfl (cells_new w7 _ 34) (pc_one (ps, pt)) (by unfold maxLen; omega) (by omega) (by have := B7.out.size; simp; omega) ?_; intro v' w9 hown' hgrow _; have O9 := Lib.hid hown'; have B9 := Lib.hid ((B7.out.alloc B7.out.size (.cells #[.string ps, .string pt] 34)).grown hgrow (by have := B7.out.size; simp; omega) (fun k hk => (O7.out.lt k hk).1)); obtain ⟨pv, cv, rfl⟩ := ownsRow_form hown'; clear hown' hgrow))
              go_roundw
              case rel => exact ⟨k + 1, k + 1, A ++ [(ps, pt)], by omega, Nat.le_refl _, by go_num, by go_num, HPn, Lib.hid (fun h => h), by rw [List.length_append, HNa.out]; simp; omega, HNo3, B9, by rw [List.length_append, HNa.out, flP_snoc]; exact O9⟩
              case measure => (simp [Go.RowKit.intOf]; try omega)
          · rw [parsP_bad x _ hx0 p c hpc hc0] at hpr
            have HRR : Hid (R = ((false, []), c)) := Lib.hid (by rw [HRe.out, hpr]; exact if_neg hc0)
            have hcz : decide (c = 0) = false := decide_eq_false hc0
            have hcz' : (c == 0) = false := by simpa using hc0
            generalize baL x = X at *
            clear hpr hxe hxl hfk2 hfk hx0 hpc
            by_cases hk3 : k = n
            · subst hk3
              have g0 : ¬ ((k : Int) < k) := by omega
              go_wp2_with (first | (refine (HPt.out wr).mono ?_; rintro e w5 ⟨rfl, hb5⟩; have B5 := Lib.hid (HB.out.trans (hb5.mono HB.out.size)); have O5 := Lib.hid (ownsRow_below HO.out hb5); clear hb5) | (refine wpList_alloc_list (w := w5) rfl 34 rfl (pc zP) Tryd.zeroPr ?_; intro w6 F6 hb6 hz6; have B6 := Lib.hid (B5.out.trans (hb6.mono B5.out.size)); have O6 := Lib.hid (ownsRow_below O5.out hb6); clear hb6 hz6) | (refine wpList_store_list rfl 34 _ _ rfl w5.heap.size (pc zP) (pc p) rfl rfl F6.out rfl (sizePr _) (pc_one _) ?_; intro w7 F7 HK7; have B7 := Lib.hid (B6.out.trans (HK7.out.below B5.out.size B5.out.size B6.out.size)); have O7 := Lib.hid (ownsRow_kpo O6.out HK7.out (fun k hk => by have := (O5.out.lt k hk).2; omega)); clear F6 O6))
              go_ret3
              exact ⟨.slice none 0 0, by rw [HRR.out]; rfl, by rw [HRR.out]; exact World.ownsRow_nil _ _ _ _, B7.out⟩
            · obtain ⟨b, hb⟩ : ∃ b, ((baL l)[k]'(by omega)).toNat = b := ⟨_, rfl⟩
              obtain rfl : b = 47 := by rw [← hb]; exact Hc.out (by omega)
              have g0 : (k : Int) < n := by omega
              go_wp2_with (first | (refine (HPt.out wr).mono ?_; rintro e w5 ⟨rfl, hb5⟩; have B5 := Lib.hid (HB.out.trans (hb5.mono HB.out.size)); have O5 := Lib.hid (ownsRow_below HO.out hb5); clear hb5) | (refine wpList_alloc_list (w := w5) rfl 34 rfl (pc zP) Tryd.zeroPr ?_; intro w6 F6 hb6 hz6; have B6 := Lib.hid (B5.out.trans (hb6.mono B5.out.size)); have O6 := Lib.hid (ownsRow_below O5.out hb6); clear hb6 hz6) | (refine wpList_store_list rfl 34 _ _ rfl w5.heap.size (pc zP) (pc p) rfl rfl F6.out rfl (sizePr _) (pc_one _) ?_; intro w7 F7 HK7; have B7 := Lib.hid (B6.out.trans (HK7.out.below B5.out.size B5.out.size B6.out.size)); have O7 := Lib.hid (ownsRow_kpo O6.out HK7.out (fun k hk => by have := (O5.out.lt k hk).2; omega)); clear F6 O6))
              go_ret3
              exact ⟨.slice none 0 0, by rw [HRR.out]; rfl, by rw [HRR.out]; exact World.ownsRow_nil _ _ _ _, B7.out⟩
end Go.Proofs.YtehldpnhdnlljaaDoor.Pt
