import Derived.Test.YtgdapkbenmlabaaDoorPN
import Derived.Test.YtgdapkbenmlabaaDoorPJ
/- Parse. -/
namespace Go.Proofs.YtgdapkbenmlabaaDoor.Pt
set_option linter.unusedSimpArgs false
set_option linter.unusedVariables false
open Go.RowKit Go.Maps

theorem Kp.newer {w w1 w2 : World} {a g : Nat} (h : Kp w w1 a a) (h2 : Kp w1 w2 g g) (hg : w.heap.size ≤ g) : Kp w w2 a a :=
  ⟨h2.os.trans h.os, h2.tape.trans h.tape, h2.output.trans h.output, Nat.le_trans h.size h2.size, fun k hk h3 h4 => (h2.block k (Nat.lt_of_lt_of_le hk h.size) (by omega) (by omega)).trans (h.block k hk h3 h4)⟩
theorem cells_new (w : World) (news : List Value) (t : TypeId) : ∀ j u, news[j]? = some u → (w.alloc (.cells news.toArray t)).cell? ((⟨w.heap.size, 0, none⟩ : Addr).add j) = some u := by
  intro j u hu
  unfold Addr.add
  split
  · rename_i h0
    subst h0
    rw [World.cell?_alloc_at _ _ _ _ rfl]
    simpa using hu
  · rw [World.cell?_alloc_at _ _ _ _ rfl]
    simpa using hu
theorem head_at (l : List UInt8) (h : 0 < (baL l).size) : decide (l.head? = some 47) = decide (((baL l)[0]).toNat = 47) := by
  cases l with
  | nil => exact absurd h (by simp [baL_size])
  | cons a r =>
    show decide (some a = some 47) = decide (a.toNat = 47)
    by_cases ha : a = 47
    · subst ha; rfl
    · rw [decide_eq_false (by simpa using ha), decide_eq_false (fun hh : a.toNat = 47 => ha (UInt8.toNat_inj.1 hh))]
set_option maxHeartbeats 40000000 in
set_option maxRecDepth 100000 in
theorem parse_mid (l : List UInt8) (h1 : l ≠ []) (h2 : l.length ≤ 120) (m : Int) (w : World) (hm : w.cell? ⟨0, 0, none⟩ = some (.int .i64 m)) :
    Calls Tryd.prog 8 #[.string (baL l)] w fun e w' => ∃ v, e = .returned (.tuple #[.agg (pa2 (parseC l).1.1 v).toArray, .int .i64 (parseC l).2]) ∧ w'.ownsRow w.heap.size 28 2 v (parseC l).1.2.length (flP (parseC l).1.2) ∧ Below w.heap.size w w' := by
  obtain ⟨d, hu, hd⟩ := Tryd.descPa
  have HU := Lib.hid hu
  have HD := Lib.hid hd
  obtain ⟨dp, hup, hdp⟩ := Tryd.descPr
  have HUp := Lib.hid hup
  have HDp := Lib.hid hdp
  obtain ⟨iP, hi, hz, hsz, hby⟩ := Tryd.infoPr
  have HI := Lib.hid hi
  have HZ := Lib.hid hz
  have HSZ := Lib.hid hsz
  have HBY := Lib.hid hby
  have HM := Lib.hid hm
  have h00 := World.block_lt_of_cell? w _ hm
  have hl0 : 0 < (baL l).size := by
    rw [baL_size]
    cases l with
    | nil => exact absurd rfl h1
    | cons a r => simp
  have q0 : (baL l).toList.isEmpty = false := by
    rw [baL_nil]
    cases l with
    | nil => exact absurd rfl h1
    | cons a r => rfl
  have hPC : parseC l = if (parsP (pieW 47 l)).2 = 0 then ((decide (l.head? = some 47), (parsP (pieW 47 l)).1), 0) else ((false, []), (parsP (pieW 47 l)).2) := by
    unfold parseC
    rw [if_neg h1, if_neg (by omega)]
  rw [head_at l hl0] at hPC
  have HSp := Lib.hid (fun W hW => split_any l 47 m W (by omega) hW)
  have hmem : ∀ x ∈ pieW 47 l, x.length ≤ 120 := fun x hx => Nat.le_trans (pieW_mem 47 l x hx) h2
  have hpl : (pieW 47 l).length ≤ 121 := by
    rw [pieW_len]
    have := List.count_le_length (a := (47 : UInt8)) (l := l)
    omega
  have hsz0 := baL_size l
  obtain ⟨S, hS⟩ : ∃ S, baL l = S := ⟨_, rfl⟩
  obtain ⟨P, hP⟩ : ∃ P, pieW 47 l = P := ⟨_, rfl⟩
  obtain ⟨R, hR⟩ : ∃ R, parseC l = R := ⟨_, rfl⟩
  simp only [hS] at hl0 q0 hPC HSp hsz0 ⊢
  rw [hP] at hPC HSp hmem hpl
  rw [hR] at hPC ⊢
  obtain ⟨n, hn⟩ : ∃ n, S.size = n := ⟨_, rfl⟩
  rw [hn] at hsz0
  have hn0 : (0 : Int) < n := by omega
  have hn1 : (n : Int) ≤ 120 := by omega
  have hn2 : ¬ ((120 : Int) < n) := by omega
  obtain ⟨bb, hbb⟩ : ∃ b, (S[0]).toNat = b := ⟨_, rfl⟩
  rw [hbb] at hPC
  obtain ⟨ab, hab⟩ : ∃ b, decide (bb = 47) = b := ⟨_, rfl⟩
  rw [hab] at hPC
  have hab1 : decide ((bb : Int) = 47) = ab := by
    rw [← hab]
    by_cases h : bb = 47
    · rw [decide_eq_true h, decide_eq_true (by omega)]
    · rw [decide_eq_false h, decide_eq_false (by omega)]
  have hab2 : ((bb : Int) == 47) = ab := by
    rw [← hab1]
    by_cases h : (bb : Int) = 47
    · rw [decide_eq_true h]; simp [h]
    · rw [decide_eq_false h]; simpa using h
  have HRe := Lib.hid hPC
  have HMem := Lib.hid hmem
  obtain ⟨np, hnp⟩ : ∃ x, P.length = x := ⟨_, rfl⟩
  rw [hnp] at HSp hpl
  have HNp := Lib.hid hnp
  clear hu hd hup hdp hi hz hsz hby hm h1 h2 hS hP hR hPC hmem hab hnp hsz0
  go_enter Tryd.func8, Tryd.ntmps8
  have hbd1 := fun W => Tryd.buildPa1 ab W
  go_upto_region 6 with (first | (refine wpList_alloc_list (w := w) rfl 24 rfl (pa2 false (.slice none 0 0)) Tryd.zeroPa ?_; intro w1 F1 hb1 hz1; have HB1 := Lib.hid hb1; have Hz1 := Lib.hid hz1; clear hb1 hz1) | (refine wpList_alloc_list (w := w1) rfl 24 rfl (pa2 false (.slice none 0 0)) Tryd.zeroPa ?_; intro w2 F2 hb2 hz2; have HB2 := Lib.hid (HB1.out.trans (hb2.mono HB1.out.size)); have G1 := Lib.hid (F1.out.keep hb2); have Hz2 := Lib.hid hz2; clear hb2 hz2) | (refine wpList_store_list rfl 24 _ _ rfl w1.heap.size (pa2 false (.slice none 0 0)) (pa2 ab (.slice none 0 0)) rfl rfl F2.out rfl (sizePa _ _) (pa2_one _ _ _ _) ?_; intro w3 F3 HK3))
  have hz1 := Hz1.out
  have hz2 := Hz2.out
  have hk3 := HK3.out.size
  obtain ⟨x2, hx2⟩ : ∃ x, w.heap.size = x := ⟨_, rfl⟩
  obtain ⟨x4, hx4⟩ : ∃ x, w1.heap.size = x := ⟨_, rfl⟩
  have HB3 := Lib.hid (HB2.out.trans (HK3.out.below (by omega) (by omega) (by omega)))
  have G3 := Lib.hid (G1.out.kp HK3.out (by omega) (by omega))
  have HX := Lib.hid (⟨hx2, by omega, by omega⟩ : w.heap.size = x2 ∧ x2 < x4 ∧ x4 < w3.heap.size)
  rw [hx2] at G3
  rw [hx4] at F3
  try rw [hx2]
  try rw [hx4]
  have HM3 := Lib.hid ((HB3.out.cell (p := ⟨0, 0, none⟩) h00).trans HM.out)
  clear hz1 hz2 Hz1 Hz2 hk3 hx2 hx4 HB1 HB2 F1 F2 G1 HK3
  go_wp2_with (refine (HSp.out w3 HM3.out).mono ?_; rintro e w4 ⟨rfl, hw4⟩; have Hw4 := Lib.hid hw4; clear hw4)
  have hbd : Below w3.heap.size w3 w4 := by rw [Hw4.out]; exact below_alloc0 w3 _ _
  have hsz4 : w4.heap.size = w3.heap.size + 1 := by rw [Hw4.out]; simp
  have hcl : ∀ (j : Nat) (x : List UInt8), P[j]? = some x → w4.cell? ⟨w3.heap.size, j, none⟩ = some (.string (baL x)) := by
    intro j x hx
    rw [Hw4.out, World.cell?_alloc_at _ _ _ _ rfl]
    simp [hx]
  have F4 := Lib.hid (F3.out.keep hbd)
  have G4 := Lib.hid (G3.out.keep hbd)
  have HB4 := Lib.hid (HB3.out.trans (hbd.mono HB3.out.size))
  have HM4 := Lib.hid ((HB4.out.cell (p := ⟨0, 0, none⟩) h00).trans HM.out)
  obtain ⟨x5, hx5⟩ : ∃ x, w3.heap.size = x := ⟨_, rfl⟩
  rw [hx5] at hcl hsz4 HX
  try rw [hx5]
  have HCl := Lib.hid hcl
  have HY := Lib.hid hsz4
  clear hbd hsz4 hcl hx5 Hw4 F3 G3 HB3 HM3 HM HSp
  go_loopw [6, 7, 8, 23] (fun _ _ _ iv wr => ∃ (k : Nat) (A : List Pr) (lv : Value), k ≤ np ∧ iv = .int .i64 k ∧ Hid (parsP P = (A ++ (parsP (P.drop k)).1, (parsP (P.drop k)).2)) ∧ A.length ≤ k ∧ Hid (Kp w4 wr x4 x4) ∧ Hid (Vl wr x4 (pa2 ab lv)) ∧ Hid (wr.ownsRow w4.heap.size 28 2 lv A.length (flP A))) (fun _ _ _ iv _ => np - (Go.RowKit.intOf iv).toNat)
  case atStart => exact ⟨0, [], _, Nat.zero_le _, rfl, Lib.hid (by simp), Nat.le_refl _, Lib.hid (Kp.refl _ _ _), F4, Lib.hid (World.ownsRow_nil _ _ _ _)⟩
  case round =>
    obtain ⟨k, A, lv, hk, rfl, HPr, hA, HKp, HV, HO⟩ := hrel
    obtain ⟨pl, cl, rfl⟩ := ownsRow_form HO.out
    obtain ⟨na, hna⟩ : ∃ x, A.length = x := ⟨_, rfl⟩
    rw [hna] at hA HV HO
    have HNa := Lib.hid hna
    clear hna
    by_cases hlt : k < np
    · obtain ⟨x, hx⟩ : ∃ x, P[k]? = some x := ⟨_, List.getElem?_eq_getElem (by rw [HNp.out]; exact hlt)⟩
      have hxl := HMem.out x (List.mem_of_getElem? hx)
      have c0 : wr.cell? ⟨x5, k, none⟩ = some (.string (baL x)) := (HKp.out.cell (p := ⟨x5, k, none⟩) (by show x5 < _; have := HY.out; omega) (by show x5 ≠ _; have := HX.out; omega) (by show x5 ≠ _; have := HX.out; omega)).trans (HCl.out k x hx)
      have hdr : P.drop k = x :: P.drop (k + 1) := by
        rw [List.drop_eq_getElem_cons (by rw [HNp.out]; exact hlt)]
        congr 1
        exact (List.getElem?_eq_some_iff.1 hx).2
      have hki : (k : Int) < np := by omega
      have hk0 : (0 : Int) ≤ k := by omega
      by_cases hxe : x = []
      · subst hxe
        have HPn : Hid (parsP P = (A ++ (parsP (P.drop (k + 1))).1, (parsP (P.drop (k + 1))).2)) := Lib.hid (by rw [HPr.out, hdr, parsP_nil])
        have qx : (baL []).toList.isEmpty = true := baL_nil []
        generalize baL [] = X at *
        clear hx hdr HPr
        go_wp2_with fail
        go_roundw
        case rel => exact ⟨k + 1, A, _, hlt, by go_num, HPn, by rw [HNa.out]; omega, HKp, HV, by rw [HNa.out]; exact HO⟩
        case measure => (simp [Go.RowKit.intOf]; try omega)
      · obtain ⟨p, c, hpc⟩ : ∃ p c, partC x = (p, c) := ⟨_, _, rfl⟩
        have HPt := Lib.hid (fun W hW => part_any x m W (by omega) hW)
        rw [hpc] at HPt
        have qx : (baL x).toList.isEmpty = false := by
          rw [baL_nil]
          cases x with
          | nil => exact absurd rfl hxe
          | cons a r => rfl
        have hmr : wr.cell? ⟨0, 0, none⟩ = some (.int .i64 m) := (HKp.out.cell (p := ⟨0, 0, none⟩) (by show 0 < _; have := HY.out; omega) (by show 0 ≠ _; have := HX.out; omega) (by show 0 ≠ _; have := HX.out; omega)).trans HM4.out
        have HMr := Lib.hid hmr
        change Hid (∀ W, _ → Calls Tryd.prog 12 #[.string (baL x)] W fun e w' => e = .returned (.tuple #[.agg (pc p).toArray, .int .i64 c]) ∧ Below W.heap.size W w') at HPt
        by_cases hc0 : c = 0
        · subst hc0
          have HPn : Hid (parsP P = ((A ++ [p]) ++ (parsP (P.drop (k + 1))).1, (parsP (P.drop (k + 1))).2)) := Lib.hid (by rw [HPr.out, hdr, parsP_good x _ hxe p hpc]; simp)
          obtain ⟨X, hX⟩ : ∃ X, baL x = X := ⟨_, rfl⟩
          rw [hX] at c0 qx HPt
          clear hx hdr HPr hpc hX hmr hxe
          obtain ⟨ps, pt⟩ := p
          go_wp2_with (first | (refine (HPt.out wr HMr.out).mono ?_; rintro e w5 ⟨rfl, hb5⟩; have K5 := Lib.hid (HKp.out.trans (Kp.of_below hb5 _ _)); have V5 := Lib.hid (HV.out.keep hb5); have O5 := Lib.hid (ownsRow_below HO.out hb5); clear hb5 HMr c0) | (refine wpList_alloc_list (w := w5) rfl 28 rfl (pc zP) Tryd.zeroPr ?_; intro w6 F6 hb6 hz6; have K6 := Lib.hid (K5.out.trans (Kp.of_below hb6 _ _)); have V6 := Lib.hid (V5.out.keep hb6); have O6 := Lib.hid (ownsRow_below O5.out hb6); clear hb6 hz6) | (refine wpList_store_list rfl 28 _ _ rfl w5.heap.size (pc zP) (pc (ps, pt)) rfl rfl F6.out rfl (sizePr _) (pc_one _) ?_; intro w7 F7 HK7; have hs5 := K5.out.size; have K7 := Lib.hid (K6.out.newer HK7.out hs5); have V7 := Lib.hid (V6.out.kp HK7.out (by have := HX.out; have := HY.out; omega) (by have := HX.out; have := HY.out; omega)); have O7 := Lib.hid (ownsRow_kpo O6.out HK7.out (fun k hk => by have := (O5.out.lt k hk).2; omega)); have c1 := V7.out.c 1 _ rfl; clear hs5 F6 K6 V6 O6) | (refine wpList_load_mid rfl 28 _ rfl w5.heap.size 0 rfl [.string ps, .string pt] dp F7.out.range0 HUp.out HDp.out Tryd.isizePr ?_) | (at_builtin; refine wpList_append_own _ rfl _ _ 22 rfl w4.heap.size 28 iP _ 2 32 Tryd.underlying22 HI.out HZ.out HSZ.out HBY.out rfl (by decide) _ na _ rfl (O7.out.alloc _) ⟨w7.heap.size, 0, none⟩ 1 1 [.string ps, .string pt] rfl rfl (cells_new w7 _ 28) (pc_one (ps, pt)) (by unfold maxLen; omega) (by omega) (by have := K7.out.size; simp; omega) ?_; intro v' w9 hown' hgrow _; have O9 := Lib.hid hown'; have V9 := Lib.hid ((V7.out.keep (below_alloc0 w7 #[.string ps, .string pt] 28)).grownO hgrow (fun k hk => by have := (O7.out.lt k hk).1; have := HX.out; have := HY.out; omega)); have K8 : Kp w4 (w7.alloc (.cells #[.string ps, .string pt] 28)) x4 x4 := K7.out.trans (Kp.of_below (below_alloc0 w7 #[.string ps, .string pt] 28) x4 x4); have K9 := Lib.hid (K8.growO (base := 0) (v := .slice pl na cl) hgrow (fun k hk => (O7.out.lt k hk).1)); clear K8; obtain ⟨pv, cv, rfl⟩ := ownsRow_form hown'; clear c1; have c1 := V9.out.c 1 _ rfl; have z1 := V9.out.z 1 (Nat.lt_succ_self 1); clear hown' hgrow))
          go_roundw
          case rel =>
            refine ⟨k + 1, A ++ [(ps, pt)], .slice pv (na + 1) cv, hlt, by go_num, HPn, by rw [List.length_append, HNa.out]; simp; omega, Lib.hid (K9.out.setA 1 _), Lib.hid (V9.out.set 1 (Nat.lt_succ_self 1) _), Lib.hid ?_⟩
            rw [List.length_append, HNa.out, flP_snoc]
            exact ownsRow_kpo O9.out ((Kp.refl w9 x4 x4).setA 1 _) (fun k hk => by have := (O9.out.lt k hk).1; have := HX.out; have := HY.out; omega)
          case measure => (simp [Go.RowKit.intOf]; try omega)
        · have HPn : Hid (parsP P = (A, c)) := Lib.hid (by rw [HPr.out, hdr, parsP_bad x _ hxe p c hpc hc0]; simp)
          obtain ⟨X, hX⟩ : ∃ X, baL x = X := ⟨_, rfl⟩
          rw [hX] at c0 qx HPt
          clear hx hdr HPr hpc hX hmr hxe
          have hcz : decide (c = 0) = false := decide_eq_false hc0
          have hcz' : (c == 0) = false := by simpa using hc0
          go_wp2_with (first | (refine (HPt.out wr HMr.out).mono ?_; rintro e w5 ⟨rfl, hb5⟩; have K5 := Lib.hid (HKp.out.trans (Kp.of_below hb5 _ _)); have V5 := Lib.hid (HV.out.keep hb5); have O5 := Lib.hid (ownsRow_below HO.out hb5); clear hb5 HMr c0) | (refine wpList_alloc_list (w := w5) rfl 28 rfl (pc zP) Tryd.zeroPr ?_; intro w6 F6 hb6 hz6; have K6 := Lib.hid (K5.out.trans (Kp.of_below hb6 _ _)); have V6 := Lib.hid (V5.out.keep hb6); have O6 := Lib.hid (ownsRow_below O5.out hb6); clear hb6 hz6) | (refine wpList_store_list rfl 28 _ _ rfl w5.heap.size (pc zP) (pc p) rfl rfl F6.out rfl (sizePr _) (pc_one _) ?_; intro w7 F7 HK7; have hs5 := K5.out.size; have K7 := Lib.hid (K6.out.newer HK7.out hs5); have V7 := Lib.hid (V6.out.kp HK7.out (by have := HX.out; have := HY.out; omega) (by have := HX.out; have := HY.out; omega)); have O7 := Lib.hid (ownsRow_kpo O6.out HK7.out (fun k hk => by have := (O5.out.lt k hk).2; omega)); have c1 := V7.out.c 1 _ rfl; have G7 := Lib.hid (G4.out.kp K7.out (by have := HX.out; omega) (by have := HX.out; omega)); clear hs5 F6 K6 V6 O6) | (refine wpList_store_list rfl 24 _ _ rfl x2 (pa2 false (.slice none 0 0)) (pa2 false (.slice none 0 0)) rfl rfl G7.out rfl (sizePa _ _) (pa2_one _ _ _ _) ?_; intro w8 G8 HK8))
          have HRR : Hid (R = ((false, []), c)) := Lib.hid (by rw [HRe.out, HPn.out]; exact if_neg hc0)
          have hB7 : Below w.heap.size w w7 := HB4.out.trans (K7.out.below (by have := HX.out; omega) (by have := HX.out; omega) HB4.out.size)
          exact bodyPost_ret_by (results_mid_tmp rfl _ _ x2 _ d rfl G8.out.range0 HU.out HD.out (sizePa _ _)) rfl ⟨.slice none 0 0, by rw [HRR.out]; rfl, by rw [HRR.out]; exact World.ownsRow_nil _ _ _ _, hB7.trans (HK8.out.below (by have := HX.out; omega) (by have := HX.out; omega) hB7.size)⟩
    · obtain rfl : k = np := by omega
      have HPn : Hid (parsP P = (A, 0)) := Lib.hid (by rw [HPr.out, List.drop_eq_nil_of_le (by rw [HNp.out]; exact Nat.le_refl _)]; simp [parsP])
      clear HPr hlt
      have G7 := Lib.hid (G4.out.kp HKp.out (by have := HX.out; omega) (by have := HX.out; omega))
      go_wp2_with (first | (refine wpList_load_mid rfl 24 _ rfl x4 0 rfl (pa2 ab (.slice pl na cl)) d HV.out.range0 HU.out HD.out (sizePa _ _) ?_) | (refine wpList_store_list rfl 24 _ _ rfl x2 (pa2 false (.slice none 0 0)) (pa2 ab (.slice pl na cl)) rfl rfl G7.out rfl (sizePa _ _) (pa2_one _ _ _ _) ?_; intro w8 G8 HK8))
      have HRR : Hid (R = ((ab, A), 0)) := Lib.hid (by rw [HRe.out, HPn.out]; exact if_pos rfl)
      have hB7 : Below w.heap.size w wr := HB4.out.trans (HKp.out.below (by have := HX.out; omega) (by have := HX.out; omega) HB4.out.size)
      refine bodyPost_ret_by (results_mid_tmp rfl _ _ x2 _ d rfl G8.out.range0 HU.out HD.out (sizePa _ _)) rfl ⟨.slice pl na cl, by rw [HRR.out]; rfl, ?_, hB7.trans (HK8.out.below (by have := HX.out; omega) (by have := HX.out; omega) hB7.size)⟩
      rw [HRR.out, HNa.out]
      exact own_ge (ownsRow_kpo HO.out HK8.out (fun k hk => by have := (HO.out.lt k hk).1; have := HX.out; have := HY.out; omega)) (by have := HX.out; have := HY.out; omega)
end Go.Proofs.YtgdapkbenmlabaaDoor.Pt
