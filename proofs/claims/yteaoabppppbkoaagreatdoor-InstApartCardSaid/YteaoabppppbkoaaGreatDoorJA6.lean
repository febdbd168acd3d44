import Derived.Test.YteaoabppppbkoaaGreatDoorJA5
/- I15 -/
namespace Go.Proofs.YteaoabppppbkoaaGreatDoor
set_option linter.unusedSimpArgs false
set_option linter.unusedVariables false
open Go.RowKit Go.Maps

theorem ownsRow_kfo {w w' : World} {L : List Nat} {base : Nat} {e : TypeId} {size n : Nat} {v : Value} {xs : List Value} (h : w.ownsRow base e size v n xs) (hk : Kf w w' L) (hn : ∀ k, v.ownBlock = some k → k ∉ L) : w'.ownsRow base e size v n xs := by
  refine ⟨h.1, ?_⟩
  rcases h.2 with hv | ⟨g', cap, cur, hv, hb, hgg, rest⟩
  · exact .inl hv
  · refine .inr ⟨g', cap, cur, hv, hb, ?_, rest⟩
    rw [hk.block g' (Array.getElem?_eq_some_iff.1 hgg).1 (hn g' (by rw [hv]; rfl))]
    exact hgg
theorem Kp.of_grownO {w w' : World} {o : Option Nat} (h : w.grownBy w' o) : Kp w w' (o.getD w.heap.size) (o.getD w.heap.size) :=
  ⟨h.os, h.tape, h.output, h.size, fun k hk h1 _ => h.block k hk (fun he => h1 (by rw [← he]; rfl))⟩
theorem own_ge {w : World} {base : Nat} {e : TypeId} {size : Nat} {v : Value} {n : Nat} {xs : List Value} (h : w.ownsRow base e size v n xs) (hb : base ≤ w.heap.size) : base ≤ v.ownBlock.getD w.heap.size := by
  cases ho : v.ownBlock with
  | none => exact hb
  | some k => exact ownsRow_block h k ho
def flatI (L : List In) : List Value := L.flatMap ink
theorem flatI_snoc (L : List In) (e : In) : flatI (L ++ [e]) = flatI L ++ ink e := by
  unfold flatI
  simp
theorem flatI_get {E : List In} {k : Nat} {e : In} (h : E[k]? = some e) (j : Nat) (hj : j < 3) : (flatI E)[3 * k + j]? = (ink e)[j]? := by
  induction E generalizing k with
  | nil => simp at h
  | cons a E ih =>
    have hf : flatI (a :: E) = ink a ++ flatI E := rfl
    cases k with
    | zero =>
      simp only [List.getElem?_cons_zero, Option.some.injEq] at h
      subst h
      rw [hf, List.getElem?_append_left (by show 3 * 0 + j < 3; omega), Nat.mul_zero, Nat.zero_add]
    | succ k =>
      rw [List.getElem?_cons_succ] at h
      rw [hf, List.getElem?_append_right (by show 3 ≤ _; omega), ← ih h, show 3 * (k + 1) + j - (ink a).length = 3 * k + j from by show 3 * (k + 1) + j - 3 = _; omega]
theorem ownI_some {w : World} {base n : Nat} {pa : Option Addr} {cap : Nat} {xs : List Value} (h : w.ownsRow base 92 3 (.slice pa n cap) n xs) (hn : 0 < n) : ∃ g, pa = some ⟨g, 0, none⟩ ∧ base ≤ g ∧ g < w.heap.size := by
  rcases h.2 with ⟨hv, hx⟩ | ⟨g', cap', cur, hv, hb, hgg, -⟩
  · injection hv with h1 h2 h3
    omega
  · injection hv with h1 h2 h3
    exact ⟨g', h1, hb, (Array.getElem?_eq_some_iff.1 hgg).1⟩
theorem ownI_at {w : World} {base n g cap : Nat} {E : List In} (h : w.ownsRow base 92 3 (.slice (some ⟨g, 0, none⟩) n cap) n (flatI E)) (hn : n = E.length) {k : Nat} {e : In} (he : E[k]? = some e) : w.rangeAt g (k * 3) (ink e) := fun j u hu => by
  have hk : k < E.length := (List.getElem?_eq_some_iff.1 he).1
  have hj : j < 3 := (List.getElem?_eq_some_iff.1 hu).1
  rw [World.ownsRow.cellAt h (k * 3 + j) (by rw [hn]; omega), Nat.mul_comm k 3, flatI_get he j hj]
  exact hu
theorem Tryz.guardBlk0 : Tryz.prog.eqGuardType Tryz.prog.depth 116 = false := by kernel_rfl
/-- the nodes that are made below -/
def AL (k : Nat) : List In := (List.range k).map fun i => (0, 4 + i, 1)
theorem AL_len (k : Nat) : (AL k).length = k := by unfold AL; simp
theorem AL_get {k j : Nat} (h : j < k) : (AL k)[j]? = some (0, 4 + j, 1) := by
  unfold AL
  rw [List.getElem?_map, List.getElem?_range h]
  rfl
theorem AL_succ (k : Nat) : AL (k + 1) = AL k ++ [(0, 4 + k, 1)] := by
  unfold AL
  rw [List.range_succ, List.map_append]
  rfl
def VL (j : Nat) : Nat → Nat → Int := fun n => if n < 4 then VF 3 n else if n < 4 + j then setG (mkN 3) 1 else zpt
theorem VL_zero : VL 0 = VF 3 := by
  funext n
  unfold VL
  by_cases h : n < 4
  · rw [if_pos h]
  · rw [if_neg h, if_neg (by omega)]
    unfold VF
    rw [if_neg (by omega)]
theorem VL_succ (j : Nat) : vput (4 + j) (setG (mkN 3) 1) (VL j) = VL (j + 1) := by
  funext n
  unfold vput VL
  by_cases h : 4 + j = n
  · rw [if_pos h, if_neg (by omega), if_pos (by omega)]
  · rw [if_neg h]
    by_cases h4 : n < 4
    · rw [if_pos h4, if_pos h4]
    · rw [if_neg h4, if_neg h4]
      by_cases hj : n < 4 + j
      · rw [if_pos hj, if_pos (by omega)]
      · rw [if_neg hj, if_neg (by omega)]
theorem VL_new (j : Nat) : VL j (4 + j) = zpt := by
  unfold VL
  rw [if_neg (by omega), if_neg (by omega)]
theorem VL_low (j i : Nat) (h1 : 1 ≤ i) (h2 : i < 4 + j) : VL j i 0 ≠ 0 := by
  unfold VL
  by_cases h : i < 4
  · rw [if_pos h]
    exact VF3_low i h1 h
  · rw [if_neg h, if_pos h2]
    decide
theorem VL_alive (k j : Nat) (h : j < k) (hk : k ≤ 9) : alB (VL k) 28 (0, 4 + j, 1) = true := by
  have hv : VL k (4 + j) = setG (mkN 3) 1 := by
    unfold VL
    rw [if_neg (by omega), if_pos (by omega)]
  unfold alB
  show (decide (1 ≤ 4 + j ∧ 4 + j ≤ 28) && (decide (VL k (4 + j) 0 = 3) && decide (VL k (4 + j) 2 = ((1 : Nat) : Int)))) = true
  rw [hv, decide_eq_true (by omega)]
  decide
/-- the records of the nodes that have been needed -/
def EL (k : Nat) : List Rc := (List.range k).map fun i => ((0, 4 + i, 1), 4 + i)
theorem EL_len (k : Nat) : (EL k).length = k := by unfold EL; simp
theorem EL_succ (k : Nat) : EL (k + 1) = EL k ++ [((0, 4 + k, 1), 4 + k)] := by
  unfold EL
  rw [List.range_succ, List.map_append]
  rfl
theorem EL_mem {k : Nat} {e : Rc} (h : e ∈ EL k) : ∃ i, i < k ∧ e = ((0, 4 + i, 1), 4 + i) := by
  unfold EL at h
  obtain ⟨i, hi, rfl⟩ := List.mem_map.1 h
  exact ⟨i, List.mem_range.1 hi, rfl⟩
theorem EL_get {k j : Nat} {e : Rc} (h : (EL k)[j]? = some e) : j < k ∧ e = ((0, 4 + j, 1), 4 + j) := by
  have hj : j < (EL k).length := (List.getElem?_eq_some_iff.1 h).1
  rw [EL_len] at hj
  refine ⟨hj, ?_⟩
  unfold EL at h
  rw [List.getElem?_map, List.getElem?_range hj] at h
  simpa using h.symm
theorem roomR_app : ∀ (E : List Rc), (∀ e ∈ E, vacR e = false) → roomR E = E.length
  | [], _ => rfl
  | e :: E, h => by
    unfold roomR
    rw [h e (List.mem_cons_self ..), if_neg (by decide), roomR_app E (fun x hx => h x (List.mem_cons_of_mem _ hx))]
    rfl
theorem EL_vac (k : Nat) : ∀ e ∈ EL k, vacR e = false := fun e he => by
  obtain ⟨i, -, rfl⟩ := EL_mem he
  unfold vacR
  refine decide_eq_false fun h => ?_
  have := congrArg (fun r : Rc => r.2) h
  simp only [zR] at this
  omega
theorem setR_EL (k : Nat) : setR (EL k) (roomR (EL k)) ((0, 4 + k, 1), 4 + k) = EL (k + 1) := by
  rw [roomR_app _ (EL_vac k), EL_succ]
  unfold setR
  rw [if_neg (by omega)]
theorem EL_no (k : Nat) : ∀ e ∈ EL k, mtI (0, 4 + k, 1) e = false := fun e he => by
  obtain ⟨i, hi, rfl⟩ := EL_mem he
  unfold mtI
  rw [decide_eq_false, Bool.and_false]
  intro h
  have := congrArg (fun x : In => x.2.1) h
  simp only at this
  omega
/-- the nodes of the upper label, its table aside -/
def VU (i : Nat) (V : Nat → Nat → Int) : Prop := ∀ n, n ≠ 2 → V n = if n < 4 then VF 3 n else if n < 4 + i then own 2 else zpt
theorem VU.zero : VU 0 (VF 3) := fun n _ => by
  by_cases h : n < 4
  · rw [if_pos h]
  · rw [if_neg h, if_neg (by omega)]
    unfold VF
    rw [if_neg (by omega)]
theorem VU.new {i : Nat} {V : Nat → Nat → Int} (h : VU i V) : V (4 + i) = zpt := by
  rw [h (4 + i) (by omega), if_neg (by omega), if_neg (by omega)]
theorem VU.low {i : Nat} {V : Nat → Nat → Int} (h : VU i V) (h2 : V 2 0 = 1) (n : Nat) (n1 : 1 ≤ n) (n2 : n < 4 + i) : V n 0 ≠ 0 := by
  by_cases e : n = 2
  · rw [e, h2]
    decide
  · rw [h n e]
    by_cases h4 : n < 4
    · rw [if_pos h4]
      exact VF3_low n n1 h4
    · rw [if_neg h4, if_pos n2]
      decide
theorem setG_mk2 : setG (mkN 2) 1 = own 2 := by
  funext i
  unfold setG mkN own
  by_cases h0 : i = 0
  · subst h0
    rfl
  · by_cases h1 : i = 1
    · subst h1
      rfl
    · by_cases h2 : i = 2
      · subst h2
        rfl
      · rw [if_neg h2, if_neg h0, if_neg h1, if_neg h0, if_neg h1, if_neg h2]
theorem VU.next {i : Nat} {V V' : Nat → Nat → Int} (h : VU i V) (hV : ∀ j, j ≠ 2 → V' j = vput (4 + i) (setG (mkN 2) 1) V j) : VU (i + 1) V' := fun n hn => by
  rw [hV n hn]
  by_cases e : 4 + i = n
  · subst e
    rw [vput_at, if_neg (by omega), if_pos (by omega), setG_mk2]
  · rw [vput_ne _ _ e, h n hn]
    by_cases h4 : n < 4
    · rw [if_pos h4, if_pos h4]
    · rw [if_neg h4, if_neg h4]
      by_cases hj : n < 4 + i
      · rw [if_pos hj, if_pos (by omega)]
      · rw [if_neg hj, if_neg (by omega)]
theorem VU.can {k : Nat} {V : Nat → Nat → Int} (h : VU k V) : Can k (EL k) V := by
  refine ⟨EL_len k, fun j e he => ?_⟩
  obtain ⟨h1, h2⟩ := EL_get he
  refine .inr ⟨h2, ?_⟩
  rw [h (4 + j) (by omega), if_neg (by omega), if_pos (by omega)]
theorem Tryz.infoIk : ∃ i, Tryz.prog.info? 92 = some i ∧ i.zero = some (.agg (inc 0 0 0).toArray) ∧ i.size = 3 ∧ i.bytes = 6 := by
  have h : (Tryz.prog.info? 92).map (fun i => (i.zero, i.size, i.bytes)) = some (some (.agg (inc 0 0 0).toArray), 3, 6) := by kernel_rfl
  obtain ⟨i, hi, he⟩ := Option.map_eq_some_iff.1 h
  simp only [Prod.mk.injEq] at he
  exact ⟨i, hi, he.1, he.2.1, he.2.2⟩
set_option maxHeartbeats 80000000 in
set_option maxRecDepth 2000000 in
theorem instapart_walk (nn : Int) (n0 : 0 ≤ nn) (n1 : nn < 256) (pa : Option Addr) (ln0 cap0 : Nat) (s : Nat → Int) (hs : ∀ j, j < ln0 → 0 ≤ s j ∧ s j < 256) (w : World) (hB : B8 w pa ln0 cap0 s) : Calls Tryz.prog 5 #[.int .u8 nn, .slice pa ln0 cap0] w fun e w' => e = .returned (.bool true) ∧ Below w.heap.size w w' := by
  obtain ⟨N, g0, B0, P0, D0, g1, B1, P1, D1, hc⟩ := c10
  have HC := Lib.hid hc
  have HG0 := Lib.hid hc.gg0
  have HG1 := Lib.hid hc.gg1
  have HAp := Lib.hid hc.ap
  clear hc
  obtain ⟨dI, huI, hdI⟩ := Tryz.descIno
  have HUI := Lib.hid huI
  have HDI := Lib.hid hdI
  obtain ⟨iI, hi, hz, hsz, hbI⟩ := Tryz.infoIk
  have HI := Lib.hid hi
  have HZ := Lib.hid hz
  have HS := Lib.hid hsz
  have HBI := Lib.hid hbI
  have HBd := Lib.hid hB
  have HSd := Lib.hid hs
  clear huI hdI hi hz hsz hbI hB hs
  obtain ⟨k, hk⟩ := Int.eq_ofNat_of_zero_le (show 0 ≤ Int.tmod nn 10 by rw [Int.tmod_eq_emod_of_nonneg n0]; omega)
  have hk9 : k ≤ 9 := by
    have : Int.tmod nn 10 = nn % 10 := Int.tmod_eq_emod_of_nonneg n0
    omega
  have hki9 : (k : Int) ≤ 9 := by omega
  have hl0 : (0 : Int) ≤ ln0 := by omega
  go_enter Tryz.func5, Tryz.ntmps5
  go_wp2_with fail
  refine (awake10 w).mono ?_
  rintro e w1 ⟨rfl, hb⟩
  have HB1 := Lib.hid hb
  have hs1 := hb.size
  clear hb
  by_cases hbig : (30 : Int) < ln0
  · go_wp2_with fail
    go_ret
    exact ⟨rfl, HB1.out⟩
  have hlnn : ln0 ≤ 30 := by omega
  go_wp2_with fail
  refine (small10 w1).mono ?_
  rintro e w2 ⟨n, vr, vm, vg, rfl, hn, hb2, hCF⟩
  have HB2 := Lib.hid (HB1.out.trans (hb2.mono hs1))
  have HCF := Lib.hid hCF
  have hw2 : w.heap.size ≤ w2.heap.size := HB2.out.size
  clear hb2 hCF HB1
  go_wp2_with fail
  refine (fresh10 HC.out n vr vm vg w2 HCF.out).mono ?_
  rintro e w3 ⟨t, mm, dd, gg, l, Y0, rfl, hFr, hll, hln, hLg, hRd, ⟨hT0, hb0⟩, ⟨hT1, hb1⟩, hb3⟩
  obtain ⟨ln, hln0⟩ : ∃ x : Lm, x = ⟨X5 P0, Y0⟩ := ⟨_, rfl⟩
  have HLn := Lib.hid hln0
  have HR3 := Lib.hid (hRd.wide (hln0 ▸ Lm.nil_le _ _) : Rd w3 t mm dd gg N ln Y0 7000)
  have HT0 := Lib.hid hT0
  have HS1 := Lib.hid (T1.fresh (P0 := P1) (DA := D1) hT1 hb1 HG1.out.n512)
  have HLg3 := Lib.hid hLg
  have HNl := Lib.hid (show l ∉ [dd, gg] from fun h => hln (by simp only [List.mem_cons, List.not_mem_nil, or_false] at h ⊢; omega))
  have HNl4 := Lib.hid hln
  have HCFx : Hid (∀ W, Below w2.heap.size w2 W → Cf.CF n W vr vm vg R10 []) := Lib.hid (fun W hk => HCF.out.below hk)
  have HZ3 := Lib.hid hb3
  have HNX : Hid (From w2.heap.size t mm dd gg) := Lib.hid hFr
  have hw3 := hb3.size
  clear hFr hll hln hLg hRd hT0 hb0 hT1 hb1 hb3 HCF hln0
  go_wp2_with fail
  refine (open10a HC.out ln t mm dd gg n 7000 Y0 vr vm vg w3 (HCFx.out w3 HZ3.out) HR3.out).mono ?_
  rintro e w4 ⟨q, p, rfl, hq, hp, hG, hb⟩
  have HGl := Lib.hid hG
  have HB4 := Lib.hid (HZ3.out.trans (hb.mono hw3))
  have hsz4 := HB4.out.size
  have HL4 := Lib.hid (HLg3.out.keep hb)
  have HLts := Lib.hid hG.lts
  clear hG hb HR3 HZ3 HLg3 hq hp
  have HX4 : Hid (∀ x, w4.heap.size ≤ x → x ∉ [q, p, t, mm, dd, gg]) := Lib.hid (fun x hx ha => by
    have := HLts.out
    simp only [List.mem_cons, List.not_mem_nil, or_false] at ha
    omega)
  go_wp2_with fail
  go_loopw [11, 12, 13, 14, 15, 54] (fun av _ _ _ _ cv wr => ∃ j : Nat, j ≤ k ∧ cv = .int .u8 j ∧ Kf w4 wr [t, mm, dd, gg] ∧ (∃ Y, Gr wr q p t mm dd gg 0 g0 B0 38 N ln Y (7000 + 300 * j) ∧ Tab P0 28 Y (VL j) ∧ ∀ z, z < P0 ∨ D0 ≤ z → Y z = Y0 z) ∧ wr.ownsRow w4.heap.size 92 3 av j (flatI (AL j))) (fun _ _ _ _ _ cv _ => k - (Go.RowKit.intOf cv).toNat)
  case atStart => exact ⟨0, Nat.zero_le _, rfl, Kf.refl _ _, ⟨Y0, HGl.out, VL_zero ▸ HT0.out, fun _ _ => rfl⟩, World.ownsRow_nil _ _ _ _⟩
  case round =>
    obtain ⟨j, hj, rfl, hkf, ⟨Y, hG, hT, hY⟩, hO⟩ := hrel
    obtain ⟨va, rfl⟩ : ∃ x, x = u11 := ⟨u11, rfl⟩
    have HKf := Lib.hid hkf
    have HG := Lib.hid hG
    have HT := Lib.hid hT
    have HY := Lib.hid hY
    have HO := Lib.hid hO
    have hszr := hkf.size
    clear hkf hG hT hY hO HGl HT0
    by_cases hlt : j < k
    · have hj0 : (0 : Int) ≤ j := by omega
      have hjk : (j : Int) < k := by omega
      have hj9 : j < 9 := by omega
      have hwj : IntKind.u8.wrap ((j : Int) + 1) = j + 1 := u8_in _ (by omega) (by omega)
      have hTl : Has ln (P0 + (4 + j - 1) / 2) := by
        rw [HLn.out]
        exact ⟨X5_mem P0 (4 + j) (by omega) (by omega), by show 5 ≤ 30; decide⟩
      have hm := gmake_in (ln := ln) q p t mm dd gg 0 B0 P0 28 D0 38 N (7000 + 300 * j) g0 Y (VL j) 3 (by decide) (by decide) rfl (4 + j) (by omega) (by omega) (by rw [VL_new]; rfl) (fun i h1 h2 => VL_low j i h1 h2) 1 (by rw [VL_new]; decide) (by decide) (by decide) hTl (by omega) HT.out HG0.out wr HG.out
      obtain ⟨Y1, hY1⟩ : ∃ Y1, tabW P0 (4 + j) (setG (mkN 3) 1) Y = Y1 := ⟨_, rfl⟩
      have HT1 : Hid (Tab P0 28 Y1 (VL (j + 1))) := Lib.hid (by
        rw [← hY1, ← VL_succ]
        exact HT.out.wr (4 + j) (by omega) (by omega) _ (setG_ok (mkN_ok 3 (by decide) (by decide)) (by decide) (by decide)) (setG_code 1 (by decide) (mkN_mbl 3 rfl)))
      have HY1 : Hid (∀ z, z < P0 ∨ D0 ≤ z → Y1 z = Y0 z) := Lib.hid (fun z hz => by
        have hpd := HG0.out.pd
        rw [← HY.out z hz, ← hY1]
        exact tabW_ne _ _ _ _ _ (by omega))
      rw [hY1] at hm
      have hv2 : VL (j + 1) (4 + j) = setG (mkN 3) 1 := by rw [← VL_succ, vput_at]
      have hin := fun W hW => gino_used (ln := ln) q p t mm dd gg 0 B0 P0 28 D0 38 N (7000 + 300 * j + 200) g0 Y1 (VL (j + 1)) (4 + j) (by omega) (by omega) (by rw [hv2]; decide) (by decide) (by omega) (by omega) HT1.out HG0.out W hW
      rw [hv2] at hin
      obtain ⟨n4, hn4⟩ : ∃ x, 4 + j = x := ⟨_, rfl⟩
      rw [hn4] at hm hin
      have HMk := Lib.hid hm
      have HIn := Lib.hid hin
      have HN4 := Lib.hid hn4
      have hn40 : (0 : Int) ≤ n4 := by omega
      clear hTl hY1 hm hin hv2 HT HY hn4
      go_wp2_with fail
      refine HMk.out.mono ?_
      rintro e x1 ⟨rfl, hG, hk1⟩
      have HGa := Lib.hid hG
      have HK1 := Lib.hid (HKf.out.trans hk1)
      have HO1 := Lib.hid (ownsRow_kfo HO.out hk1 (fun kk hkk ha => HX4.out kk (ownsRow_block HO.out kk hkk) (by simp only [List.mem_cons, List.not_mem_nil, or_false] at ha ⊢; omega)))
      clear hG hk1 HMk HG HKf HO
      go_wp2_with fail
      refine (HIn.out x1 HGa.out).mono ?_
      rintro e x2 ⟨rfl, hG, hk1⟩
      have HGb := Lib.hid hG
      have HK2 := Lib.hid (HK1.out.trans hk1)
      have HO2 := Lib.hid (ownsRow_kfo HO1.out hk1 (fun kk hkk ha => HX4.out kk (ownsRow_block HO1.out kk hkk) (by simp only [List.mem_cons, List.not_mem_nil, or_false] at ha ⊢; omega)))
      clear hG hk1 HIn HGa HK1 HO1
      go_upto_region 14 with (first | (refine wpList_alloc_list (w := x2) rfl 92 rfl (inc 0 0 0) Tryz.zeroIno ?_; intro x3 F3 hb3 hz3; have HQ3 := Lib.hid hb3; clear hb3) | (refine wpList_store_list rfl 92 (.tmp 14) (.tmp 67) rfl x2.heap.size (inc 0 0 0) (ink (0, n4, 1)) rfl rfl F3.out rfl (sizeIk _) (ink_one _) ?_; intro x4 F4 HK4; clear F3))
      obtain ⟨bI, hbI⟩ : ∃ y, x2.heap.size = y := ⟨_, rfl⟩
      have hwI : w4.heap.size ≤ bI := hbI ▸ HK2.out.size
      have HG4 := Lib.hid ((HGb.out.keep HQ3.out).kp HK4.out (HGb.out.notin (Nat.le_refl _)))
      have HK4f := Lib.hid ((HK2.out.more HQ3.out).new HK4.out HK2.out.size)
      have hob2 : ∀ kk, va.ownBlock = some kk → kk < bI := fun kk hkk => hbI ▸ (World.ownsRow.lt HO2.out kk hkk).2
      have HO4 := Lib.hid (ownsRow_kpo (ownsRow_below HO2.out HQ3.out) HK4.out (fun kk hkk => by have := hob2 kk hkk; omega))
      have hI4 : bI < x4.heap.size := hbI ▸ F4.out.lt
      rw [hbI] at F4
      try rw [hbI]
      clear HQ3 HK4 HGb HK2 HO2 hbI hz3 hob2
      have HRx : Hid (x4.rangeAt bI 0 [.int .u8 0, .int .u16 n4, .int .u16 1]) := Lib.hid F4.out.range0
      obtain ⟨pv, cv, hva⟩ := Cf.ownsRow_form HO4.out
      subst hva
      go_wp2_with (first | (refine wpList_load_mid rfl 92 _ rfl bI 0 rfl [.int .u8 0, .int .u16 n4, .int .u16 1] dI HRx.out HUI.out HDI.out Tryz.isizeIno ?_) | (at_builtin; refine wpList_append_own _ rfl _ _ 90 rfl w4.heap.size 92 iI _ 3 6 Tryz.underlying90 HI.out HZ.out HS.out HBI.out rfl (by decide) _ _ _ rfl (HO4.out.alloc _) ⟨x4.heap.size, 0, none⟩ 1 1 [.int .u8 0, .int .u16 n4, .int .u16 1] rfl rfl (Cf.cells_new x4 _ 92) (by simp [Value.oneCell']) (by unfold maxLen; omega) (by omega) (by simp; omega) ?_; intro v' x5 hown' hgrow _; have hb45 : Below x4.heap.size x4 (x4.alloc (.cells #[.int .u8 0, .int .u16 n4, .int .u16 1] 92)) := (Below.refl _ _).alloc (Nat.le_refl _) _; have hoa := HO4.out.alloc (.cells #[.int .u8 0, .int .u16 n4, .int .u16 1] 92); have hge := own_ge hoa (Nat.le_trans HK4f.out.size hb45.size); have hkp := Kp.of_grownO hgrow; have HO5 := Lib.hid hown'; have HG5 := Lib.hid ((HG4.out.keep hb45).kp hkp (HX4.out _ hge)); have HK5 := Lib.hid ((HK4f.out.more hb45).new hkp hge); clear hown' hgrow hb45 hoa hge hkp))
      clear HG4 HK4f HO4 F4 HRx
      have hal : flatI (AL (j + 1)) = flatI (AL j) ++ [.int .u8 0, .int .u16 n4, .int .u16 1] := by
        rw [AL_succ, flatI_snoc, HN4.out]
        rfl
      have HAL := Lib.hid hal
      clear hal
      go_roundw
      case rel => exact ⟨j + 1, by omega, by go_num, HK5.out, ⟨Y1, HG5.out.mono (Lm.le_refl _) (by omega), HT1.out, HY1.out⟩, by rw [HAL.out]; exact HO5.out⟩
      case measure => (simp [Go.RowKit.intOf]; try omega)
    · obtain rfl : j = k := by omega
      go_wp2_with fail
      refine (commit7 t mm dd gg (7000 + 300 * j) Y (by rw [HLn.out]; show 5 ≤ 30; decide) (by omega) wr HG.out.rd).mono ?_
      rintro e y1 ⟨rfl, hR, hk1⟩
      have HR1 := Lib.hid hR
      have HK1 := Lib.hid (HKf.out.trans hk1)
      have HO1 := Lib.hid (ownsRow_kfo HO.out hk1 (fun kk hkk ha => HX4.out kk (ownsRow_block HO.out kk hkk) (by simp only [List.mem_cons, List.not_mem_nil, or_false] at ha ⊢; omega)))
      clear hR hk1 HG HKf HO
      go_wp2_with fail
      refine (image7 t mm dd gg (7000 + 300 * j + 92) Y y1 HR1.out).mono ?_
      rintro e y2 ⟨bA, cA, rfl, hbA, hIm, hb⟩
      have HIm := Lib.hid hIm
      have HR2 := Lib.hid (HR1.out.keep hb)
      have HK2 := Lib.hid (HK1.out.more hb)
      have HO2 := Lib.hid (ownsRow_below HO1.out hb)
      have HL2 := Lib.hid (HL4.out.kf HK2.out HNl4.out)
      have hsy2 := HK2.out.size
      have hdd : w2.heap.size ≤ dd := HNX.out.2.2.1
      have hgg : w2.heap.size ≤ gg := HNX.out.2.2.2
      have HBy : Hid (Below w2.heap.size w2 y2) := Lib.hid (HB4.out.trans (HK2.out.below (fun a ha => by
        have := HNX.out
        unfold From at this
        simp only [List.mem_cons, List.not_mem_nil, or_false] at ha
        omega) hsz4))
      have hyb := HBy.out.size
      have HCy : Hid (∀ W, Kf y2 W [dd, gg] → Below w2.heap.size w2 W) := Lib.hid (fun W hk => HBy.out.trans (hk.bel hdd hgg hyb))
      have HBx : Hid (∀ W, Kf y2 W [dd, gg] → Below w.heap.size w W) := Lib.hid (fun W hk => HB2.out.trans ((HCy.out W hk).mono hw2))
      have hlt1 := HR1.out.lts
      have HNA : Hid (bA ∉ [dd, gg]) := Lib.hid (by simp only [List.mem_cons, List.not_mem_nil, or_false]; omega)
      obtain ⟨pv, cv, hva⟩ := Cf.ownsRow_form HO2.out
      subst hva
      have hog : ∀ kk, (Value.slice pv j cv).ownBlock = some kk → kk ∉ [dd, gg] := fun kk hkk ha => HX4.out kk (ownsRow_block HO2.out kk hkk) (by simp only [List.mem_cons, List.not_mem_nil, or_false] at ha ⊢; omega)
      have HOy : Hid (∀ W, Kf y2 W [dd, gg] → W.ownsRow w4.heap.size 92 3 (.slice pv j cv) j (flatI (AL j))) := Lib.hid (fun W hk => ownsRow_kfo HO2.out hk hog)
      have HSu : Hid (T1 B1 P1 30 D1 48 Y (VF 3) (fun _ => 0) (EL 0)) := Lib.hid (by
        have hap := HAp.out
        exact HS1.out.same ⟨HG1.out.bp, HG1.out.pd, HG1.out.n512⟩ fun z hz _ => HY.out z (.inr (by omega)))
      have HTl : Hid (∀ Y', (∀ z, z < B1 → Y' z = Y z) → Tab P0 28 Y' (VL j)) := Lib.hid (fun Y' hY' => HT.out.congr (fun z h1 h2 => hY' z (by
        have hap := HAp.out
        have hpd := HG0.out.pd
        omega)))
      obtain ⟨KB, hKB⟩ : ∃ x, 7000 + 300 * j + 92 = x := ⟨_, rfl⟩
      rw [hKB] at HR2
      have hKB2 : KB ≤ 10000 := by omega
      clear hIm hb HR1 HK1 HO1 hbA hlt1 hog HS1 HT HY HL4 hKB HBy
      go_wp2_with fail
      go_loopw [18, 19, 20, 21, 22, 23, 80] (fun _ _ _ _ _ _ iv wr => ∃ i : Nat, i ≤ j ∧ iv = .int .i64 i ∧ Kf y2 wr [dd, gg] ∧ ∃ t' m' Y' V b, Rd wr t' m' dd gg N ⟨[], Y'⟩ Y' (KB + 50000 * i) ∧ T1 B1 P1 30 D1 48 Y' V b (EL i) ∧ VU i V ∧ ∀ z, z < B1 → Y' z = Y z) (fun _ _ _ _ _ _ iv _ => j - (Go.RowKit.intOf iv).toNat)
      case atStart => exact ⟨0, Nat.zero_le _, rfl, Kf.refl _ _, t, mm, Y, VF 3, fun _ => 0, HR2.out, HSu.out, VU.zero, fun _ _ => rfl⟩
      case round =>
        obtain ⟨i, hi, rfl, hkf, t', m', Y', V, b, hRd, hS, hU, hYb⟩ := hrel
        have HKf := Lib.hid hkf
        have HRd := Lib.hid hRd
        have HS := Lib.hid hS
        have HU := Lib.hid hU
        have HYb := Lib.hid hYb
        have hszr := hkf.size
        clear hkf hRd hS hU hYb HR2 HSu
        by_cases hlt : i < j
        · obtain ⟨gA, rfl, hgA1, hgA2⟩ := ownI_some HO2.out (by omega)
          have hi0 : (0 : Int) ≤ i := by omega
          have hij : (i : Int) < j := by omega
          have HRg := Lib.hid (ownI_at (HOy.out _ HKf.out) (AL_len j).symm (AL_get hlt))
          go_upto_region 21 with (first | (refine wpList_load_mid rfl 92 _ rfl gA (i * 3) rfl (ink (0, 4 + i, 1)) dI HRg.out HUI.out HDI.out (sizeIk _) ?_) | (refine wpList_alloc_list (w := wr) rfl 92 rfl (inc 0 0 0) Tryz.zeroIno ?_; intro x3 F3 hb3 hz3; have HQ3 := Lib.hid hb3; clear hb3) | (refine wpList_store_list rfl 92 (.tmp 18) (.tmp 83) rfl wr.heap.size (inc 0 0 0) (ink (0, 4 + i, 1)) rfl rfl F3.out rfl (sizeIk _) (ink_one _) ?_; intro x4 F4 HK4; clear F3))
          obtain ⟨bI, hbI⟩ : ∃ y, wr.heap.size = y := ⟨_, rfl⟩
          have hIy : y2.heap.size ≤ bI := hbI ▸ hszr
          have HR4 := Lib.hid ((HRd.out.keep HQ3.out).kp HK4.out (HRd.out.notin (Nat.le_refl _)) (HRd.out.notin (Nat.le_refl _)))
          have HK4f := Lib.hid ((HKf.out.more HQ3.out).new HK4.out hszr)
          have hI4 : bI < x4.heap.size := hbI ▸ F4.out.lt
          rw [hbI] at F4
          try rw [hbI]
          clear HQ3 HK4 HRd HKf HRg hbI hz3
          have hsx4 := HK4f.out.size
          go_wp2_with fail
          refine (begin7 l t' m' dd gg (KB + 50000 * i) Y' x4 HR4.out (HL2.out.kf HK4f.out HNl.out)).mono ?_
          rintro e x5 ⟨t2, m2, rfl, ht2, hm2, hR, hb⟩
          have HR5 := Lib.hid (hR.wide (Lm.nil_le (dl B1 P1 D1 b (ndS (nbT (EL i).length)) (LI (X5 P1))) Y'))
          have HK5 := Lib.hid (HK4f.out.more hb)
          have F5 := Lib.hid (F4.out.keep hb)
          have hsx5 := HK5.out.size
          have hx45 := hb.size
          clear hR hb HR4 HK4f F4
          go_wp2_with fail
          refine (open10b HC.out ⟨dl B1 P1 D1 b (ndS (nbT (EL i).length)) (LI (X5 P1)), Y'⟩ t2 m2 dd gg n (KB + 50000 * i) Y' vr vm vg x5 (HCFx.out x5 (HCy.out _ HK5.out)) HR5.out).mono ?_
          rintro e x6 ⟨q2, p2, rfl, hq2, hp2, hG, hb⟩
          have HG6 := Lib.hid hG
          have HK6 := Lib.hid (HK5.out.more hb)
          have F6 := Lib.hid (F5.out.keep hb)
          have hsx6 := HK6.out.size
          clear hG hb HR5 HK5 F5 hq2 hp2
          have HNt : Hid (∀ a ∈ [t2, m2, dd, gg], w2.heap.size ≤ a) := Lib.hid (fun a ha => by
            simp only [List.mem_cons, List.not_mem_nil, or_false] at ha
            omega)
          have hnd := ineed1 HG1.out (by decide) (X5 P1) (by show 5 ≤ 19; decide) q2 p2 t2 m2 dd gg 1 (n + 3) (KB + 50000 * i) Y' V Y' b (EL i) HS.out (by rw [EL_len]; omega) (by omega) (0, 4 + i, 1) ⟨by show 0 < 256; decide, by show 4 + i < 65536; omega, by show 1 < 65536; decide⟩ (by show 0 < 4 + i; omega) (EL_no i) x6 HG6.out
            (fun e he _ W K' hK' hkW hRW => by
              obtain ⟨i', hi', rfl⟩ := EL_mem he
              have := ialive_in (ln := ⟨dl B1 P1 D1 b (ndS (nbT (EL i).length)) (LI (X5 P1)), Y'⟩) t2 m2 dd gg n B0 P0 28 D0 38 N K' Y' (VL j) vr vm vg R10 [] 0 (by rw [R10_len]; decide) g0 HC.out.hg0 HG0.out (HTl.out Y' HYb.out) (by omega) (0, 4 + i', 1) ⟨by show 0 < 256; decide, by show 4 + i' < 65536; omega, by show 1 < 65536; decide⟩ rfl W (HCFx.out W ((HCy.out _ HK6.out).trans (hkW.below HNt.out (HCy.out _ HK6.out).size))) hRW
              rw [VL_alive j i' (by omega) hk9] at this
              exact this)
            (4 + i) (by omega) (by omega) (by rw [HU.out.new]; rfl) (fun n n1 n2 => HU.out.low HS.out.it.k n n1 n2) 1 (by rw [HU.out.new]; decide) (by decide) (by decide) (X5_mem P1 (4 + i) (by omega) (by omega))
          rw [setR_EL] at hnd
          obtain ⟨n4, hn4⟩ : ∃ x, 4 + i = x := ⟨_, rfl⟩
          rw [hn4] at hnd F6
          have HNd := Lib.hid hnd
          have HN4 := Lib.hid hn4
          clear hnd hn4 HNt
          have HRx := Lib.hid F6.out.range0
          go_wp2_with (refine wpList_load_mid rfl 92 _ rfl bI 0 rfl (ink (0, n4, 1)) dI HRx.out HUI.out HDI.out (sizeIk _) ?_)
          refine HNd.out.mono ?_
          rintro e x7 ⟨rfl, hk7, Y2, V2, b2, hG, hS2, hV2, hY2⟩
          have HG7 := Lib.hid hG
          have HK7 := Lib.hid (HK6.out.tx hk7 (by omega) (by omega))
          have HS7 := Lib.hid hS2
          have HU7 : Hid (VU (i + 1) V2) := Lib.hid (HU.out.next (by rw [HN4.out]; exact hV2))
          have HY7 : Hid (∀ z, z < B1 → Y2 z = Y z) := Lib.hid (fun z hz => (hY2 z (.inl hz)).trans (HYb.out z hz))
          clear hG hk7 hS2 hV2 hY2 HNd HG6 HK6 HS HU HYb F6 HRx HN4
          go_wp2_with fail
          refine (commit7 t2 m2 dd gg (KB + 50000 * i + 40000) Y2 (Ly.len _ (by rw [LI_len]; show 9 + 5 ≤ 28; decide) B1 P1 D1 b2 _) (by omega) x7 HG7.out.rd).mono ?_
          rintro e x8 ⟨rfl, hR, hk8⟩
          have HR8 := Lib.hid hR
          have HK8 := Lib.hid (HK7.out.tx hk8 (by omega) (by omega))
          clear hR hk8 HG7 HK7
          go_wp2_with fail
          go_roundw
          case rel => exact ⟨i + 1, by omega, by go_num, HK8.out, t2, m2, Y2, V2, b2, HR8.out.mono (by omega), HS7.out, HU7.out, HY7.out⟩
          case measure => (simp [Go.RowKit.intOf]; try omega)
        · obtain rfl : i = j := by omega
          have HRj := Lib.hid HRd.out
          have HKj := Lib.hid HKf.out
          have HEx : Hid (∃ E, T1 B1 P1 30 D1 48 Y' V b E ∧ Can i E V) := Lib.hid ⟨EL i, HS.out, HU.out.can⟩
          have HYj := Lib.hid HYb.out
          obtain ⟨KC, hKC⟩ : ∃ x, KB + 50000 * i = x := ⟨_, rfl⟩
          rw [hKC] at HRj
          have hKC2 : KC ≤ 1000000 := by omega
          obtain ⟨wC, hwC⟩ : ∃ x, x = wr := ⟨wr, rfl⟩
          clear HRd HKf HS HU HYb hKC
          have hlnn2 : (ln0 : Int) ≤ 30 := by omega
          go_wp2_with fail
          go_loopw [25, 26, 27, 28, 107] (fun _ _ _ _ iv wr => ∃ c : Nat, c ≤ ln0 ∧ iv = .int .i64 c ∧ Kf y2 wr [dd, gg] ∧ ∃ t' m' Y' V b E, Rd wr t' m' dd gg N ⟨[], Y'⟩ Y' (KC + 50000 * c) ∧ T1 B1 P1 30 D1 48 Y' V b E ∧ Can i E V ∧ ∀ z, z < B1 → Y' z = Y z) (fun _ _ _ _ iv _ => ln0 - (Go.RowKit.intOf iv).toNat)
          case atStart =>
            obtain ⟨E, h1, h2⟩ := HEx.out
            exact ⟨0, Nat.zero_le _, rfl, HKj.out, t', m', Y', V, b, E, HRj.out, h1, h2, HYj.out⟩
          case round =>
            obtain ⟨c, hc, rfl, hkf, t3, m3, Y3, V3, b3, E3, hRd, hS, hCn, hYb⟩ := hrel
            have HKf := Lib.hid hkf
            have HRd := Lib.hid hRd
            have HS := Lib.hid hS
            have HCn := Lib.hid hCn
            have HYb := Lib.hid hYb
            have hszr := hkf.size
            clear hkf hRd hS hCn hYb HRj HKj HEx HYj
            by_cases hlt : c < ln0
            · have hc0 : (0 : Int) ≤ c := by omega
              have hcl : (c : Int) < ln0 := by omega
              obtain ⟨bD, oD, rfl, hDl, hDc⟩ : ∃ bD oD, pa = some ⟨bD, oD, none⟩ ∧ bD < w.heap.size ∧ ∀ j, j < ln0 → w.cell? ⟨bD, oD + j, none⟩ = some (.int .u8 (s j)) := by
                rcases HBd.out with ⟨-, h, -⟩ | ⟨ad, -, h⟩ | ⟨b, off, h1, h2, h3⟩
                · omega
                · omega
                · exact ⟨b, off, h1, h2, h3⟩
              have cX := ((HBx.out _ HKf.out).cell (p := ⟨bD, oD + c, none⟩) hDl).trans (hDc c hlt)
              obtain ⟨sx0, sx1⟩ := HSd.out c hlt
              obtain ⟨sx, hsx⟩ : ∃ z, s c = z := ⟨_, rfl⟩
              rw [hsx] at cX sx0 sx1
              clear hDl hDc hsx
              by_cases hi0 : (0 : Int) < i
              · obtain ⟨gA, rfl, hgA1, hgA2⟩ := ownI_some HO2.out (by omega)
                obtain ⟨a, ha⟩ := Int.eq_ofNat_of_zero_le (show 0 ≤ Int.tmod sx i by rw [Int.tmod_eq_emod_of_nonneg sx0]; exact Int.emod_nonneg _ (by omega))
                have hai : a < i := by
                  have h1 : Int.tmod sx i = sx % i := Int.tmod_eq_emod_of_nonneg sx0
                  have h2 := Int.emod_lt_of_pos sx hi0
                  omega
                have ha0 : (0 : Int) ≤ a := by omega
                have ha1 : (a : Int) < i := by omega
                have hwx : IntKind.i64.wrap sx = sx := IntWalk.i64_in _ (by omega)
                have hne : ¬ ((i : Int) = 0) := by omega
                go_wp2_with fail
                refine (begin7 l t3 m3 dd gg (KC + 50000 * c) Y3 wr HRd.out (HL2.out.kf HKf.out HNl.out)).mono ?_
                rintro e x5 ⟨t2, m2, rfl, ht2, hm2, hR, hb⟩
                have HR5 := Lib.hid (hR.wide (Lm.nil_le (dl B1 P1 D1 b3 (ndS (nbT E3.length)) (LI (X5 P1))) Y3))
                have HK5 := Lib.hid (HKf.out.more hb)
                have hsx5 := HK5.out.size
                have hx45 := hb.size
                clear hR hb HRd HKf cX
                go_wp2_with fail
                refine (open10b HC.out ⟨dl B1 P1 D1 b3 (ndS (nbT E3.length)) (LI (X5 P1)), Y3⟩ t2 m2 dd gg n (KC + 50000 * c) Y3 vr vm vg x5 (HCFx.out x5 (HCy.out _ HK5.out)) HR5.out).mono ?_
                rintro e x6 ⟨q2, p2, rfl, hq2, hp2, hG, hb⟩
                have HG6 := Lib.hid hG
                have HK6 := Lib.hid (HK5.out.more hb)
                have hsx6 := HK6.out.size
                clear hG hb HR5 HK5 hq2 hp2
                have HRg := Lib.hid (ownI_at (HOy.out _ HK6.out) (AL_len i).symm (AL_get hai))
                have HDr := Lib.hid (idrop1 HG1.out (by decide) q2 p2 t2 m2 dd gg 1 (KC + 50000 * c) Y3 V3 Y3 b3 E3 i HS.out HCn.out hk9 (by omega) a hai x6 HG6.out)
                go_wp2_with (refine wpList_load_mid rfl 92 _ rfl gA (a * 3) rfl (ink (0, 4 + a, 1)) dI HRg.out HUI.out HDI.out (sizeIk _) ?_)
                refine HDr.out.mono ?_
                rintro e x7 ⟨⟨er, rfl⟩, hk7, Y4, V4, b4, E4, hG, hS4, hC4, hY4⟩
                have HG7 := Lib.hid hG
                have HK7 := Lib.hid (HK6.out.tx hk7 (by omega) (by omega))
                have HS7 := Lib.hid hS4
                have HC7 := Lib.hid hC4
                have HY7 : Hid (∀ z, z < B1 → Y4 z = Y z) := Lib.hid (fun z hz => (hY4 z (.inl hz)).trans (HYb.out z hz))
                clear hG hk7 hS4 hC4 hY4 HDr HG6 HK6 HS HCn HYb HRg
                go_wp2_with fail
                refine (commit7 t2 m2 dd gg (KC + 50000 * c + 40000) Y4 (Ly.len _ (by rw [LI_len]; show 9 + 5 ≤ 28; decide) B1 P1 D1 b4 _) (by omega) x7 HG7.out.rd).mono ?_
                rintro e x8 ⟨rfl, hR, hk8⟩
                have HR8 := Lib.hid hR
                have HK8 := Lib.hid (HK7.out.tx hk8 (by omega) (by omega))
                clear hR hk8 HG7 HK7
                go_wp2_with fail
                go_roundw
                case rel => exact ⟨c + 1, by omega, by go_num, HK8.out, t2, m2, Y4, V4, b4, E4, HR8.out.mono (by omega), HS7.out, HC7.out, HY7.out⟩
                case measure => (simp [Go.RowKit.intOf]; try omega)
              · go_wp2_with fail
                go_roundw
                case rel => exact ⟨c + 1, by omega, by go_num, HKf.out, t3, m3, Y3, V3, b3, E3, HRd.out.mono (by omega), HS.out, HCn.out, HYb.out⟩
                case measure => (simp [Go.RowKit.intOf]; try omega)
            · obtain rfl : c = ln0 := by omega
              go_wp2_with fail
              refine (image7 t3 m3 dd gg (KC + 50000 * c) Y3 wr HRd.out).mono ?_
              rintro e x1 ⟨bF, cF, rfl, hbF, hI2, hb⟩
              have HK5 := Lib.hid (HKf.out.more hb)
              obtain ⟨F1, hF1, hY1⟩ := HIm.out.kf HK5.out HNA.out
              obtain ⟨F2, hF2, hY2⟩ := hI2
              have HF1 := Lib.hid hF1
              have HF2 := Lib.hid hF2
              have HYs : Hid (∀ x, 32 ≤ x → x < N → x < B1 → ∀ j, j < 64 → F2 (x * 64 + j) = F1 (x * 64 + j)) := Lib.hid (fun x h1 h2 h3 j hj => by
                rw [hY1 x h1 h2 j hj, hY2 x h1 h2 j hj, HYb.out x h3])
              have hb1s := hF1.lt
              have hb2s := hF2.lt
              have HBz : Hid (∀ W, Below x1.heap.size x1 W → Below w2.heap.size w2 W) := Lib.hid (fun W h => HCy.out W (HK5.out.more h))
              have HBw : Hid (∀ W, Below x1.heap.size x1 W → Below w.heap.size w W) := Lib.hid (fun W h => HBx.out W (HK5.out.more h))
              have hN6 := HC.out.n1
              have hNi : (N : Int) ≤ 65536 := by omega
              clear hbF hb hF1 hF2 hY1 hY2 HRd HKf HS HCn HYb HK5 HIm HNA HCy HBx HOy HTl HL2 HO2
              go_wp2_with fail
              go_loopw [29, 30, 31, 32, 33, 138] (fun _ _ _ _ _ iv wr => ∃ b : Nat, b ≤ N ∧ iv = .int .i64 b ∧ Below x1.heap.size x1 wr) (fun _ _ _ _ _ iv _ => N - (Go.RowKit.intOf iv).toNat)
              case atStart => exact ⟨0, Nat.zero_le _, rfl, Below.refl _ _⟩
              case round =>
                obtain ⟨b, hb, rfl, hbl⟩ := hrel
                have HBl := Lib.hid hbl
                have hszb := hbl.size
                clear hbl
                by_cases hbN : b < N
                · have hbN0 : (0 : Int) ≤ b := by omega
                  have hbN1 : (b : Int) < N := by omega
                  have HFb := Lib.hid (HF2.out.below HBl.out hb2s)
                  have hb64 : b * 64 + 64 ≤ N * 64 := by omega
                  have HRb := Lib.hid (HFb.out.range (b * 64) 64 hb64)
                  go_upto_region 39 with (first | (refine wpList_load_mid rfl 116 _ rfl bF (b * 64) rfl (byts 64 fun j => F2 (b * 64 + j)) (.array 64 5) HRb.out Tryz.arr36 rfl (size36 _) ?_) | (refine wpList_alloc_byts (w := wr) rfl 116 64 rfl Tryz.zero36 ?_; intro x3 FX hb3 hz3; have HQ3 := Lib.hid hb3; clear hb3) | (refine wpList_store_mid rfl 116 _ _ rfl wr.heap.size 0 (byts 64 fun j => F2 (b * 64 + j)).toArray rfl rfl (by rw [byts_size]; exact FX.out.there 0 64 (Nat.le_refl _)) (size36' _) (byts_all _ _) ?_))
                  obtain ⟨bX, hbX⟩ : ∃ y, wr.heap.size = y := ⟨_, rfl⟩
                  have hXs : x1.heap.size ≤ bX := hbX ▸ hszb
                  rw [hbX] at FX
                  try rw [hbX]
                  have FX4 := Lib.hid (FX.out.stored (fun j => F2 (b * 64 + j)))
                  have hk4 : Kp x3 (x3.setCells bX 0 (byts 64 fun j => F2 (b * 64 + j))) bX bX := (Kp.refl _ _ _).setCells bX 0 (.inl rfl) _
                  have HB4 := Lib.hid ((HBl.out.trans (HQ3.out.mono hszb)).trans (hk4.below hXs hXs (Nat.le_trans hszb HQ3.out.size)))
                  obtain ⟨x4, hx4⟩ : ∃ x, x3.setCells bX 0 (byts 64 fun j => F2 (b * 64 + j)) = x := ⟨_, rfl⟩
                  rw [hx4] at FX4 HB4
                  try rw [hx4]
                  try (change wp _ _ _ _ (x3.setCells bX 0 (byts 64 fun j => F2 (b * 64 + j))); rw [hx4])
                  clear hx4 hk4 FX HQ3 hbX hz3 HRb HFb
                  have HGr := Lib.hid (Cf.group_any n vr vm vg R10 [] R10_small (by rw [R10_len]; decide) (by rw [R10_len]; decide) b (by omega) (by omega) x4 (HCFx.out x4 (HBz.out x4 HB4.out)))
                  go_wp2_with fail
                  refine HGr.out.mono ?_
                  rintro e x5 ⟨hb5, hpost⟩
                  have HB5 := Lib.hid (HB4.out.trans (hb5.mono HB4.out.size))
                  have FX5 := Lib.hid (FX4.out.below hb5 FX4.out.lt)
                  have HFa5 := Lib.hid (HF1.out.below HB5.out hb1s)
                  clear hb5 HBl HGr HB4 FX4
                  rcases hpost with ⟨i', hi', -, hin, rfl⟩ | ⟨-, rfl⟩
                  · by_cases hii : i' = 0
                    · subst hii
                      rw [HC.out.hg0] at hin
                      obtain ⟨p1, p2⟩ := hin
                      have hb32 : 32 ≤ b := by
                        have h1 := HG0.out.b32
                        have h2 := HG0.out.base
                        omega
                      have hbB : b < B1 := by
                        have h1 := HG0.out.da
                        have h2 := HG0.out.bl
                        have h3 := HAp.out
                        unfold Cf.Ge.fin at p2
                        omega
                      have HEQ := Lib.hid (fun W => eq36 (fun j => F2 (b * 64 + j)) (fun j => F1 (b * 64 + j)) W)
                      rw [eqb_same (HYs.out b hb32 hbN hbB)] at HEQ
                      generalize max 0 _ = zz
                      clear p1 p2 hb32 hbB
                      go_upto_region 40 with fail
                      refine wp_region_held (S := fun W => Fl W bA (N * 64) F1 ∧ Fl W bX 64 (fun j => F2 (b * 64 + j))) (by kernel_rfl) ?_
                      change wpAnyH _ _ _ _ _ _ _ _ (World.drew _)
                      have hS0 : (fun W => Fl W bA (N * 64) F1 ∧ Fl W bX 64 (fun j => F2 (b * 64 + j))) x5.drew := ⟨HFa5.out.below (Below.refl _ _).drew HFa5.out.lt, FX5.out.below (Below.refl _ _).drew FX5.out.lt⟩
                      have HB6 := Lib.hid (HB5.out.trans ((Below.refl x5.heap.size x5).drew.mono HB5.out.size))
                      obtain ⟨x6, hx6⟩ : ∃ x, World.drew x5 = x := ⟨_, rfl⟩
                      rw [hx6] at hS0 HB6 ⊢
                      clear hx6 HFa5 FX5 HB5
                      refine wpAnyH_take (i := 0) (v := ?_) rfl (by kernel_rfl) (by kernel_rfl) (by kernel_rfl) (fun _ _ _ h => h) (Or.inl ⟨by kernel_rfl, ?_⟩) hS0 ?_
                      rotate_left 1
                      · intro W hW
                        go_simp
                        try with_reducible rfl
                      simp only [Act.put, List.getElem_toArray, List.getElem_cons_zero, List.getElem_cons_succ, List.setIfInBounds_toArray, List.set_cons_zero, List.set_cons_succ]
                      refine wpAnyH_take (i := 1) (v := ?_) rfl (by kernel_rfl) (by kernel_rfl) (by kernel_rfl) (fun _ _ _ h => h) (Or.inl ⟨by kernel_rfl, ?_⟩) hS0 ?_
                      rotate_left 1
                      · intro W hW
                        go_simp
                        try with_reducible rfl
                      simp only [Act.put, List.getElem_toArray, List.getElem_cons_zero, List.getElem_cons_succ, List.setIfInBounds_toArray, List.set_cons_zero, List.set_cons_succ]
                      refine wpAnyH_take (i := 2) (v := ?_) rfl (by kernel_rfl) (by kernel_rfl) (by kernel_rfl) (fun _ _ _ h => h) (Or.inl ⟨by kernel_rfl, ?_⟩) hS0 ?_
                      rotate_left 1
                      · intro W hW
                        go_simp
                        try with_reducible rfl
                      simp only [Act.put, List.getElem_toArray, List.getElem_cons_zero, List.getElem_cons_succ, List.setIfInBounds_toArray, List.set_cons_zero, List.set_cons_succ]
                      refine wpAnyH_take (i := 3) (v := ?_) rfl (by kernel_rfl) (by kernel_rfl) (by kernel_rfl) (fun _ _ _ h => h) (Or.inl ⟨by kernel_rfl, ?_⟩) hS0 ?_
                      rotate_left 1
                      · intro W hW
                        go_simp
                        try with_reducible rfl
                      simp only [Act.put, List.getElem_toArray, List.getElem_cons_zero, List.getElem_cons_succ, List.setIfInBounds_toArray, List.set_cons_zero, List.set_cons_succ]
                      refine wpAnyH_take (i := 4) (v := ?_) rfl (by kernel_rfl) (by kernel_rfl) (by kernel_rfl) (fun _ _ _ h => h) (Or.inl ⟨by kernel_rfl, ?_⟩) hS0 ?_
                      rotate_left 1
                      · intro W hW
                        go_simp
                        try with_reducible rfl
                      simp only [Act.put, List.getElem_toArray, List.getElem_cons_zero, List.getElem_cons_succ, List.setIfInBounds_toArray, List.set_cons_zero, List.set_cons_succ]
                      refine wpAnyH_take (i := 5) (v := ?_) rfl (by kernel_rfl) (by kernel_rfl) (by kernel_rfl) (fun _ _ _ h => h) (Or.inl ⟨by kernel_rfl, ?_⟩) hS0 ?_
                      rotate_left 1
                      · intro W hW
                        go_simp
                        try with_reducible rfl
                      simp only [Act.put, List.getElem_toArray, List.getElem_cons_zero, List.getElem_cons_succ, List.setIfInBounds_toArray, List.set_cons_zero, List.set_cons_succ]
                      refine wpAnyH_take (i := 6) (v := .agg (byts 64 fun j => F2 (b * 64 + j)).toArray) rfl (by kernel_rfl) (by kernel_rfl) (by kernel_rfl) (fun _ _ _ h => h) ?_ hS0 ?_
                      · exact yieldsIf_load_mid (by kernel_rfl) 116 _ rfl bX 0 rfl (byts 64 fun j => F2 (b * 64 + j)) (.array 64 5) (fun _ h => h.2.range0) Tryz.arr36 rfl (size36 _)
                      simp only [Act.put, List.getElem_toArray, List.getElem_cons_zero, List.getElem_cons_succ, List.setIfInBounds_toArray, List.set_cons_zero, List.set_cons_succ]
                      refine wpAnyH_take (i := 7) (v := ?_) rfl (by kernel_rfl) (by kernel_rfl) (by kernel_rfl) (fun _ _ _ h => h) (Or.inl ⟨by kernel_rfl, ?_⟩) hS0 ?_
                      rotate_left 1
                      · intro W hW
                        go_simp
                        try with_reducible rfl
                      simp only [Act.put, List.getElem_toArray, List.getElem_cons_zero, List.getElem_cons_succ, List.setIfInBounds_toArray, List.set_cons_zero, List.set_cons_succ]
                      refine wpAnyH_take (i := 8) (v := ?_) rfl (by kernel_rfl) (by kernel_rfl) (by kernel_rfl) (fun _ _ _ h => h) (Or.inl ⟨by kernel_rfl, ?_⟩) hS0 ?_
                      rotate_left 1
                      · intro W hW
                        go_simp
                        try with_reducible rfl
                      simp only [Act.put, List.getElem_toArray, List.getElem_cons_zero, List.getElem_cons_succ, List.setIfInBounds_toArray, List.set_cons_zero, List.set_cons_succ]
                      refine wpAnyH_take (i := 9) (v := ?_) rfl (by kernel_rfl) (by kernel_rfl) (by kernel_rfl) (fun _ _ _ h => h) (Or.inl ⟨by kernel_rfl, ?_⟩) hS0 ?_
                      rotate_left 1
                      · intro W hW
                        go_simp
                        try with_reducible rfl
                      simp only [Act.put, List.getElem_toArray, List.getElem_cons_zero, List.getElem_cons_succ, List.setIfInBounds_toArray, List.set_cons_zero, List.set_cons_succ]
                      refine wpAnyH_take (i := 10) (v := .agg (byts 64 fun j => F1 (b * 64 + j)).toArray) rfl (by kernel_rfl) (by kernel_rfl) (by kernel_rfl) (fun _ _ _ h => h) ?_ hS0 ?_
                      · exact yieldsIf_load_mid (by kernel_rfl) 116 _ rfl bA (b * 64) rfl (byts 64 fun j => F1 (b * 64 + j)) (.array 64 5) (fun _ h => h.1.range (b * 64) 64 hb64) Tryz.arr36 rfl (size36 _)
                      simp only [Act.put, List.getElem_toArray, List.getElem_cons_zero, List.getElem_cons_succ, List.setIfInBounds_toArray, List.set_cons_zero, List.set_cons_succ]
                      refine wpAnyH_take (i := 11) (v := .bool (!true)) rfl (by kernel_rfl) (by kernel_rfl) (by kernel_rfl) (fun _ _ _ h => h) ?_ hS0 ?_
                      · exact yields_neq (by kernel_rfl) 116 116 _ _ rfl (byts 64 fun j => F2 (b * 64 + j)).toArray (byts 64 fun j => F1 (b * 64 + j)).toArray rfl rfl true Tryz.guardBlk0 (fun W _ => HEQ.out W)
                      simp only [Act.put, List.getElem_toArray, List.getElem_cons_zero, List.getElem_cons_succ, List.setIfInBounds_toArray, List.set_cons_zero, List.set_cons_succ]
                      refine wpAnyH_take (i := 12) (v := ?_) rfl (by kernel_rfl) (by kernel_rfl) (by kernel_rfl) (fun _ _ _ h => h) (Or.inl ⟨by kernel_rfl, ?_⟩) hS0 ?_
                      rotate_left 1
                      · intro W hW
                        go_simp
                        try with_reducible rfl
                      simp only [Act.put, List.getElem_toArray, List.getElem_cons_zero, List.getElem_cons_succ, List.setIfInBounds_toArray, List.set_cons_zero, List.set_cons_succ]
                      refine wpAnyH_done (by kernel_rfl) ?_ _
                      clear hS0
                      go_wp2_with fail
                      go_roundw
                      case rel => exact ⟨b + 1, by omega, by go_num, HB6.out⟩
                      case measure => (simp [Go.RowKit.intOf]; try omega)
                    · have HII : Hid (((i' : Int) == 0) = false) := Lib.hid (beq_eq_false_iff_ne.2 (by omega))
                      generalize max 0 _ = zz
                      clear hin
                      go_upto_region 40 with fail
                      refine wp_region_held (S := fun W => Fl W bA (N * 64) F1 ∧ Fl W bX 64 (fun j => F2 (b * 64 + j))) (by kernel_rfl) ?_
                      change wpAnyH _ _ _ _ _ _ _ _ (World.drew _)
                      have hS0 : (fun W => Fl W bA (N * 64) F1 ∧ Fl W bX 64 (fun j => F2 (b * 64 + j))) x5.drew := ⟨HFa5.out.below (Below.refl _ _).drew HFa5.out.lt, FX5.out.below (Below.refl _ _).drew FX5.out.lt⟩
                      have HB6 := Lib.hid (HB5.out.trans ((Below.refl x5.heap.size x5).drew.mono HB5.out.size))
                      obtain ⟨x6, hx6⟩ : ∃ x, World.drew x5 = x := ⟨_, rfl⟩
                      rw [hx6] at hS0 HB6 ⊢
                      clear hx6 HFa5 FX5 HB5
                      refine wpAnyH_take (i := 0) (v := ?_) rfl (by kernel_rfl) (by kernel_rfl) (by kernel_rfl) (fun _ _ _ h => h) (Or.inl ⟨by kernel_rfl, ?_⟩) hS0 ?_
                      rotate_left 1
                      · intro W hW
                        go_simp
                        try with_reducible rfl
                      simp only [Act.put, List.getElem_toArray, List.getElem_cons_zero, List.getElem_cons_succ, List.setIfInBounds_toArray, List.set_cons_zero, List.set_cons_succ]
                      refine wpAnyH_take (i := 1) (v := ?_) rfl (by kernel_rfl) (by kernel_rfl) (by kernel_rfl) (fun _ _ _ h => h) (Or.inl ⟨by kernel_rfl, ?_⟩) hS0 ?_
                      rotate_left 1
                      · intro W hW
                        go_simp
                        try with_reducible rfl
                      simp only [Act.put, List.getElem_toArray, List.getElem_cons_zero, List.getElem_cons_succ, List.setIfInBounds_toArray, List.set_cons_zero, List.set_cons_succ]
                      refine wpAnyH_take (i := 2) (v := ?_) rfl (by kernel_rfl) (by kernel_rfl) (by kernel_rfl) (fun _ _ _ h => h) (Or.inl ⟨by kernel_rfl, ?_⟩) hS0 ?_
                      rotate_left 1
                      · intro W hW
                        go_simp
                        try with_reducible rfl
                      simp only [Act.put, List.getElem_toArray, List.getElem_cons_zero, List.getElem_cons_succ, List.setIfInBounds_toArray, List.set_cons_zero, List.set_cons_succ]
                      refine wpAnyH_take (i := 3) (v := ?_) rfl (by kernel_rfl) (by kernel_rfl) (by kernel_rfl) (fun _ _ _ h => h) (Or.inl ⟨by kernel_rfl, ?_⟩) hS0 ?_
                      rotate_left 1
                      · intro W hW
                        have hii := HII.out
                        go_simp
                        try with_reducible rfl
                      simp only [Act.put, List.getElem_toArray, List.getElem_cons_zero, List.getElem_cons_succ, List.setIfInBounds_toArray, List.set_cons_zero, List.set_cons_succ]
                      refine wpAnyH_take (i := 4) (v := ?_) rfl (by kernel_rfl) (by kernel_rfl) (by kernel_rfl) (fun _ _ _ h => h) (Or.inl ⟨by kernel_rfl, ?_⟩) hS0 ?_
                      rotate_left 1
                      · intro W hW
                        go_simp
                        try with_reducible rfl
                      simp only [Act.put, List.getElem_toArray, List.getElem_cons_zero, List.getElem_cons_succ, List.setIfInBounds_toArray, List.set_cons_zero, List.set_cons_succ]
                      refine wpAnyH_take (i := 5) (v := ?_) rfl (by kernel_rfl) (by kernel_rfl) (by kernel_rfl) (fun _ _ _ h => h) (Or.inl ⟨by kernel_rfl, ?_⟩) hS0 ?_
                      rotate_left 1
                      · intro W hW
                        go_simp
                        try with_reducible rfl
                      simp only [Act.put, List.getElem_toArray, List.getElem_cons_zero, List.getElem_cons_succ, List.setIfInBounds_toArray, List.set_cons_zero, List.set_cons_succ]
                      refine wpAnyH_take (i := 6) (v := undef) rfl (by kernel_rfl) (by kernel_rfl) (by kernel_rfl) (fun _ _ _ h => h) (Or.inr ⟨by kernel_rfl, rfl⟩) hS0 ?_
                      simp only [Act.put, List.getElem_toArray, List.getElem_cons_zero, List.getElem_cons_succ, List.setIfInBounds_toArray, List.set_cons_zero, List.set_cons_succ]
                      refine wpAnyH_take (i := 7) (v := undef) rfl (by kernel_rfl) (by kernel_rfl) (by kernel_rfl) (fun _ _ _ h => h) (Or.inr ⟨by kernel_rfl, rfl⟩) hS0 ?_
                      simp only [Act.put, List.getElem_toArray, List.getElem_cons_zero, List.getElem_cons_succ, List.setIfInBounds_toArray, List.set_cons_zero, List.set_cons_succ]
                      refine wpAnyH_take (i := 8) (v := undef) rfl (by kernel_rfl) (by kernel_rfl) (by kernel_rfl) (fun _ _ _ h => h) (Or.inr ⟨by kernel_rfl, rfl⟩) hS0 ?_
                      simp only [Act.put, List.getElem_toArray, List.getElem_cons_zero, List.getElem_cons_succ, List.setIfInBounds_toArray, List.set_cons_zero, List.set_cons_succ]
                      refine wpAnyH_take (i := 9) (v := undef) rfl (by kernel_rfl) (by kernel_rfl) (by kernel_rfl) (fun _ _ _ h => h) (Or.inr ⟨by kernel_rfl, rfl⟩) hS0 ?_
                      simp only [Act.put, List.getElem_toArray, List.getElem_cons_zero, List.getElem_cons_succ, List.setIfInBounds_toArray, List.set_cons_zero, List.set_cons_succ]
                      refine wpAnyH_take (i := 10) (v := undef) rfl (by kernel_rfl) (by kernel_rfl) (by kernel_rfl) (fun _ _ _ h => h) (Or.inr ⟨by kernel_rfl, rfl⟩) hS0 ?_
                      simp only [Act.put, List.getElem_toArray, List.getElem_cons_zero, List.getElem_cons_succ, List.setIfInBounds_toArray, List.set_cons_zero, List.set_cons_succ]
                      refine wpAnyH_take (i := 11) (v := undef) rfl (by kernel_rfl) (by kernel_rfl) (by kernel_rfl) (fun _ _ _ h => h) (Or.inr ⟨by kernel_rfl, rfl⟩) hS0 ?_
                      simp only [Act.put, List.getElem_toArray, List.getElem_cons_zero, List.getElem_cons_succ, List.setIfInBounds_toArray, List.set_cons_zero, List.set_cons_succ]
                      refine wpAnyH_take (i := 12) (v := ?_) rfl (by kernel_rfl) (by kernel_rfl) (by kernel_rfl) (fun _ _ _ h => h) (Or.inl ⟨by kernel_rfl, ?_⟩) hS0 ?_
                      rotate_left 1
                      · intro W hW
                        go_simp
                        try with_reducible rfl
                      simp only [Act.put, List.getElem_toArray, List.getElem_cons_zero, List.getElem_cons_succ, List.setIfInBounds_toArray, List.set_cons_zero, List.set_cons_succ]
                      refine wpAnyH_done (by kernel_rfl) ?_ _
                      clear hS0
                      go_wp2_with fail
                      go_roundw
                      case rel => exact ⟨b + 1, by omega, by go_num, HB6.out⟩
                      case measure => (simp [Go.RowKit.intOf]; try omega)
                  · skip
                    go_upto_region 40 with fail
                    refine wp_region_held (S := fun W => Fl W bA (N * 64) F1 ∧ Fl W bX 64 (fun j => F2 (b * 64 + j))) (by kernel_rfl) ?_
                    change wpAnyH _ _ _ _ _ _ _ _ (World.drew _)
                    have hS0 : (fun W => Fl W bA (N * 64) F1 ∧ Fl W bX 64 (fun j => F2 (b * 64 + j))) x5.drew := ⟨HFa5.out.below (Below.refl _ _).drew HFa5.out.lt, FX5.out.below (Below.refl _ _).drew FX5.out.lt⟩
                    have HB6 := Lib.hid (HB5.out.trans ((Below.refl x5.heap.size x5).drew.mono HB5.out.size))
                    obtain ⟨x6, hx6⟩ : ∃ x, World.drew x5 = x := ⟨_, rfl⟩
                    rw [hx6] at hS0 HB6 ⊢
                    clear hx6 HFa5 FX5 HB5
                    refine wpAnyH_take (i := 0) (v := ?_) rfl (by kernel_rfl) (by kernel_rfl) (by kernel_rfl) (fun _ _ _ h => h) (Or.inl ⟨by kernel_rfl, ?_⟩) hS0 ?_
                    rotate_left 1
                    · intro W hW
                      go_simp
                      try with_reducible rfl
                    simp only [Act.put, List.getElem_toArray, List.getElem_cons_zero, List.getElem_cons_succ, List.setIfInBounds_toArray, List.set_cons_zero, List.set_cons_succ]
                    refine wpAnyH_take (i := 1) (v := ?_) rfl (by kernel_rfl) (by kernel_rfl) (by kernel_rfl) (fun _ _ _ h => h) (Or.inl ⟨by kernel_rfl, ?_⟩) hS0 ?_
                    rotate_left 1
                    · intro W hW
                      go_simp
                      try with_reducible rfl
                    simp only [Act.put, List.getElem_toArray, List.getElem_cons_zero, List.getElem_cons_succ, List.setIfInBounds_toArray, List.set_cons_zero, List.set_cons_succ]
                    refine wpAnyH_take (i := 2) (v := undef) rfl (by kernel_rfl) (by kernel_rfl) (by kernel_rfl) (fun _ _ _ h => h) (Or.inr ⟨by kernel_rfl, rfl⟩) hS0 ?_
                    simp only [Act.put, List.getElem_toArray, List.getElem_cons_zero, List.getElem_cons_succ, List.setIfInBounds_toArray, List.set_cons_zero, List.set_cons_succ]
                    refine wpAnyH_take (i := 3) (v := undef) rfl (by kernel_rfl) (by kernel_rfl) (by kernel_rfl) (fun _ _ _ h => h) (Or.inr ⟨by kernel_rfl, rfl⟩) hS0 ?_
                    simp only [Act.put, List.getElem_toArray, List.getElem_cons_zero, List.getElem_cons_succ, List.setIfInBounds_toArray, List.set_cons_zero, List.set_cons_succ]
                    refine wpAnyH_take (i := 4) (v := ?_) rfl (by kernel_rfl) (by kernel_rfl) (by kernel_rfl) (fun _ _ _ h => h) (Or.inl ⟨by kernel_rfl, ?_⟩) hS0 ?_
                    rotate_left 1
                    · intro W hW
                      go_simp
                      try with_reducible rfl
                    simp only [Act.put, List.getElem_toArray, List.getElem_cons_zero, List.getElem_cons_succ, List.setIfInBounds_toArray, List.set_cons_zero, List.set_cons_succ]
                    refine wpAnyH_take (i := 5) (v := ?_) rfl (by kernel_rfl) (by kernel_rfl) (by kernel_rfl) (fun _ _ _ h => h) (Or.inl ⟨by kernel_rfl, ?_⟩) hS0 ?_
                    rotate_left 1
                    · intro W hW
                      go_simp
                      try with_reducible rfl
                    simp only [Act.put, List.getElem_toArray, List.getElem_cons_zero, List.getElem_cons_succ, List.setIfInBounds_toArray, List.set_cons_zero, List.set_cons_succ]
                    refine wpAnyH_take (i := 6) (v := undef) rfl (by kernel_rfl) (by kernel_rfl) (by kernel_rfl) (fun _ _ _ h => h) (Or.inr ⟨by kernel_rfl, rfl⟩) hS0 ?_
                    simp only [Act.put, List.getElem_toArray, List.getElem_cons_zero, List.getElem_cons_succ, List.setIfInBounds_toArray, List.set_cons_zero, List.set_cons_succ]
                    refine wpAnyH_take (i := 7) (v := undef) rfl (by kernel_rfl) (by kernel_rfl) (by kernel_rfl) (fun _ _ _ h => h) (Or.inr ⟨by kernel_rfl, rfl⟩) hS0 ?_
                    simp only [Act.put, List.getElem_toArray, List.getElem_cons_zero, List.getElem_cons_succ, List.setIfInBounds_toArray, List.set_cons_zero, List.set_cons_succ]
                    refine wpAnyH_take (i := 8) (v := undef) rfl (by kernel_rfl) (by kernel_rfl) (by kernel_rfl) (fun _ _ _ h => h) (Or.inr ⟨by kernel_rfl, rfl⟩) hS0 ?_
                    simp only [Act.put, List.getElem_toArray, List.getElem_cons_zero, List.getElem_cons_succ, List.setIfInBounds_toArray, List.set_cons_zero, List.set_cons_succ]
                    refine wpAnyH_take (i := 9) (v := undef) rfl (by kernel_rfl) (by kernel_rfl) (by kernel_rfl) (fun _ _ _ h => h) (Or.inr ⟨by kernel_rfl, rfl⟩) hS0 ?_
                    simp only [Act.put, List.getElem_toArray, List.getElem_cons_zero, List.getElem_cons_succ, List.setIfInBounds_toArray, List.set_cons_zero, List.set_cons_succ]
                    refine wpAnyH_take (i := 10) (v := undef) rfl (by kernel_rfl) (by kernel_rfl) (by kernel_rfl) (fun _ _ _ h => h) (Or.inr ⟨by kernel_rfl, rfl⟩) hS0 ?_
                    simp only [Act.put, List.getElem_toArray, List.getElem_cons_zero, List.getElem_cons_succ, List.setIfInBounds_toArray, List.set_cons_zero, List.set_cons_succ]
                    refine wpAnyH_take (i := 11) (v := undef) rfl (by kernel_rfl) (by kernel_rfl) (by kernel_rfl) (fun _ _ _ h => h) (Or.inr ⟨by kernel_rfl, rfl⟩) hS0 ?_
                    simp only [Act.put, List.getElem_toArray, List.getElem_cons_zero, List.getElem_cons_succ, List.setIfInBounds_toArray, List.set_cons_zero, List.set_cons_succ]
                    refine wpAnyH_take (i := 12) (v := ?_) rfl (by kernel_rfl) (by kernel_rfl) (by kernel_rfl) (fun _ _ _ h => h) (Or.inl ⟨by kernel_rfl, ?_⟩) hS0 ?_
                    rotate_left 1
                    · intro W hW
                      go_simp
                      try with_reducible rfl
                    simp only [Act.put, List.getElem_toArray, List.getElem_cons_zero, List.getElem_cons_succ, List.setIfInBounds_toArray, List.set_cons_zero, List.set_cons_succ]
                    refine wpAnyH_done (by kernel_rfl) ?_ _
                    clear hS0
                    go_wp2_with fail
                    go_roundw
                    case rel => exact ⟨b + 1, by omega, by go_num, HB6.out⟩
                    case measure => (simp [Go.RowKit.intOf]; try omega)
                · obtain rfl : b = N := by omega
                  go_wp2_with fail
                  go_ret
                  exact ⟨rfl, HBw.out _ HBl.out⟩
end Go.Proofs.YteaoabppppbkoaaGreatDoor
