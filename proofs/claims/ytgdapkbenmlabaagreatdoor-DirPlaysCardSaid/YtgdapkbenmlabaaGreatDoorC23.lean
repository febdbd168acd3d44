import Derived.Test.YtgdapkbenmlabaaGreatDoorC22
/- Directories: the law DirPlays: the walk. -/
set_option linter.unusedSimpArgs false
set_option linter.unusedVariables false
set_option maxHeartbeats 80000000
set_option maxRecDepth 2000000
namespace Go.Proofs.YtgdapkbenmlabaaGreatDoor
open Go.RowKit Go.Maps
structure St9 (w w2 : World) (q p tt mq dd gg l : Nat) (g : Cf.Ge) (B0 NB N : Nat) (ln : Lm) (D : Nat → Nat → Int) (K bA : Nat) (act : List Value) (bs T r : Nat) (E : List En) (ob : Nat) (vn vt : Value) (ro : Nat) : Prop where
 gr : Gr w q p tt mq dd gg 0 g B0 NB N ln D K
 lg : Lg w l dd 1
 bl : Below w2.heap.size w2 w
 ac : Vl w bA act
 mg : Mg w bs T r 38 E
 ol : Old w ob 38 E vn vt
 cp : Vl w ro [vn, vt, .int .i64 38]
theorem St9.keep {w w' w2 : World} {q p tt mq dd gg l : Nat} {g : Cf.Ge} {B0 NB N : Nat} {ln : Lm} {D : Nat → Nat → Int} {K bA : Nat} {act : List Value} {bs T r : Nat} {E : List En} {ob : Nat} {vn vt : Value} {ro : Nat} (h : St9 w w2 q p tt mq dd gg l g B0 NB N ln D K bA act bs T r E ob vn vt ro) (hb : Below w.heap.size w w') : St9 w' w2 q p tt mq dd gg l g B0 NB N ln D K bA act bs T r E ob vn vt ro :=
 ⟨h.gr.keep hb, h.lg.keep hb, h.bl.trans (hb.mono h.bl.size), h.ac.keep hb, h.mg.keep hb, h.ol.keep hb, h.cp.keep hb⟩
theorem below_new {w wA w' : World} (hb : Below w.heap.size w wA) (hk : Kp wA w' w.heap.size w.heap.size) : Below w.heap.size w w' := hb.trans (hk.below (Nat.le_refl _) (Nat.le_refl _) hb.size)
theorem st9_code {w w' w2 : World} {q p tt mq dd gg l : Nat} {g : Cf.Ge} {B0 NB N : Nat} {ln : Lm} {D : Nat → Nat → Int} {K bA : Nat} {act : List Value} {bs T r : Nat} {E : List En} {ob : Nat} {vn vt : Value} {ro : Nat} (h : St9 w w2 q p tt mq dd gg l g B0 NB N ln D K bA act bs T r E ob vn vt ro) (hk : Kf w w' [tt, mq, dd, gg]) (hw2 : ∀ a ∈ [tt, mq, dd, gg], w2.heap.size ≤ a) (hl : l ∉ [tt, mq, dd, gg]) (hT : ∀ a ∈ [tt, mq, dd, gg], a < bs ∨ T ≤ a) (hob : ∀ a ∈ [tt, mq, dd, gg], a < ob) (hbr : bs ≤ r) (hrT : r < T) (hor : ob ≤ ro) :
  Below w2.heap.size w2 w' ∧ Lg w' l dd 1 ∧ Mg w' bs T r 38 E ∧ Old w' ob 38 E vn vt ∧ Vl w' ro [vn, vt, .int .i64 38] :=
 ⟨h.bl.trans (hk.below hw2 h.bl.size), h.lg.kf hk hl, h.mg.kf hk hT hbr hrT, h.ol.kf hk hob, h.cp.kf hk (fun hm => by have := hob ro hm; omega)⟩
def Fi9 (wy w2 : World) (tt mq dd gg l N : Nat) (D : Nat → Nat → Int) (K B0 P0 DA NB bs r : Nat) (E : List En) (k ob : Nat) (vn vt : Value) (ro : Nat) (code : Int) : Prop :=
 Below w2.heap.size w2 wy ∧ Lg wy l dd 1 ∧ ∃ ln' Y', ln'.l.length ≤ 30 ∧ ln'.D = D ∧ Rd wy tt mq dd gg N ln' Y' (K + 40000) ∧
  ((¬ code = 0 ∧ Old wy ob 38 E vn vt ∧ Vl wy ro [vn, vt, .int .i64 38] ∧ ∃ T, Mg wy bs T r 38 E) ∨ (code = 0 ∧ ∃ V' b' E' T S, S1 B0 P0 DA NB Y' V' b' E' ∧ E'.length ≤ k + 1 ∧ (∀ s, Uq s E') ∧ Mg2 wy bs T S r 38 E' ∧ (∀ a ∈ [tt, mq, dd, gg], a < bs ∨ T ≤ a) ∧ (∀ a ∈ [tt, mq, dd, gg], a < S) ∧ r < T))
theorem fi9_fail {w w' w2 : World} {tt mq dd gg l N : Nat} {D : Nat → Nat → Int} {K B0 P0 DA NB bs T r : Nat} {E : List En} {k ob : Nat} {vn vt : Value} {ro : Nat} {code : Int} {ln : Lm} {Y : Nat → Nat → Int} {K' : Nat} (h : Below w2.heap.size w2 w ∧ Lg w l dd 1 ∧ Mg w bs T r 38 E ∧ Old w ob 38 E vn vt ∧ Vl w ro [vn, vt, .int .i64 38]) (hR : Rd w tt mq dd gg N ln Y K') (hl : ln.l.length ≤ 30) (hD : ln.D = D) (hK : K' ≤ K + 40000) (hb : Below w.heap.size w w') (hc : ¬ code = 0) : Fi9 w' w2 tt mq dd gg l N D K B0 P0 DA NB bs r E k ob vn vt ro code :=
 ⟨h.1.trans (hb.mono h.1.size), h.2.1.keep hb, ln, Y, hl, hD, (hR.keep hb).mono hK, .inl ⟨hc, h.2.2.2.1.keep hb, h.2.2.2.2.keep hb, T, h.2.2.1.keep hb⟩⟩
theorem fi9_succ {w w' w2 : World} {tt mq dd gg l N : Nat} {D : Nat → Nat → Int} {K B0 P0 DA NB bs T r : Nat} {E E' : List En} {k ob : Nat} {vn vt : Value} {ro : Nat} {ln : Lm} {Y V' : Nat → Nat → Int} {b' : Nat → Nat} {K' : Nat} (h : Below w2.heap.size w2 w ∧ Lg w l dd 1 ∧ Mg w bs T r 38 E ∧ Old w ob 38 E vn vt ∧ Vl w ro [vn, vt, .int .i64 38]) (hR : Rd w tt mq dd gg N ln Y K') (hl : ln.l.length ≤ 30) (hD : ln.D = D) (hK : K' ≤ K + 40000) (hF : Fr9 w w' bs T r) (hT : ∀ a ∈ [tt, mq, dd, gg], a < bs ∨ T ≤ a) (h2b : w2.heap.size ≤ bs) (hlb : l < bs) (hS : S1 B0 P0 DA NB Y V' b' E') (hE : E'.length ≤ k + 1) (hU : ∀ s, Uq s E') (hM : Mg2 w' bs T w.heap.size r 38 E') (hrT : r < T) : Fi9 w' w2 tt mq dd gg l N D K B0 P0 DA NB bs r E k ob vn vt ro 0 := by
 obtain ⟨a, b, k1, k2, k3, k4, k5, k6, k7⟩ := hF;have hlt := hR.lts;have hll := h.2.1.lt;have hss := h.1.size
 have ha : a ∉ [tt, mq, dd, gg] := fun hm => by
  have := hT a hm;omega
 have hb : b ∉ [tt, mq, dd, gg] := fun hm => by
  have h1 := hT b hm;simp only [List.mem_cons, List.not_mem_nil, or_false] at hm;rcases k7 with k7 | k7
  ·omega
  ·omega
 exact ⟨h.1.trans (k1.below (by omega) (by omega) hss), h.2.1.kp k1 (by omega) (by omega), ln, Y, hl, hD, (hR.kp k1 ha hb).mono hK, .inr ⟨rfl, V', b', E', T, w.heap.size, hS, hE, hU, hM, hT, (fun a ha => by simp only [List.mem_cons, List.not_mem_nil, or_false] at ha; omega), hrT⟩⟩
theorem findN_is (s : ByteArray) : ∀ (E : List En), E.any (mtE s) = true → ∃ e, E[findN s E]? = some e ∧ mtE s e = true
 | [], h => by simp at h
 | e :: E, h => by
  unfold findN
  by_cases hm : mtE s e = true
  ·rw [if_pos hm];exact ⟨e, rfl, hm⟩
  ·rw [if_neg hm, List.getElem?_cons_succ];refine findN_is s E ?_;rw [List.any_cons] at h
   simpa [hm] using h
theorem turnC_zero {E : List En} {x : En} (h : turnC E x = 0) : E.any (mtE x.1) = true := by
 unfold turnC at h
 split at h
 ·cases h
 ·split at h
  ·assumption
  ·cases h
theorem addC_zero9 {E : List En} {x : En} (h : addC E x = 0) : ∀ e ∈ E, mtE x.1 e = false := by
 intro e he
 cases hm : mtE x.1 e
 ·rfl
 ·exfalso
  have ha : E.any (mtE x.1) = true := List.any_eq_true.2 ⟨e, he, hm⟩;unfold addC at h
  split at h
  ·rename_i h1
   exact h1 h
  ·split at h
   ·cases h
   ·first | (rw [if_pos ha] at h; cases h) | cases h
theorem Mg.top {w : World} {bs T r : Nat} {B : Int} {E : List En} (h : Mg w bs T r B E) : Mg w bs w.heap.size r B E := by
 obtain ⟨g, cap, pt, ct, M, h1, h2, -⟩ := h;exact Mg.of h1 h2
theorem vl_fr {w w' : World} {bs T r g : Nat} {cs : List Value} (h : Vl w g cs) (hF : Fr9 w w' bs T r) (hT : T ≤ g) : Vl w' g cs := by
 obtain ⟨a, b, k1, k2, k3, k4, k5, k6, k7⟩ := hF;have := h.lt;exact h.kp k1 (by omega) (by omega)
theorem dirplays_walk (v : Value) (n9 : Nat) (w : World) (hA : Acts9 w v n9) : Calls Tryz.prog 3 #[v] w fun e w' => e = .returned (.bool true) ∧ Below w.heap.size w w' := by
 obtain ⟨pA, capA, rfl, hlen9, hac⟩ := hA;unfold maxLen at hlen9;have HAc := jh hac;obtain ⟨dA, hu, hd⟩ := Tryz.descAct;have HUA := jh hu;have HDA := jh hd;obtain ⟨dE, hu2, hd2⟩ := Tryz.descEn;have HUE := jh hu2;have HDE := jh hd2;clear hac hu hd hu2 hd2;have hSz := jh (fun W => Cf.sizeconf_two 0 (by decide) (by decide) (H9 30 10) (H9_ok 30 10 (by decide) (by decide)) (.slice none 0 0) [] (fun x hx => by cases hx) W (u8s_none W) (by decide) rfl)
 have eSz : Cf.sizeVal 0 (H9 30 10) (.slice none 0 0) = (.agg #[.int .u8 0, .int .u8 30, .int .u8 0, .int .u8 0, .int .u8 0, .int .u8 0, .int .u8 10, .int .u8 0, .int .u8 0, .int .u8 0, .int .u8 0, .int .u8 0, .int .u8 0, .int .u8 0, .int .u8 0, .int .u8 0, .int .u8 0, .int .u8 0, .int .u8 0, .int .u8 0, .int .u8 0, .int .u8 0, .int .u8 0, .int .u8 0, .int .u8 0, .int .u8 0, .slice none 0 0]) := by kernel_rfl
 rw [eSz] at hSz;clear eSz;obtain ⟨N, g, B0, P0, DA, hc9⟩ := c9 30 10 (by decide) (by decide)
 obtain ⟨R9, hR9⟩ : ∃ x, Cf.sizeRs 2 (H9 30 10) = x := ⟨_, rfl⟩
 rw [hR9] at hSz hc9;have HC9 := jh hc9;have HGG := jh hc9.gg;have HRg : Hid (∀ h : 0 < R9.length, (R9[0]'h).bl = 38 ∧ (R9[0]'h).nd = 8) := jh (by subst hR9; exact fun h => ⟨rfl, rfl⟩);clear hc9 hR9
 go_enter Tryz.func3, Tryz.ntmps3
 go_wp2_with fail
 refine (awake9 w).mono ?_;rintro e w1 ⟨rfl, hb⟩;have HQ1 := jh hb;clear hb
 go_wp2_with fail
 refine (hSz.out w1).mono ?_;rintro e w2 ⟨n, vr, vm, vg, rfl, -, hb2, hCF⟩;have HB2 := jh (HQ1.out.trans (hb2.mono HQ1.out.size));have HCF := jh hCF;clear hb2 hCF hSz HQ1
 go_wp2_with fail
 refine (fresh9 HC9.out n vr vm vg w2 HCF.out).mono ?_;rintro e w3 ⟨t, mm, dd, gg, l, Y0, rfl, hFr, hll, hln, hLg, hRd, hTab, hbit, hb3⟩;have HR3 := jh hRd;have HL3 := jh hLg;have HS3 := jh (S1.fresh (P0 := P0) (DA := DA) hTab hbit HGG.out.n512);have HTab := jh hTab;have HBit := jh hbit;have HCF3 := jh (HCF.out.below hb3);have HNl := jh (show l ∉ [dd, gg] from fun h => hln (by simp only [List.mem_cons, List.not_mem_nil, or_false] at h ⊢; omega));have HNt := jh hln;have hdd : w2.heap.size ≤ dd := hFr.2.2.1;have hgg : w2.heap.size ≤ gg := hFr.2.2.2;have hdt : w2.heap.size ≤ t := hFr.1;have hdm : w2.heap.size ≤ mm := hFr.2.1;have hw2 : w.heap.size ≤ w2.heap.size := HB2.out.size;have hw3 := hb3.size;have HCFx : Hid (∀ W, Below w2.heap.size w2 W → Cf.CF n W vr vm vg R9 []) := jh (fun W hk => HCF.out.below hk);have HZ3 := jh hb3;clear hFr hll hln hLg hRd hTab hbit hb3 HCF
 have h0R : 0 < R9.length := by have := HC9.out.l2; omega
 have HRe := jh (creg_in n vr vm vg R9 [] 0 h0R w3 HCF3.out)
 obtain ⟨rg, hrg⟩ : ∃ x, R9[0]'h0R = x := ⟨_, rfl⟩
 have hrb := HRg.out h0R;rw [hrg] at HRe hrb;have HRb := jh hrb;clear hrg hrb HRg h0R
 go_wp2_with fail
 refine HRe.out.mono ?_;rintro e w4 ⟨rfl, hb4⟩;have HB4 := jh (HZ3.out.trans (hb4.mono hw3));have HR4 := jh (HR3.out.keep hb4);have HL4 := jh (HL3.out.keep hb4);have hz4 := hb4.size;clear hb4 HRe HR3 HL3 HCF3 HTab HBit
 go_upto_region 6 with (first | (refine wpList_alloc_list (w := w4) rfl 40 rfl Cf.zeroRg.cells Tryz.zeroReg ?_; intro w5 F5 hb5 hz5; simp only [Act.put,j1,j2,j3,j4,j5,j6]) | (refine wpList_store_list rfl 40 (.tmp 7) (.tmp 47) rfl w4.heap.size Cf.zeroRg.cells rg.cells rfl rfl F5.out rfl (sizeReg rg) (reg_one rg) ?_; intro w6 F6 HK6; have HQ5 := jh hb5; clear hb5 F5))
 obtain ⟨bR, hbR⟩ : ∃ y, w4.heap.size = y := ⟨_, rfl⟩
 have HR6 := jh ((HR4.out.keep HQ5.out).kp HK6.out (HR4.out.notin (Nat.le_refl _)) (HR4.out.notin (Nat.le_refl _)));have hl4 := HL4.out.lt;have HL6 := jh ((HL4.out.keep HQ5.out).kp HK6.out (by omega) (by omega));have HB6 := jh ((HB4.out.trans (HQ5.out.mono HB4.out.size)).trans (HK6.out.below HB4.out.size HB4.out.size (Nat.le_trans HB4.out.size HQ5.out.size)));have hd4 := HR4.out.lts;have hs6 := HB6.out.size;have hz6 : w4.heap.size ≤ w6.heap.size := Nat.le_trans HQ5.out.size HK6.out.size;rw [hbR] at F6
 try rw [hbR]
 have c3 : w6.cell? ⟨bR, 3, none⟩ = some (.int .i64 38) := (F6.out.c 3 _ rfl).trans (by rw [HRb.out.1]);have c4 : w6.cell? ⟨bR, 4, none⟩ = some (.int .i64 8) := (F6.out.c 4 _ rfl).trans (by rw [HRb.out.2]);clear HQ5 HK6 F6 hz5 hbR HR4 HL4 HB4 HRb
 go_wp2_with fail
 refine (rnew_any 38 8 (by decide) (by decide) w6).mono ?_;rintro e w7 ⟨g0, cp0, rfl, hRv, hb7⟩;clear c3 c4;have HR7 := jh (HR6.out.keep hb7);have HL7 := jh (HL6.out.keep hb7);have HB7 := jh (HB6.out.trans (hb7.mono hs6));have hz7 := hb7.size;have HRv := jh hRv
 obtain ⟨bs, hbs⟩ : ∃ y, w6.heap.size = y := ⟨_, rfl⟩
 rw [hbs] at HRv hz7
 have hdb : dd < bs := by omega
 have hgb : gg < bs := by omega
 have hlb : l < bs := by omega
 have h2b : w2.heap.size ≤ bs := by omega
 clear hb7 hRv HR6 HL6 HB6 hz6 hs6 hl4 hd4 hz4 hbs
 go_upto_region 7 with (first | (refine wpList_alloc_list (w := w7) rfl 46 rfl [Value.slice none 0 0, .slice none 0 0, .int .i64 0] Tryz.zeroGr ?_; intro w8 F8 hb8 hz8; simp only [Act.put,j1,j2,j3,j4,j5,j6]) | (refine wpList_store_list rfl 46 (.tmp 9) (.tmp 53) rfl w7.heap.size [Value.slice none 0 0, .slice none 0 0, .int .i64 0] [Value.slice (some ⟨g0, 0, none⟩) 9 cp0, .slice none 0 0, .int .i64 38] rfl rfl F8.out rfl Tryz.isizeGr (by simp [Value.oneCell']) ?_; intro w9 F9 HK9; have HQ8 := jh hb8; clear hb8 F8))
 have hl7 := HL7.out.lt;have hs7 := HB7.out.size;have HR9 := jh ((HR7.out.keep HQ8.out).kp HK9.out (HR7.out.notin (Nat.le_refl _)) (HR7.out.notin (Nat.le_refl _)));have HL9 := jh ((HL7.out.keep HQ8.out).kp HK9.out (by omega) (by omega));have HB9 := jh ((HB7.out.trans (HQ8.out.mono hs7)).trans (HK9.out.below hs7 hs7 (Nat.le_trans hs7 HQ8.out.size)));have hRv8 := HRv.out.keep HQ8.out
 have hRv9 := hRv8.kf (L := [w7.heap.size]) (Kf.of_kp HK9.out (List.mem_cons_self ..) (List.mem_cons_self ..)) (fun v hv k hk' => by
  have := (RvG.lt HRv.out v hv k hk').2;simp only [List.mem_cons, List.not_mem_nil, or_false]
  omega)
 have hM9 : Mg w9 bs w9.heap.size w7.heap.size 38 [] := Mg.of (M := newM 8) ⟨fun j u hj => by rw [Nat.zero_add]; exact F9.out.c j u hj, fun j hj => by rw [Nat.zero_add]; exact F9.out.z j hj, F9.out.lt, hRv9, fun v hv e => by
  have := (RvG.lt HRv.out v hv _ e).2
  omega⟩ LE_new
 obtain ⟨r, hr⟩ : ∃ y, w7.heap.size = y := ⟨_, rfl⟩
 rw [hr] at hM9 hz7
 try rw [hr]
 have HM9 := jh hM9;have hrb : bs ≤ r := hz7;clear hRv8 hRv9 hM9 HQ8 HK9 F9 hz8 hr HR7 HL7 HB7 HRv hl7 hs7 hz7
 go_wp2_with fail
 go_loopw [10, 11, 12, 13, 14, 15, 16, 17, 18, 19, 20, 21, 22, 23, 24, 25, 26, 27, 28, 29, 30, 56] (fun _ _ _ _ _ _ _ _ _ _ _ _ _ _ _ _ _ _ _ _ _ iv wr => ∃ k : Nat, k ≤ n9 ∧ k ≤ 61 ∧ iv = .int .i64 k ∧ Below w2.heap.size w2 wr ∧ Lg wr l dd 1 ∧ ∃ t1 m1 ln Yx V b E, Rd wr t1 m1 dd gg N ln Yx (7000 + 50000 * k) ∧ S1 B0 P0 DA (8 + 30 % 60) ln.D V b E ∧ E.length ≤ k ∧ (∀ s, Uq s E) ∧ Mg wr bs wr.heap.size r 38 E) (fun _ _ _ _ _ _ _ _ _ _ _ _ _ _ _ _ _ _ _ _ _ iv _ => n9 - (Go.RowKit.intOf iv).toNat)
 case atStart => exact ⟨0, Nat.zero_le _, Nat.zero_le _, rfl, HB9.out, HL9.out, t, mm, ⟨[], Y0⟩, Y0, VF 3, fun _ => 0, [], HR9.out, HS3.out, Nat.le_refl _, (fun s a b e f ha => by simp at ha), HM9.out⟩
 case round =>
  obtain ⟨k, hk, hk61, rfl, hb, hL, t1, m1, ln, Yx, V1, b1, E, hR, hS, hEl, hUq, hM⟩ := hrel;have HBJ := jh hb;have HLJ := jh hL;have HRJ := jh hR;have HSJ := jh hS;have HUJ := jh hUq;have HMJ := jh hM;clear hb hL hR hS hUq hM HB9 HL9 HR9 HS3 HM9
  by_cases hkn : k < n9
  ·have hkn1 : (k : Int) < n9 := by omega
   have hk0 : (0 : Int) ≤ k := by omega
   obtain ⟨ab, ao, x, hpA, hab, hr, x1, x2, x3, x4, x5⟩ := HAc.out k hkn;subst hpA;obtain ⟨kn, nm, nu, tx, rww⟩ := x;have HR0 : Hid (wr.rangeAt ab (ao + k * 5) (actc kn nm (nu : Int) tx rww)) := jh (fun j u hj => ((HB2.out.trans (HBJ.out.mono hw2)).cell hab).trans (hr j u hj));have HAn := jh (fun W => actname_any kn nm (nu : Int) tx rww x3 x4 W)
   obtain ⟨sN, hsN⟩ : ∃ y, actN nm tx rww = y := ⟨_, rfl⟩
   rw [hsN] at HAn
   obtain ⟨nn, hnn⟩ : ∃ y, nu % 200 = y := ⟨_, rfl⟩
   have hnn5 : (sN, nn).2 < 65536 := by show nn < 65536; omega
   have kn0 : 0 ≤ kn := x1;have kn1 : kn < 256 := x2
   have nu0 : (nu : Int) < 65536 := by have : nu < 65536 := x5; omega
   have HW16 : Hid ((nu : Int).tmod 200 = (nn : Int)) := jh (by
    rw [show (nu : Int).tmod 200 = ((nu % 200 : Nat) : Int) from rfl, ← hnn])
   clear hr hsN x1 x2 x3 x4 x5
   go_upto_region 10 with (first | (refine wpList_load_mid rfl 49 _ rfl ab (ao + k * 5) rfl (actc kn nm (nu : Int) tx rww) dA HR0.out HUA.out HDA.out Tryz.isizeAct ?_) | (refine wpList_alloc_list (w := wr) rfl 49 rfl (actc 0 0 0 ⟨#[]⟩ false) Tryz.zeroAct ?_; intro w4 F4 hb4 hz4; simp only [Act.put,j1,j2,j3,j4,j5,j6]) | (refine wpList_store_list rfl 49 (.tmp 11) (.tmp 60) rfl wr.heap.size (actc 0 0 0 ⟨#[]⟩ false) (actc kn nm (nu : Int) tx rww) rfl rfl F4.out rfl Tryz.isizeAct (actc_one _ _ _ _ _) ?_; intro wq F5 HK5; have HQ4 := jh hb4; clear hb4 F4))
   obtain ⟨bA, hbA⟩ : ∃ y, wr.heap.size = y := ⟨_, rfl⟩
   have hzd := HBJ.out.size;have hld := HLJ.out.lt
   have hbA2 : bA < wq.heap.size := by have := F5.out.lt; omega
   have HRq := jh ((HRJ.out.keep HQ4.out).kp HK5.out (HRJ.out.notin (Nat.le_refl _)) (HRJ.out.notin (Nat.le_refl _)));have HLq := jh ((HLJ.out.keep HQ4.out).kp HK5.out (by omega) (by omega));have HBq := jh ((HBJ.out.trans (HQ4.out.mono hzd)).trans (HK5.out.below hzd hzd (Nat.le_trans hzd HQ4.out.size)))
   have hrT : r < wr.heap.size := by
    obtain ⟨_, _, _, _, _, hG, _⟩ := HMJ.out;exact hG.lt
   have hMq : Mg wq bs bA r 38 E := by
    rw [← hbA]
    exact (HMJ.out.keep HQ4.out).kf (L := [wr.heap.size]) (Kf.of_kp HK5.out (List.mem_cons_self ..) (List.mem_cons_self ..)) (fun a ha => by
     simp only [List.mem_cons, List.not_mem_nil, or_false] at ha
     omega) hrb hrT
   have HMq := jh hMq;rw [hbA] at F5 hrT
   try rw [hbA]
   have FAq := F5;clear HQ4 HK5 F5 hz4 HR0 hbA HRJ HLJ HBJ hMq HMJ
   by_cases h60 : 60 < k
   ·have h60i : (60 : Int) < k := by omega
    clear FAq HAn
    go_wp2_with fail
    go_ret
    exact ⟨rfl, HB2.out.trans (HBq.out.mono hw2)⟩
   ·have h60i : ¬ (60 : Int) < k := by omega
    have c3 : wq.cell? ⟨bA, 3, none⟩ = some (.string tx) := FAq.out.c 3 _ rfl
    by_cases h200 : 200 < tx.size
    ·have h200i : (200 : Int) < tx.size := by omega
     clear HAn
     go_wp2_with fail
     go_ret
     exact ⟨rfl, HB2.out.trans (HBq.out.mono hw2)⟩
    ·have h200i : ¬ (200 : Int) < tx.size := by omega
     have HBg := jh (begin8 l t1 m1 dd gg (7000 + 50000 * k) Yx wq HRq.out HLq.out)
     go_wp2_with fail
     refine HBg.out.mono ?_;rintro e wb ⟨tt, mq, rfl, htwb, hmwb, hRwb, hbwb⟩;have HRwb := jh hRwb;have FAwb := jh (FAq.out.keep hbwb);have HMwb := jh (HMq.out.keep hbwb);have HBwb := jh (HBq.out.trans (hbwb.mono HBq.out.size));have HLwb := jh (HLq.out.keep hbwb);have hzwb := HBq.out.size;have hlwb := HLq.out.lt
     have HNwb : Hid (l ∉ [tt, mq, dd, gg]) := jh (fun ha => by
      have := HNl.out;simp only [List.mem_cons, List.not_mem_nil, or_false] at ha this
      omega)
     clear hRwb FAq HMq c3 hbwb HBg HRq HLq HBq;have HOp := jh (open9 HC9.out ⟨dl B0 P0 DA b1 (ndS (nbE E.length)) L9, ln.D⟩ tt mq dd gg n (7000 + 50000 * k) ln.D vr vm vg wb (HCFx.out wb HBwb.out) (HRwb.out.wide (Lm.nil_le _ _)))
     go_wp2_with fail
     refine HOp.out.mono ?_;rintro e wo ⟨q, p, rfl, hqwo, hpwo, hGwo, hbwo⟩;have HGwo := jh hGwo;have FAwo := jh (FAwb.out.keep hbwo);have HMwo := jh (HMwb.out.keep hbwo);have hzwo := hbwo.size;have HBwo := jh (HBwb.out.trans (hbwo.mono HBwb.out.size));have HLwo := jh (HLwb.out.keep hbwo);clear FAwb HMwb hGwo hbwo HOp HRwb HLwb HBwb hqwo hpwo;have hcf := FAwo.out.lt;have hLo := HGwo.out.rd.lts;obtain ⟨gm, cpm, ptm, ctm, MM, hGm, hMm, hTm⟩ := HMwo.out;have m0 : wo.cell? ⟨r, 0, none⟩ = some (.slice (some ⟨gm, 0, none⟩) 9 cpm) := hGm.c 0 _ rfl;have m1' : wo.cell? ⟨r, 1, none⟩ = some (.slice ptm 0 ctm) := hGm.c 1 _ rfl;have m2 : wo.cell? ⟨r, 2, none⟩ = some (.int .i64 38) := hGm.c 2 _ rfl;have HCp := jh (mg_copy bs bA r E (by omega) wo gm cpm ctm ptm MM hGm.v hMm);clear hGm hMm hTm
     go_wp2_with fail
     refine HCp.out.mono ?_;rintro e wd ⟨vn, vt, rfl, hO, hbd⟩;have HGd := jh (HGwo.out.keep hbd);have HBd := jh (HBwo.out.trans (hbd.mono HBwo.out.size));have HLd := jh (HLwo.out.keep hbd);have FAd := jh (FAwo.out.keep hbd);have HMd := jh (HMwo.out.keep hbd);have HOd := jh hO;obtain ⟨go, co, po, cto, MO, rfl, rfl, -, -⟩ := hO;have hcd := hbd.size;clear hbd HCp HGwo HBwo HLwo FAwo HMwo m0 m1' m2
     go_upto_region 14 with (first | (refine wpList_alloc_list (w := wd) rfl 46 rfl [Value.slice none 0 0, .slice none 0 0, .int .i64 0] Tryz.zeroGr ?_; intro we Fe hbe hze; simp only [Act.put,j1,j2,j3,j4,j5,j6]) | (refine wpList_store_list rfl 46 (.tmp 15) (.tmp 78) rfl wd.heap.size [Value.slice none 0 0, .slice none 0 0, .int .i64 0] [Value.slice (some ⟨go, 0, none⟩) 9 co, .slice po 0 cto, .int .i64 38] rfl rfl Fe.out rfl Tryz.isizeGr (by simp [Value.oneCell']) ?_; intro wf Ff HKf; have HQe := jh hbe; clear hbe Fe))
     obtain ⟨ro, hro⟩ : ∃ y, wd.heap.size = y := ⟨_, rfl⟩
     have hld := HLd.out.lt;have hsd := HBd.out.size;have hAd := FAd.out.lt;have hGlt := HGd.out.lts
     have hsf : wd.heap.size < wf.heap.size := by have := Ff.out.lt; omega
     have HGf := jh ((HGd.out.keep HQe.out).kp HKf.out (HGd.out.notin (Nat.le_refl _)));have HLf := jh ((HLd.out.keep HQe.out).kp HKf.out (by omega) (by omega));have HBf := jh ((HBd.out.trans (HQe.out.mono hsd)).trans (HKf.out.below hsd hsd (Nat.le_trans hsd HQe.out.size)));have HAf := jh ((FAd.out.keep HQe.out).kp HKf.out (by omega) (by omega))
     have HMf := jh ((HMd.out.keep HQe.out).kf (L := [wd.heap.size]) (Kf.of_kp HKf.out (List.mem_cons_self ..) (List.mem_cons_self ..)) (fun a ha => by
      simp only [List.mem_cons, List.not_mem_nil, or_false] at ha
      omega) hrb hrT)
     have hOf : Old wf wo.heap.size 38 E (.slice (some ⟨go, 0, none⟩) 9 co) (.slice po 0 cto) ∧ ∀ v ∈ [Value.slice (some ⟨go, 0, none⟩) 9 co, .slice po 0 cto], ∀ k, v.ownBlock = some k → k ≠ ro := by
      obtain ⟨g', c', p', t', MO, e1, e2, hRO, hMO⟩ := HOd.out;have hlo := RvG.lt hRO;refine ⟨⟨g', c', p', t', MO, e1, e2, (hRO.keep HQe.out).kf (L := [wd.heap.size]) (Kf.of_kp HKf.out (List.mem_cons_self ..) (List.mem_cons_self ..)) (fun v hv k hk' hm => ?_), hMO⟩, fun v hv k hk' e => ?_⟩
      ·have := (hlo v hv k hk').2;simp only [List.mem_cons, List.not_mem_nil, or_false] at hm;omega
      ·have := (hlo v (by
        simp only [List.mem_cons, List.not_mem_nil, or_false] at hv ⊢;rcases hv with rfl | rfl
        ·exact .inl rfl
        ·exact .inr (.inl rfl)) k hk').2
       omega
     have HOf := jh hOf.1;rw [hro] at Ff hsf
     try rw [hro]
     have hrf : wo.heap.size ≤ ro := by omega
     have hlr : l < ro := by omega
     have hL6 : ∀ a ∈ [tt, mq, dd, gg], a < wo.heap.size := fun a ha => by
      have h9 := hLo;simp only [List.mem_cons, List.not_mem_nil, or_false] at ha;omega
     have hL5 : ∀ a ∈ [tt, mq, dd, gg], a < bs ∨ bA ≤ a := fun a ha => by
      simp only [List.mem_cons, List.not_mem_nil, or_false] at ha;omega
     have hL2 : ∀ a ∈ [tt, mq, dd, gg], w2.heap.size ≤ a := fun a ha => by
      simp only [List.mem_cons, List.not_mem_nil, or_false] at ha;omega
     have HL6 := jh hL6;have HL5 := jh hL5;have HL2 := jh hL2;have HRo := jh hrf;clear hL6 hL5 hL2 hLo;have HSf : Hid (St9 wf w2 q p tt mq dd gg l g B0 (8 + 30 % 60) N ⟨dl B0 P0 DA b1 (ndS (nbE E.length)) L9, ln.D⟩ ln.D (7000 + 50000 * k) bA (actc kn nm (nu : Int) tx rww) bs bA r E wo.heap.size (.slice (some ⟨go, 0, none⟩) 9 co) (.slice po 0 cto) ro) := jh ⟨HGf.out, HLf.out, HBf.out, HAf.out, HMf.out, HOf.out, Ff.out⟩;clear hOf HQe HKf hze hro HGd HBd HLd FAd HMd HOd hld hsd hAd hcd HGf HLf HBf HAf HMf HOf Ff hGlt;simp only [Act.put,j1,j2,j3,j4,j5,j6]
     go_cut [16] (fun x wx => ∃ bE, x = .pointer (some ⟨bE, 0, none⟩) ∧ ro < bE ∧ Vl wx bE (enc (sN, nn)) ∧ St9 wx w2 q p tt mq dd gg l g B0 (8 + 30 % 60) N ⟨dl B0 P0 DA b1 (ndS (nbE E.length)) L9, ln.D⟩ ln.D (7000 + 50000 * k) bA (actc kn nm (nu : Int) tx rww) bs bA r E wo.heap.size (.slice (some ⟨go, 0, none⟩) 9 co) (.slice po 0 cto) ro)
     case first =>
      as_aux_lemma =>
      refine wp_region_held (S := (fun W => St9 W w2 q p tt mq dd gg l g B0 (8 + 30 % 60) N ⟨dl B0 P0 DA b1 (ndS (nbE E.length)) L9, ln.D⟩ ln.D (7000 + 50000 * k) bA (actc kn nm (nu : Int) tx rww) bs bA r E wo.heap.size (.slice (some ⟨go, 0, none⟩) 9 co) (.slice po 0 cto) ro)) (by kernel_rfl) ?_;change wpAnyH _ _ _ _ _ _ _ _ (World.drew _);have hS0 : (fun W => St9 W w2 q p tt mq dd gg l g B0 (8 + 30 % 60) N ⟨dl B0 P0 DA b1 (ndS (nbE E.length)) L9, ln.D⟩ ln.D (7000 + 50000 * k) bA (actc kn nm (nu : Int) tx rww) bs bA r E wo.heap.size (.slice (some ⟨go, 0, none⟩) 9 co) (.slice po 0 cto) ro) wf.drew := HSf.out.keep (Below.refl _ _).drew
      obtain ⟨w8, hw8⟩ : ∃ x, World.drew wf = x := ⟨_, rfl⟩
      have hs8 : ro < w8.heap.size := by rw [← hw8]; exact hsf
      rw [hw8] at hS0 ⊢;clear hw8 HSf;refine jx 0 (v := .agg (actc kn nm (nu : Int) tx rww).toArray) rfl (by kernel_rfl) (fun _ _ _=>id) ?_ hS0 ?_
      ·exact yieldsIf_load_mid (by rfl) 49 (.tmp 11) rfl bA 0 rfl (actc kn nm (nu : Int) tx rww) dA (fun W hW => hW.ac.range0) HUA.out HDA.out Tryz.isizeAct
      simp only [Act.put,j1,j2,j3,j4,j5,j6];refine jk 2 (v:=?_) rfl (by kernel_rfl) (fun _ _ _=>id) (by rfl) ?_ hS0 ?_;rotate_left
      ·intro W hW;go_simp;try with_reducible rfl
      simp only [Act.put,j1,j2,j3,j4,j5,j6];refine jk 3 (v:=?_) rfl (by kernel_rfl) (fun _ _ _=>id) (by rfl) ?_ hS0 ?_;rotate_left 1
      ·intro W hW;have c2 : W.cell? ⟨bA, 2, none⟩ = some (.int .u16 (nu : Int)) := hW.ac.c 2 _ rfl;go_simp
       try with_reducible rfl
      simp only [Act.put,j1,j2,j3,j4,j5,j6];refine jk 4 (v:=?_) rfl (by kernel_rfl) (fun _ _ _=>id) (by rfl) ?_ hS0 ?_;rotate_left
      ·intro W hW;go_simp;try with_reducible rfl
      simp only [Act.put,j1,j2,j3,j4,j5,j6];refine wpAnyH_ready (rs := [1, 6]) (by kernel_rfl) (by simp) (AllReadyH.cons rfl (fun KK hKK => ?_) (AllReadyH.cons rfl (fun KK hKK => ?_) AllReadyH.nil))
      ·skip
       go_simp;refine (HAn.out w8).mono ?_;rintro r_ w9 ⟨rfl, hb⟩;have hs9 := hb.size
       replace hS0 : (fun W => St9 W w2 q p tt mq dd gg l g B0 (8 + 30 % 60) N ⟨dl B0 P0 DA b1 (ndS (nbE E.length)) L9, ln.D⟩ ln.D (7000 + 50000 * k) bA (actc kn nm (nu : Int) tx rww) bs bA r E wo.heap.size (.slice (some ⟨go, 0, none⟩) 9 co) (.slice po 0 cto) ro) w9 := hS0.keep hb
       clear hb;refine hKK _ _ hS0 ?_;intro _;clear hKK KK
       try simp only [Act.put,j1,j2,j3,j4,j5,j6]
       refine jx 5 (v := .agg (enc (sN, nn)).toArray) rfl (by kernel_rfl) (fun _ _ _=>id) ?_ hS0 ?_
       ·exact yields_bld2 (by rfl) 58 0 1 (.tmp 80) (.tmp 83) rfl (.string sN) (.int .u16 (nn : Int)) rfl (by go_simp; congr 1 <;> exact HW16.out) _ (fun W => by exact Tryz.buildEn2 sN (nn : Int) W)
       simp only [Act.put,j1,j2,j3,j4,j5,j6];refine wpAnyH_ready (rs := [6]) (by kernel_rfl) (by simp) (AllReadyH.cons rfl (fun KK hKK => ?_) AllReadyH.nil);refine step_alloc_list rfl 58 (enc zE) rfl Tryz.zeroEn ?_;intro wA FE hbA hzA;have hS1 : (fun W => St9 W w2 q p tt mq dd gg l g B0 (8 + 30 % 60) N ⟨dl B0 P0 DA b1 (ndS (nbE E.length)) L9, ln.D⟩ ln.D (7000 + 50000 * k) bA (actc kn nm (nu : Int) tx rww) bs bA r E wo.heap.size (.slice (some ⟨go, 0, none⟩) 9 co) (.slice po 0 cto) ro) wA := hS0.keep hbA;have HbA := jh hbA;have HS9 := jh hS0
       obtain ⟨bE, hbE⟩ : ∃ x, w9.heap.size = x := ⟨_, rfl⟩
       have HbE := jh hbE
       have hroE : ro < bE := by omega
       rw [hbE] at FE
       try rw [hbE]
       clear hS0 hbA hzA hbE;have hS0 := hS1;clear hS1;refine hKK _ _ hS0 ?_;intro _;clear hKK KK
       try simp only [Act.put,j1,j2,j3,j4,j5,j6]
       refine wpAnyH_ready (rs := [7]) (by kernel_rfl) (by simp) (AllReadyH.cons rfl (fun KK hKK => ?_) AllReadyH.nil);refine step_store_mid rfl 58 _ _ rfl bE 0 (enc (sN, nn)).toArray rfl rfl (FE.out.there0 2 rfl) (sizeEn _) (all_oneCell_toArray (enc_one _)) ?_;have PF := FE.out.stored (enc (sN, nn)) rfl;have hS1 : (fun W => St9 W w2 q p tt mq dd gg l g B0 (8 + 30 % 60) N ⟨dl B0 P0 DA b1 (ndS (nbE E.length)) L9, ln.D⟩ ln.D (7000 + 50000 * k) bA (actc kn nm (nu : Int) tx rww) bs bA r E wo.heap.size (.slice (some ⟨go, 0, none⟩) 9 co) (.slice po 0 cto) ro) (wA.setCells bE 0 (enc (sN, nn))) := HS9.out.keep (below_new HbA.out (by rw [HbE.out]; exact (Kp.refl wA bE bE).setCells bE 0 (.inl rfl) _))
       obtain ⟨w11, hw11⟩ : ∃ x, wA.setCells bE 0 (enc (sN, nn)) = x := ⟨_, rfl⟩
       change KK _ (wA.setCells bE 0 (enc (sN, nn)));rw [hw11] at hS1 PF ⊢;clear hw11 hS0 FE HbA HS9 HbE;refine hKK _ _ hS1 ?_;intro _;clear hKK KK;refine wpAnyH_done (by kernel_rfl) ?_ _
       go_wp2_with fail
       go_meet
       case rel => exact ⟨bE, rfl, hroE, PF, hS1⟩
      ·skip
       refine step_alloc_list rfl 58 (enc zE) rfl Tryz.zeroEn ?_;intro wA FE hbA hzA;have hS1 : (fun W => St9 W w2 q p tt mq dd gg l g B0 (8 + 30 % 60) N ⟨dl B0 P0 DA b1 (ndS (nbE E.length)) L9, ln.D⟩ ln.D (7000 + 50000 * k) bA (actc kn nm (nu : Int) tx rww) bs bA r E wo.heap.size (.slice (some ⟨go, 0, none⟩) 9 co) (.slice po 0 cto) ro) wA := hS0.keep hbA;have HS8 := jh hS0;have HbA := jh hbA
       obtain ⟨bE, hbE⟩ : ∃ x, w8.heap.size = x := ⟨_, rfl⟩
       have HbE := jh hbE
       have hroE : ro < bE := by omega
       rw [hbE] at FE
       try rw [hbE]
       clear hS0 hbA hzA hbE;have hS0 := hS1;clear hS1;refine hKK _ _ hS0 ?_;intro _;clear hKK KK
       try simp only [Act.put,j1,j2,j3,j4,j5,j6]
       refine wpAnyH_ready (rs := [1]) (by kernel_rfl) (by simp) (AllReadyH.cons rfl (fun KK hKK => ?_) AllReadyH.nil);go_simp;refine (HAn.out wA).mono ?_;rintro r_ w9 ⟨rfl, hb⟩
       replace hS0 : (fun W => St9 W w2 q p tt mq dd gg l g B0 (8 + 30 % 60) N ⟨dl B0 P0 DA b1 (ndS (nbE E.length)) L9, ln.D⟩ ln.D (7000 + 50000 * k) bA (actc kn nm (nu : Int) tx rww) bs bA r E wo.heap.size (.slice (some ⟨go, 0, none⟩) 9 co) (.slice po 0 cto) ro) w9 := hS0.keep hb
       replace FE := jh (FE.out.keep hb)
       replace HbA := jh (HbA.out.trans (hb.mono HbA.out.size))
       clear hb;refine hKK _ _ hS0 ?_;intro _;clear hKK KK
       try simp only [Act.put,j1,j2,j3,j4,j5,j6]
       refine jx 5 (v := .agg (enc (sN, nn)).toArray) rfl (by kernel_rfl) (fun _ _ _=>id) ?_ hS0 ?_
       ·exact yields_bld2 (by rfl) 58 0 1 (.tmp 80) (.tmp 83) rfl (.string sN) (.int .u16 (nn : Int)) rfl (by go_simp; congr 1 <;> exact HW16.out) _ (fun W => by exact Tryz.buildEn2 sN (nn : Int) W)
       simp only [Act.put,j1,j2,j3,j4,j5,j6];refine wpAnyH_ready (rs := [7]) (by kernel_rfl) (by simp) (AllReadyH.cons rfl (fun KK hKK => ?_) AllReadyH.nil);refine step_store_mid rfl 58 _ _ rfl bE 0 (enc (sN, nn)).toArray rfl rfl (FE.out.there0 2 rfl) (sizeEn _) (all_oneCell_toArray (enc_one _)) ?_;have PF := FE.out.stored (enc (sN, nn)) rfl;have hS1 : (fun W => St9 W w2 q p tt mq dd gg l g B0 (8 + 30 % 60) N ⟨dl B0 P0 DA b1 (ndS (nbE E.length)) L9, ln.D⟩ ln.D (7000 + 50000 * k) bA (actc kn nm (nu : Int) tx rww) bs bA r E wo.heap.size (.slice (some ⟨go, 0, none⟩) 9 co) (.slice po 0 cto) ro) (w9.setCells bE 0 (enc (sN, nn))) := HS8.out.keep (below_new HbA.out (by rw [HbE.out]; exact (Kp.refl w9 bE bE).setCells bE 0 (.inl rfl) _))
       obtain ⟨w11, hw11⟩ : ∃ x, w9.setCells bE 0 (enc (sN, nn)) = x := ⟨_, rfl⟩
       change KK _ (w9.setCells bE 0 (enc (sN, nn)));rw [hw11] at hS1 PF ⊢;clear hw11 hS0 FE HbA HS8 HbE;refine hKK _ _ hS1 ?_;intro _;clear hKK KK;refine wpAnyH_done (by kernel_rfl) ?_ _
       go_wp2_with fail
       go_meet
       case rel => exact ⟨bE, rfl, hroE, PF, hS1⟩
     case rest =>
      obtain ⟨bE, rfl, hroE, PF, hSt⟩ := hcut
      obtain ⟨wX, rfl⟩ : ∃ x, x = wc := ⟨wc, rfl⟩
      have HSt := jh hSt;have HPF := jh PF
      have hbA : bA < bE := by omega
      have c0 : wX.cell? ⟨bA, 0, none⟩ = some (.int .u8 kn) := hSt.ac.c 0 _ rfl;clear hSt PF HSf HAn HW16
      go_upto_block 2 with fail
      try simp only [Act.put,j1,j2,j3,j4,j5,j6]
      go_cut [17, 18, 19, 20, 21, 22, 87] (fun ev cv _ _ _ _ _ wy => ∃ code : Int, ev = .int .i64 code ∧ cv = .int .i64 code ∧ Fi9 wy w2 tt mq dd gg l N ln.D (7000 + 50000 * k) B0 P0 DA (8 + 30 % 60) bs r E k wo.heap.size (.slice (some ⟨go, 0, none⟩) 9 co) (.slice po 0 cto) ro code)
      case first =>
       clear c0
       by_cases hq4 : kn % 7 = 4
       ·skip
        as_aux_lemma =>
         go_wp2_with fail
         refine wp_region_held (S := fun W => Vl W bE (enc (sN, nn))) (by kernel_rfl) ?_;change wpAnyH _ _ _ _ _ _ _ _ (World.drew _);have hS0 : (fun W => Vl W bE (enc (sN, nn))) wX.drew := HPF.out.keep (Below.refl _ _).drew;have HSd := jh (HSt.out.keep (Below.refl _ _).drew)
         obtain ⟨w8, hw8⟩ : ∃ x, World.drew wX = x := ⟨_, rfl⟩
         rw [hw8] at hS0 HSd ⊢;clear hw8 HSt HPF;refine jk 0 (v:=?_) rfl (by kernel_rfl) (fun _ _ _=>id) (by rfl) ?_ hS0 ?_;rotate_left
         ·intro W hW;go_simp;try with_reducible rfl
         simp only [Act.put,j1,j2,j3,j4,j5,j6];refine jk 1 (v:=?_) rfl (by kernel_rfl) (fun _ _ _=>id) (by rfl) ?_ hS0 ?_;rotate_left
         ·intro W hW;go_simp;try with_reducible rfl
         simp only [Act.put,j1,j2,j3,j4,j5,j6];refine jk 2 (v:=?_) rfl (by kernel_rfl) (fun _ _ _=>id) (by rfl) ?_ hS0 ?_;rotate_left 1
         ·intro W hW;have h1 := hW.c 0 _ rfl;go_simp
          try with_reducible rfl
         simp only [Act.put,j1,j2,j3,j4,j5,j6];refine jk 4 (v:=?_) rfl (by kernel_rfl) (fun _ _ _=>id) (by rfl) ?_ hS0 ?_;rotate_left
         ·intro W hW;go_simp;try with_reducible rfl
         simp only [Act.put,j1,j2,j3,j4,j5,j6];refine jk 5 (v:=?_) rfl (by kernel_rfl) (fun _ _ _=>id) (by rfl) ?_ hS0 ?_;rotate_left 1
         ·intro W hW;have h1 := hW.c 0 _ rfl;go_simp
          try with_reducible rfl
         simp only [Act.put,j1,j2,j3,j4,j5,j6];refine wpAnyH_ready (rs := [3]) (by kernel_rfl) (by simp) (AllReadyH.cons rfl (fun KK hKK => ?_) AllReadyH.nil);go_simp;refine (drop1 HGG.out q p tt mq dd gg (7000 + 50000 * k) ln.D V1 ln.D b1 E HSJ.out (by omega) (by omega) sN w8 HSd.out.gr).mono ?_;rintro r_ w12 ⟨hk, (⟨hno, rfl, hG⟩ | ⟨hany, rfl, Y', V', b', hG, hS⟩)⟩
         ·have HC := jh (st9_code HSd.out hk HL2.out HNwb.out HL5.out HL6.out hrb hrT HRo.out);have HGr := jh hG;have HRo2 := HRo.out
          have hnb : bE ∉ [tt, mq, dd, gg] := fun hm => by
           have := HL6.out bE hm;omega
          replace hS0 : (fun W => Vl W bE (enc (sN, nn))) w12 := hS0.kf hk hnb
          clear hk hG hnb HSd HRo2;have HNo := jh hno;clear hno;refine hKK _ _ hS0 ?_;intro _;clear hKK KK
          try simp only [Act.put,j1,j2,j3,j4,j5,j6]
          refine wpAnyH_ready (rs := [6]) (by kernel_rfl) (by simp) (AllReadyH.cons rfl (fun KK hKK => ?_) AllReadyH.nil);go_simp;refine (mg_drop bs bA r E HSJ.out.dir.ok (by omega) sN (HUJ.out sN) w12 HC.out.2.2.1).mono ?_;rintro r_ w13 (⟨hno2, rfl, rfl⟩ | ⟨hany2, hF, hM, rfl⟩)
          ·clear hno2;refine hKK _ _ hS0 ?_;intro _;clear hKK KK
           try simp only [Act.put,j1,j2,j3,j4,j5,j6]
           refine jk 7 (v:=?_) rfl (by kernel_rfl) (fun _ _ _=>id) (by rfl) ?_ hS0 ?_;rotate_left
           ·intro W hW;go_simp;try with_reducible rfl
           simp only [Act.put,j1,j2,j3,j4,j5,j6];refine jk 8 (v:=?_) rfl (by kernel_rfl) (fun _ _ _=>id) (by rfl) ?_ hS0 ?_;rotate_left
           ·intro W hW;go_simp;try with_reducible rfl
           simp only [Act.put,j1,j2,j3,j4,j5,j6];refine wpAnyH_done (by kernel_rfl) ?_ _
           go_wp2_with fail
           go_meet
           case rel =>
            exact ⟨3, rfl, rfl, fi9_fail HC.out HGr.out.rd (Ly.len L9 (by rw [L9_len]; decide) _ _ _ _ _) rfl (by omega) (Below.refl _ _) (by decide)⟩
          ·exfalso
           obtain ⟨e9, h9, h8⟩ := List.any_eq_true.1 hany2;rw [HNo.out e9 h9] at h8
           cases h8
         ·have HC := jh (st9_code HSd.out hk HL2.out HNwb.out HL5.out HL6.out hrb hrT HRo.out);have HGr := jh hG;have HRo2 := HRo.out
          have hnb : bE ∉ [tt, mq, dd, gg] := fun hm => by
           have := HL6.out bE hm;omega
          replace hS0 : (fun W => Vl W bE (enc (sN, nn))) w12 := hS0.kf hk hnb
          clear hk hG hnb HSd HRo2;have HAy := jh hany;have HS := jh hS;clear hany hS;refine hKK _ _ hS0 ?_;intro _;clear hKK KK
          try simp only [Act.put,j1,j2,j3,j4,j5,j6]
          refine wpAnyH_ready (rs := [6]) (by kernel_rfl) (by simp) (AllReadyH.cons rfl (fun KK hKK => ?_) AllReadyH.nil);go_simp;refine (mg_drop bs bA r E HSJ.out.dir.ok (by omega) sN (HUJ.out sN) w12 HC.out.2.2.1).mono ?_;rintro r_ w13 (⟨hno2, rfl, rfl⟩ | ⟨hany2, hF, hM, rfl⟩)
          ·exfalso
           obtain ⟨e9, h9, h8⟩ := List.any_eq_true.1 HAy.out;rw [hno2 e9 h9] at h8
           cases h8
          ·clear hany2;have HF := jh hF;have HM := jh hM
           replace hS0 : (fun W => Vl W bE (enc (sN, nn))) w13 := vl_fr hS0 hF (by omega)
           clear hF hM;refine hKK _ _ hS0 ?_;intro _;clear hKK KK
           try simp only [Act.put,j1,j2,j3,j4,j5,j6]
           refine jk 7 (v:=?_) rfl (by kernel_rfl) (fun _ _ _=>id) (by rfl) ?_ hS0 ?_;rotate_left
           ·intro W hW;go_simp;try with_reducible rfl
           simp only [Act.put,j1,j2,j3,j4,j5,j6];refine jk 8 (v:=?_) rfl (by kernel_rfl) (fun _ _ _=>id) (by rfl) ?_ hS0 ?_;rotate_left
           ·intro W hW;go_simp;try with_reducible rfl
           simp only [Act.put,j1,j2,j3,j4,j5,j6];refine wpAnyH_done (by kernel_rfl) ?_ _
           go_wp2_with fail
           go_meet
           case rel =>
            exact ⟨0, rfl, rfl, fi9_succ HC.out HGr.out.rd (Ly.len L9 (by rw [L9_len]; decide) _ _ _ _ _) rfl (by omega) HF.out HL5.out h2b hlb HS.out (by rw [List.length_take, List.length_set]; omega) (Uq.take (Uq.set HUJ.out _) _) HM.out hrT⟩
       ·by_cases hq5 : kn % 7 = 5
        ·skip
         as_aux_lemma =>
          obtain ⟨cc, hcc⟩ : ∃ c, turnC E (sN, nn) = c := ⟨_, rfl⟩
          have HCc := jh hcc;clear hcc
          go_wp2_with fail
          refine wp_region_held (S := fun W => Vl W bE (enc (sN, nn))) (by kernel_rfl) ?_;change wpAnyH _ _ _ _ _ _ _ _ (World.drew _);have hS0 : (fun W => Vl W bE (enc (sN, nn))) wX.drew := HPF.out.keep (Below.refl _ _).drew;have HSd := jh (HSt.out.keep (Below.refl _ _).drew)
          obtain ⟨w8, hw8⟩ : ∃ x, World.drew wX = x := ⟨_, rfl⟩
          rw [hw8] at hS0 HSd ⊢;clear hw8 HSt HPF;refine jk 0 (v:=?_) rfl (by kernel_rfl) (fun _ _ _=>id) (by rfl) ?_ hS0 ?_;rotate_left
          ·intro W hW;go_simp;try with_reducible rfl
          simp only [Act.put,j1,j2,j3,j4,j5,j6];refine jx 1 (v := .agg (enc (sN, nn)).toArray) rfl (by kernel_rfl) (fun _ _ _=>id) ?_ hS0 ?_
          ·exact yieldsIf_load_mid (by rfl) 58 (.tmp 16) rfl bE 0 rfl (enc (sN, nn)) dE (fun W hW => hW.range0) HUE.out HDE.out Tryz.isizeEn
          simp only [Act.put,j1,j2,j3,j4,j5,j6];refine jx 3 (v := .agg (enc (sN, nn)).toArray) rfl (by kernel_rfl) (fun _ _ _=>id) ?_ hS0 ?_
          ·exact yieldsIf_load_mid (by rfl) 58 (.tmp 16) rfl bE 0 rfl (enc (sN, nn)) dE (fun W hW => hW.range0) HUE.out HDE.out Tryz.isizeEn
          simp only [Act.put,j1,j2,j3,j4,j5,j6];refine wpAnyH_ready (rs := [2]) (by kernel_rfl) (by simp) (AllReadyH.cons rfl (fun KK hKK => ?_) AllReadyH.nil);go_simp;have HOp := turn1 HGG.out q p tt mq dd gg (7000 + 50000 * k) ln.D V1 ln.D b1 E HSJ.out (by omega) (by omega) (sN, nn) hnn5 w8 HSd.out.gr;rw [HCc.out] at HOp;refine HOp.mono ?_;clear HOp;rintro r_ w12 ⟨rfl, hk, (⟨hc, hG⟩ | ⟨hc, Y', V', b', hG, hS⟩)⟩
          ·have HC := jh (st9_code HSd.out hk HL2.out HNwb.out HL5.out HL6.out hrb hrT HRo.out);have HGr := jh hG;have HRo2 := HRo.out
           have hnb : bE ∉ [tt, mq, dd, gg] := fun hm => by
            have := HL6.out bE hm;omega
           replace hS0 : (fun W => Vl W bE (enc (sN, nn))) w12 := hS0.kf hk hnb
           clear hk hG hnb HSd HRo2;have HNo := jh hc;clear hc;refine hKK _ _ hS0 ?_;intro _;clear hKK KK
           try simp only [Act.put,j1,j2,j3,j4,j5,j6]
           refine wpAnyH_ready (rs := [4]) (by kernel_rfl) (by simp) (AllReadyH.cons rfl (fun KK hKK => ?_) AllReadyH.nil);go_simp;have HOp := mg_turn bs bA r E HSJ.out.dir.ok (by omega) (sN, nn) hnn5 w12 HC.out.2.2.1;rw [HCc.out] at HOp;refine HOp.mono ?_;clear HOp;rintro r_ w13 ⟨rfl, (⟨hc2, hb2⟩ | ⟨hc2, hF, hM⟩)⟩
           ·have HBb := jh hb2
            replace hS0 : (fun W => Vl W bE (enc (sN, nn))) w13 := hS0.keep hb2
            clear hb2 hc2;refine hKK _ _ hS0 ?_;intro _;clear hKK KK
            try simp only [Act.put,j1,j2,j3,j4,j5,j6]
            refine jk 5 (v:=?_) rfl (by kernel_rfl) (fun _ _ _=>id) (by rfl) ?_ hS0 ?_;rotate_left
            ·intro W hW;go_simp;try with_reducible rfl
            simp only [Act.put,j1,j2,j3,j4,j5,j6];refine jk 6 (v:=?_) rfl (by kernel_rfl) (fun _ _ _=>id) (by rfl) ?_ hS0 ?_;rotate_left
            ·intro W hW;go_simp;try with_reducible rfl
            simp only [Act.put,j1,j2,j3,j4,j5,j6];refine wpAnyH_done (by kernel_rfl) ?_ _
            go_wp2_with fail
            go_meet
            case rel =>
             exact ⟨cc, rfl, rfl, fi9_fail HC.out HGr.out.rd (Ly.len L9 (by rw [L9_len]; decide) _ _ _ _ _) rfl (by omega) HBb.out HNo.out⟩
           ·exact absurd hc2 HNo.out
          ·subst hc;have HC := jh (st9_code HSd.out hk HL2.out HNwb.out HL5.out HL6.out hrb hrT HRo.out);have HGr := jh hG;have HRo2 := HRo.out
           have hnb : bE ∉ [tt, mq, dd, gg] := fun hm => by
            have := HL6.out bE hm;omega
           replace hS0 : (fun W => Vl W bE (enc (sN, nn))) w12 := hS0.kf hk hnb
           clear hk hG hnb HSd HRo2;have HS := jh hS;clear hS;refine hKK _ _ hS0 ?_;intro _;clear hKK KK
           try simp only [Act.put,j1,j2,j3,j4,j5,j6]
           refine wpAnyH_ready (rs := [4]) (by kernel_rfl) (by simp) (AllReadyH.cons rfl (fun KK hKK => ?_) AllReadyH.nil);go_simp;have HOp := mg_turn bs bA r E HSJ.out.dir.ok (by omega) (sN, nn) hnn5 w12 HC.out.2.2.1;rw [HCc.out] at HOp;refine HOp.mono ?_;clear HOp;rintro r_ w13 ⟨rfl, (⟨hc2, hb2⟩ | ⟨hc2, hF, hM⟩)⟩
           ·exact absurd rfl hc2
           ·have HF := jh hF;have HM := jh hM
            replace hS0 : (fun W => Vl W bE (enc (sN, nn))) w13 := vl_fr hS0 hF (by omega)
            clear hF hM;refine hKK _ _ hS0 ?_;intro _;clear hKK KK
            try simp only [Act.put,j1,j2,j3,j4,j5,j6]
            refine jk 5 (v:=?_) rfl (by kernel_rfl) (fun _ _ _=>id) (by rfl) ?_ hS0 ?_;rotate_left
            ·intro W hW;go_simp;try with_reducible rfl
            simp only [Act.put,j1,j2,j3,j4,j5,j6];refine jk 6 (v:=?_) rfl (by kernel_rfl) (fun _ _ _=>id) (by rfl) ?_ hS0 ?_;rotate_left
            ·intro W hW;go_simp;try with_reducible rfl
            simp only [Act.put,j1,j2,j3,j4,j5,j6];refine wpAnyH_done (by kernel_rfl) ?_ _
            go_wp2_with fail
            go_meet
            case rel =>
             exact ⟨0, rfl, rfl, fi9_succ HC.out HGr.out.rd (Ly.len L9 (by rw [L9_len]; decide) _ _ _ _ _) rfl (by omega) HF.out HL5.out h2b hlb HS.out (Nat.le_trans (setE_le _ _ _) (by omega)) (by
              obtain ⟨e9, h9, h8⟩ := findN_is sN E (turnC_zero HCc.out);have h7 := (List.getElem?_eq_some_iff.1 h9).1;have h6 := Uq.turn HUJ.out (findN sN E) e9 (sN, nn) h9 h8;intro s;unfold setE;rw [if_pos h7]
              exact h6 s) HM.out hrT⟩
        ·by_cases hq6 : kn % 7 = 6
         ·skip
          as_aux_lemma =>
           have cE0 := HPF.out.c 0 _ rfl;have HFd := jh (dfind_any (ln := ⟨dl B0 P0 DA b1 (ndS (nbE E.length)) L9, ln.D⟩) q p tt mq dd gg 0 B0 P0 8 DA (8 + 30 % 60) N (7000 + 50000 * k) g ln.D V1 1 (by decide) (by decide) b1 E HSJ.out.dir HSJ.out.tab (by omega) HGG.out wX HSt.out.gr sN)
           go_wp2_with fail
           refine HFd.out.mono ?_;rintro r_ w12 ⟨⟨hG, hk⟩, hr⟩;have HC := jh (st9_code HSt.out hk HL2.out HNwb.out HL5.out HL6.out hrb hrT HRo.out);have HGr := jh hG
           have hnb : bE ∉ [tt, mq, dd, gg] := fun hm => by
            have := HL6.out bE hm;have := HRo.out;omega
           have HPG := jh (HPF.out.kf hk hnb);have HMf := jh (mg_find bs bA r E HSJ.out.dir.ok (by omega) sN w12 HC.out.2.2.1);clear hk hG hnb HSt cE0 HFd HPF;have cE1 := HPG.out.c 0 _ rfl;rcases hr with ⟨i, e1, a1, a2, a3, rfl⟩ | ⟨hno, rfl⟩
           ·have HA1 := jh a1;have HA2 := jh a2;have HA3 := jh a3;clear a1 a2 a3
            go_wp2_with fail
            refine HMf.out.mono ?_;rintro r_ w13 ⟨hw13, hr2⟩;subst hw13;clear HMf cE1;rcases hr2 with ⟨i2, e2, d1, d2, d3, rfl⟩ | ⟨hno, rfl⟩
            ·have hii : i2 = i := (find_eq sN E i2 e2 d1 d2 d3).trans (find_eq sN E i e1 HA1.out HA2.out HA3.out).symm;subst hii;have hee : e2 = e1 := Option.some.inj (d1.symm.trans HA1.out);subst hee;clear d1 d2 d3 HA1 HA2 HA3
             have HMm : Hid (Mg2 w13 bs bA w13.heap.size r 38 E) := jh (by
              obtain ⟨g9, c9, p9, t9, M9, h7, h8, h9⟩ := HC.out.2.2.1
              exact ⟨g9, c9, p9, t9, M9, h7, h8, fun v hv k hk => .inl (h9 v hv k hk)⟩)
             have HLs : Hid (∀ a ∈ [tt, mq, dd, gg], a < w13.heap.size) := jh (fun a ha => by
              have := HGr.out.rd.lts;simp only [List.mem_cons, List.not_mem_nil, or_false] at ha
              omega)
             go_wp2_with fail
             go_meet
             case rel =>
              exact ⟨0, rfl, rfl, HC.out.1, HC.out.2.1, ⟨dl B0 P0 DA b1 (ndS (nbE E.length)) L9, ln.D⟩, ln.D, (Ly.len L9 (by rw [L9_len]; decide) _ _ _ _ _), rfl, HGr.out.rd.mono (by omega), .inr ⟨rfl, V1, b1, E, bA, w13.heap.size, HSJ.out, by omega, HUJ.out, HMm.out, HL5.out, HLs.out, hrT⟩⟩
            ·exfalso
             have h9 := hno e1 (List.mem_of_getElem? HA1.out);rw [HA2.out] at h9
             cases h9
           ·have HNo := jh hno;clear hno
            go_wp2_with fail
            refine HMf.out.mono ?_;rintro r_ w13 ⟨hw13, hr2⟩;subst hw13;clear HMf cE1;rcases hr2 with ⟨i2, e2, d1, d2, d3, rfl⟩ | ⟨hno, rfl⟩
            ·exfalso
             have h9 := HNo.out e2 (List.mem_of_getElem? d1);rw [d2] at h9
             cases h9
            ·clear hno
             go_wp2_with fail
             go_meet
             case rel =>
              exact ⟨3, rfl, rfl, fi9_fail HC.out HGr.out.rd (Ly.len L9 (by rw [L9_len]; decide) _ _ _ _ _) rfl (by omega) (Below.refl _ _) (by decide)⟩
         ·skip
          as_aux_lemma =>
           obtain ⟨cc, hcc⟩ : ∃ c, addC E (sN, nn) = c := ⟨_, rfl⟩
           have HCc := jh hcc;clear hcc
           go_wp2_with fail
           refine wp_region_held (S := fun W => Vl W bE (enc (sN, nn))) (by kernel_rfl) ?_;change wpAnyH _ _ _ _ _ _ _ _ (World.drew _);have hS0 : (fun W => Vl W bE (enc (sN, nn))) wX.drew := HPF.out.keep (Below.refl _ _).drew;have HSd := jh (HSt.out.keep (Below.refl _ _).drew)
           obtain ⟨w8, hw8⟩ : ∃ x, World.drew wX = x := ⟨_, rfl⟩
           rw [hw8] at hS0 HSd ⊢;clear hw8 HSt HPF;refine jk 0 (v:=?_) rfl (by kernel_rfl) (fun _ _ _=>id) (by rfl) ?_ hS0 ?_;rotate_left
           ·intro W hW;go_simp;try with_reducible rfl
           simp only [Act.put,j1,j2,j3,j4,j5,j6];refine jx 1 (v := .agg (enc (sN, nn)).toArray) rfl (by kernel_rfl) (fun _ _ _=>id) ?_ hS0 ?_
           ·exact yieldsIf_load_mid (by rfl) 58 (.tmp 16) rfl bE 0 rfl (enc (sN, nn)) dE (fun W hW => hW.range0) HUE.out HDE.out Tryz.isizeEn
           simp only [Act.put,j1,j2,j3,j4,j5,j6];refine jx 3 (v := .agg (enc (sN, nn)).toArray) rfl (by kernel_rfl) (fun _ _ _=>id) ?_ hS0 ?_
           ·exact yieldsIf_load_mid (by rfl) 58 (.tmp 16) rfl bE 0 rfl (enc (sN, nn)) dE (fun W hW => hW.range0) HUE.out HDE.out Tryz.isizeEn
           simp only [Act.put,j1,j2,j3,j4,j5,j6];refine wpAnyH_ready (rs := [2]) (by kernel_rfl) (by simp) (AllReadyH.cons rfl (fun KK hKK => ?_) AllReadyH.nil);go_simp;have HOp := add1 HGG.out (by decide) q p tt mq dd gg (7000 + 50000 * k) ln.D V1 ln.D b1 E HSJ.out (by omega) (by omega) (sN, nn) hnn5 w8 HSd.out.gr;rw [HCc.out] at HOp;refine HOp.mono ?_;clear HOp;rintro r_ w12 ⟨rfl, hk, (⟨hc, hG⟩ | ⟨hc, Y', V', b', hG, hS⟩)⟩
           ·have HC := jh (st9_code HSd.out hk HL2.out HNwb.out HL5.out HL6.out hrb hrT HRo.out);have HGr := jh hG;have HRo2 := HRo.out
            have hnb : bE ∉ [tt, mq, dd, gg] := fun hm => by
             have := HL6.out bE hm;omega
            replace hS0 : (fun W => Vl W bE (enc (sN, nn))) w12 := hS0.kf hk hnb
            clear hk hG hnb HSd HRo2;have HNo := jh hc;clear hc;refine hKK _ _ hS0 ?_;intro _;clear hKK KK
            try simp only [Act.put,j1,j2,j3,j4,j5,j6]
            refine wpAnyH_ready (rs := [4]) (by kernel_rfl) (by simp) (AllReadyH.cons rfl (fun KK hKK => ?_) AllReadyH.nil);go_simp;have HOp := mg_add bs bA r E HSJ.out.dir.ok (by omega) (sN, nn) hnn5 w12 HC.out.2.2.1;rw [HCc.out] at HOp;refine HOp.mono ?_;clear HOp;rintro r_ w13 ⟨rfl, (⟨hc2, hb2⟩ | ⟨hc2, hF, hM⟩)⟩
            ·have HBb := jh hb2
             replace hS0 : (fun W => Vl W bE (enc (sN, nn))) w13 := hS0.keep hb2
             clear hb2 hc2;refine hKK _ _ hS0 ?_;intro _;clear hKK KK
             try simp only [Act.put,j1,j2,j3,j4,j5,j6]
             refine jk 5 (v:=?_) rfl (by kernel_rfl) (fun _ _ _=>id) (by rfl) ?_ hS0 ?_;rotate_left
             ·intro W hW;go_simp;try with_reducible rfl
             simp only [Act.put,j1,j2,j3,j4,j5,j6];refine jk 6 (v:=?_) rfl (by kernel_rfl) (fun _ _ _=>id) (by rfl) ?_ hS0 ?_;rotate_left
             ·intro W hW;go_simp;try with_reducible rfl
             simp only [Act.put,j1,j2,j3,j4,j5,j6];refine wpAnyH_done (by kernel_rfl) ?_ _
             go_wp2_with fail
             go_meet
             case rel =>
              exact ⟨cc, rfl, rfl, fi9_fail HC.out HGr.out.rd (Ly.len L9 (by rw [L9_len]; decide) _ _ _ _ _) rfl (by omega) HBb.out HNo.out⟩
            ·exact absurd hc2 HNo.out
           ·subst hc;have HC := jh (st9_code HSd.out hk HL2.out HNwb.out HL5.out HL6.out hrb hrT HRo.out);have HGr := jh hG;have HRo2 := HRo.out
            have hnb : bE ∉ [tt, mq, dd, gg] := fun hm => by
             have := HL6.out bE hm;omega
            replace hS0 : (fun W => Vl W bE (enc (sN, nn))) w12 := hS0.kf hk hnb
            clear hk hG hnb HSd HRo2;have HS := jh hS;clear hS;refine hKK _ _ hS0 ?_;intro _;clear hKK KK
            try simp only [Act.put,j1,j2,j3,j4,j5,j6]
            refine wpAnyH_ready (rs := [4]) (by kernel_rfl) (by simp) (AllReadyH.cons rfl (fun KK hKK => ?_) AllReadyH.nil);go_simp;have HOp := mg_add bs bA r E HSJ.out.dir.ok (by omega) (sN, nn) hnn5 w12 HC.out.2.2.1;rw [HCc.out] at HOp;refine HOp.mono ?_;clear HOp;rintro r_ w13 ⟨rfl, (⟨hc2, hb2⟩ | ⟨hc2, hF, hM⟩)⟩
            ·exact absurd rfl hc2
            ·have HF := jh hF;have HM := jh hM
             replace hS0 : (fun W => Vl W bE (enc (sN, nn))) w13 := vl_fr hS0 hF (by omega)
             clear hF hM;refine hKK _ _ hS0 ?_;intro _;clear hKK KK
             try simp only [Act.put,j1,j2,j3,j4,j5,j6]
             refine jk 5 (v:=?_) rfl (by kernel_rfl) (fun _ _ _=>id) (by rfl) ?_ hS0 ?_;rotate_left
             ·intro W hW;go_simp;try with_reducible rfl
             simp only [Act.put,j1,j2,j3,j4,j5,j6];refine jk 6 (v:=?_) rfl (by kernel_rfl) (fun _ _ _=>id) (by rfl) ?_ hS0 ?_;rotate_left
             ·intro W hW;go_simp;try with_reducible rfl
             simp only [Act.put,j1,j2,j3,j4,j5,j6];refine wpAnyH_done (by kernel_rfl) ?_ _
             go_wp2_with fail
             go_meet
             case rel =>
              exact ⟨0, rfl, rfl, fi9_succ HC.out HGr.out.rd (Ly.len L9 (by rw [L9_len]; decide) _ _ _ _ _) rfl (by omega) HF.out HL5.out h2b hlb HS.out (Nat.le_trans (setE_le _ _ _) (by omega)) (Uq.add HUJ.out (sN, nn) (addC_zero9 HCc.out) _) HM.out hrT⟩
      case rest =>
       obtain ⟨code, rfl, rfl, hFi⟩ := hcut
       obtain ⟨wY, rfl⟩ : ∃ x, x = wc := ⟨wc, rfl⟩
       as_aux_lemma =>
        obtain ⟨hB, hL, ln', Y', hl', hD, hR, hcase⟩ := hFi;have HB := jh hB;have HL := jh hL;have HR := jh hR;have HD := jh hD;have HLl := jh hl';clear hB hL hR hD hl';rcases hcase with ⟨hc, hO, hV, T9, hM⟩ | ⟨rfl, V', b', E', T9, S9, hS, hE', hU, hM, hT9, hS9, hrT9⟩
        ·skip
         as_aux_lemma =>
          have hcb : (code != 0) = true := by simp [bne, hc]
          have HO := jh hO;have HV := jh hV;obtain ⟨g8, c8, p8, t8, M8, hGm, -, -⟩ := hM;have HVr : Hid (Vl wY r [.slice (some ⟨g8, 0, none⟩) 9 c8, .slice p8 0 t8, .int .i64 38]) := jh ⟨hGm.lt, fun j u hj => by have := hGm.c j u hj; rwa [Nat.zero_add] at this, fun j hj => by have := hGm.z j hj; rwa [Nat.zero_add] at this⟩;have v0 : wY.cell? ⟨ro, 0, none⟩ = some (.slice (some ⟨go, 0, none⟩) 9 co) := hV.c 0 _ rfl;have v1' : wY.cell? ⟨ro, 1, none⟩ = some (.slice po 0 cto) := hV.c 1 _ rfl;have v2 : wY.cell? ⟨ro, 2, none⟩ = some (.int .i64 38) := hV.c 2 _ rfl;clear hc hO hV hGm
          go_wp2_with (refine wpList_store_list rfl 46 (.tmp 9) (.tmp 134) rfl r [.slice (some ⟨g8, 0, none⟩) 9 c8, .slice p8 0 t8, .int .i64 38] [.slice (some ⟨go, 0, none⟩) 9 co, .slice po 0 cto, .int .i64 38] rfl rfl HVr.out rfl Tryz.isizeGr (by simp [Value.oneCell']) ?_; intro wZ FZ HKZ; clear v0 v1' v2)
          have hrn : r ∉ [tt, mq, dd, gg] := fun hm => by
           have := HL5.out r hm;omega
          have HRo2 := HRo.out;have hbz := HB.out.size;have HBZ := jh (HB.out.trans (HKZ.out.below (by omega) (by omega) hbz));have HLZ := jh (HL.out.kp HKZ.out (by omega) (by omega));have HRZ := jh (HR.out.kp HKZ.out hrn hrn)
          have HMZ : Hid (Mg wZ bs wZ.heap.size r 38 E) := jh (by
           obtain ⟨g7, c7, p7, t7, M7, e1, e2, hRv, hmap⟩ := HO.out;have hlt := RvG.lt hRv
           have hro8 : r < wo.heap.size := by omega
           have hRz := hRv.kf (L := [r]) (Kf.of_kp HKZ.out (List.mem_cons_self ..) (List.mem_cons_self ..)) (fun v hv k hk hm => by
            have := (hlt v hv k hk).1;simp only [List.mem_cons, List.not_mem_nil, or_false] at hm
            omega)
           rw [e1, e2] at hRz hlt;refine Mg.of (g := g7) (cap := c7) (pt := p7) (ct := t7) (M := M7) ⟨fun j u hj => ?_, fun j hj => ?_, FZ.out.lt, hRz.mn (by omega), fun v hv e => ?_⟩ hmap
           ·rw [Nat.zero_add];refine FZ.out.c j u ?_;rw [← hj, ← e1, ← e2]
           ·rw [Nat.zero_add];exact FZ.out.z j hj
           ·have := (hlt v hv _ e).1
            omega)
          clear hrn hbz HKZ FZ HVr HO HV HB HL HR HRo2
          go_wp2_with fail
          go_roundw
          case rel => exact ⟨k + 1, by omega, by omega, by go_num, HBZ.out, HLZ.out, tt, mq, ln', Y', V1, b1, E, HRZ.out.mono (by omega), by rw [HD.out]; exact HSJ.out, by omega, HUJ.out, HMZ.out⟩
          case measure => simp [Go.RowKit.intOf]; omega
        ·skip
         as_aux_lemma =>
          have HS := jh hS;have HU := jh hU;have HM2 := jh hM;have HT9 := jh hT9;have HS9 := jh hS9;have HRT9 := jh hrT9;clear hS hU hM hT9 hS9 hrT9;have HCm := jh (commit7 tt mq dd gg ((7000 + 50000 * k) + 40000) Y' HLl.out (by omega) wY HR.out)
          go_wp2_with fail
          refine HCm.out.mono ?_;rintro e wp9 ⟨rfl, hRp, hk⟩
          have HBp := jh (HB.out.trans (hk.below (B := w2.heap.size) (fun a ha => by
           simp only [List.mem_cons, List.not_mem_nil, or_false] at ha
           omega) HB.out.size))
          have HLp := jh (HL.out.kf hk HNwb.out);have HRp := jh hRp;have HMp := jh (HM2.out.kf hk HT9.out HS9.out hrb HRT9.out);clear hRp hk HCm HR HB HL HM2 HT9 HS9 HRT9;have HBg := jh (begin7 l tt mq dd gg ((7000 + 50000 * k) + 40000 + 92) Y' wp9 HRp.out HLp.out)
          go_wp2_with fail
          refine HBg.out.mono ?_;rintro e ws ⟨t2, m2, rfl, ht2, hm2, hRs, hbs⟩;have HRs := jh hRs;have HBs := jh (HBp.out.trans (hbs.mono HBp.out.size));have HLs := jh (HLp.out.keep hbs);have HMs := jh (HMp.out.keep hbs);have hzp := HBp.out.size;have hlp := HLp.out.lt
          have hrp : r < wp9.heap.size := by
           obtain ⟨_, _, _, _, _, hG, _⟩ := HMp.out;exact hG.lt
          have HNs : Hid (l ∉ [t2, m2, dd, gg]) := jh (fun ha => by
           have := HNl.out;simp only [List.mem_cons, List.not_mem_nil, or_false] at ha this
           omega)
          have HL7 : Hid (∀ a ∈ [t2, m2, dd, gg], a < bs ∨ wp9.heap.size ≤ a) := jh (fun a ha => by
           simp only [List.mem_cons, List.not_mem_nil, or_false] at ha
           omega)
          have ht22 : w2.heap.size ≤ t2 := by omega
          have hm22 : w2.heap.size ≤ m2 := by omega
          clear hRs hbs HBg HRp HBp HLp HMp ht2 hm2;have HOp := jh (open9 HC9.out ⟨[], Y'⟩ t2 m2 dd gg n ((7000 + 50000 * k) + 40000 + 92) Y' vr vm vg ws (HCFx.out ws HBs.out) HRs.out)
          go_wp2_with fail
          refine HOp.out.mono ?_;rintro e wu ⟨q2, p2, rfl, -, -, hGu, hbu⟩;have HGu := jh hGu;have HBu := jh (HBs.out.trans (hbu.mono HBs.out.size));have HLu := jh (HLs.out.keep hbu);have HMu := jh (HMs.out.keep hbu);clear hGu hbu HOp HRs HBs HLs HMs;have HLi := jh (dlist_any (ln := ⟨[], Y'⟩) q2 p2 t2 m2 dd gg 0 B0 P0 8 DA (8 + 30 % 60) N ((7000 + 50000 * k) + 40000 + 92) g Y' V' 1 (by decide) (by decide) b' E' HS.out.dir HS.out.tab (by omega) HGG.out wu HGu.out)
          go_wp2_with fail
          refine HLi.out.mono ?_;rintro e wv ⟨v1, base1, rfl, hba1, hO1, hGv, hk⟩;have hult := HGu.out.rd.lts
          have HLT : Hid (∀ a ∈ [t2, m2, dd, gg], a < wu.heap.size) := jh (fun a ha => by
           simp only [List.mem_cons, List.not_mem_nil, or_false] at ha
           omega)
          clear hult
          have HBv := jh (HBu.out.trans (hk.below (B := w2.heap.size) (fun a ha => by
           simp only [List.mem_cons, List.not_mem_nil, or_false] at ha
           omega) HBu.out.size))
          have HLv := jh (HLu.out.kf hk HNs.out);have HGv := jh hGv;have HMv := jh (HMu.out.kf hk HL7.out hrb hrp);have HE1 := jh hO1;have hzuv := hk.size;clear hk hO1 hGv HLi HGu HBu HLu HMu;have HRl := jh (mg_list2 bs wp9.heap.size r E' HS.out.dir.ok (by omega) wv HMv.out)
          go_wp2_with fail
          refine HRl.out.mono ?_;rintro e ww ⟨v2', rfl, hE2, hb⟩;have hzvw := hb.size;have HGw := jh (HGv.out.keep hb);have HBw := jh (HBv.out.trans (hb.mono HBv.out.size));have HLw := jh (HLv.out.keep hb);have HMw := jh (HMv.out.keep hb);have HE1w := jh (ownsRow_below HE1.out hb);have HE2 := jh hE2;clear hb hE2 HRl HGv HBv HLv HMv HE1;have HNd := jh (gnode_in (ln := ⟨[], Y'⟩) q2 p2 t2 m2 dd gg 0 B0 P0 8 DA (8 + 30 % 60) N ((7000 + 50000 * k) + 40000 + 92 + 1001) g Y' V' 1 (by decide) (by decide) (by omega) HS.out.tab HGG.out ww HGw.out)
          go_wp2_with fail
          refine HNd.out.mono ?_;rintro e wx ⟨rfl, hGx, hk⟩
          have HBx := jh (HBw.out.trans (hk.below (B := w2.heap.size) (fun a ha => by
           simp only [List.mem_cons, List.not_mem_nil, or_false] at ha
           omega) HBw.out.size))
          have HLx := jh (HLw.out.kf hk HNs.out);have HGx := jh hGx;have HMx := jh (HMw.out.kf hk HL7.out hrb hrp)
          have HE1x := jh (ownsRow_kfG HE1w.out hk (fun k9 h9 hm => by
           have h8 := (World.ownsRow.lt HE1w.out k9 h9).1;have := HLT.out k9 hm
           omega))
          have HE2x := jh (ownsRow_kfG HE2.out hk (fun k9 h9 hm => by
           have h8 := (World.ownsRow.lt HE2.out k9 h9).1;have := HLT.out k9 hm
           omega))
          clear hk hGx HNd HGw HBw HLw HMw HE1w HE2
          go_upto_region 38 with (first | (refine wpList_alloc_list (w := wx) rfl 77 rfl (ndc zpt) Tryz.zero27 ?_; intro wx2 Fx hbx hzx; simp only [Act.put,j1,j2,j3,j4,j5,j6]) | (refine wpList_store_list rfl 77 (.tmp 27) (.tmp 157) rfl wx.heap.size (ndc zpt) (ndc (V' 1)) rfl rfl Fx.out rfl (size27 _) (ndc_one _) ?_; intro wy FN HKN; have hbN := below_new hbx HKN.out; clear hbx Fx HKN))
          have HGy := jh (HGx.out.keep hbN);have HBy := jh (HBx.out.trans (hbN.mono HBx.out.size));have HLy := jh (HLx.out.keep hbN);have HMy := jh (HMx.out.keep hbN);have HE1y := jh (ownsRow_below HE1x.out hbN);have HE2y := jh (ownsRow_below HE2x.out hbN);have hxl := HGx.out.rd.lts
          obtain ⟨bN, hbNe⟩ : ∃ y, wx.heap.size = y := ⟨_, rfl⟩
          have HNN : Hid (bN ∉ [t2, m2, dd, gg]) := jh (fun hm => by
           simp only [List.mem_cons, List.not_mem_nil, or_false] at hm
           omega)
          rw [hbNe] at FN
          try rw [hbNe]
          clear hbN hzx hxl hbNe HGx HBx HLx HMx HE1x HE2x;have HEm := jh (dempty_any (ln := ⟨[], Y'⟩) q2 p2 t2 m2 dd gg 0 B0 P0 8 DA (8 + 30 % 60) N ((7000 + 50000 * k) + 40000 + 92 + 1001 + 1) g Y' V' 1 (by decide) (by decide) b' E' HS.out.dir HS.out.tab (by omega) HGG.out wy HGy.out)
          go_wp2_with fail
          refine HEm.out.mono ?_;rintro e wz ⟨rfl, hGz, hk⟩
          have HBz := jh (HBy.out.trans (hk.below (B := w2.heap.size) (fun a ha => by
           simp only [List.mem_cons, List.not_mem_nil, or_false] at ha
           omega) HBy.out.size))
          have HLz := jh (HLy.out.kf hk HNs.out);have HGz := jh hGz;have HMz := jh (HMy.out.kf hk HL7.out hrb hrp);have HFN := jh (FN.out.kf hk HNN.out)
          have HE1z := jh (Es.own (ownsRow_kfG HE1y.out hk (fun k9 h9 hm => by
           have h8 := (World.ownsRow.lt HE1y.out k9 h9).1;have := HLT.out k9 hm
           omega)))
          have HE2z := jh (Es.own (ownsRow_kfG HE2y.out hk (fun k9 h9 hm => by
           have h8 := (World.ownsRow.lt HE2y.out k9 h9).1;have := HLT.out k9 hm
           omega)))
          clear hk hGz HEm HGy HBy HLy HMy FN HE1y HE2y
          obtain ⟨LL, hLL⟩ : ∃ L, liveE E' = L := ⟨_, rfl⟩
          obtain ⟨bb, hbb⟩ : ∃ b, E'.all vacE = b := ⟨_, rfl⟩
          have hbl : bb = decide (LL.length = 0) := by rw [← hbb, ← hLL, all_live]
          have hsm : smE LL := fun e he => smE_of HS.out.dir.ok e (by
           rw [← hLL] at he
           exact (List.mem_filter.1 he).1)
          have hLl : LL.length ≤ 2000 := by
           have h9 := liveE_len E' E'.length;rw [List.take_of_length_le (Nat.le_refl _), hLL] at h9;omega
          have hsz : V' 1 3 = ((16 * E'.length : Nat) : Int) := HS.out.dir.s;rw [hLL] at HE1z HE2z;rw [hbb];have HSm := jh hsm;have HBL := jh hbl;clear hsm hLL hbb hbl;obtain ⟨g5, c5, pa5, c6, r50, r59⟩ := HMz.out.cells;have r53 : wz.cell? ⟨bN, 3, none⟩ = some (.int .u32 (V' 1 3)) := HFN.out.c 3 _ rfl;rw [hsz] at r53;obtain ⟨pb, cb, hvb, -⟩ := id HE2z.out;subst hvb
          obtain ⟨nl, hnl⟩ : ∃ z, LL.length = z := ⟨_, rfl⟩
          have hq : ((nl : Int) == 0) = bb := by
           rw [HBL.out, hnl]
           by_cases h9 : nl = 0
           ·subst h9; rfl
           ·rw [decide_eq_false h9];exact beq_eq_false_iff_ne.2 (by omega)
          have hqq : (bb != bb) = false := by cases bb <;> rfl
          obtain ⟨el, hel⟩ : ∃ z, E'.length = z := ⟨_, rfl⟩
          rw [hel] at r59 r53 hE'
          obtain ⟨z16, hz16⟩ : ∃ z, 16 * el = z := ⟨_, rfl⟩
          rw [hz16] at r53;have hw1 : IntKind.i64.wrap (z16 : Int) = z16 := IntWalk.i64_in _ (by omega)
          have hw2 : IntKind.i64.wrap (16 * (el : Int)) = z16 := by rw [IntWalk.i64_in _ (by omega)]; omega
          have HNl := jh hnl;have HEl := jh hel;have HEl1 := jh hE';have HLl2 := jh hLl;have R50 := jh r50;have R59 := jh r59;have R53 := jh r53;have HL50 := jh (World.block_lt_of_cell? wz _ r50);have HL59 := jh (World.block_lt_of_cell? wz _ r59);have HL53 := jh (World.block_lt_of_cell? wz _ r53)
          try rw [hnl]
          clear hnl hel hz16 hE' hLl r50 r59 r53 hsz
          go_upto_region 39 with fail
          refine wp_region_held (S := fun W => Below wz.heap.size wz W) (by kernel_rfl) ?_;change wpAnyH _ _ _ _ _ _ _ _ (World.drew _);have hS0 : (fun W => Below wz.heap.size wz W) wz.drew := (Below.refl _ _).drew
          obtain ⟨y0, hy0⟩ : ∃ x, World.drew wz = x := ⟨_, rfl⟩
          rw [hy0] at hS0 ⊢;clear hy0;refine jk 0 (v:=?_) rfl (by kernel_rfl) (fun _ _ _=>id) (by rfl) ?_ hS0 ?_;rotate_left
          ·intro W hW;go_simp;try with_reducible rfl
          simp only [Act.put,j1,j2,j3,j4,j5,j6];refine jx 1 (v := (.bool false)) rfl (by kernel_rfl) (fun _ _ _=>id) (Or.inl ⟨by rfl, ?_⟩) hS0 ?_
          ·intro W hW;go_simp
           try with_reducible rfl
          simp only [Act.put,j1,j2,j3,j4,j5,j6];refine jk 2 (v:=?_) rfl (by kernel_rfl) (fun _ _ _=>id) (by rfl) ?_ hS0 ?_;rotate_left
          ·intro W hW;go_simp;try with_reducible rfl
          simp only [Act.put,j1,j2,j3,j4,j5,j6];refine jk 3 (v:=?_) rfl (by kernel_rfl) (fun _ _ _=>id) (by rfl) ?_ hS0 ?_;rotate_left
          ·intro W hW;go_simp;try with_reducible rfl
          simp only [Act.put,j1,j2,j3,j4,j5,j6];refine jx 4 (v := (.bool false)) rfl (by kernel_rfl) (fun _ _ _=>id) (Or.inl ⟨by rfl, ?_⟩) hS0 ?_
          ·intro W hW;go_simp
           try with_reducible rfl
          simp only [Act.put,j1,j2,j3,j4,j5,j6];refine jx 5 (v := (.bool false)) rfl (by kernel_rfl) (fun _ _ _=>id) (Or.inl ⟨by rfl, ?_⟩) hS0 ?_
          ·intro W hW;go_simp
           try with_reducible rfl
          simp only [Act.put,j1,j2,j3,j4,j5,j6];refine jk 6 (v:=?_) rfl (by kernel_rfl) (fun _ _ _=>id) (by rfl) ?_ hS0 ?_;rotate_left
          ·intro W hW;go_simp;try with_reducible rfl
          simp only [Act.put,j1,j2,j3,j4,j5,j6];refine jk 7 (v:=?_) rfl (by kernel_rfl) (fun _ _ _=>id) (by rfl) ?_ hS0 ?_;rotate_left
          ·intro W hW;go_simp;try with_reducible rfl
          simp only [Act.put,j1,j2,j3,j4,j5,j6];refine jx 8 (v := (.bool false)) rfl (by kernel_rfl) (fun _ _ _=>id) (Or.inl ⟨by rfl, ?_⟩) hS0 ?_
          ·intro W hW;go_simp
           try with_reducible rfl
          simp only [Act.put,j1,j2,j3,j4,j5,j6];refine jx 9 (v := (.bool false)) rfl (by kernel_rfl) (fun _ _ _=>id) (Or.inl ⟨by rfl, ?_⟩) hS0 ?_
          ·intro W hW;go_simp
           try with_reducible rfl
          simp only [Act.put,j1,j2,j3,j4,j5,j6];refine jk 10 (v:=?_) rfl (by kernel_rfl) (fun _ _ _=>id) (by rfl) ?_ hS0 ?_;rotate_left
          ·intro W hW;go_simp;try with_reducible rfl
          simp only [Act.put,j1,j2,j3,j4,j5,j6];refine jk 11 (v:=?_) rfl (by kernel_rfl) (fun _ _ _=>id) (by rfl) ?_ hS0 ?_;rotate_left
          ·intro W hW;go_simp;try with_reducible rfl
          simp only [Act.put,j1,j2,j3,j4,j5,j6];refine jk 12 (v:=?_) rfl (by kernel_rfl) (fun _ _ _=>id) (by rfl) ?_ hS0 ?_;rotate_left
          ·intro W hW;go_simp;try with_reducible rfl
          simp only [Act.put,j1,j2,j3,j4,j5,j6];refine wpAnyH_ready (rs := [13]) (by kernel_rfl) (by simp) (AllReadyH.cons rfl (fun KK hKK => ?_) AllReadyH.nil);go_simp
          try rw [← HNl.out]
          refine (same_any _ _ LL LL HSm.out HSm.out HLl2.out y0 (HE1z.out.keep hS0) (HE2z.out.keep hS0)).mono ?_;rintro r_ y1 ⟨rfl, hb⟩;rw [decide_eq_true (rfl : LL = LL)]
          try rw [HNl.out]
          have hS1 : (fun W => Below wz.heap.size wz W) y1 := hS0.trans (hb.mono hS0.size);clear hS0 hb;have hS0 := hS1;clear hS1;refine hKK _ _ hS0 ?_;intro _;clear hKK KK
          try simp only [Act.put,j1,j2,j3,j4,j5,j6]
          refine jx 14 (v := (.bool false)) rfl (by kernel_rfl) (fun _ _ _=>id) (Or.inl ⟨by rfl, ?_⟩) hS0 ?_
          ·intro W hW;go_simp
           try with_reducible rfl
          simp only [Act.put,j1,j2,j3,j4,j5,j6];refine jx 15 (v := (.bool false)) rfl (by kernel_rfl) (fun _ _ _=>id) (Or.inl ⟨by rfl, ?_⟩) hS0 ?_
          ·intro W hW;go_simp
           try with_reducible rfl
          simp only [Act.put,j1,j2,j3,j4,j5,j6];refine jk 16 (v:=?_) rfl (by kernel_rfl) (fun _ _ _=>id) (by rfl) ?_ hS0 ?_;rotate_left
          ·intro W hW;go_simp;try with_reducible rfl
          simp only [Act.put,j1,j2,j3,j4,j5,j6];refine jk 17 (v:=?_) rfl (by kernel_rfl) (fun _ _ _=>id) (by rfl) ?_ hS0 ?_;rotate_left
          ·intro W hW;go_simp;try with_reducible rfl
          simp only [Act.put,j1,j2,j3,j4,j5,j6];refine jk 18 (v:=?_) rfl (by kernel_rfl) (fun _ _ _=>id) (by rfl) ?_ hS0 ?_;rotate_left 1
          ·intro W hW;have h1 := (hW.cell (p := ⟨bN, 3, none⟩) HL53.out).trans R53.out;go_simp
           try with_reducible rfl
          simp only [Act.put,j1,j2,j3,j4,j5,j6];refine jk 19 (v:=?_) rfl (by kernel_rfl) (fun _ _ _=>id) (by rfl) ?_ hS0 ?_;rotate_left
          ·intro W hW;go_simp;try with_reducible rfl
          simp only [Act.put,j1,j2,j3,j4,j5,j6];refine jk 20 (v:=?_) rfl (by kernel_rfl) (fun _ _ _=>id) (by rfl) ?_ hS0 ?_;rotate_left
          ·intro W hW;go_simp;try with_reducible rfl
          simp only [Act.put,j1,j2,j3,j4,j5,j6];refine jk 21 (v:=?_) rfl (by kernel_rfl) (fun _ _ _=>id) (by rfl) ?_ hS0 ?_;rotate_left 1
          ·intro W hW;have h1 := (hW.cell (p := ⟨r, 0, none⟩) HL50.out).trans R50.out;go_simp
           try with_reducible rfl
          simp only [Act.put,j1,j2,j3,j4,j5,j6];refine jk 22 (v:=?_) rfl (by kernel_rfl) (fun _ _ _=>id) (by rfl) ?_ hS0 ?_;rotate_left
          ·intro W hW;go_simp;try with_reducible rfl
          simp only [Act.put,j1,j2,j3,j4,j5,j6];refine jk 23 (v:=?_) rfl (by kernel_rfl) (fun _ _ _=>id) (by rfl) ?_ hS0 ?_;rotate_left
          ·intro W hW;go_simp;try with_reducible rfl
          simp only [Act.put,j1,j2,j3,j4,j5,j6];refine jk 24 (v:=?_) rfl (by kernel_rfl) (fun _ _ _=>id) (by rfl) ?_ hS0 ?_;rotate_left 1
          ·intro W hW;have h1 := (hW.cell (p := ⟨g5, 9, none⟩) HL59.out).trans R59.out;go_simp
           try with_reducible rfl
          simp only [Act.put,j1,j2,j3,j4,j5,j6];refine jk 25 (v:=?_) rfl (by kernel_rfl) (fun _ _ _=>id) (by rfl) ?_ hS0 ?_;rotate_left
          ·intro W hW;go_simp;try with_reducible rfl
          simp only [Act.put,j1,j2,j3,j4,j5,j6];refine jk 26 (v:=?_) rfl (by kernel_rfl) (fun _ _ _=>id) (by rfl) ?_ hS0 ?_;rotate_left
          ·intro W hW;go_simp;try with_reducible rfl
          simp only [Act.put,j1,j2,j3,j4,j5,j6];refine jx 27 (v := (.bool false)) rfl (by kernel_rfl) (fun _ _ _=>id) (Or.inl ⟨by rfl, ?_⟩) hS0 ?_
          ·intro W hW;go_simp
           try with_reducible rfl
          simp only [Act.put,j1,j2,j3,j4,j5,j6];refine jx 28 (v := (.bool false)) rfl (by kernel_rfl) (fun _ _ _=>id) (Or.inl ⟨by rfl, ?_⟩) hS0 ?_
          ·intro W hW;go_simp
           try with_reducible rfl
          simp only [Act.put,j1,j2,j3,j4,j5,j6];refine jk 29 (v:=?_) rfl (by kernel_rfl) (fun _ _ _=>id) (by rfl) ?_ hS0 ?_;rotate_left
          ·intro W hW;go_simp;try with_reducible rfl
          simp only [Act.put,j1,j2,j3,j4,j5,j6];refine jk 30 (v:=?_) rfl (by kernel_rfl) (fun _ _ _=>id) (by rfl) ?_ hS0 ?_;rotate_left
          ·intro W hW;go_simp;try with_reducible rfl
          simp only [Act.put,j1,j2,j3,j4,j5,j6];refine jk 31 (v:=?_) rfl (by kernel_rfl) (fun _ _ _=>id) (by rfl) ?_ hS0 ?_;rotate_left
          ·intro W hW;go_simp;try with_reducible rfl
          simp only [Act.put,j1,j2,j3,j4,j5,j6];refine jk 32 (v:=?_) rfl (by kernel_rfl) (fun _ _ _=>id) (by rfl) ?_ hS0 ?_;rotate_left
          ·intro W hW;go_simp;try with_reducible rfl
          simp only [Act.put,j1,j2,j3,j4,j5,j6];refine jx 33 (v := (.bool bb)) rfl (by kernel_rfl) (fun _ _ _=>id) (Or.inl ⟨by rfl, ?_⟩) hS0 ?_
          ·intro W hW;go_simp
           try with_reducible rfl
          simp only [Act.put,j1,j2,j3,j4,j5,j6];refine jx 34 (v := (.bool false)) rfl (by kernel_rfl) (fun _ _ _=>id) (Or.inl ⟨by rfl, ?_⟩) hS0 ?_
          ·intro W hW;go_simp
           try with_reducible rfl
          simp only [Act.put,j1,j2,j3,j4,j5,j6];refine jx 35 (v := (.bool false)) rfl (by kernel_rfl) (fun _ _ _=>id) (Or.inl ⟨by rfl, ?_⟩) hS0 ?_
          ·intro W hW;go_simp
           try with_reducible rfl
          simp only [Act.put,j1,j2,j3,j4,j5,j6];refine wpAnyH_done (by kernel_rfl) ?_ _;have HS0 := jh hS0;clear hq hqq hw1 hw2 hS0
          go_wp2_with fail
          go_roundw
          case rel => exact ⟨k + 1, by omega, by omega, by go_num, HBz.out.trans (HS0.out.mono HBz.out.size), HLz.out.keep HS0.out, t2, m2, ⟨[], Y'⟩, Y', V', b', E', (HGz.out.rd.keep HS0.out).mono (by omega), HS.out, by rw [HEl.out]; exact HEl1.out, HU.out, Mg.top (HMz.out.keep HS0.out)⟩
          case measure => simp [Go.RowKit.intOf]; omega
  ·obtain rfl : k = n9 := by omega
   have hb := HBJ.out;clear HRJ HSJ HLJ HBJ HMJ
   go_wp2_with fail
   go_ret
   exact ⟨rfl, HB2.out.trans (hb.mono hw2)⟩
end Go.Proofs.YtgdapkbenmlabaaGreatDoor
