import Derived.Test.YteaoabppppbkoaaGreatDoorJA3
/- I13 -/
namespace Go.Proofs.YteaoabppppbkoaaGreatDoor
set_option linter.unusedSimpArgs false
set_option linter.unusedVariables false
open Go.RowKit Go.Maps

variable {ln : Lm}
set_option maxHeartbeats 40000000 in
set_option maxRecDepth 2000000 in
/-- the directory that a place tells of is removed: it has no entries -/
theorem itdrop_any (q p t m d gg lab B0 P0 M DA NB N K : Nat) (g : Cf.Ge) (Y V : Nat → Nat → Int) (E : List Rc) (hI : Tab P0 M Y V) (hK : K < 180000000) (hg : GG g B0 P0 M DA NB N) (w : World) (h : Gr w q p t m d gg lab g B0 NB N ln Y K) (bd base : Nat) (v : Value) (hbd : bd ∉ [t, m, d, gg]) (hl : E.length ≤ 1024) (hV : Vl w bd (tcl q v)) (hO : w.ownsRow base 172 4 v E.length (flatR E))
    (i : Nat) (e : Rc) (hie : E[i]? = some e) (h1 : 1 ≤ e.2) (h2 : e.2 ≤ M) (bz : Nat → Nat) (hD : Dir B0 DA NB Y (V e.2) bz []) (hT : Has ln (P0 + (e.2 - 1) / 2)) (Q : Int → World → Prop)
    (hW : ∀ Y1, tabW P0 e.2 (genN (V e.2 2)) Y = Y1 → ∀ W sb, Gr W q p t m d gg lab g B0 NB N ln Y1 (K + 2000) → Kf w W [t, m, d, gg] → w.heap.size ≤ sb → Fl W sb 8 (rcF zR) → Calls Tryz.prog 102 #[.pointer (some ⟨q, 0, none⟩), .int .i64 2, .int .i64 ((8 * i : Nat) : Int), .slice (some ⟨sb, 0, none⟩) 8 8] W fun r w' => ∃ c, r = .returned (.int .i64 c) ∧ Kf W w' [t, m, d, gg] ∧ Q c w') :
    Calls Tryz.prog 77 #[.pointer (some ⟨bd, 0, none⟩), .int .i64 i] w fun r w' => ∃ c, r = .returned (.int .i64 c) ∧ Q c w' := by
  have hm128 := hg.m128
  have hin : i < E.length := (List.getElem?_eq_some_iff.1 hie).1
  obtain ⟨pa, cap, hv⟩ := Cf.ownsRow_form hO
  subst hv
  obtain ⟨g0, rfl, -, -⟩ := ownR_some hO (by omega)
  have hra := ownR_at hO rfl hie
  have cE : w.cell? ⟨g0, i * 4 + 3, none⟩ = some (.int .u16 e.2) := hra 3 _ rfl
  have HEm := Lib.hid (fun W hW => dempty_any (ln := ln) q p t m d gg lab B0 P0 M DA NB N K g Y V e.2 h1 h2 bz [] hD hI (by omega) hg W hW)
  have hz : ∀ j, 4 ≤ j → j < 12 → V e.2 j = 0 := fun j j1 j2 => by
    have hr := hD.fu.fi.root
    have hno : ∀ c, ndS ((16 * ([] : List En).length + 63) / 64) c = true → False := fun c hc => by
      rw [ndS_iff] at hc
      simp at hc
    have key : ∀ c, isR c = true → V e.2 (rtI c) = 0 := fun c hc => by
      have := hr c hc
      rw [if_neg (fun hh => hno c hh)] at this
      exact this
    have hj : j = 4 ∨ j = 5 ∨ j = 6 ∨ j = 7 ∨ j = 8 ∨ j = 9 ∨ j = 10 ∨ j = 11 := by omega
    rcases hj with rfl | rfl | rfl | rfl | rfl | rfl | rfl | rfl
    · exact key 0 rfl
    · exact key 1 rfl
    · exact key 2 rfl
    · exact key 3 rfl
    · exact key 4 rfl
    · exact key 5 rfl
    · exact key 2000 rfl
    · exact key 2001 rfl
  have hk2 := hD.k
  have HRm := Lib.hid (fun W hW => fremove_none (ln := ln) q p t m d gg lab B0 P0 M DA NB N (K + 1001) g Y V e.2 h1 h2 (by rw [hk2]; decide) (by rw [hk2]; decide) hz hT hI (by omega) hg W hW)
  obtain ⟨Y1, hY1⟩ : ∃ Y1, tabW P0 e.2 (genN (V e.2 2)) Y = Y1 := ⟨_, rfl⟩
  rw [hY1] at HRm
  have HWr := Lib.hid (hW Y1 hY1)
  have HG0 := Lib.hid h
  have HV := Lib.hid hV
  have HND := Lib.hid hbd
  obtain ⟨n, hn⟩ : ∃ n, E.length = n := ⟨_, rfl⟩
  rw [hn] at HV hin hl
  obtain ⟨on, hon⟩ : ∃ z : Int, (e.2 : Int) = z := ⟨_, rfl⟩
  rw [hon] at HEm HRm cE
  have hwr : IntKind.i64.wrap on = on := IntWalk.i64_in _ (by omega)
  have hi0 : (0 : Int) ≤ i := by omega
  have hi1 : (i : Int) < n := by omega
  have HI1 := Lib.hid (show i ≤ 1024 by omega)
  have c0 := HV.out.c 0 _ rfl
  have c1 := HV.out.c 1 _ rfl
  clear hI hK hg h hbd hV hO hie h1 h2 hD hT hW hm128 hra hz hk2 hY1 hn hon hl
  go_enter Tryz.func77, Tryz.ntmps77
  go_wp2_with fail
  clear c1 cE
  refine (HEm.out w HG0.out).mono ?_
  rintro r w1 ⟨rfl, hG, hk⟩
  have HG1 := Lib.hid hG
  have HK1 := Lib.hid hk
  have HV1 := Lib.hid (HV.out.kf hk HND.out)
  clear hG hk HEm HG0 c0
  have c0 := HV1.out.c 0 _ rfl
  have hall : (([] : List En).all vacE) = true := rfl
  rw [hall]
  go_wp2_with fail
  refine (HRm.out w1 HG1.out).mono ?_
  rintro r w2 ⟨rfl, hG, hk⟩
  have HG2 := Lib.hid hG
  have HK2 := Lib.hid (HK1.out.trans hk)
  have HV2 := Lib.hid (HV1.out.kf hk HND.out)
  have hk2s := HK2.out.size
  clear hG hk HRm HG1 HK1 HV1 c0 hall
  go_wp2_with (refine wpList_yields (.agg (rcc zR).toArray) (yields_bld0 (by rfl) 172 rfl _ Tryz.buildRc0) ?_)
  refine (iput_any q bd (.slice (some ⟨g0, 0, none⟩) n cap) zR zR_bd i HI1.out Q w2 HV2.out (fun W sb hbW hsb hF => ?_)).mono ?_
  · refine (HWr.out W sb ((HG2.out.keep hbW).mono (Lm.le_refl _) (by omega)) (HK2.out.more hbW) (by omega) hF).mono ?_
    rintro x w' ⟨c, rfl, hk, hq⟩
    exact ⟨c, rfl, (HV2.out.keep hbW).kf hk HND.out, hq⟩
  rintro r w3 ⟨c, rfl, hq⟩
  have HQq := Lib.hid hq
  clear hq
  go_wp2_with fail
  go_ret
  exact ⟨c, rfl, HQq.out⟩
set_option maxHeartbeats 40000000 in
set_option maxRecDepth 2000000 in
/-- the own directory of a node, one without entries, is dropped -/
theorem idrop_old (q p t m d gg lab B0 P0 M DA NB N K : Nat) (g : Cf.Ge) (Y V : Nat → Nat → Int) (h2 : 2 ≤ M) (b0 : Nat → Nat) (E : List Rc) (hD : It B0 DA NB Y (V 2) b0 E) (hI : Tab P0 M Y V) (hK : K < 170000000) (hg : GG g B0 P0 M DA NB N) (w : World) (h : Gr w q p t m d gg lab g B0 NB N ln Y K) (x : In) (hx : bdI x) (e0 : Rc) (he0 : e0 ∈ E) (hm0 : mtI x e0 = true) (Q : Int → World → Prop)
    (hW : ∀ i e, E[i]? = some e → mtI x e = true → (∀ (j : Nat) (e' : Rc), j < i → E[j]? = some e' → mtI x e' = false) → 1 ≤ e.2 ∧ e.2 ≤ M ∧ Has ln (P0 + (e.2 - 1) / 2) ∧ (∃ bz, Dir B0 DA NB Y (V e.2) bz []) ∧ ∀ Y1, tabW P0 e.2 (genN (V e.2 2)) Y = Y1 → ∀ W sb, Gr W q p t m d gg lab g B0 NB N ln Y1 (K + 4000) → Kf w W [t, m, d, gg] → w.heap.size ≤ sb → Fl W sb 8 (rcF zR) → Calls Tryz.prog 102 #[.pointer (some ⟨q, 0, none⟩), .int .i64 2, .int .i64 ((8 * i : Nat) : Int), .slice (some ⟨sb, 0, none⟩) 8 8] W fun r w' => ∃ c, r = .returned (.int .i64 c) ∧ Kf W w' [t, m, d, gg] ∧ Q c w') :
    Calls Tryz.prog 37 #[.pointer (some ⟨q, 0, none⟩), .agg (ink x).toArray] w fun r w' => ∃ c, r = .returned (.int .i64 c) ∧ Q c w' := by
  obtain ⟨dI, huI, hdI⟩ := Tryz.descIno
  have HUI := Lib.hid huI
  have HDI := Lib.hid hdI
  have HOp := Lib.hid (fun W hW => iopen_in (ln := ln) q p t m d gg lab B0 P0 M DA NB N K g Y V h2 b0 E hD hI (by omega) hg W hW)
  have HG0 := Lib.hid h
  have hsm := smR_of hD.ok
  have hl := hD.n
  have h0lt : ∀ a ∈ [q, p, t, m, d, gg], a < w.heap.size := fun a ha => by
    obtain ⟨l1, l2, l3, l4, l5, l6⟩ := h.lts
    simp only [List.mem_cons, List.not_mem_nil, or_false] at ha
    rcases ha with rfl | rfl | rfl | rfl | rfl | rfl <;> assumption
  have H0 := Lib.hid h0lt
  have HFi := Lib.hid (fun bd base v W hV hO => ifind_any q bd base v E hsm x hx hl W hV hO)
  have HDr := Lib.hid (fun W hW bd base v hbd hV hO i e hie h1 h2 bz hDz hT Q hQ => itdrop_any (ln := ln) q p t m d gg lab B0 P0 M DA NB N (K + 1001) g Y V E hI (by omega) hg W hW bd base v hbd hl hV hO i e hie h1 h2 bz hDz hT Q hQ)
  have HWr := Lib.hid hW
  have HE0 := Lib.hid he0
  have HM0 := Lib.hid hm0
  clear h2 hD hI hK hg h hsm hl h0lt hx huI hdI hW he0 hm0
  go_enter Tryz.func37, Tryz.ntmps37
  go_wp2_with (first | (refine wpList_box_list (w := w) rfl 92 _ rfl (ink x) rfl ?_; intro w0 F0 hb0 hz0; have HQ0 := Lib.hid hb0; clear hb0 hz0))
  refine (HOp.out w0 (HG0.out.keep HQ0.out)).mono ?_
  rintro e w1 ⟨bd, v, base, rfl, hbd, hbb, hV, hO, hG, hk⟩
  have HV1 := Lib.hid hV
  have HO1 := Lib.hid hO
  have HG1 := Lib.hid hG
  have HK1 := Lib.hid ((Kf.of_below HQ0.out [t, m, d, gg]).trans hk)
  have hbw : w.heap.size ≤ bd := Nat.le_trans HQ0.out.size hbd
  have HND : Hid (bd ∉ [t, m, d, gg]) := Lib.hid (fun ha => by
    have := H0.out bd (by simp only [List.mem_cons, List.not_mem_nil, or_false] at ha ⊢; omega)
    omega)
  have hk0 := hk
  clear hV hO hG hk HOp hbd
  have F1 := Lib.hid (F0.out.kf hk0 (fun ha => by
    have := H0.out w.heap.size (by simp only [List.mem_cons, List.not_mem_nil, or_false] at ha ⊢; omega)
    omega))
  clear hk0
  have HRx := Lib.hid F1.out.range0
  go_wp2_with (refine wpList_load_mid rfl 92 _ rfl w.heap.size 0 rfl (ink x) dI HRx.out HUI.out HDI.out (sizeIk _) ?_)
  refine (HFi.out bd base v w1 HV1.out HO1.out).mono ?_
  rintro r w2 ⟨hb, (⟨i, e, hie, hme, hfi, rfl⟩ | ⟨hno, rfl⟩)⟩
  · have HG2 := Lib.hid (HG1.out.keep hb)
    have HK2 := Lib.hid (HK1.out.more hb)
    have HV2 := Lib.hid (HV1.out.keep hb)
    have HO2 := Lib.hid (ownsRow_below HO1.out hb)
    have hk2s := HK2.out.size
    obtain ⟨n1, n2, hT, ⟨bz, hDz⟩, hWw⟩ := HWr.out i e hie hme hfi
    have HD2 := Lib.hid (HDr.out w2 HG2.out bd base v HND.out HV2.out HO2.out i e hie n1 n2 bz hDz hT Q (fun Y1 hY1 W sb hW hkW hsb hF => hWw Y1 hY1 W sb (hW.mono (Lm.le_refl _) (by omega)) (HK2.out.trans hkW) (by omega) hF))
    clear hb hie hme hfi HFi HG1 HK1 HV1 HO1 HRx n1 n2 hT hDz hWw HDr HWr
    go_wp2_with fail
    refine HD2.out.mono ?_
    rintro r w3 ⟨c, rfl, hq⟩
    have HQq := Lib.hid hq
    clear hq
    go_wp2_with fail
    go_ret
    exact ⟨c, rfl, HQq.out⟩
  · exact absurd (hno e0 HE0.out) (by rw [HM0.out]; decide)
end Go.Proofs.YteaoabppppbkoaaGreatDoor
