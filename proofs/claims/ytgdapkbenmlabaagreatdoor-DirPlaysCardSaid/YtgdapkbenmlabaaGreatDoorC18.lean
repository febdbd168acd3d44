import Derived.Test.YtgdapkbenmlabaaGreatDoorC17
import Derived.Deep.DeepHandedRow
import Derived.Lib.SmallJoins
import Derived.Lib.LaidTab
/- Directories: Find, Turn, Empty. -/
set_option linter.unusedSimpArgs false
set_option linter.unusedVariables false
set_option maxHeartbeats 40000000
set_option maxRecDepth 100000
namespace Go.Proofs.YtgdapkbenmlabaaGreatDoor
open Go.RowKit Go.Maps
variable {ln : Lm}
theorem dfind_any (q p t m d gg lab B0 P0 M DA NB N K : Nat) (g : Cf.Ge) (Y V : Nat → Nat → Int) (num : Nat) (h1 : 1 ≤ num) (h2 : num ≤ M) (b0 : Nat → Nat) (E : List En) (hD : Dir B0 DA NB Y (V num) b0 E) (hI : Tab P0 M Y V) (hK : K < 190000000) (hg : GG g B0 P0 M DA NB N) (w : World) (h : Gr w q p t m d gg lab g B0 NB N ln Y K) (s : ByteArray) :
  Calls Tryz.prog 23 #[.pointer (some ⟨q, 0, none⟩), .int .i64 num, .string s] w fun r w' => (Gr w' q p t m d gg lab g B0 NB N ln Y (K + 1001) ∧ Kf w w' [t, m, d, gg]) ∧ ((∃ (i : Nat) (e : En), E[i]? = some e ∧ mtE s e = true ∧ (∀ (j : Nat) (e' : En), j < i → E[j]? = some e' → mtE s e' = false) ∧ r = .returned (.tuple #[.int .i64 e.2, .int .i64 0])) ∨ ((∀ e ∈ E, mtE s e = false) ∧ r = .returned (.tuple #[.int .i64 0, .int .i64 3]))) := by
 have HOp := jh (fun W hW => dopen_in (ln := ln) q p t m d gg lab B0 P0 M DA NB N K g Y V num h1 h2 b0 E hD hI hK hg W hW);have HG0 := jh h;have hsm := smE_of hD.ok;have hl := hD.n
 have h0lt : ∀ a ∈ [q, p, t, m, d, gg], a < w.heap.size := fun a ha => by
  obtain ⟨l1, l2, l3, l4, l5, l6⟩ := h.lts;simp only [List.mem_cons, List.not_mem_nil, or_false] at ha
  rcases ha with rfl | rfl | rfl | rfl | rfl | rfl <;> assumption
 have H0 := jh h0lt;have HFi := jh (fun bd base v W hV hO => find_any q num bd base v E hsm s hl W hV hO);have HSm := jh hsm;have HL := jh hl;clear h1 h2 hD hI hK hg h hsm hl h0lt
 go_enter Tryz.func23, Tryz.ntmps23
 go_wp2_with fail
 refine (HOp.out w HG0.out).mono ?_;rintro e w1 ⟨bd, v, base, rfl, hbd, hbb, hV, hO, hG, hk⟩;have HV1 := jh hV;have HO1 := jh hO;have HG1 := jh hG;have HK1 := jh hk;have hbw : w.heap.size ≤ bd := hbd
 have HND : Hid (bd ∉ [t, m, d, gg]) := jh (fun ha => by
  have := H0.out bd (by simp only [List.mem_cons, List.not_mem_nil, or_false] at ha ⊢; omega)
  omega)
 clear hV hO hG hk HOp hbd
 go_wp2_with fail
 refine (HFi.out bd base v w1 HV1.out HO1.out).mono ?_;rintro r w2 ⟨hb, (⟨i, e, hie, hme, hfi, rfl⟩ | ⟨hno, rfl⟩)⟩
 ·have HG2 := jh (HG1.out.keep hb);have HK2 := jh (HK1.out.more hb);have HV2 := jh (HV1.out.keep hb);have HO2 := jh (ownsRow_below HO1.out hb);obtain ⟨pa, cap, hv⟩ := Cf.ownsRow_form HO2.out;subst hv;have hin : i < E.length := (List.getElem?_eq_some_iff.1 hie).1;obtain ⟨g0, rfl, -, -⟩ := own_some HO2.out (by omega);have hra := own_at HO2.out rfl hie;have he2 := (HSm.out e (List.mem_of_getElem? hie)).2;have HLa := jh (show (∃ (i : Nat) (e : En), E[i]? = some e ∧ mtE s e = true ∧ (∀ (j : Nat) (e' : En), j < i → E[j]? = some e' → mtE s e' = false) ∧ Ending.returned (.tuple #[.int .i64 e.2, .int .i64 0]) = .returned (.tuple #[.int .i64 e.2, .int .i64 0])) from ⟨i, e, hie, hme, hfi, rfl⟩);have HIe := jh hie;have HMe := jh hme;have HFf := jh hfi;obtain ⟨es, en⟩ := e;have cB : w2.cell? ⟨g0, i * 2 + 1, none⟩ = some (.int .u16 en) := hra 1 _ rfl;have c2 : w2.cell? ⟨bd, 2, none⟩ = some (.slice (some ⟨g0, 0, none⟩) E.length cap) := HV2.out.c 2 _ rfl;have hwr : IntKind.i64.wrap (en : Int) = en := IntWalk.i64_in _ (by have : en < 65536 := he2; omega)
  have hi0 : (0 : Int) ≤ i := by omega
  have hi1 : (i : Int) < E.length := by omega
  clear hb hie hme hfi hra he2 hin HLa HFi HG1 HK1 HV1 HO1
  go_wp2_with fail
  go_ret2
  exact ⟨⟨HG2.out, HK2.out⟩, .inl ⟨i, (es, en), HIe.out, HMe.out, HFf.out, rfl⟩⟩
 ·have HG2 := jh (HG1.out.keep hb);have HK2 := jh (HK1.out.more hb);have HNo := jh hno;clear hb hno
  go_wp2_with fail
  go_ret2
  exact ⟨⟨HG2.out, HK2.out⟩, .inr ⟨HNo.out, rfl⟩⟩
def turnC (E : List En) (x : En) : Int := if x.2 = 0 then 27 else if E.any (mtE x.1) = true then 0 else 3
theorem turnC_num {E : List En} {x : En} (h2 : x.2 = 0) : turnC E x = 27 := if_pos h2
theorem turnC_no {E : List En} {x : En} (h2 : ¬ x.2 = 0) (h3 : ∀ e ∈ E, mtE x.1 e = false) : turnC E x = 3 := by
 unfold turnC;rw [if_neg h2, if_neg];rw [List.any_eq_true];rintro ⟨e, he, hm⟩;rw [h3 e he] at hm
 cases hm
theorem turnC_ok {E : List En} {x : En} (h2 : ¬ x.2 = 0) (h3 : E.any (mtE x.1) = true) : turnC E x = 0 := by unfold turnC; rw [if_neg h2, if_pos h3]
theorem mtE_name {s : ByteArray} {e : En} (h : mtE s e = true) : e.1 = s := by
 unfold mtE at h;rw [Bool.and_eq_true, beq_iff_eq] at h;have := h.2;rw [ByteArray.toList_eq, ByteArray.toList_eq] at this;obtain ⟨⟨a⟩, n⟩ := e;obtain ⟨b⟩ := s
 show (⟨a⟩ : ByteArray) = ⟨b⟩
 congr 1
 exact Array.ext' this
theorem dturn_any (q p t m d gg lab B0 P0 M DA NB N K : Nat) (g : Cf.Ge) (Y V : Nat → Nat → Int) (num : Nat) (h1 : 1 ≤ num) (h2 : num ≤ M) (b0 : Nat → Nat) (E : List En) (hD : Dir B0 DA NB Y (V num) b0 E) (hI : Tab P0 M Y V) (hK : K < 190000000) (hg : GG g B0 P0 M DA NB N) (w : World) (h : Gr w q p t m d gg lab g B0 NB N ln Y K) (x : En) (hx : x.2 < 65536) (Q : Int → World → Prop)
  (hW : ¬ x.2 = 0 → ∀ (i : Nat) (e : En), E[i]? = some e → mtE x.1 e = true → (∀ (j : Nat) (e' : En), j < i → E[j]? = some e' → mtE x.1 e' = false) → ∀ W sb, Gr W q p t m d gg lab g B0 NB N ln Y (K + 1001) → Kf w W [t, m, d, gg] → w.heap.size ≤ sb → Fl W sb 16 (pkF x) → Calls Tryz.prog 71 #[.pointer (some ⟨q, 0, none⟩), .int .i64 num, .int .i64 ((16 * i : Nat) : Int), .slice (some ⟨sb, 0, none⟩) 16 16] W fun r w' => ∃ c, r = .returned (.int .i64 c) ∧ Kf W w' [t, m, d, gg] ∧ Q c w') :
  Calls Tryz.prog 21 #[.pointer (some ⟨q, 0, none⟩), .int .i64 num, .agg (enc x).toArray] w fun r w' => ∃ c, r = .returned (.int .i64 c) ∧ ((¬ turnC E x = 0 ∧ c = turnC E x ∧ Gr w' q p t m d gg lab g B0 NB N ln Y (K + 1001) ∧ Kf w w' [t, m, d, gg]) ∨ (turnC E x = 0 ∧ Q c w')) := by
 obtain ⟨xs, xn⟩ := x;obtain ⟨dE, hu, hd⟩ := Tryz.descEn;have HU := jh hu;have HDd := jh hd;have HOp := jh (fun W hW => dopen_in (ln := ln) q p t m d gg lab B0 P0 M DA NB N K g Y V num h1 h2 b0 E hD hI hK hg W hW);have HG0 := jh h;have hsm := smE_of hD.ok;have hl := hD.n
 have h0lt : ∀ a ∈ [q, p, t, m, d, gg], a < w.heap.size := fun a ha => by
  obtain ⟨l1, l2, l3, l4, l5, l6⟩ := h.lts;simp only [List.mem_cons, List.not_mem_nil, or_false] at ha
  rcases ha with rfl | rfl | rfl | rfl | rfl | rfl <;> assumption
 have H0 := jh h0lt;have HFi := jh (fun bd base v W hV hO => find_any q num bd base v E hsm xs hl W hV hO);have HSm := jh hsm;have HWr := jh hW;have hxn : xn < 65536 := hx;have HL := jh hl;have HXn := jh hxn;clear hu hd h1 h2 hD hI hK hg h hsm hl h0lt hW hx hxn
 go_enter Tryz.func21, Tryz.ntmps21
 go_wp2_with (first | (refine wpList_box_list (w := w) rfl 58 _ rfl (enc (xs, xn)) rfl ?_; intro w0 F0 hb0 hz0; have HQ0 := jh hb0; clear hb0 hz0))
 refine (HOp.out w0 (HG0.out.keep HQ0.out)).mono ?_;rintro e w1 ⟨bd, v, base, rfl, hbd, hbb, hV, hO, hG, hk⟩;have HV1 := jh hV;have HO1 := jh hO;have HG1 := jh hG;have HK1 := jh ((Kf.of_below HQ0.out [t, m, d, gg]).trans hk);have hbw : w.heap.size ≤ bd := Nat.le_trans HQ0.out.size hbd
 have HND : Hid (bd ∉ [t, m, d, gg]) := jh (fun ha => by
  have := H0.out bd (by simp only [List.mem_cons, List.not_mem_nil, or_false] at ha ⊢; omega)
  omega)
 have hk0 := hk;clear hV hO hG hk HOp hbd
 have F1 := jh (F0.out.kf hk0 (fun ha => by
  have := H0.out w.heap.size (by simp only [List.mem_cons, List.not_mem_nil, or_false] at ha ⊢; omega)
  omega))
 clear hk0;have c0 := F1.out.c 0 _ rfl;have c1 := F1.out.c 1 _ rfl
 by_cases hx0 : (xn : Int) = 0
 ·have HA : Hid (turnC E (xs, xn) = 27) := jh (turnC_num (by show xn = 0; omega))
  go_wp2_with fail
  go_ret
  exact ⟨27, rfl, .inl ⟨by rw [HA.out]; decide, HA.out.symm, HG1.out, HK1.out⟩⟩
 ·have HX0 : Hid (¬ xn = 0) := jh (by omega)
  go_wp2_with fail
  refine (HFi.out bd base v w1 HV1.out HO1.out).mono ?_;rintro r w2 ⟨hb, (⟨i, e, hie, hme, hfi, rfl⟩ | ⟨hno, rfl⟩)⟩
  ·have HA : Hid (turnC E (xs, xn) = 0) := jh (turnC_ok HX0.out (List.any_eq_true.2 ⟨e, List.mem_of_getElem? hie, hme⟩));have HG2 := jh (HG1.out.keep hb);have HK2 := jh (HK1.out.more hb);have HV2 := jh (HV1.out.keep hb);have F2 := jh (F1.out.keep hb)
   have hi1 : i ≤ 1024 := by
    have := (List.getElem?_eq_some_iff.1 hie).1;have := HL.out;omega
   have hs14 : xs.size ≤ 14 := by
    have h1 := (HSm.out e (List.mem_of_getElem? hie)).1;have h2 := mtE_name hme;rw [h2] at h1;exact h1
   have HS14 := jh hs14;have HI1 := jh hi1;have HIe := jh hie;have HMe := jh hme;have HFf := jh hfi;clear hb hie hme hfi hs14 hi1 c0 c1 HFi HG1 HK1 HV1 HO1 F1;have HRx := jh F2.out.range0
   go_wp2_with (refine wpList_load_mid rfl 58 _ rfl w.heap.size 0 rfl (enc (xs, xn)) dE HRx.out HU.out HDd.out (sizeEn _) ?_)
   refine (put_any9 q num bd v (xs, xn) HS14.out HXn.out i HI1.out Q w2 HV2.out (fun W sb hbW hsb hF => ?_)).mono ?_
   ·refine (HWr.out HX0.out i e HIe.out HMe.out HFf.out W sb (HG2.out.keep hbW) (HK2.out.more hbW) (Nat.le_trans HK2.out.size hsb) hF).mono ?_;rintro r w' ⟨c, rfl, hk, hq⟩;exact ⟨c, rfl, (HV2.out.keep hbW).kf hk HND.out, hq⟩
   rintro r w5 ⟨c, rfl, hq⟩;have HQq := jh hq;clear hq
   go_wp2_with fail
   go_ret
   exact ⟨c, rfl, .inr ⟨HA.out, HQq.out⟩⟩
  ·have HA : Hid (turnC E (xs, xn) = 3) := jh (turnC_no HX0.out hno);have HG2 := jh (HG1.out.keep hb);have HK2 := jh (HK1.out.more hb);clear hb hno
   go_wp2_with fail
   go_ret
   exact ⟨3, rfl, .inl ⟨by rw [HA.out]; decide, HA.out.symm, HG2.out, HK2.out⟩⟩
theorem used_zero {E : List En} {u : Nat} (h : isUsed E u) : decide (u = 0) = E.all vacE := by
 obtain ⟨h1, h2, h3⟩ := h;rw [Bool.eq_iff_iff, decide_eq_true_iff, List.all_eq_true]
 constructor
 ·rintro rfl e he;obtain ⟨j, hj⟩ := List.mem_iff_getElem?.1 he;exact h2 j e (Nat.zero_le _) hj
 ·intro hh;rcases h3 with h3 | ⟨e, he, hv⟩
  ·exact h3
  ·rw [hh e (List.mem_of_getElem? he)] at hv
   cases hv
theorem dempty_any (q p t m d gg lab B0 P0 M DA NB N K : Nat) (g : Cf.Ge) (Y V : Nat → Nat → Int) (num : Nat) (h1 : 1 ≤ num) (h2 : num ≤ M) (b0 : Nat → Nat) (E : List En) (hD : Dir B0 DA NB Y (V num) b0 E) (hI : Tab P0 M Y V) (hK : K < 190000000) (hg : GG g B0 P0 M DA NB N) (w : World) (h : Gr w q p t m d gg lab g B0 NB N ln Y K) :
  Calls Tryz.prog 31 #[.pointer (some ⟨q, 0, none⟩), .int .i64 num] w fun r w' => r = .returned (.tuple #[.bool (E.all vacE), .int .i64 0]) ∧ Gr w' q p t m d gg lab g B0 NB N ln Y (K + 1001) ∧ Kf w w' [t, m, d, gg] := by
 have HOp := jh (fun W hW => dopen_in (ln := ln) q p t m d gg lab B0 P0 M DA NB N K g Y V num h1 h2 b0 E hD hI hK hg W hW);have HG0 := jh h;have hsm := smE_of hD.ok;have hl := hD.n
 have h0lt : ∀ a ∈ [q, p, t, m, d, gg], a < w.heap.size := fun a ha => by
  obtain ⟨l1, l2, l3, l4, l5, l6⟩ := h.lts;simp only [List.mem_cons, List.not_mem_nil, or_false] at ha
  rcases ha with rfl | rfl | rfl | rfl | rfl | rfl <;> assumption
 have H0 := jh h0lt;have HUs := jh (fun bd base v W hV hO => used_any q num bd base v E hsm hl W hV hO);clear h1 h2 hD hI hK hg h hsm hl h0lt
 go_enter Tryz.func31, Tryz.ntmps31
 go_wp2_with fail
 refine (HOp.out w HG0.out).mono ?_;rintro e w1 ⟨bd, v, base, rfl, hbd, hbb, hV, hO, hG, hk⟩;have HV1 := jh hV;have HO1 := jh hO;have HG1 := jh hG;have HK1 := jh hk;have hbw : w.heap.size ≤ bd := hbd
 have HND : Hid (bd ∉ [t, m, d, gg]) := jh (fun ha => by
  have := H0.out bd (by simp only [List.mem_cons, List.not_mem_nil, or_false] at ha ⊢; omega)
  omega)
 clear hV hO hG hk HOp hbd
 go_wp2_with fail
 refine (HUs.out bd base v w1 HV1.out HO1.out).mono ?_;rintro r w2 ⟨hb, u, hu, rfl⟩;have HG2 := jh (HG1.out.keep hb);have HK2 := jh (HK1.out.more hb);have hz := used_zero hu
 by_cases hu0 : u = 0
 ·subst hu0;have HZ := jh hz;clear hz hb hu
  go_wp2_with fail
  go_ret2
  exact ⟨by rw [← HZ.out]; rfl, HG2.out, HK2.out⟩
 ·have hui : ((u : Int) == 0) = false := beq_eq_false_iff_ne.2 (by omega);rw [decide_eq_false hu0] at hz;have HZ := jh hz;clear hz hb hu hu0
  go_wp2_with fail
  go_ret2
  exact ⟨by rw [← HZ.out]; rfl, HG2.out, HK2.out⟩
end Go.Proofs.YtgdapkbenmlabaaGreatDoor
namespace Go.Proofs.YtgdapkbenmlabaaGreatDoor
open Go.RowKit Go.Maps
theorem vput_vput (k : Nat) (f g : Nat → Int) (V : Nat → Nat → Int) : vput k f (vput k g V) = vput k f V := by
 funext x
 unfold vput
 split <;> rfl
theorem Mv.cut {B0 TB DA NB : Nat} {Y0 Y1 Y2 : Nat → Nat → Int} {n0 n : Nat} {b0 b : Nat → Nat} (h : Mv B0 TB DA NB Y0 n0 b0 Y1 n0 b) (k : Mv B0 TB DA NB Y1 n0 b Y2 n b) (hn : n ≤ n0) : Mv B0 TB DA NB Y0 n0 b0 Y2 n b := by
 have hbb : ∀ c, ndS n0 c = true → b c = b0 c := fun c hc => h.bb c hc hc;refine ⟨fun c h1 _ => hbb c h1, fun z z1 z2 z3 z4 => ?_, fun j hj => ?_, fun c h1 h2 => ?_⟩
 ·rw [k.y z z1 z2 (fun c hc => by rw [hbb c hc]; exact z3 c hc) z4];exact h.y z z1 z2 z3 (fun c hc => by rw [hbb c hc]; exact z3 c hc)
 ·rw [k.u j hj, h.u j hj]
  constructor
  ·rintro (⟨(⟨h1, -⟩ | ⟨c, k1, k2, -⟩), h2⟩ | ⟨c, k1, k2, -⟩)
   ·exact .inl ⟨h1, fun ⟨c, c1, c2, c3⟩ => h2 ⟨c, c1, c2, by rw [hbb c c1]; exact c3⟩⟩
   ·rw [k1] at k2
    cases k2
   ·rw [ndS_mono hn c k1] at k2
    cases k2
  ·rintro (⟨h1, h2⟩ | ⟨c, k1, k2, -⟩)
   ·exact .inl ⟨.inl ⟨h1, fun ⟨c, c1, c2, _⟩ => by rw [c1] at c2; cases c2⟩, fun ⟨c, c1, c2, c3⟩ => h2 ⟨c, c1, c2, by rw [← hbb c c1]; exact c3⟩⟩
   ·rw [ndS_mono hn c k1] at k2
    cases k2
 ·rw [ndS_mono hn c h1] at h2
  cases h2
theorem flatE_set (E : List En) (i : Nat) (e : En) : ((flatE E).set (i * 2) (.string e.1)).set (i * 2 + 1) (.int .u16 e.2) = if i < E.length then flatE (E.set i e) else flatE E := by
 induction E generalizing i with
 | nil => simp [flatE]
 | cons a E ih =>
  have hf : ∀ (a : En) (E : List En), flatE (a :: E) = .string a.1 :: .int .u16 a.2 :: flatE E := fun _ _ => rfl
  cases i with
  | zero => rw [if_pos (by simp), List.set_cons_zero, hf, hf]; rfl
  | succ i =>
   rw [hf, show (i + 1) * 2 = i * 2 + 1 + 1 by omega];simp only [List.set_cons_succ];rw [ih i]
   by_cases h : i < E.length
   ·rw [if_pos h, if_pos (by simp; omega)];exact (hf _ _).symm
   ·rw [if_neg h, if_neg (by simp; omega)]
theorem own_set {w : World} {base g cap : Nat} {E : List En} (h : w.ownsRow base 58 2 (.slice (some ⟨g, 0, none⟩) E.length cap) E.length (flatE E)) (i : Nat) (hi : i < E.length) (e : En) : (w.setCells g (i * 2) (enc e)).ownsRow base 58 2 (.slice (some ⟨g, 0, none⟩) E.length cap) E.length (flatE (E.set i e)) := by
 have h1 := (World.ownsRow.stored h (i * 2) (.string e.1)).1;have h2 := (World.ownsRow.stored h1 (i * 2 + 1) (.int .u16 e.2)).1;rw [flatE_set E i e, if_pos hi] at h2;exact h2
theorem own_there {w : World} {base g cap : Nat} {E : List En} (h : w.ownsRow base 58 2 (.slice (some ⟨g, 0, none⟩) E.length cap) E.length (flatE E)) (i : Nat) (hi : i < E.length) : w.there g (i * 2) 2 := fun j hj => by
 have hl : i * 2 + j < (flatE E).length := by rw [flatE_len]; omega
 refine ⟨?_, World.ownsRow.frozenAt h _⟩;rw [World.ownsRow.cellAt h (i * 2 + j) (by omega), List.getElem?_eq_getElem hl];rfl
theorem ddrop_in (q p t m d gg lab B0 P0 M DA NB N K TB : Nat) (g : Cf.Ge) (Y V : Nat → Nat → Int) (b0 : Nat → Nat) (L : List Nat) (D : Nat → Nat → Int) (hL : L.length ≤ 28) (num : Nat) (hTB : TB = P0 + (num - 1) / 2) (h1 : 1 ≤ num) (h2 : num ≤ M) (E : List En) (hD : Dir B0 DA NB Y (V num) b0 E) (hI : Tab P0 M Y V) (hK : K < 150000000) (hg : GG g B0 P0 M DA NB N) (hcL : ∀ c, c ≤ E.length / 4 → ∀ j, j ≤ lenC c → chS c j ∈ L)
  (w : World) (h : Gr w q p t m d gg lab g B0 NB N ⟨dl B0 TB DA b0 (ndS (nbE E.length)) L, D⟩ Y K) (s : ByteArray) :
  Calls Tryz.prog 19 #[.pointer (some ⟨q, 0, none⟩), .int .i64 num, .string s] w fun r w' => Kf w w' [t, m, d, gg] ∧ (((∀ e ∈ E, mtE s e = false) ∧ r = .returned (.int .i64 3) ∧ Gr w' q p t m d gg lab g B0 NB N ⟨dl B0 TB DA b0 (ndS (nbE E.length)) L, D⟩ Y (K + 1001)) ∨
   (∃ (i : Nat) (e : En) (u : Nat) (Y' : Nat → Nat → Int) (f : Nat → Int) (B : Nat → Nat), E[i]? = some e ∧ mtE s e = true ∧ (∀ (j : Nat) (e' : En), j < i → E[j]? = some e' → mtE s e' = false) ∧ isUsed (E.set i zE) u ∧ r = .returned (.int .i64 0) ∧ Gr w' q p t m d gg lab g B0 NB N ⟨dl B0 TB DA B (ndS (nbE E.length)) L, D⟩ Y' (K + 40000) ∧ Tab P0 M Y' (vput num f V) ∧ Dir B0 DA NB Y' f B ((E.set i zE).take u) ∧ Mv B0 TB DA NB Y (nbE E.length) b0 Y' (nbE u) B)) := by
 obtain ⟨dE, hu, hd⟩ := Tryz.descEn;have HU := jh hu;have HDd := jh hd;have HOp := jh (fun W hW => dopen_in (ln := ⟨dl B0 TB DA b0 (ndS (nbE E.length)) L, D⟩) q p t m d gg lab B0 P0 M DA NB N K g Y V num h1 h2 b0 E hD hI (by omega) hg W hW);have HG0 := jh h;have hsm := smE_of hD.ok;have hl := hD.n
 have h0lt : ∀ a ∈ [q, p, t, m, d, gg], a < w.heap.size := fun a ha => by
  obtain ⟨l1, l2, l3, l4, l5, l6⟩ := h.lts;simp only [List.mem_cons, List.not_mem_nil, or_false] at ha
  rcases ha with rfl | rfl | rfl | rfl | rfl | rfl <;> assumption
 have H0 := jh h0lt;have HFi := jh (fun bd base v W hV hO => find_any q num bd base v E hsm s hl W hV hO);have HL := jh hl;have HDr := jh hD;have HI := jh hI;have HGg := jh hg;have HCL := jh hcL;have HTB := jh hTB;have HNum := jh (show 1 ≤ num ∧ num ≤ M from ⟨h1, h2⟩);have HSm := jh hsm;clear hu hd hD hI hg h hsm h0lt hcL h1 h2 hTB hl
 go_enter Tryz.func19, Tryz.ntmps19
 go_wp2_with fail
 refine (HOp.out w HG0.out).mono ?_;rintro e w1 ⟨bd, v, base, rfl, hbd, hbb, hV, hO, hG, hk⟩;have HV1 := jh hV;have HO1 := jh hO;have HG1 := jh hG;have HK1 := jh hk;have hbw : w.heap.size ≤ bd := hbd
 have HND : Hid (bd ∉ [t, m, d, gg]) := jh (fun ha => by
  have := H0.out bd (by simp only [List.mem_cons, List.not_mem_nil, or_false] at ha ⊢; omega)
  omega)
 clear hV hO hG hk HOp hbd
 go_wp2_with fail
 refine (HFi.out bd base v w1 HV1.out HO1.out).mono ?_;rintro r w2 ⟨hb, (⟨i, e, hie, hme, hfi, rfl⟩ | ⟨hno, rfl⟩)⟩
 ·have HG2 := jh (HG1.out.keep hb);have HK2 := jh (HK1.out.more hb);have HV2 := jh (HV1.out.keep hb);have HO2 := jh (ownsRow_below HO1.out hb);obtain ⟨pa, cap, hv⟩ := Cf.ownsRow_form HO2.out;subst hv;have hin : i < E.length := (List.getElem?_eq_some_iff.1 hie).1;obtain ⟨g0, rfl, hg1, hg2⟩ := own_some HO2.out (by omega);have HTh := jh (own_there HO2.out i hin);have HIe := jh hie;have HMe := jh hme;have HFf := jh hfi;have HIn := jh hin
  have hg0w : w.heap.size ≤ g0 := by omega
  have c2 : w2.cell? ⟨bd, 2, none⟩ = some (.slice (some ⟨g0, 0, none⟩) E.length cap) := HV2.out.c 2 _ rfl
  have hi0 : (0 : Int) ≤ i := by omega
  have hi1 : (i : Int) < E.length := by omega
  have hi24 : (i : Int) < 1024 := by have := HL.out; omega
  clear hb hie hme hfi hin HFi HG1 HK1 HV1 HO1
  go_wp2_with (first | (refine wpList_yields (.agg (enc zE).toArray) (yields_bld0 (by rfl) 58 rfl _ Tryz.buildEn0) ?_) | (refine wpList_store_mid rfl 58 _ _ rfl g0 (i * 2) (enc zE).toArray rfl rfl HTh.out (sizeEn _) (all_oneCell_toArray (enc_one _)) ?_))
  have hk3 : Kp w2 (w2.setCells g0 (i * 2) (enc zE)) g0 g0 := (Kp.refl w2 g0 g0).setCells g0 (i * 2) (.inl rfl) _;have HO3 := jh (own_set HO2.out i HIn.out zE);have HV3 := jh (HV2.out.kp hk3 (by omega) (by omega));have HG3 := jh (HG2.out.kp hk3 (fun ha => by have := H0.out g0 ha; omega));have HK3 := jh (HK2.out.new hk3 hg0w)
  obtain ⟨w3, hw3⟩ : ∃ y, w2.setCells g0 (i * 2) (enc zE) = y := ⟨_, rfl⟩
  rw [hw3] at HO3 HV3 HG3 HK3
  try rw [hw3]
  try (change Calls _ _ _ (w2.setCells g0 (i * 2) (enc zE)) _; rw [hw3])
  have hE1l : (E.set i zE).length = E.length := List.length_set
  have hsm1 : smE (E.set i zE) := fun x hx => by
   rcases List.mem_or_eq_of_mem_set hx with hx | rfl
   ·exact HSm.out x hx
   ·exact ⟨by decide, by decide⟩
  have HE1l := jh hE1l;rw [← hE1l] at HO3;have hus := used_any q num bd base _ (E.set i zE) hsm1 (by rw [hE1l]; exact HL.out) w3 (by rw [hE1l]; exact HV3.out) HO3.out;rw [hE1l] at HO3;have HUs := jh hus;clear hw3 hk3 c2 HO2 HV2 HG2 HK2 HTh hE1l hsm1 hus;refine HUs.out.mono ?_;rintro r w4 ⟨hb, u, hu, rfl⟩;have HG4 := jh (HG3.out.keep hb);have HK4 := jh (HK3.out.more hb);have HV4 := jh (HV3.out.keep hb);have HUu := jh hu
  have hul : u ≤ E.length := by have := hu.1; rw [HE1l.out] at this; exact this
  have HUl := jh hul
  have hu24 : (u : Int) ≤ 1024 := by have := HL.out; omega
  have hu0 : (0 : Int) ≤ u := by omega
  have hLn : ∀ b' : Nat → Nat, ∀ c ∈ L, ndS (nbE E.length) c = true → Has ⟨dl B0 TB DA b' (ndS (nbE E.length)) L, D⟩ (DA + (b' c - 1)) := fun b' c hc hs => ⟨dl_mem B0 TB DA b' (ndS (nbE E.length)) L c (by have h1 := HL.out; rw [ndS_iff] at hs; unfold nbE at hs; omega) hc hs, Ly.len L hL B0 TB DA b' _⟩
  have HLn := jh hLn
  have hCut : ∀ (Y1 V1 : Nat → Nat → Int) (b1 : Nat → Nat) (E1 : List En) (K1 : Nat), K1 < 190000000 → E1.length = E.length → Dir B0 DA NB Y1 (V1 num) b1 E1 → Tab P0 M Y1 V1 → ∀ W, Gr W q p t m d gg lab g B0 NB N ⟨dl B0 TB DA b1 (ndS (nbE E.length)) L, D⟩ Y1 K1 →
    Calls Tryz.prog 83 #[.pointer (some ⟨q, 0, none⟩), .int .i64 num, .int .i64 ((u : Int) * 16)] W fun x w' => ∃ (Y : Nat → Nat → Int) (f : Nat → Int), x = .returned (.int .i64 0) ∧ Gr w' q p t m d gg lab g B0 NB N ⟨dl B0 TB DA b1 (ndS (nbE E.length)) L, D⟩ Y (K1 + 11000) ∧ Kf W w' [t, m, d, gg] ∧ Tab P0 M Y (vput num f V1) ∧ Dir B0 DA NB Y f b1 (E1.take u) ∧ Mv B0 TB DA NB Y1 (nbE E.length) b1 Y (nbE u) b1 := fun Y1 V1 b1 E1 K1 hK1 hE1 hD1 hI1 W hW => by
   have hb0 : Has ⟨dl B0 TB DA b1 (ndS (nbE E.length)) L, D⟩ B0 := ⟨List.mem_cons_self .., Ly.len L hL B0 TB DA b1 _⟩
   have htb : Has ⟨dl B0 TB DA b1 (ndS (nbE E.length)) L, D⟩ (P0 + (num - 1) / 2) := ⟨by rw [← HTB.out]; exact List.mem_cons_of_mem _ (List.mem_cons_self ..), Ly.len L hL B0 TB DA b1 _⟩
   have hm := HNum.out
   have := dcut_in (ln := ⟨dl B0 TB DA b1 (ndS (nbE E.length)) L, D⟩) q p t m d gg lab B0 P0 M DA NB N K1 g Y1 V1 b1 num hm.1 hm.2 E1 hD1 hI1 hb0 htb (by omega) HGg.out W hW u (by rw [hE1]; exact HUl.out) (fun h0 j hj => by
    have hlt := HUl.out
    have hnb : nbE u - 1 ≤ E.length / 4 := by unfold nbE; omega
    refine HLn.out b1 _ (HCL.out (nbE u - 1) hnb j hj) ?_;have h256 := HL.out;have hcc := (chS_cases (nbE u - 1) (by unfold nbE; omega) (chS (nbE u - 1) j)).1 ⟨j, hj, rfl⟩
    have h1 : 1 ≤ nbE u ∧ nbE u ≤ nbE E.length := by unfold nbE; omega
    rw [ndS_iff]
    omega)
   rw [hE1, show ((16 * u : Nat) : Int) = (u : Int) * 16 by omega, ← HTB.out] at this;exact this
  have HCut := jh hCut;clear hb hu hLn hCut HUs HV3 HG3 HK3 HO3 hul
  obtain ⟨ou, hou⟩ : ∃ z : Int, (u : Int) * 16 = z := ⟨_, rfl⟩
  rw [hou] at HCut
  have ho0 : 0 ≤ ou := by omega
  have ho1 : ou ≤ 16384 := by omega
  have hwr : IntKind.i64.wrap ou = ou := IntWalk.i64_in _ (by omega)
  by_cases hiu : i < u
  ·have hiui : (i : Int) < u := by omega
   have hi24' : i < 1024 := by omega
   have HPut := jh (put_any9 q num bd (.slice (some ⟨g0, 0, none⟩) E.length cap) zE (by decide) (by decide) i (by omega) (fun c w' => c = 0 ∧ Kf w4 w' [t, m, d, gg] ∧ ∃ (Y1 : Nat → Nat → Int) (f : Nat → Int) (B : Nat → Nat), Gr w' q p t m d gg lab g B0 NB N ⟨dl B0 TB DA B (ndS (nbE E.length)) L, D⟩ Y1 (K + 1001 + 25000) ∧ Tab P0 M Y1 (vput num f V) ∧ Dir B0 DA NB Y1 f B (E.set i zE) ∧ Mv B0 TB DA NB Y (nbE E.length) b0 Y1 (nbE E.length) B) w4 HV4.out (fun W sb hbW hsb hF => by
    have hin := HIn.out;have hsE : setE E i zE = E.set i zE := if_pos hin;have hm := HNum.out
    have := dwrite_in q p t m d gg lab B0 P0 M DA NB N (K + 1001) TB g Y V b0 L D hL num HTB.out hm.1 hm.2 E HDr.out HI.out (by omega) HGg.out W (HG4.out.keep hbW) i (by omega) (by omega) zE (.inl rfl) (HCL.out (i / 4) (by omega)) sb hF (fun ha => by
     have := H0.out sb (by simp only [List.mem_cons, List.not_mem_nil, or_false] at ha ⊢; omega);have := HK4.out.size
     omega)
    rw [hsE, HE1l.out] at this;refine this.mono ?_;rintro x w' (⟨Y1, f, B, rfl, hG, hk, hT, hDd, hMv⟩ | ⟨Y1, ln, B, n, -, -, -, -, -, -, ⟨c, hc1, hc2⟩, hB, -⟩)
    ·exact ⟨0, rfl, (HV4.out.keep hbW).kf hk HND.out, rfl, (Kf.of_below hbW _).trans hk, Y1, f, B, hG, hT, hDd, hMv⟩
    ·rw [(hB c hc2).1] at hc1
     cases hc1))
   go_wp2_with (refine wpList_yields (.agg (enc zE).toArray) (yields_bld0 (by rfl) 58 rfl _ Tryz.buildEn0) ?_)
   refine HPut.out.mono ?_;rintro r w5 ⟨c, rfl, rfl, hk5, Y1, f1, B, hG5, hT5, hD5, hM5⟩;have HG5 := jh hG5;have HK5 := jh (HK4.out.trans hk5);have HT5 := jh hT5;have HM5 := jh hM5;have HC5 := jh (HCut.out Y1 (vput num f1 V) B (E.set i zE) (K + 1001 + 25000) (by omega) HE1l.out (by rw [vput_at]; exact hD5) hT5 w5 hG5);clear hG5 hk5 hT5 hD5 hM5 HPut HG4 HCut
   go_wp2_with fail
   refine HC5.out.mono ?_;rintro r w6 ⟨Y2, f2, rfl, hG6, hk6, hT6, hD6, hM6⟩;have HG6 := jh hG6;have HK6 := jh (HK5.out.trans hk6);rw [vput_vput] at hT6;have HT6 := jh hT6;have HD6 := jh hD6;have HM6 := jh (HM5.out.cut hM6 (by have := HUl.out; unfold nbE; omega));clear hG6 hk6 hT6 hD6 hM6 HC5
   go_wp2_with fail
   go_ret
   exact ⟨HK6.out, .inr ⟨i, e, u, Y2, f2, B, HIe.out, HMe.out, HFf.out, HUu.out, rfl, HG6.out.mono (Lm.le_refl _) (by omega), HT6.out, HD6.out, HM6.out⟩⟩
  ·have hiui : ¬ (i : Int) < u := by omega
   have HC5 := jh (HCut.out Y V b0 E (K + 1001) (by omega) rfl HDr.out HI.out w4 HG4.out);have HNu := jh hiu;clear HCut HG4
   go_wp2_with fail
   refine HC5.out.mono ?_;rintro r w6 ⟨Y2, f2, rfl, hG6, hk6, hT6, hD6, hM6⟩;have HG6 := jh hG6;have HK6 := jh (HK4.out.trans hk6);have HT6 := jh hT6;have hts : (E.set i zE).take u = E.take u := List.take_set_of_le (by omega);rw [← hts] at hD6;have HD6 := jh hD6;have HM6 := jh hM6;clear hG6 hk6 hT6 hD6 hM6 HC5 hts
   go_wp2_with fail
   go_ret
   exact ⟨HK6.out, .inr ⟨i, e, u, Y2, f2, b0, HIe.out, HMe.out, HFf.out, HUu.out, rfl, HG6.out.mono (Lm.le_refl _) (by omega), HT6.out, HD6.out, HM6.out⟩⟩
 ·have HG2 := jh (HG1.out.keep hb);have HK2 := jh (HK1.out.more hb);have HNo := jh hno;clear hb hno
  go_wp2_with fail
  go_ret
  exact ⟨HK2.out, .inl ⟨HNo.out, rfl, HG2.out⟩⟩
end Go.Proofs.YtgdapkbenmlabaaGreatDoor
namespace Go.Proofs.YtgdapkbenmlabaaGreatDoor
open Go.RowKit Go.Maps
variable {ln : Lm}
def liveE (E : List En) : List En := E.filter fun e => !vacE e
theorem liveE_snoc (E : List En) (k : Nat) (e : En) (h : E[k]? = some e) : liveE (E.take (k + 1)) = if vacE e = true then liveE (E.take k) else liveE (E.take k) ++ [e] := by
 unfold liveE;rw [List.take_add_one, h, List.filter_append]
 cases hv : vacE e
 ·rw [if_neg (by decide)]
  simp [hv]
 ·rw [if_pos rfl]
  simp [hv]
theorem liveE_len (E : List En) (k : Nat) : (liveE (E.take k)).length ≤ k := by
 unfold liveE;exact Nat.le_trans (List.length_filter_le _ _) (by rw [List.length_take]; omega)
theorem dlist_any (q p t m d gg lab B0 P0 M DA NB N K : Nat) (g : Cf.Ge) (Y V : Nat → Nat → Int) (num : Nat) (h1 : 1 ≤ num) (h2 : num ≤ M) (b0 : Nat → Nat) (E : List En) (hD : Dir B0 DA NB Y (V num) b0 E) (hI : Tab P0 M Y V) (hK : K < 190000000) (hg : GG g B0 P0 M DA NB N) (w : World) (h : Gr w q p t m d gg lab g B0 NB N ln Y K) :
  Calls Tryz.prog 28 #[.pointer (some ⟨q, 0, none⟩), .int .i64 num] w fun r w' => ∃ v' base, r = .returned (.tuple #[v', .int .i64 0]) ∧ w.heap.size ≤ base ∧ w'.ownsRow base 58 2 v' (liveE E).length (flatE (liveE E)) ∧ Gr w' q p t m d gg lab g B0 NB N ln Y (K + 1001) ∧ Kf w w' [t, m, d, gg] := by
 obtain ⟨iE, hi, hz, hs, hbE⟩ := Tryz.infoEn;have HI := jh hi;have HZ := jh hz;have HS := jh hs;have HBE := jh hbE;obtain ⟨dE, hu, hd⟩ := Tryz.descEn;have HU := jh hu;have HDd := jh hd;have HOp := jh (fun W hW => dopen_in (ln := ln) q p t m d gg lab B0 P0 M DA NB N K g Y V num h1 h2 b0 E hD hI hK hg W hW);have HG0 := jh h;have hsm := smE_of hD.ok;have hl := hD.n
 have h0lt : ∀ a ∈ [q, p, t, m, d, gg], a < w.heap.size := fun a ha => by
  obtain ⟨l1, l2, l3, l4, l5, l6⟩ := h.lts;simp only [List.mem_cons, List.not_mem_nil, or_false] at ha
  rcases ha with rfl | rfl | rfl | rfl | rfl | rfl <;> assumption
 have H0 := jh h0lt;have HE := jh hsm
 obtain ⟨n, hn⟩ : ∃ n, E.length = n := ⟨_, rfl⟩
 rw [hn] at HOp hl;have HN := jh hn
 have hn0 : (0 : Int) ≤ n := by omega
 have hn1 : (n : Int) ≤ 1024 := by omega
 clear h1 h2 hD hI hK hg h hsm h0lt hi hz hs hbE hu hd hn
 go_enter Tryz.func28, Tryz.ntmps28
 go_wp2_with fail
 refine (HOp.out w HG0.out).mono ?_;rintro e w1 ⟨bd, v, base, rfl, hbd, hbb, hV, hO, hG, hk⟩;have HV1 := jh hV;have HO1 := jh hO;have HG1 := jh hG;have HK1 := jh hk;have hbw : w.heap.size ≤ bd := hbd
 have HND : Hid (bd ∉ [t, m, d, gg]) := jh (fun ha => by
  have := H0.out bd (by simp only [List.mem_cons, List.not_mem_nil, or_false] at ha ⊢; omega)
  omega)
 clear hV hO hG hk HOp hbd;obtain ⟨pa, cap, hv⟩ := Cf.ownsRow_form HO1.out;subst hv;have c2 : w1.cell? ⟨bd, 2, none⟩ = some (.slice pa n cap) := HV1.out.c 2 _ rfl
 go_wp2_with fail
 clear c2
 go_loopw [8, 10, 25] (fun lv _ iv wr => ∃ k : Nat, k ≤ n ∧ iv = .int .i64 k ∧ Below w1.heap.size w1 wr ∧ ∃ m : Nat, m = (liveE (E.take k)).length ∧ wr.ownsRow w1.heap.size 58 2 lv m (flatE (liveE (E.take k)))) (fun _ _ iv _ => n - (Go.RowKit.intOf iv).toNat)
 case atStart => exact ⟨0, Nat.zero_le _, rfl, Below.refl _ _, 0, rfl, World.ownsRow_nil _ _ _ _⟩
 case round =>
  obtain ⟨k, hk, rfl, hb, m, hm, hO⟩ := hrel;obtain ⟨lp, lc, hlv⟩ := Cf.ownsRow_form hO;subst hlv;have HB := jh hb;have HL := jh hO;have HM := jh hm;have hsz := hb.size
  have hmk : m ≤ 1024 := by have := liveE_len E k; omega
  clear hb hO hm
  by_cases hlt : k < n
  ·obtain ⟨g0, rfl, hg1, hg2⟩ := own_some HO1.out (by omega)
   have hke : k < E.length := by have := HN.out; omega
   obtain ⟨e, he⟩ : ∃ e, E[k]? = some e := ⟨E[k], List.getElem?_eq_getElem hke⟩
   obtain ⟨he1, he2⟩ := HE.out e (List.mem_of_getElem? he);have HRg := jh (own_at (ownsRow_belowB HO1.out HB.out hg2) HN.out.symm he);have HVc := jh (fun W => vacant_any e (by unfold maxLen; omega) he2 W)
   have hki : (k : Int) < n := by omega
   have hk0 : (0 : Int) ≤ k := by omega
   have hsn := liveE_snoc E k e he
   obtain ⟨vc, hvc⟩ : ∃ x, vacE e = x := ⟨_, rfl⟩
   rw [hvc] at HVc hsn;have HSn := jh hsn;have HKn := jh hlt;obtain ⟨es, en⟩ := e;clear he hke he1 he2 hvc hlt hsn
   go_upto_region 8 with (first | (refine wpList_load_mid rfl 58 _ rfl g0 (k * 2) rfl (enc (es, en)) dE HRg.out HU.out HDd.out (sizeEn _) ?_) | (refine wpList_alloc_list (w := wr) rfl 58 rfl (enc zE) Tryz.zeroEn ?_; intro w2 F2 hb2 hz2; simp only [Act.put,j1,j2,j3,j4,j5,j6]; refine wpList_store_list rfl 58 (.tmp 10) (.tmp 28) rfl wr.heap.size (enc zE) (enc (es, en)) rfl rfl F2.out rfl (sizeEn _) (enc_one _) ?_; intro w3 F3 HK3; have HQ2 := jh hb2; clear hb2 F2))
   obtain ⟨bx, hbx⟩ : ∃ x, wr.heap.size = x := ⟨_, rfl⟩
   have HB3 := jh ((HB.out.trans (HQ2.out.mono hsz)).trans (HK3.out.below hsz hsz (Nat.le_trans hsz HQ2.out.size)))
   have hnx : ∀ kk, (Value.slice lp m lc).ownBlock = some kk → kk < bx := fun kk hkk => by
    have := World.ownsRow.lt HL.out kk hkk;omega
   have HL3 := jh (ownsRow_kpo (ownsRow_below HL.out HQ2.out) HK3.out (fun kk hkk => by have := hnx kk hkk; omega));rw [hbx] at F3
   try rw [hbx]
   clear HQ2 HK3 HB HL hbx hz2 HRg hnx;have HRx := jh F3.out.range0
   go_wp2_with (refine wpList_load_mid rfl 58 _ rfl bx 0 rfl (enc (es, en)) dE HRx.out HU.out HDd.out (sizeEn _) ?_)
   refine (HVc.out w3).mono ?_;rintro x w4 ⟨rfl, hb⟩;have HB4 := jh (HB3.out.trans (hb.mono HB3.out.size));have HL4 := jh (ownsRow_below HL3.out hb);have F4 := jh (F3.out.keep hb);have hsz4 := HB4.out.size;clear hb HVc HB3 HL3 F3 HRx
   cases vc
   ·have HRx : Hid (w4.rangeAt bx 0 [.string es, .int .u16 en]) := jh F4.out.range0
    go_wp2_with (first | (refine wpList_load_mid rfl 58 _ rfl bx 0 rfl [.string es, .int .u16 en] dE HRx.out HU.out HDd.out Tryz.isizeEn ?_) | (at_builtin; refine wpList_append_own _ rfl _ _ 68 rfl w1.heap.size 58 iE _ 2 24 Tryz.underlying68 HI.out HZ.out HS.out HBE.out rfl (by decide) _ _ _ rfl (HL4.out.alloc _) ⟨w4.heap.size, 0, none⟩ 1 1 [.string es, .int .u16 en] rfl rfl (Cf.cells_new w4 _ 58) (by simp [Value.oneCell']) (by unfold maxLen; omega) (by omega) (by simp; omega) ?_; intro v' wB hown' hgrow _; have hob := ownsRow_block HL4.out; have HLB := jh hown'; have HBB := jh ((HB4.out.alloc hsz4 (.cells #[.string es, .int .u16 en] 58)).grown hgrow (by simp; omega) hob); clear hown' hgrow hob))
    try simp only [Act.put]
    go_roundw
    case rel =>
     have hs := HSn.out;rw [if_neg (by decide)] at hs;refine ⟨k + 1, HKn.out, by go_num, HBB.out, m + 1, by rw [hs, List.length_append, HM.out]; rfl, ?_⟩;rw [hs, flatE_snoc];exact HLB.out
    case measure => (simp [Go.RowKit.intOf]; try omega)
   ·go_wp2_with fail
    go_roundw
    case rel =>
     have hs := HSn.out;rw [if_pos trivial] at hs;exact ⟨k + 1, HKn.out, by go_num, HB4.out, m, by rw [hs, HM.out], by rw [hs]; exact HL4.out⟩
    case measure => (simp [Go.RowKit.intOf]; try omega)
  ·obtain rfl : k = n := by omega
   have hl2 := HL.out;have hm2 := HM.out;rw [List.take_of_length_le (Nat.le_of_eq HN.out)] at hl2 hm2;have HL2 := jh hl2;have HM2 := jh hm2;clear hl2 hm2
   go_wp2_with fail
   go_ret2
   exact ⟨.slice lp m lc, w1.heap.size, rfl, HK1.out.size, by rw [← HM2.out]; exact HL2.out, HG1.out.keep HB.out, HK1.out.more HB.out⟩
end Go.Proofs.YtgdapkbenmlabaaGreatDoor
namespace Go.Proofs.YtgdapkbenmlabaaGreatDoor
open Go.RowKit Go.Maps
def H9 (b n : Nat) : Nat → Nat → Int := fun i j => if i = 0 ∧ j = 0 then b else if i = 1 ∧ j = 0 then n else 0
theorem H9_ok (b n : Nat) (hb : b < 256) (hn : n < 256) : Cf.Hok (H9 b n) := fun i j _ _ => by
 unfold H9
 split
 ·omega
 ·split
  ·omega
  ·decide
structure C9 (R : List Cf.Rg) (NB N : Nat) (g : Cf.Ge) (B0 P0 DA : Nat) : Prop where
 l2 : R.length = 2
 sm : ∀ r ∈ R, Cf.Small r
 hN : (Cf.layF R).2 = N
 n0 : 32 ≤ N
 n1 : N ≤ 65536
 hg : (Cf.layF R).1[0]'(by rw [Cf.lay_len, l2]; decide) = g
 gg : GG g B0 P0 8 DA NB N
theorem c9 (b n : Nat) (hb : b < 256) (hn : n < 256) : ∃ N g B0 P0 DA, C9 (Cf.sizeRs 2 (H9 b n)) (8 + b % 60) N g B0 P0 DA := by
 have hl : (Cf.sizeRs 2 (H9 b n)).length = 2 := Cf.sizeRs_len 2 (.inl rfl) _;have hsm : ∀ r ∈ Cf.sizeRs 2 (H9 b n), Cf.Small r := Cf.size_small 2 (.inl rfl) _ (H9_ok b n hb hn);have e1 : ((Cf.sizeRs 2 (H9 b n))[0]'(by rw [hl]; decide)).bl = 8 + (b : Int) % 60 := rfl;have e2 : ((Cf.sizeRs 2 (H9 b n))[0]'(by rw [hl]; decide)).nd = 8 := rfl
 obtain ⟨R, hR⟩ : ∃ R, Cf.sizeRs 2 (H9 b n) = R := ⟨_, rfl⟩
 simp only [hR] at hl hsm e1 e2 ⊢;have hT := Cf.layF_range R hsm R.length (Nat.le_refl _);rw [List.take_length] at hT;obtain ⟨N, hN⟩ := Int.eq_ofNat_of_zero_le (show 0 ≤ (Cf.layF R).2 by omega)
 obtain ⟨g, hgi⟩ : ∃ g, (Cf.layF R).1[0]'(by rw [Cf.lay_len, hl]; decide) = g := ⟨_, rfl⟩
 obtain ⟨B0, P0, M, DA, NB, hg, hbl, hnd⟩ := geo_gg R hsm (by rw [hl]; decide) N hN 0 (by rw [hl]; decide) g hgi;rw [e1] at hbl;rw [e2] at hnd
 obtain rfl : NB = 8 + b % 60 := by omega
 obtain rfl : M = 8 := by omega
 exact ⟨N, g, B0, P0, DA, hl, hsm, hN, by omega, by omega, hgi, hg⟩
theorem fresh9 {R : List Cf.Rg} {NB N : Nat} {g : Cf.Ge} {B0 P0 DA : Nat} (hc : C9 R NB N g B0 P0 DA) (n : Nat) (vr vm vg : Value) (w : World) (h : Cf.CF n w vr vm vg R []) :
  Calls Tryz.prog 12 #[.pointer (some ⟨n + 3, 0, none⟩)] w fun e w' => ∃ t m d g' l Y, e = .returned (.tuple #[.pointer (some ⟨d, 0, none⟩), .pointer (some ⟨l, 0, none⟩), .pointer (some ⟨t, 0, none⟩)]) ∧ From w.heap.size t m d g' ∧ w.heap.size ≤ l ∧ l ∉ [t, m, d, g'] ∧ Lg w' l d 1 ∧ Rd w' t m d g' N ⟨[], Y⟩ Y 7000 ∧ Tab P0 8 Y (VF 3) ∧ (∀ j, j < 512 → bt Y B0 j = false) ∧ Below w.heap.size w w' := by
 have hl := hc.l2;refine (fresh_any n vr vm vg R [] hc.sm (by rw [hl]; decide) (by rw [hl]; decide) N hc.hN hc.n0 hc.n1 w h).mono ?_;rintro e w' ⟨t, m, d, g', l, Y, he, h1, h2, h3, h4, h5, h6, h7⟩;have h8 := h6.done 0 (by rw [hl]; decide) (by rw [hl]; decide);rw [hc.hg] at h8;obtain ⟨h9, h10⟩ := h8 B0 P0 8 DA NB hc.gg;exact ⟨t, m, d, g', l, Y, he, h1, h2, h3, h4, h5, h9, h10, h7⟩
theorem open9 {R : List Cf.Rg} {NB N : Nat} {g : Cf.Ge} {B0 P0 DA : Nat} (hc : C9 R NB N g B0 P0 DA) (ln : Lm) (t m d gg n K : Nat) (Y : Nat → Nat → Int) (vr vm vg : Value) (w : World) (h : Cf.CF n w vr vm vg R []) (hr : Rd w t m d gg N ln Y K) :
  Calls Tryz.prog 16 #[.pointer (some ⟨t, 0, none⟩), .pointer (some ⟨n + 3, 0, none⟩), .int .i64 0] w fun e w' => ∃ q p, e = .returned (.tuple #[.pointer (some ⟨q, 0, none⟩), .int .i64 0]) ∧ w.heap.size ≤ q ∧ w.heap.size ≤ p ∧ Gr w' q p t m d gg 0 g B0 NB N ln Y K ∧ Below w.heap.size w w' :=
 gopen_in (ln := ln) t m d gg n B0 P0 8 DA NB N K Y vr vm vg R [] 0 (by rw [hc.l2]; decide) g hc.hg hc.gg w h hr
structure S1 (B0 P0 DA NB : Nat) (Y V : Nat → Nat → Int) (b : Nat → Nat) (E : List En) : Prop where
 tab : Tab P0 8 Y V
 dir : Dir B0 DA NB Y (V 1) b E
 u : ∀ j, j < NB → (bt Y B0 j = true ↔ ∃ c, ndS (nbE E.length) c = true ∧ b c = j + 1)
theorem S1.fresh {B0 P0 DA NB : Nat} {Y : Nat → Nat → Int} (hT : Tab P0 8 Y (VF 3)) (hb : ∀ j, j < 512 → bt Y B0 j = false) (hN : NB ≤ 512) : S1 B0 P0 DA NB Y (VF 3) (fun _ => 0) [] := by
 have hV : VF 3 1 = own 2 := by
  unfold VF;rw [if_pos (by decide)];rfl
 refine ⟨hT, ?_, fun j hj => ?_⟩
 ·rw [hV];refine ⟨rfl, by decide, rfl, by decide, ?_, (fun e he => by cases he), fun i hi => absurd hi (Nat.not_lt_zero _)⟩;exact Fu.none B0 DA NB Y (own 2) _ (fun i h4 _ => own_noblocks 2 i h4)
 ·rw [hb j (by omega)]
  constructor
  ·intro h
   cases h
  ·rintro ⟨c, hc, -⟩;rw [ndS_iff] at hc;unfold nbE at hc
   simp at hc
theorem S1.move {B0 P0 TB DA NB : Nat} {Y0 V0 Y V : Nat → Nat → Int} {b0 b : Nat → Nat} {E0 E : List En} (h : S1 B0 P0 DA NB Y0 V0 b0 E0) (hT : Tab P0 8 Y V) (hD : Dir B0 DA NB Y (V 1) b E) (hM : Mv B0 TB DA NB Y0 (nbE E0.length) b0 Y (nbE E.length) b) : S1 B0 P0 DA NB Y V b E := by
 refine ⟨hT, hD, fun j hj => ?_⟩;rw [hM.u j hj, h.u j hj]
 constructor
 ·rintro (⟨⟨c, h1, h2⟩, h3⟩ | ⟨c, h1, -, h2⟩)
  ·cases hn : ndS (nbE E.length) c
   ·exact absurd ⟨c, h1, hn, h2⟩ h3
   ·exact ⟨c, hn, (hM.bb c h1 hn).trans h2⟩
  ·exact ⟨c, h1, h2⟩
 ·rintro ⟨c, h1, h2⟩
  cases hn : ndS (nbE E0.length) c
  ·exact .inr ⟨c, h1, hn, h2⟩
  ·refine .inl ⟨⟨c, hn, (hM.bb c hn h1).symm.trans h2⟩, fun ⟨c', k1, k2, k3⟩ => ?_⟩;have := h.dir.fu.fi.inj c' c k1 hn (by rw [k3, ← hM.bb c hn h1, h2]);rw [this, h1] at k2
   cases k2
def L9 : List Nat := 2000 :: List.range 26
theorem L9_len : L9.length = 27 := rfl
theorem L9_mem (c : Nat) : c ∈ L9 ↔ c = 2000 ∨ c < 26 := by
 unfold L9
 simp
theorem L9_has (c : Nat) (hc : c < 26) (i : Nat) (hi : i ≤ lenC c) : chS c i ∈ L9 := by
 have := (chS_cases c (by omega) (chS c i)).1 ⟨i, hi, rfl⟩;rw [L9_mem];omega
theorem L9_nd (n c : Nat) (hn : n ≤ 26) (h : ndS n c = true) : c ∈ L9 := by
 rw [ndS_iff] at h;rw [L9_mem];omega
def roomN : List En → Nat
 | [] => 0
 | e :: E => if vacE e = true then 0 else roomN E + 1
theorem room_eq : ∀ (E : List En) (i : Nat), isRoom E i → i = roomN E
 | [], i, h => by
  have := h.1
  show i = 0
  simpa using this
 | e :: E, i, ⟨h1, h2, h3⟩ => by
  unfold roomN
  cases hv : vacE e
  ·rw [if_neg (by decide)]
   cases i with
   | zero =>
    rcases h3 with h3 | ⟨e', he, hv'⟩
    ·simp at h3
    ·simp only [List.getElem?_cons_zero, Option.some.injEq] at he;rw [← he, hv] at hv'
     cases hv'
   | succ i =>
    rw [← room_eq E i ⟨by simpa using h1, fun j e' hj he => h2 (j + 1) e' (by omega) (by rw [List.getElem?_cons_succ]; exact he), h3.imp (fun h => by simpa using h) (fun ⟨e', he, hv'⟩ => ⟨e', by rw [List.getElem?_cons_succ] at he; exact he, hv'⟩)⟩]
  ·rw [if_pos rfl]
   cases i with
   | zero => rfl
   | succ i =>
    have := h2 0 e (Nat.zero_lt_succ _) rfl;rw [hv] at this
    cases this
def usedN : List En → Nat
 | [] => 0
 | e :: E => if usedN E = 0 then (if vacE e = true then 0 else 1) else usedN E + 1
theorem used_eq : ∀ (E : List En) (u : Nat), isUsed E u → u = usedN E
 | [], u, h => by
  have := h.1
  show u = 0
  simpa using this
 | e :: E, u, ⟨h1, h2, h3⟩ => by
  unfold usedN
  cases u with
  | zero =>
   rw [← used_eq E 0 ⟨Nat.zero_le _, fun j e' hj he => h2 (j + 1) e' (Nat.zero_le _) (by rw [List.getElem?_cons_succ]; exact he), .inl rfl⟩, if_pos rfl, if_pos (h2 0 e (Nat.le_refl _) rfl)]
  | succ u =>
   have h3' := h3.resolve_left (by omega);obtain ⟨e', he, hv⟩ := h3';rw [Nat.add_sub_cancel] at he
   have hu : isUsed E u := ⟨by simpa using h1, fun j e' hj he => h2 (j + 1) e' (by omega) (by rw [List.getElem?_cons_succ]; exact he), by
    cases u with
    | zero => exact .inl rfl
    | succ u => exact .inr ⟨e', by rw [List.getElem?_cons_succ] at he; exact he, hv⟩⟩
   rw [← used_eq E u hu]
   cases u with
   | zero =>
    simp only [List.getElem?_cons_zero, Option.some.injEq] at he;rw [if_pos rfl, if_neg (by rw [he, hv]; decide)]
   | succ u => rw [if_neg (by omega)]
def findN (s : ByteArray) : List En → Nat
 | [] => 0
 | e :: E => if mtE s e = true then 0 else findN s E + 1
theorem find_eq (s : ByteArray) : ∀ (E : List En) (i : Nat) (e : En), E[i]? = some e → mtE s e = true → (∀ (j : Nat) (e' : En), j < i → E[j]? = some e' → mtE s e' = false) → i = findN s E
 | [], i, e, he, _, _ => by simp at he
 | a :: E, i, e, he, hm, hf => by
  unfold findN
  cases i with
  | zero =>
   simp only [List.getElem?_cons_zero, Option.some.injEq] at he;rw [he, if_pos hm]
  | succ i =>
   rw [if_neg (by rw [hf 0 a (Nat.zero_lt_succ _) rfl]; decide), ← find_eq s E i e (by rw [List.getElem?_cons_succ] at he; exact he) hm (fun j e' hj he' => hf (j + 1) e' (by omega) (by rw [List.getElem?_cons_succ]; exact he'))]
theorem add1 {N : Nat} {g : Cf.Ge} {B0 P0 DA NB : Nat} (hg : GG g B0 P0 8 DA NB N) (hNB : 28 ≤ NB) (q p t m d gg K : Nat) (Y V D : Nat → Nat → Int) (b : Nat → Nat) (E : List En) (hS : S1 B0 P0 DA NB Y V b E) (hE : E.length ≤ 99) (hK : K < 150000000) (x : En) (hx : x.2 < 65536) (w : World) (h : Gr w q p t m d gg 0 g B0 NB N ⟨dl B0 P0 DA b (ndS (nbE E.length)) L9, D⟩ Y K) :
  Calls Tryz.prog 25 #[.pointer (some ⟨q, 0, none⟩), .int .i64 1, .agg (enc x).toArray] w fun r w' => r = .returned (.int .i64 (addC E x)) ∧ Kf w w' [t, m, d, gg] ∧ ((¬ addC E x = 0 ∧ Gr w' q p t m d gg 0 g B0 NB N ⟨dl B0 P0 DA b (ndS (nbE E.length)) L9, D⟩ Y (K + 30000)) ∨
   (addC E x = 0 ∧ ∃ Y' V' b', Gr w' q p t m d gg 0 g B0 NB N ⟨dl B0 P0 DA b' (ndS (nbE (setE E (roomN E) x).length)) L9, D⟩ Y' (K + 30000) ∧ S1 B0 P0 DA NB Y' V' b' (setE E (roomN E) x))) := by
 have hlts := h.lts;refine (dadd_any (ln := ⟨dl B0 P0 DA b (ndS (nbE E.length)) L9, D⟩) q p t m d gg 0 B0 P0 8 DA NB N K g Y V 1 (by decide) (by decide) b E hS.dir hS.tab (by omega) hg w h x hx (fun c w' => c = 0 ∧ Kf w w' [t, m, d, gg] ∧ ∃ Y' V' b', Gr w' q p t m d gg 0 g B0 NB N ⟨dl B0 P0 DA b' (ndS (nbE (setE E (roomN E) x).length)) L9, D⟩ Y' (K + 30000) ∧ S1 B0 P0 DA NB Y' V' b' (setE E (roomN E) x)) (fun hn hx0 hno i hi W sb hG hk hsb hF => ?_)).mono ?_
 ·have hir := room_eq E i hi;have hi1 := hi.1;have hl := setE_len E i x hi1
  have he : okE x := ⟨by omega, hx, hn⟩
  refine (dwrite_in q p t m d gg 0 B0 P0 8 DA NB N (K + 1001) P0 g Y V b L9 D (by rw [L9_len]; decide) 1 (by omega) (by decide) (by decide) E hS.dir hS.tab (by omega) hg W hG i hi1 (by omega) x (.inr he) (fun j hj => L9_has (i / 4) (by omega) j hj) sb hF (fun ha => by
   simp only [List.mem_cons, List.not_mem_nil, or_false] at ha
   omega)).mono ?_
  rintro r w' (⟨Y', f, B, rfl, hG', hk', hT, hDd, hMv⟩ | ⟨Y', ln, B, n, -, -, -, -, hall, hn1, -, hB, hu⟩)
  ·rw [← hir];exact ⟨0, rfl, hk', rfl, hk.trans hk', Y', vput 1 f V, B, hG'.mono (Lm.le_refl _) (by omega), hS.move hT (by rw [vput_at]; exact hDd) hMv⟩
  ·exfalso
   have := no_space NB n B L9 (fun c hc => L9_nd _ c (by unfold nbE; omega) (hn1 c hc)) (fun j hj => by
    have := (hu j hj).1 (hall j hj);rw [hS.u j hj] at this;rcases this with ⟨c, h1, h2⟩ | ⟨c, h1, -, h2⟩
    ·obtain ⟨h3, h4⟩ := hB c h1;exact ⟨c, h3, by rw [h4]; exact h2⟩
    ·exact ⟨c, h1, h2⟩)
   rw [L9_len] at this;omega
 ·rintro r w' ⟨c, rfl, (⟨h1, h2, h3, h4⟩ | ⟨h1, rfl, h3, h4⟩)⟩
  ·exact ⟨by rw [h2], h4, .inl ⟨h1, h3.mono (Lm.le_refl _) (by omega)⟩⟩
  ·exact ⟨by rw [h1], h3, .inr ⟨h1, h4⟩⟩
theorem drop1 {N : Nat} {g : Cf.Ge} {B0 P0 DA NB : Nat} (hg : GG g B0 P0 8 DA NB N) (q p t m d gg K : Nat) (Y V D : Nat → Nat → Int) (b : Nat → Nat) (E : List En) (hS : S1 B0 P0 DA NB Y V b E) (hE : E.length ≤ 100) (hK : K < 150000000) (s : ByteArray) (w : World) (h : Gr w q p t m d gg 0 g B0 NB N ⟨dl B0 P0 DA b (ndS (nbE E.length)) L9, D⟩ Y K) :
  Calls Tryz.prog 19 #[.pointer (some ⟨q, 0, none⟩), .int .i64 1, .string s] w fun r w' => Kf w w' [t, m, d, gg] ∧ (((∀ e ∈ E, mtE s e = false) ∧ r = .returned (.int .i64 3) ∧ Gr w' q p t m d gg 0 g B0 NB N ⟨dl B0 P0 DA b (ndS (nbE E.length)) L9, D⟩ Y (K + 40000)) ∨
   (E.any (mtE s) = true ∧ r = .returned (.int .i64 0) ∧ ∃ Y' V' b', Gr w' q p t m d gg 0 g B0 NB N ⟨dl B0 P0 DA b' (ndS (nbE E.length)) L9, D⟩ Y' (K + 40000) ∧ S1 B0 P0 DA NB Y' V' b' ((E.set (findN s E) zE).take (usedN (E.set (findN s E) zE))))) := by
 refine (ddrop_in q p t m d gg 0 B0 P0 8 DA NB N K P0 g Y V b L9 D (by rw [L9_len]; decide) 1 (by omega) (by decide) (by decide) E hS.dir hS.tab hK hg (fun c hc j hj => L9_has c (by omega) j hj) w h s).mono ?_;rintro r w' ⟨hk, (⟨h1, rfl, h3⟩ | ⟨i, e, u, Y', f, B, hie, hme, hfi, hu, rfl, hG, hT, hDd, hMv⟩)⟩
 ·exact ⟨hk, .inl ⟨h1, rfl, h3.mono (Lm.le_refl _) (by omega)⟩⟩
 ·have hii := find_eq s E i e hie hme hfi;have huu := used_eq _ u hu;have hul := hu.1
  have hlen : ((E.set i zE).take u).length = u := by rw [List.length_take]; omega
  rw [hii] at huu;rw [← hlen] at hMv;have := hS.move hT (by rw [vput_at]; exact hDd) hMv;rw [hii, huu] at this;exact ⟨hk, .inr ⟨List.any_eq_true.2 ⟨e, List.mem_of_getElem? hie, hme⟩, rfl, Y', vput 1 f V, B, hG, this⟩⟩
theorem awake9 (w : World) : Calls Tryz.prog 10 #[] w fun e w' => e = .returned (.bool true) ∧ Below w.heap.size w w' := by
 have hSz := jh (fun W => Cf.sizeconf_two 0 (by decide) (by decide) (H9 30 10) (H9_ok 30 10 (by decide) (by decide)) (.slice none 0 0) [] (fun x hx => by cases hx) W (u8s_none W) (by decide) rfl)
 have eSz : Cf.sizeVal 0 (H9 30 10) (.slice none 0 0) = (.agg #[.int .u8 0, .int .u8 30, .int .u8 0, .int .u8 0, .int .u8 0, .int .u8 0, .int .u8 10, .int .u8 0, .int .u8 0, .int .u8 0, .int .u8 0, .int .u8 0, .int .u8 0, .int .u8 0, .int .u8 0, .int .u8 0, .int .u8 0, .int .u8 0, .int .u8 0, .int .u8 0, .int .u8 0, .int .u8 0, .int .u8 0, .int .u8 0, .int .u8 0, .int .u8 0, .slice none 0 0]) := by kernel_rfl
 rw [eSz] at hSz;clear eSz;obtain ⟨N, g, B0, P0, DA, hc9⟩ := c9 30 10 (by decide) (by decide)
 obtain ⟨R9, hR9⟩ : ∃ x, Cf.sizeRs 2 (H9 30 10) = x := ⟨_, rfl⟩
 rw [hR9] at hSz hc9;have HC9 := jh hc9;have HGG := jh hc9.gg;clear hc9 hR9
 go_enter Tryz.func10, Tryz.ntmps10
 go_wp2_with fail
 refine (hSz.out w).mono ?_;rintro e w2 ⟨n, vr, vm, vg, rfl, -, hb2, hCF⟩;have HB2 := jh hb2;have HCF := jh hCF;clear hb2 hCF hSz
 go_wp2_with fail
 refine (fresh9 HC9.out n vr vm vg w2 HCF.out).mono ?_;rintro e w3 ⟨t, mm, dd, gg, l, Y0, rfl, hFr, hll, hln, hLg, hRd, hTab, hbit, hb3⟩;have HR3 := jh hRd;have HL3 := jh hLg;have HS3 := jh (S1.fresh (P0 := P0) (DA := DA) hTab hbit HGG.out.n512);have HTab := jh hTab;have HBit := jh hbit;have HCF3 := jh (HCF.out.below hb3);have HNl := jh (show l ∉ [dd, gg] from fun h => hln (by simp only [List.mem_cons, List.not_mem_nil, or_false] at h ⊢; omega));have HNt := jh hln;have hdd : w2.heap.size ≤ dd := hFr.2.2.1;have hgg : w2.heap.size ≤ gg := hFr.2.2.2;have hdt : w2.heap.size ≤ t := hFr.1;have hdm : w2.heap.size ≤ mm := hFr.2.1;have hw2 : w.heap.size ≤ w2.heap.size := HB2.out.size;have hw3 := hb3.size;have HCFx : Hid (∀ W, Below w2.heap.size w2 W → Cf.CF n W vr vm vg R9 []) := jh (fun W hk => HCF.out.below hk);have HZ3 := jh hb3;clear hFr hll hln hLg hRd hTab hbit hb3 HCF;have HOp := jh (open9 HC9.out ⟨dl B0 P0 DA (fun _ => 0) (ndS (nbE 0)) L9, Y0⟩ t mm dd gg n 7000 Y0 vr vm vg w3 HCF3.out (HR3.out.wide (Lm.nil_le _ _)))
 go_wp2_with fail
 refine HOp.out.mono ?_;rintro e w4 ⟨q, p, rfl, hq, hp, hG, hb⟩;have HG4 := jh hG;have HB4 := jh (HZ3.out.trans (hb.mono hw3));have HL4 := jh (HL3.out.keep hb);have hsz4 := HB4.out.size;clear hG hb HOp HR3 HCF3
 go_upto_region 5 with fail
 have F5 := jh (Vl.new w4 [.string ⟨#[97]⟩, .string ⟨#[98]⟩, .string ⟨#[99]⟩] 9);have hb5 : Below w4.heap.size w4 (w4.alloc (.cells [.string ⟨#[97]⟩, .string ⟨#[98]⟩, .string ⟨#[99]⟩].toArray 9)) := (Below.refl _ _).alloc (Nat.le_refl _) _;have HG5 := jh (HG4.out.keep hb5);have HB5 := jh (HB4.out.trans (hb5.mono hsz4))
 obtain ⟨bN, hbN⟩ : ∃ x, w4.heap.size = x := ⟨_, rfl⟩
 have hNw : w2.heap.size ≤ bN := by omega
 have hNt : bN ∉ [t, mm, dd, gg] := hbN ▸ HG4.out.rd.notin (Nat.le_refl _)
 obtain ⟨w5, hw5⟩ : ∃ x, w4.alloc (.cells [.string ⟨#[97]⟩, .string ⟨#[98]⟩, .string ⟨#[99]⟩].toArray 9) = x := ⟨_, rfl⟩
 rw [hw5] at F5 HG5 HB5
 try (change wp _ _ _ _ (w4.alloc (.cells [.string ⟨#[97]⟩, .string ⟨#[98]⟩, .string ⟨#[99]⟩].toArray 9)))
 rw [hw5];rw [hbN] at F5
 try rw [hbN]
 have HNt5 := jh hNt;clear hw5 hb5 hbN hNt HG4 HB4
 go_loopw [8, 32] (fun _ iv wr => ∃ k : Nat, k ≤ 3 ∧ iv = .int .i64 k ∧ Below w2.heap.size w2 wr ∧ Vl wr bN [.string ⟨#[97]⟩, .string ⟨#[98]⟩, .string ⟨#[99]⟩] ∧ ∃ Y V b, Gr wr q p t mm dd gg 0 g B0 (8 + 30 % 60) N ⟨dl B0 P0 DA b (ndS (nbE k)) L9, Y0⟩ Y (7000 + 30000 * k) ∧ S1 B0 P0 DA (8 + 30 % 60) Y V b (List.take k [(⟨#[97]⟩, 5), (⟨#[98]⟩, 5), (⟨#[99]⟩, 5)])) (fun _ iv _ => 3 - (Go.RowKit.intOf iv).toNat)
 case atStart => exact ⟨0, Nat.zero_le _, rfl, HB5.out, F5.out, Y0, VF 3, fun _ => 0, HG5.out, HS3.out⟩
 case round =>
  obtain ⟨k, hk, rfl, hb, hF, Y, V, b, hG, hS⟩ := hrel;have HBX := jh hb;have FX := jh hF;have HGX := jh hG;have HSX := jh hS;clear hb hF hG hS HB5 F5 HG5
  have hk4 : k = 0 ∨ k = 1 ∨ k = 2 ∨ k = 3 := by omega
  rcases hk4 with rfl | rfl | rfl | rfl
  ·have HAd := jh (add1 HGG.out (by decide) q p t mm dd gg (7000 + 30000 * 0) Y V Y0 b (List.take 0 [(⟨#[97]⟩, 5), (⟨#[98]⟩, 5), (⟨#[99]⟩, 5)]) HSX.out (by decide) (by decide) (⟨#[97]⟩, 5) (by decide) wr HGX.out)
   have ha0 : addC (List.take 0 [(⟨#[97]⟩, 5), (⟨#[98]⟩, 5), (⟨#[99]⟩, 5)]) (⟨#[97]⟩, 5) = 0 := by kernel_rfl
   have he1 : setE (List.take 0 [(⟨#[97]⟩, 5), (⟨#[98]⟩, 5), (⟨#[99]⟩, 5)]) (roomN (List.take 0 [(⟨#[97]⟩, 5), (⟨#[98]⟩, 5), (⟨#[99]⟩, 5)])) (⟨#[97]⟩, 5) = List.take 1 [(⟨#[97]⟩, 5), (⟨#[98]⟩, 5), (⟨#[99]⟩, 5)] := by kernel_rfl
   rw [ha0, he1] at HAd;have cN := FX.out.c 0 _ rfl;clear HGX ha0 he1
   go_wp2_with fail
   refine HAd.out.mono ?_;rintro e w6 ⟨rfl, hk, (⟨hh, -⟩ | ⟨-, Y', V', b', hG, hS⟩)⟩
   ·exact absurd trivial hh
   ·have HB6 := jh (HBX.out.trans (hk.below (B := w2.heap.size) (fun a ha => by
     simp only [List.mem_cons, List.not_mem_nil, or_false] at ha
     omega) HBX.out.size))
    have F6 := jh (FX.out.kf hk HNt5.out);have HG6 := jh hG;have HS6 := jh hS;clear hk hG hS HAd cN
    go_wp2_with fail
    go_roundw
    case rel => exact ⟨1, by decide, by go_num, HB6.out, F6.out, Y', V', b', HG6.out, HS6.out⟩
    case measure => decide
  ·have HAd := jh (add1 HGG.out (by decide) q p t mm dd gg (7000 + 30000 * 1) Y V Y0 b (List.take 1 [(⟨#[97]⟩, 5), (⟨#[98]⟩, 5), (⟨#[99]⟩, 5)]) HSX.out (by decide) (by decide) (⟨#[98]⟩, 5) (by decide) wr HGX.out)
   have ha0 : addC (List.take 1 [(⟨#[97]⟩, 5), (⟨#[98]⟩, 5), (⟨#[99]⟩, 5)]) (⟨#[98]⟩, 5) = 0 := by kernel_rfl
   have he1 : setE (List.take 1 [(⟨#[97]⟩, 5), (⟨#[98]⟩, 5), (⟨#[99]⟩, 5)]) (roomN (List.take 1 [(⟨#[97]⟩, 5), (⟨#[98]⟩, 5), (⟨#[99]⟩, 5)])) (⟨#[98]⟩, 5) = List.take 2 [(⟨#[97]⟩, 5), (⟨#[98]⟩, 5), (⟨#[99]⟩, 5)] := by kernel_rfl
   rw [ha0, he1] at HAd;have cN := FX.out.c 1 _ rfl;clear HGX ha0 he1
   go_wp2_with fail
   refine HAd.out.mono ?_;rintro e w6 ⟨rfl, hk, (⟨hh, -⟩ | ⟨-, Y', V', b', hG, hS⟩)⟩
   ·exact absurd trivial hh
   ·have HB6 := jh (HBX.out.trans (hk.below (B := w2.heap.size) (fun a ha => by
     simp only [List.mem_cons, List.not_mem_nil, or_false] at ha
     omega) HBX.out.size))
    have F6 := jh (FX.out.kf hk HNt5.out);have HG6 := jh hG;have HS6 := jh hS;clear hk hG hS HAd cN
    go_wp2_with fail
    go_roundw
    case rel => exact ⟨2, by decide, by go_num, HB6.out, F6.out, Y', V', b', HG6.out, HS6.out⟩
    case measure => decide
  ·have HAd := jh (add1 HGG.out (by decide) q p t mm dd gg (7000 + 30000 * 2) Y V Y0 b (List.take 2 [(⟨#[97]⟩, 5), (⟨#[98]⟩, 5), (⟨#[99]⟩, 5)]) HSX.out (by decide) (by decide) (⟨#[99]⟩, 5) (by decide) wr HGX.out)
   have ha0 : addC (List.take 2 [(⟨#[97]⟩, 5), (⟨#[98]⟩, 5), (⟨#[99]⟩, 5)]) (⟨#[99]⟩, 5) = 0 := by kernel_rfl
   have he1 : setE (List.take 2 [(⟨#[97]⟩, 5), (⟨#[98]⟩, 5), (⟨#[99]⟩, 5)]) (roomN (List.take 2 [(⟨#[97]⟩, 5), (⟨#[98]⟩, 5), (⟨#[99]⟩, 5)])) (⟨#[99]⟩, 5) = List.take 3 [(⟨#[97]⟩, 5), (⟨#[98]⟩, 5), (⟨#[99]⟩, 5)] := by kernel_rfl
   rw [ha0, he1] at HAd;have cN := FX.out.c 2 _ rfl;clear HGX ha0 he1
   go_wp2_with fail
   refine HAd.out.mono ?_;rintro e w6 ⟨rfl, hk, (⟨hh, -⟩ | ⟨-, Y', V', b', hG, hS⟩)⟩
   ·exact absurd trivial hh
   ·have HB6 := jh (HBX.out.trans (hk.below (B := w2.heap.size) (fun a ha => by
     simp only [List.mem_cons, List.not_mem_nil, or_false] at ha
     omega) HBX.out.size))
    have F6 := jh (FX.out.kf hk HNt5.out);have HG6 := jh hG;have HS6 := jh hS;clear hk hG hS HAd cN
    go_wp2_with fail
    go_roundw
    case rel => exact ⟨3, by decide, by go_num, HB6.out, F6.out, Y', V', b', HG6.out, HS6.out⟩
    case measure => decide
  ·have HDr := jh (drop1 HGG.out q p t mm dd gg (7000 + 30000 * 3) Y V Y0 b [(⟨#[97]⟩, 5), (⟨#[98]⟩, 5), (⟨#[99]⟩, 5)] HSX.out (by decide) (by decide) ⟨#[98]⟩ wr HGX.out)
   have he1 : (List.set [(⟨#[97]⟩, 5), (⟨#[98]⟩, 5), (⟨#[99]⟩, 5)] (findN ⟨#[98]⟩ [(⟨#[97]⟩, 5), (⟨#[98]⟩, 5), (⟨#[99]⟩, 5)]) zE).take (usedN (List.set [(⟨#[97]⟩, 5), (⟨#[98]⟩, 5), (⟨#[99]⟩, 5)] (findN ⟨#[98]⟩ [(⟨#[97]⟩, 5), (⟨#[98]⟩, 5), (⟨#[99]⟩, 5)]) zE)) = [(⟨#[97]⟩, 5), zE, (⟨#[99]⟩, 5)] := by kernel_rfl
   rw [he1] at HDr;clear HGX he1
   go_wp2_with fail
   refine HDr.out.mono ?_;rintro e w6 ⟨hk, (⟨hno, -⟩ | ⟨-, rfl, Y', V', b', hG, hS⟩)⟩
   ·exact absurd (hno (⟨#[98]⟩, 5) (by simp)) (by decide +kernel)
   have HB6 := jh (HBX.out.trans (hk.below (B := w2.heap.size) (fun a ha => by
    simp only [List.mem_cons, List.not_mem_nil, or_false] at ha
    omega) HBX.out.size))
   have HG6 := jh hG;have HS6 := jh hS;clear hk hG hS HDr HBX;have HAd := jh (add1 HGG.out (by decide) q p t mm dd gg (7000 + 30000 * 3 + 40000) Y' V' Y0 b' [(⟨#[97]⟩, 5), zE, (⟨#[99]⟩, 5)] HS6.out (by decide) (by decide) (⟨#[100]⟩, 6) (by decide) w6 HG6.out)
   have ha0 : addC [(⟨#[97]⟩, 5), zE, (⟨#[99]⟩, 5)] (⟨#[100]⟩, 6) = 0 := by kernel_rfl
   have he1 : setE [(⟨#[97]⟩, 5), zE, (⟨#[99]⟩, 5)] (roomN [(⟨#[97]⟩, 5), zE, (⟨#[99]⟩, 5)]) (⟨#[100]⟩, 6) = [(⟨#[97]⟩, 5), (⟨#[100]⟩, 6), (⟨#[99]⟩, 5)] := by kernel_rfl
   rw [ha0, he1] at HAd;clear HG6 ha0 he1
   go_wp2_with fail
   refine HAd.out.mono ?_;rintro e w7 ⟨rfl, hk, (⟨hh, -⟩ | ⟨-, Y2, V2, b2, hG, hS⟩)⟩
   ·exact absurd trivial hh
   have HB7 := jh (HB6.out.trans (hk.below (B := w2.heap.size) (fun a ha => by
    simp only [List.mem_cons, List.not_mem_nil, or_false] at ha
    omega) HB6.out.size))
   have HLi := jh (dlist_any (ln := ⟨dl B0 P0 DA b2 (ndS (nbE 3)) L9, Y0⟩) q p t mm dd gg 0 B0 P0 8 DA (8 + 30 % 60) N (7000 + 30000 * 3 + 40000 + 30000) g Y2 V2 1 (by decide) (by decide) b2 [(⟨#[97]⟩, 5), (⟨#[100]⟩, 6), (⟨#[99]⟩, 5)] hS.dir hS.tab (by decide) HGG.out w7 hG)
   have hlv : liveE [(⟨#[97]⟩, 5), (⟨#[100]⟩, 6), (⟨#[99]⟩, 5)] = [(⟨#[97]⟩, 5), (⟨#[100]⟩, 6), (⟨#[99]⟩, 5)] := by kernel_rfl
   rw [hlv] at HLi;clear hk hG hS HAd HB6 hlv
   go_wp2_with fail
   refine HLi.out.mono ?_;rintro e w8 ⟨v', base, rfl, hbs, hO, -, hk⟩
   have HB8 := jh (HB7.out.trans (hk.below (B := w2.heap.size) (fun a ha => by
    simp only [List.mem_cons, List.not_mem_nil, or_false] at ha
    omega) HB7.out.size))
   obtain ⟨pa, cap, hv⟩ := Cf.ownsRow_form hO;subst hv;obtain ⟨g0, rfl, -, -⟩ := own_some hO (by decide);have hra := own_at hO rfl (k := 1) rfl;have cA : w8.cell? ⟨g0, 2, none⟩ = some (.string ⟨#[100]⟩) := hra 0 _ rfl;have cB : w8.cell? ⟨g0, 3, none⟩ = some (.int .u16 6) := hra 1 _ rfl;clear hk hO hra HLi hbs HB7;have HEQ := jh (fun W => eqEn (⟨#[100]⟩, 6) (⟨#[100]⟩, 6) (by decide) (by decide) (by decide) (by decide) W);rw [decide_eq_true rfl] at HEQ
   go_wp2_with (first | (refine wpList_yields (.agg (enc (⟨#[100]⟩, 6)).toArray) (yields_bld2 (by rfl) 58 0 1 _ _ rfl (.string ⟨#[100]⟩) (.int .u16 6) rfl rfl _ (fun W => Tryz.buildEn2 ⟨#[100]⟩ 6 W)) ?_) | (refine wpList_yields (.bool true) (yields_eql (by rfl) 58 58 _ _ rfl (enc (⟨#[100]⟩, 6)).toArray (enc (⟨#[100]⟩, 6)).toArray rfl rfl true Tryz.guardEn (fun W _ => HEQ.out W)) ?_))
   go_ret
   exact ⟨rfl, HB2.out.trans (HB8.out.mono hw2)⟩
def nmL9 : List ByteArray := [⟨#[97]⟩, ⟨#[98]⟩, ⟨#[99]⟩, ⟨#[100, 100]⟩, ⟨#[101, 46, 102]⟩, ⟨#[102, 111, 117, 114, 116, 101, 101, 110, 45, 98, 121, 116, 101, 115]⟩, ⟨#[103]⟩, ⟨#[104]⟩]
def actN (nm : Int) (tx : ByteArray) (rw : Bool) : ByteArray := if rw = true then tx else nmL9.getD (nm % 8).toNat ⟨#[]⟩
theorem nmL9_get (k : Nat) (hk : k < 8) : nmL9[k]? = some (nmL9.getD k ⟨#[]⟩) := by
 have : k < nmL9.length := hk;rw [List.getElem?_eq_getElem this, List.getD_eq_getElem?_getD, List.getElem?_eq_getElem this];rfl
def actc (kn nm nu : Int) (tx : ByteArray) (rw : Bool) : List Value := [.int .u8 kn, .int .u8 nm, .int .u16 nu, .string tx, .bool rw]
theorem Tryz.descAct : ∃ d, Tryz.prog.underlying 49 = some d ∧ d.isRow = true := ⟨_, Tryz.underlying49, rfl⟩
theorem Tryz.isizeAct : (Tryz.prog.info? 49).map (·.size) = some 5 := by kernel_rfl
theorem actname_any (kn nm nu : Int) (tx : ByteArray) (rw : Bool) (h0 : 0 ≤ nm) (h1 : nm < 256) (w : World) : Calls Tryz.prog 18 #[.agg (actc kn nm nu tx rw).toArray] w fun e w' => e = .returned (.string (actN nm tx rw)) ∧ Below w.heap.size w w' := by
 cases rw
 ·obtain ⟨k, hk⟩ : ∃ k : Nat, (nm % 8).toNat = k := ⟨_, rfl⟩
  have hk8 : k < 8 := by omega
  have hmk : nm % 8 = (k : Int) := by omega
  have hN : actN nm tx false = nmL9.getD k ⟨#[]⟩ := by
   unfold actN;rw [if_neg (by decide), hk]
  have hgk := nmL9_get k hk8;rw [hN]
  obtain ⟨sN, hsN⟩ : ∃ x, nmL9.getD k ⟨#[]⟩ = x := ⟨_, rfl⟩
  rw [hsN] at hgk ⊢;have HGk := jh hgk
  have hki : (k : Int) < 8 := by omega
  have hk0 : (0 : Int) ≤ k := by omega
  have htm : nm.tmod 8 = (k : Int) := by rw [Int.tmod_eq_emod_of_nonneg h0]; exact hmk
  have hwu : IntKind.u8.wrap (k : Int) = k := wraps_u8 _ (by omega) (by omega);clear hN hk hgk hsN hk8
  go_enter Tryz.func18, Tryz.ntmps18
  go_upto_region 3 with (first | (refine wpList_box_list (w := w) rfl 49 _ rfl (actc kn nm nu tx false) rfl ?_; intro w1 F1 hb1 hz1; have HB1 := jh hb1; have c4 := F1.out.c 4 _ rfl; have c1 := F1.out.c 1 _ rfl; have c3 := F1.out.c 3 _ rfl; clear hb1))
  have hv1 := Vl.new w1 (nmL9.map Value.string) 9;have F2 := jh hv1
  have hcN : (nmL9.map Value.string)[k]? = some (.string sN) := by rw [List.getElem?_map, HGk.out]; rfl
  have cN := F2.out.c k _ hcN;have hb2 : Below w1.heap.size w1 (w1.alloc (.cells (nmL9.map Value.string).toArray 9)) := (Below.refl _ _).alloc (Nat.le_refl _) _;have c1' := (F1.out.keep hb2).c 1 _ rfl;have HB2 := jh (HB1.out.trans (hb2.mono HB1.out.size));simp only [nmL9, List.map_cons, List.map_nil] at cN c1' HB2;rw [hz1] at cN;clear hv1 hcN hb2 F2 c1 c3 c4
  go_wp2_with fail
  go_ret
  exact ⟨rfl, HB2.out⟩
 ·have hN : actN nm tx true = tx := if_pos rfl;rw [hN];clear hN
  go_enter Tryz.func18, Tryz.ntmps18
  go_wp2_with (first | (refine wpList_box_list (w := w) rfl 49 _ rfl (actc kn nm nu tx true) rfl ?_; intro w1 F1 hb1 hz1; have HB1 := jh hb1; have c4 := F1.out.c 4 _ rfl; have c3 := F1.out.c 3 _ rfl; clear hb1))
  go_ret
  exact ⟨rfl, HB1.out⟩
end Go.Proofs.YtgdapkbenmlabaaGreatDoor
namespace Go.Proofs.YtgdapkbenmlabaaGreatDoor
open Go.ChangeShapes Go.WideShapes Go.ChangeAt Go.RowKit Go.Deep
theorem Tryz.own : ownKnob Tryz.prog.godebug = none := by kernel_rfl
theorem Tryz.laidOut : laidOutB Tryz.prog = true := by kernel_rfl
def litV : Lit → Value
 | .int k z => .int k z
 | .string bs => .string ⟨bs.toArray⟩
 | _ => undef
def oneV : DataW Unit → Value
 | .lit l => litV l
 | _ => undef
def rowV : DataW Unit → List Value
 | .agg ds => ds.map oneV
 | _ => []
def gridV : DataW Unit → List Value
 | .agg ds => ds.flatMap rowV
 | _ => []
def putTab (c : Array Value) : Obj → Obj
 | .cells _ t frozen => .cells c t frozen
 | o => o
noncomputable def laidWorld (os : Os) : World :=
 { World.holding Tryz.prog os ⟨#[], #[], []⟩ with heap := (((World.holding Tryz.prog os ⟨#[], #[], []⟩).heap.modify 1 (putTab (rowV Rows.laid_unicode_utf8_first).toArray)).modify 2 (putTab (gridV Rows.laid_unicode_utf8_acceptRanges).toArray)) }
theorem take_oneN {L : List Value} {i : Nat} {v : Value} (h : (L.drop i).take 1 = [v]) : L[i]? = some v := by
 have := congrArg (·[0]?) h
 simpa [List.getElem?_take, List.getElem?_drop] using this
theorem Tryz.cells1s : Tryz.prog.cellsOf 9 = 1 := by kernel_rfl
theorem Tryz.cells1b : Tryz.prog.cellsOf 4 = 1 := by kernel_rfl
theorem Tryz.cellsU16 : Tryz.prog.cellsOf 36 = 1 := by kernel_rfl
theorem Tryz.cellsAct : Tryz.prog.cellsOf 49 = 5 := by kernel_rfl
theorem trod_struct5 {H : Type} {enc : TypeId × Value → H} {P : Program} {w : World} {base : Nat} {spare : Nat → Bool} {held : Bool} {t : TypeId} {f0 f1 f2 f3 f4 : Field} {fuel : Nat} {cs : List Value} {x : DataW H × List MemPlace} (ht : P.underlying t = some (.struct #[f0, f1, f2, f3, f4])) (h : DataW.trod enc P w base spare held fuel t cs = some x) :
  ∃ y0 y1 y2 y3 y4 n, x = (.agg [y0.1, y1.1, y2.1, y3.1, y4.1], y0.2 ++ (y1.2 ++ (y2.2 ++ (y3.2 ++ y4.2)))) ∧ cs.length = P.cellsOf t ∧ DataW.trod enc P w base spare held n f0.type ((cs.drop f0.offset).take (P.cellsOf f0.type)) = some y0 ∧
   DataW.trod enc P w base spare held n f1.type ((cs.drop f1.offset).take (P.cellsOf f1.type)) = some y1 ∧ DataW.trod enc P w base spare held n f2.type ((cs.drop f2.offset).take (P.cellsOf f2.type)) = some y2 ∧
   DataW.trod enc P w base spare held n f3.type ((cs.drop f3.offset).take (P.cellsOf f3.type)) = some y3 ∧ DataW.trod enc P w base spare held n f4.type ((cs.drop f4.offset).take (P.cellsOf f4.type)) = some y4 := by
 obtain ⟨xs, n, _, rfl, hl, hlen, hf⟩ := DataW.trod_struct ht h
 match xs, hlen with
 | [y0, y1, y2, y3, y4], _ => exact ⟨y0, y1, y2, y3, y4, n, by simp, hl, by simpa using hf 0 f0 rfl, by simpa using hf 1 f1 rfl, by simpa using hf 2 f2 rfl, by simpa using hf 3 f3 rfl, by simpa using hf 4 f4 rfl⟩
theorem act_cells {H : Type} {enc : TypeId × Value → H} {W : World} {fuel : Nat} {L : List Value} {x : DataW H × List MemPlace}
  (hf : DataW.trod enc Tryz.prog W 0 (fun _ => true) true fuel 49 L = some x) : ∃ (kn nm : Int) (nu : Nat) (tx : ByteArray) (rw : Bool), L = actc kn nm (nu : Int) tx rw ∧ 0 ≤ kn ∧ kn < 256 ∧ 0 ≤ nm ∧ nm < 256 ∧ nu < 65536 := by
 obtain ⟨y0, y1, y2, y3, y4, n', -, hl5, t0, t1, t2, t3, t4⟩ := trod_struct5 Tryz.underlying49 hf;simp only [Tryz.cells5, Tryz.cellsU16, Tryz.cells1s, Tryz.cells1b] at t0 t1 t2 t3 t4;rw [Tryz.cellsAct] at hl5;obtain ⟨z0, e0, -, w0⟩ := DataW.trod_int Tryz.underlying5 t0;obtain ⟨z1, e1, -, w1⟩ := DataW.trod_int Tryz.underlying5 t1;obtain ⟨z2, e2, -, w2⟩ := DataW.trod_int Tryz.underlying36 t2;obtain ⟨z3, e3, -⟩ := DataW.trod_string Tryz.underlying9 t3;obtain ⟨z4, e4, -⟩ := DataW.trod_bool Tryz.underlying4 t4;have g0 := take_oneN e0;have g1 := take_oneN e1;have g2 := take_oneN e2;have g3 := take_oneN e3;have g4 := take_oneN e4;have b0' := bounds_u8 w0;have b1' := bounds_u8 w1;have b2' := bounds_u16 w2;obtain ⟨n2, rfl⟩ := Int.eq_ofNat_of_zero_le b2'.1;refine ⟨z0, z1, n2, z3, z4, ?_, b0'.1, by omega, b1'.1, by omega, by omega⟩
 match L, hl5 with
 | [a0, a1, a2, a3, a4], _ =>
  simp only [List.getElem?_cons_succ, List.getElem?_cons_zero, Option.some.injEq] at g0 g1 g2 g3 g4;subst g0 g1 g2 g3 g4;rfl
end Go.Proofs.YtgdapkbenmlabaaGreatDoor
namespace Go.Proofs.YtgdapkbenmlabaaGreatDoor
open Go.RowKit Go.Maps
theorem zE_vac : vacE zE = true := by
 unfold vacE;rw [decide_eq_true rfl]
structure S2 (B0 P0 DA NB : Nat) (Y V : Nat → Nat → Int) (num : Nat) (b : Nat → Nat) (E : List En) (num' : Nat) (b' : Nat → Nat) (E' : List En) : Prop where
 tab : Tab P0 8 Y V
 dir : Dir B0 DA NB Y (V num) b E
 oth : Dir B0 DA NB Y (V num') b' E'
 dj : ∀ c c', ndS (nbE E.length) c = true → ndS (nbE E'.length) c' = true → b c ≠ b' c'
 u : ∀ j, j < NB → (bt Y B0 j = true ↔ (∃ c, ndS (nbE E.length) c = true ∧ b c = j + 1) ∨ ∃ c, ndS (nbE E'.length) c = true ∧ b' c = j + 1)
theorem turn0 {N : Nat} {g : Cf.Ge} {B0 P0 DA NB TB : Nat} (hg : GG g B0 P0 8 DA NB N) (q p t m d gg K num : Nat) (hn : 1 ≤ num ∧ num ≤ 8) (hTB : TB = P0 + (num - 1) / 2) (Y V D : Nat → Nat → Int) (b : Nat → Nat) (E : List En) (hD : Dir B0 DA NB Y (V num) b E) (hT : Tab P0 8 Y V) (hE : E.length ≤ 100) (hK : K < 150000000) (x : En) (hx : x.2 < 65536) (w : World) (h : Gr w q p t m d gg 0 g B0 NB N ⟨dl B0 TB DA b (ndS (nbE E.length)) L9, D⟩ Y K) :
  Calls Tryz.prog 21 #[.pointer (some ⟨q, 0, none⟩), .int .i64 num, .agg (enc x).toArray] w fun r w' => r = .returned (.int .i64 (turnC E x)) ∧ Kf w w' [t, m, d, gg] ∧ ((¬ turnC E x = 0 ∧ Gr w' q p t m d gg 0 g B0 NB N ⟨dl B0 TB DA b (ndS (nbE E.length)) L9, D⟩ Y (K + 30000)) ∨
   (turnC E x = 0 ∧ ∃ Y' f b1, Gr w' q p t m d gg 0 g B0 NB N ⟨dl B0 TB DA b1 (ndS (nbE (setE E (findN x.1 E) x).length)) L9, D⟩ Y' (K + 30000) ∧ Tab P0 8 Y' (vput num f V) ∧ Dir B0 DA NB Y' f b1 (setE E (findN x.1 E) x) ∧ Mv B0 TB DA NB Y (nbE E.length) b Y' (nbE (setE E (findN x.1 E) x).length) b1)) := by
 have hlts := h.lts;refine (dturn_any (ln := ⟨dl B0 TB DA b (ndS (nbE E.length)) L9, D⟩) q p t m d gg 0 B0 P0 8 DA NB N K g Y V num hn.1 (by omega) b E hD hT (by omega) hg w h x hx (fun c w' => c = 0 ∧ Kf w w' [t, m, d, gg] ∧ ∃ Y' f b1, Gr w' q p t m d gg 0 g B0 NB N ⟨dl B0 TB DA b1 (ndS (nbE (setE E (findN x.1 E) x).length)) L9, D⟩ Y' (K + 30000) ∧ Tab P0 8 Y' (vput num f V) ∧ Dir B0 DA NB Y' f b1 (setE E (findN x.1 E) x) ∧ Mv B0 TB DA NB Y (nbE E.length) b Y' (nbE (setE E (findN x.1 E) x).length) b1) (fun hx0 i e hie hme hfi W sb hG hk hsb hF => ?_)).mono ?_
 ·have hii := find_eq x.1 E i e hie hme hfi;have hil : i < E.length := (List.getElem?_eq_some_iff.1 hie).1;have hnm := mtE_name hme
  have hvz : vacE e = false := by
   unfold mtE at hme
   cases hv : vacE e
   ·rfl
   ·rw [hv] at hme
    cases hme
  have heok : okE e := (hD.ok e (List.mem_of_getElem? hie)).resolve_left (fun hz => by
   rw [hz, zE_vac] at hvz
   cases hvz)
  have he : okE x := ⟨by omega, hx, hnm ▸ heok.2.2⟩
  have hl : (setE E i x).length = E.length := by rw [setE_len E i x (by omega)]; omega
  refine (dwrite_in q p t m d gg 0 B0 P0 8 DA NB N (K + 1001) TB g Y V b L9 D (by rw [L9_len]; decide) num hTB hn.1 (by omega) E hD hT (by omega) hg W hG i (by omega) (by omega) x (.inr he) (fun j hj => L9_has (i / 4) (by omega) j hj) sb hF (fun ha => by
   simp only [List.mem_cons, List.not_mem_nil, or_false] at ha
   omega)).mono ?_
  rintro r w' (⟨Y', f, B, rfl, hG', hk', hT', hDd, hMv⟩ | ⟨Y', ln, B, n, -, -, -, -, -, -, ⟨c, k1, k2⟩, hB, -⟩)
  ·rw [← hii];exact ⟨0, rfl, hk', rfl, hk.trans hk', Y', f, B, hG'.mono (Lm.le_refl _) (by omega), hT', hDd, hMv⟩
  ·exfalso
   rw [hl] at k2;rw [(hB c k2).1] at k1
   cases k1
 ·rintro r w' ⟨c, rfl, (⟨h1, h2, h3, h4⟩ | ⟨h1, rfl, h3, h4⟩)⟩
  ·exact ⟨by rw [h2], h4, .inl ⟨h1, h3.mono (Lm.le_refl _) (by omega)⟩⟩
  ·exact ⟨by rw [h1], h3, .inr ⟨h1, h4⟩⟩
theorem turn1 {N : Nat} {g : Cf.Ge} {B0 P0 DA NB : Nat} (hg : GG g B0 P0 8 DA NB N) (q p t m d gg K : Nat) (Y V D : Nat → Nat → Int) (b : Nat → Nat) (E : List En) (hS : S1 B0 P0 DA NB Y V b E) (hE : E.length ≤ 100) (hK : K < 150000000) (x : En) (hx : x.2 < 65536) (w : World) (h : Gr w q p t m d gg 0 g B0 NB N ⟨dl B0 P0 DA b (ndS (nbE E.length)) L9, D⟩ Y K) :
  Calls Tryz.prog 21 #[.pointer (some ⟨q, 0, none⟩), .int .i64 1, .agg (enc x).toArray] w fun r w' => r = .returned (.int .i64 (turnC E x)) ∧ Kf w w' [t, m, d, gg] ∧ ((¬ turnC E x = 0 ∧ Gr w' q p t m d gg 0 g B0 NB N ⟨dl B0 P0 DA b (ndS (nbE E.length)) L9, D⟩ Y (K + 30000)) ∨
   (turnC E x = 0 ∧ ∃ Y' V' b1, Gr w' q p t m d gg 0 g B0 NB N ⟨dl B0 P0 DA b1 (ndS (nbE (setE E (findN x.1 E) x).length)) L9, D⟩ Y' (K + 30000) ∧ S1 B0 P0 DA NB Y' V' b1 (setE E (findN x.1 E) x))) := by
 refine (turn0 (TB := P0) hg q p t m d gg K 1 (by decide) rfl Y V D b E hS.dir hS.tab hE hK x hx w h).mono ?_;rintro r w' ⟨h1, h2, (h3 | ⟨h3, Y', f, b1, h4, h5, h6, h7⟩)⟩
 ·exact ⟨h1, h2, .inl h3⟩
 ·exact ⟨h1, h2, .inr ⟨h3, Y', vput 1 f V, b1, h4, hS.move h5 (by rw [vput_at]; exact h6) h7⟩⟩
theorem ra_keep {w w' : World} {g o : Nat} {cs : List Value} (h : w.rangeAt g o cs) (hb : Below w.heap.size w w') : w'.rangeAt g o cs := fun j u hj => by
 have := h j u hj;exact (hb.cell (World.block_lt_of_cell? w _ this)).trans this
def Es (w : World) (v : Value) (E : List En) : Prop := ∃ pa cap, v = .slice pa E.length cap ∧ ∀ (k : Nat) (e : En), E[k]? = some e → ∃ g, pa = some ⟨g, 0, none⟩ ∧ w.rangeAt g (k * 2) (enc e)
theorem Es.keep {w w' : World} {v : Value} {E : List En} (h : Es w v E) (hb : Below w.heap.size w w') : Es w' v E := by
 obtain ⟨pa, cap, hv, hk⟩ := h
 exact ⟨pa, cap, hv, fun k e he => by
  obtain ⟨g, hg, hr⟩ := hk k e he
  exact ⟨g, hg, ra_keep hr hb⟩⟩
theorem Es.own {w : World} {base : Nat} {v : Value} {E : List En} (h : w.ownsRow base 58 2 v E.length (flatE E)) : Es w v E := by
 obtain ⟨pa, cap, hv⟩ := Cf.ownsRow_form h;subst hv;refine ⟨pa, cap, rfl, fun k e he => ?_⟩;obtain ⟨g, rfl, -, -⟩ := own_some h (by have := (List.getElem?_eq_some_iff.1 he).1; omega);exact ⟨g, rfl, own_at h rfl he⟩
end Go.Proofs.YtgdapkbenmlabaaGreatDoor
