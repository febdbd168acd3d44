import Derived.Test.YtgdapkbenmlabaaGreatDoorC21
/- The reference: Turn. -/
set_option linter.unusedSimpArgs false
set_option linter.unusedVariables false
set_option maxHeartbeats 40000000
set_option maxRecDepth 100000
namespace Go.Proofs.YtgdapkbenmlabaaGreatDoor
open Go.RowKit Go.Maps
theorem flatE_set1 : ∀ (E : List En) (k : Nat) (e : En) (x : Nat), E[k]? = some e → (flatE E).set (k * 2 + 1) (.int .u16 x) = flatE (E.set k (e.1, x))
 | [], k, e, x, h => by simp at h
 | a :: E, 0, e, x, h => by
  obtain rfl := Option.some.inj h;rfl
 | a :: E, k + 1, e, x, h => by
  have hf : ∀ (a : En) (E : List En), flatE (a :: E) = .string a.1 :: .int .u16 a.2 :: flatE E := fun _ _ => rfl;rw [List.set_cons_succ, hf, hf, show (k + 1) * 2 + 1 = (k * 2 + 1) + 1 + 1 by omega];simp only [List.set_cons_succ];rw [flatE_set1 E k e x (by simpa using h)]
theorem own_set1 {w : World} {base g cap : Nat} {E : List En} (h : w.ownsRow base 58 2 (.slice (some ⟨g, 0, none⟩) E.length cap) E.length (flatE E)) (k : Nat) (e : En) (he : E[k]? = some e) (x : Nat) : (w.setCell ⟨g, k * 2 + 1, none⟩ (.int .u16 x)).ownsRow base 58 2 (.slice (some ⟨g, 0, none⟩) E.length cap) E.length (flatE (E.set k (e.1, x))) := by
 have h1 := (World.ownsRow.stored h (k * 2 + 1) (.int .u16 x)).1;rw [flatE_set1 E k e x he] at h1;exact h1
theorem Gm.setE1 {w : World} {base r o pg cap tn : Nat} {vn vt : Value} {M : List Nm} {tc : List Value} {B : Int} (h : Gm w base r o vn vt M tn tc B) {di : Nat} {m : Nm} (hm : M[di]? = some m) (hv : m.2.2 = .slice (some ⟨pg, 0, none⟩) m.1.E.length cap) (k : Nat) (e0 : En) (he0 : m.1.E[k]? = some e0) (x : Nat) :
  Gm (w.setCell ⟨pg, k * 2 + 1, none⟩ (.int .u16 x)) base r o vn vt (M.set di (⟨m.1.k, m.1.l, m.1.g, m.1.E.set k (e0.1, x)⟩, m.2.1, m.2.2)) tn tc B := by
 have hkp : Kp w (w.setCell ⟨pg, k * 2 + 1, none⟩ (.int .u16 x)) pg pg := (Kp.refl w pg pg).setCell ⟨pg, k * 2 + 1, none⟩ (.inl rfl) _;have hmm := List.mem_of_getElem? hm
 have hob : m.2.2.ownBlock = some pg := by rw [hv]; rfl
 have hpr : pg ≠ r := fun e1 => h.ne m.2.2 (List.mem_cons_of_mem _ (List.mem_cons_of_mem _ (List.mem_map.2 ⟨m, hmm, rfl⟩))) (by rw [hob, e1]);have hes := h.v.es m hmm;have hmap := map_same (m' := (⟨m.1.k, m.1.l, m.1.g, m.1.E.set k (e0.1, x)⟩, m.2.1, m.2.2)) hm rfl
 have far : ∀ {v : Value}, v.ownBlock = none ∨ v.ownBlock ≠ m.2.2.ownBlock → ∀ x, v.ownBlock = some x → x ≠ pg ∧ x ≠ pg := fun {v} h1 x hx => by
  rcases h1 with h1 | h1
  ·rw [hx] at h1; cases h1
  ·rw [hx, hob] at h1;exact ⟨fun e => h1 (by rw [e]), fun e => h1 (by rw [e])⟩
 refine ⟨fun j u hj => (hkp.cell (p := ⟨r, o + j, none⟩) h.lt hpr.symm hpr.symm).trans (h.c j u hj), fun j hj => (hkp.frozen (p := ⟨r, o + j, none⟩) h.lt hpr.symm hpr.symm).trans (h.z j hj), Nat.lt_of_lt_of_le h.lt hkp.size, ⟨?_, ?_, h.v.t1, fun x hx => ?_, fun x hx => ?_, ?_⟩, ?_⟩
 ·rw [List.length_set, flN_same (m' := (⟨m.1.k, m.1.l, m.1.g, m.1.E.set k (e0.1, x)⟩, m.2.1, m.2.2)) hm rfl];exact ownsRow_kp2 h.v.nd hkp (far (own_ne h.v.nd hes (by decide)))
 ·exact ownsRow_kp2 h.v.tb hkp (far (own_ne h.v.tb hes (by decide)))
 ·rcases List.mem_or_eq_of_mem_set hx with hx | rfl
  ·exact (h.v.bs x hx).nil
  ·exact (h.v.bs m hmm).nil
 ·obtain ⟨j, hj⟩ := List.mem_iff_getElem?.1 hx
  by_cases e1 : j = di
  ·subst e1;have hl := (List.getElem?_eq_some_iff.1 hm).1;rw [List.getElem?_set_self hl] at hj;obtain rfl := Option.some.inj hj
   show (w.setCell ⟨pg, k * 2 + 1, none⟩ (.int .u16 x)).ownsRow base _ 2 m.2.2 (m.1.E.set k (e0.1, x)).length (flatE (m.1.E.set k (e0.1, x)))
   rw [List.length_set, hv];rw [hv] at hes;exact own_set1 hes k e0 he0 x
  ·rw [List.getElem?_set_ne (Ne.symm e1)] at hj;have hxm := List.mem_of_getElem? hj;refine ownsRow_kp2 (h.v.es x hxm) hkp (far ?_);have hp := List.pairwise_iff_getElem.1 (List.pairwise_cons.1 (List.pairwise_cons.1 h.v.ap).2).2;obtain ⟨lj, ej⟩ := List.getElem?_eq_some_iff.1 hj;obtain ⟨ld, ed⟩ := List.getElem?_eq_some_iff.1 hm;rcases Nat.lt_or_ge j di with hjd | hjd
   ·have h1 := hp j di (by rw [List.length_map]; exact lj) (by rw [List.length_map]; exact ld) hjd;rw [List.getElem_map, List.getElem_map, ej, ed] at h1;exact h1
   ·have h1 := hp di j (by rw [List.length_map]; exact ld) (by rw [List.length_map]; exact lj) (by omega);rw [List.getElem_map, List.getElem_map, ej, ed, hob] at h1;rcases h1 with h1 | h1
    ·cases h1
    ·rw [hob];exact .inr (fun e => h1 e.symm)
 ·have hap := h.v.ap;unfold Apart at hap ⊢;rw [hmap];exact hap
 ·rw [hmap];exact h.ne
theorem rturn_any (base r o g capn tn : Nat) (vt : Value) (M : List Nm) (tc : List Value) (B : Int) (di : Nat) (dm : Nm) (hm : M[di]? = some dm) (hM : M.length ≤ 200) (hk : dm.1.k = 2) (hE : ∀ e ∈ dm.1.E, e = zE ∨ okE e) (hl : dm.1.E.length ≤ 1000) (x : En) (hx : x.2 < 65536) (w : World) (h : Gm w base r o (.slice (some ⟨g, 0, none⟩) M.length capn) vt M tn tc B) :
  Calls Tryz.prog 22 #[.pointer (some ⟨r, o, none⟩), .int .i64 di, .agg (enc x).toArray] w fun e w' =>
   (¬ turnC dm.1.E x = 0 ∧ e = .returned (.int .i64 (turnC dm.1.E x)) ∧ Below w.heap.size w w') ∨
   (turnC dm.1.E x = 0 ∧ Kp w w' g (dm.2.2.ownBlock.getD w.heap.size) ∧ (∃ v', Gm w' base r o (.slice (some ⟨g, 0, none⟩) M.length capn) vt (stE M di dm (setE dm.1.E (findN x.1 dm.1.E) x) v') tn tc B ∧ ∀ k, v'.ownBlock = some k → dm.2.2.ownBlock = some k ∨ w.heap.size ≤ k) ∧ e = .returned (.int .i64 0)) := by
 have HG := jh h;have HDr := jh (fun W hW => rdirg_any base r o g capn tn vt M tc B di dm hm hM W hW);have hdi : di < M.length := (List.getElem?_eq_some_iff.1 hm).1
 have hi0 : (0 : Int) ≤ di := by omega
 have hi1 : (di : Int) < M.length := by omega
 have HMm := jh hm;have HKk := jh hk;have HOk := jh hE;obtain ⟨pa, cap, hv⟩ : ∃ pa cap, dm.2.2 = .slice pa dm.1.E.length cap := ownsRow_slice (h.v.es dm (List.mem_of_getElem? hm));have HV := jh hv;obtain ⟨xs, xn⟩ := x;have HXn := jh (show xn < 65536 from hx)
 obtain ⟨mn, hmn⟩ : ∃ z, M.length = z := ⟨_, rfl⟩
 have HMn := jh hmn
 obtain ⟨n, hn⟩ : ∃ n, dm.1.E.length = n := ⟨_, rfl⟩
 have HN := jh hn
 have hln0 : (n : Int) ≤ 1000 := by omega
 rw [hmn] at hi1;clear h hm hM hk hE hl hdi hv hx hmn hn
 go_enter Tryz.func22, Tryz.ntmps22
 go_wp2_with (first | (refine wpList_box_list (w := w) rfl 58 _ rfl (enc (xs, xn)) rfl ?_; intro w1 F1 hb1 hz1; have HB1 := jh hb1; clear hb1))
 obtain ⟨bX, hbX⟩ : ∃ y, w.heap.size = y := ⟨_, rfl⟩
 rw [hbX] at F1
 try rw [hbX]
 have HbX := jh hbX;clear hbX hz1;have HG1 := jh (HG.out.keep HB1.out);refine (HDr.out w1 HG1.out).mono ?_;rintro e w2 ⟨rfl, hw2⟩;subst hw2;rw [HKk.out];have c0 : w2.cell? ⟨r, o, none⟩ = some (.slice (some ⟨g, 0, none⟩) mn capn) := (HG1.out.c 0 _ rfl).trans (by rw [HMn.out]);have ce : w2.cell? ⟨g, di * 5 + 4, none⟩ = some (.slice pa n cap) := (RvG.at HG1.out.v HMm.out 4 _ rfl).trans (by rw [HV.out, HN.out]);have cX0 : w2.cell? ⟨bX, 0, none⟩ = some (.string xs) := F1.out.c 0 _ rfl;have cX1 : w2.cell? ⟨bX, 1, none⟩ = some (.int .u16 xn) := F1.out.c 1 _ rfl;clear HDr
 by_cases h0 : xn = 0
 ·subst h0;have HA := jh (turnC_num (E := dm.1.E) (x := (xs, 0)) rfl)
  go_wp2_with fail
  go_ret
  exact .inl ⟨by rw [HA.out]; decide, by rw [HA.out]; rfl, HB1.out⟩
 ·have h0i : ((xn : Int) == 0) = false := beq_eq_false_iff_ne.2 (by omega);have HX0 := jh h0;clear h0
  go_wp2_with fail
  clear c0 ce cX0 cX1
  go_loopw [9] (fun iv wr => ∃ k : Nat, k ≤ n ∧ iv = .int .i64 k ∧ Below w2.heap.size w2 wr ∧ ∀ (j : Nat) (e' : En), j < k → dm.1.E[j]? = some e' → mtE xs e' = false) (fun iv _ => n - (Go.RowKit.intOf iv).toNat)
  case atStart => exact ⟨0, Nat.zero_le _, rfl, Below.refl _ _, fun j e' hj => absurd hj (Nat.not_lt_zero _)⟩
  case round =>
   obtain ⟨k, hk, rfl, hb, ha⟩ := hrel;have HAl := jh ha;have HB := jh hb;have HGr := jh (HG1.out.keep hb);have FX := jh (F1.out.keep hb);clear ha hb;have ce : wr.cell? ⟨g, di * 5 + 4, none⟩ = some (.slice pa n cap) := (RvG.at HGr.out.v HMm.out 4 _ rfl).trans (by rw [HV.out, HN.out])
   by_cases hkn : k < n
   ·have hkn1 : (k : Int) < n := by omega
    have hk0 : (0 : Int) ≤ k := by omega
    obtain ⟨e, he⟩ : ∃ e, dm.1.E[k]? = some e := ⟨_, List.getElem?_eq_getElem (by rw [HN.out]; exact hkn)⟩
    have HHe := jh he;obtain ⟨pa', cap', hv', hes⟩ := Es.own (HGr.out.v.es dm (List.mem_of_getElem? HMm.out));obtain ⟨pg, hpg, hr⟩ := hes k e he
    have hpa : pa = some ⟨pg, 0, none⟩ := by
     have h9 := HV.out.symm.trans hv'
     injection h9 with h9
     rw [h9, hpg]
    subst hpa;have hmt := mtE_iffG xs (HOk.out e (List.mem_of_getElem? he));obtain ⟨es, en⟩ := e;have cA : wr.cell? ⟨pg, k * 2, none⟩ = some (.string es) := hr 0 _ rfl;have cB : wr.cell? ⟨pg, k * 2 + 1, none⟩ = some (.int .u16 en) := hr 1 _ rfl;have HMt : Hid (mtE xs (es, en) = (decide (0 < en) && (es.toList == xs.toList))) := jh hmt;have cX0 : wr.cell? ⟨bX, 0, none⟩ = some (.string xs) := FX.out.c 0 _ rfl;clear hv' hes hpg hr hmt he;have hbd : Below wr.heap.size wr (World.drew wr) := (Below.refl _ _).drew;have HBd := jh (HB.out.trans (hbd.mono HB.out.size));have HGd := jh (HGr.out.keep hbd);have FXd := jh (FX.out.keep hbd);clear hbd
    have NEXT : Hid (mtE xs (es, en) = false → ∀ (j : Nat) (e' : En), j < k + 1 → dm.1.E[j]? = some e' → mtE xs e' = false) := jh (fun hm j e' hj he' => by
     by_cases ej : j = k
     ·rw [ej, HHe.out] at he'
      injection he' with he'
      rw [← he'];exact hm
     ·exact HAl.out j e' (by omega) he')
    by_cases h00 : en = 0
    ·subst h00;have HM := jh (HMt.out.trans (by rfl) : mtE xs (es, 0) = false);clear HMt
     go_upto_region 10 with fail
     refine wp_region_held (S := fun W => W.cell? ⟨g, di * 5 + 4, none⟩ = some (.slice (some ⟨pg, 0, none⟩) n cap) ∧ W.cell? ⟨pg, k * 2, none⟩ = some (.string es) ∧ W.cell? ⟨pg, k * 2 + 1, none⟩ = some (.int .u16 ((0 : Nat) : Int)) ∧ W.cell? ⟨bX, 0, none⟩ = some (.string xs)) (by kernel_rfl) ?_;change wpAnyH _ _ _ _ _ _ _ _ (World.drew _)
     have hS0 : (fun W : World => W.cell? ⟨g, di * 5 + 4, none⟩ = some (.slice (some ⟨pg, 0, none⟩) n cap) ∧ W.cell? ⟨pg, k * 2, none⟩ = some (.string es) ∧ W.cell? ⟨pg, k * 2 + 1, none⟩ = some (.int .u16 ((0 : Nat) : Int)) ∧ W.cell? ⟨bX, 0, none⟩ = some (.string xs)) (World.drew wr) := ⟨ce, cA, cB, cX0⟩
     refine jk 0 (v:=?_) rfl (by kernel_rfl) (fun _ _ _=>id) (by rfl) ?_ hS0 ?_;rotate_left
     ·intro W hW;go_simp;try with_reducible rfl
     simp only [Act.put,j1,j2,j3,j4,j5,j6];refine jk 1 (v:=?_) rfl (by kernel_rfl) (fun _ _ _=>id) (by rfl) ?_ hS0 ?_;rotate_left
     ·intro W hW;go_simp;try with_reducible rfl
     simp only [Act.put,j1,j2,j3,j4,j5,j6];refine jk 2 (v:=?_) rfl (by kernel_rfl) (fun _ _ _=>id) (by rfl) ?_ hS0 ?_;rotate_left
     ·intro W hW;go_simp;try with_reducible rfl
     simp only [Act.put,j1,j2,j3,j4,j5,j6];refine jk 3 (v:=?_) rfl (by kernel_rfl) (fun _ _ _=>id) (by rfl) ?_ hS0 ?_;rotate_left 1
     ·intro W hW;have h1 := hW.1;go_simp
      try with_reducible rfl
     simp only [Act.put,j1,j2,j3,j4,j5,j6];refine jk 4 (v:=?_) rfl (by kernel_rfl) (fun _ _ _=>id) (by rfl) ?_ hS0 ?_;rotate_left
     ·intro W hW;go_simp;try with_reducible rfl
     simp only [Act.put,j1,j2,j3,j4,j5,j6];refine jk 5 (v:=?_) rfl (by kernel_rfl) (fun _ _ _=>id) (by rfl) ?_ hS0 ?_;rotate_left
     ·intro W hW;go_simp;try with_reducible rfl
     simp only [Act.put,j1,j2,j3,j4,j5,j6];refine jk 6 (v:=?_) rfl (by kernel_rfl) (fun _ _ _=>id) (by rfl) ?_ hS0 ?_;rotate_left
     ·intro W hW;go_simp;try with_reducible rfl
     simp only [Act.put,j1,j2,j3,j4,j5,j6];refine jk 7 (v:=?_) rfl (by kernel_rfl) (fun _ _ _=>id) (by rfl) ?_ hS0 ?_;rotate_left 1
     ·intro W hW;have h1 := hW.2.2.1;go_simp
      try with_reducible rfl
     simp only [Act.put,j1,j2,j3,j4,j5,j6];refine jx 8 (v := .bool false) rfl (by kernel_rfl) (fun _ _ _=>id) (Or.inl ⟨by rfl, ?_⟩) hS0 ?_
     ·intro W hW;go_simp
      try with_reducible rfl
      try omega
     simp only [Act.put,j1,j2,j3,j4,j5,j6];refine jk 9 (v:=?_) rfl (by kernel_rfl) (fun _ _ _=>id) (by rfl) ?_ hS0 ?_;rotate_left
     ·intro W hW;go_simp;try with_reducible rfl
     simp only [Act.put,j1,j2,j3,j4,j5,j6];refine jx 10 (v := undef) rfl (by kernel_rfl) (fun _ _ _=>id) (Or.inr ⟨by rfl, rfl⟩) hS0 ?_;simp only [Act.put,j1,j2,j3,j4,j5,j6];refine jx 11 (v := undef) rfl (by kernel_rfl) (fun _ _ _=>id) (Or.inr ⟨by rfl, rfl⟩) hS0 ?_;simp only [Act.put,j1,j2,j3,j4,j5,j6];refine jx 12 (v := undef) rfl (by kernel_rfl) (fun _ _ _=>id) (Or.inr ⟨by rfl, rfl⟩) hS0 ?_;simp only [Act.put,j1,j2,j3,j4,j5,j6];refine jx 13 (v := undef) rfl (by kernel_rfl) (fun _ _ _=>id) (Or.inr ⟨by rfl, rfl⟩) hS0 ?_;simp only [Act.put,j1,j2,j3,j4,j5,j6];refine jx 14 (v := undef) rfl (by kernel_rfl) (fun _ _ _=>id) (Or.inr ⟨by rfl, rfl⟩) hS0 ?_;simp only [Act.put,j1,j2,j3,j4,j5,j6];refine jx 15 (v := undef) rfl (by kernel_rfl) (fun _ _ _=>id) (Or.inr ⟨by rfl, rfl⟩) hS0 ?_;simp only [Act.put,j1,j2,j3,j4,j5,j6];refine jx 16 (v := undef) rfl (by kernel_rfl) (fun _ _ _=>id) (Or.inr ⟨by rfl, rfl⟩) hS0 ?_;simp only [Act.put,j1,j2,j3,j4,j5,j6];refine jx 17 (v := undef) rfl (by kernel_rfl) (fun _ _ _=>id) (Or.inr ⟨by rfl, rfl⟩) hS0 ?_;simp only [Act.put,j1,j2,j3,j4,j5,j6];refine jx 18 (v := undef) rfl (by kernel_rfl) (fun _ _ _=>id) (Or.inr ⟨by rfl, rfl⟩) hS0 ?_;simp only [Act.put,j1,j2,j3,j4,j5,j6];refine jx 19 (v := undef) rfl (by kernel_rfl) (fun _ _ _=>id) (Or.inr ⟨by rfl, rfl⟩) hS0 ?_;simp only [Act.put,j1,j2,j3,j4,j5,j6];refine jx 20 (v := undef) rfl (by kernel_rfl) (fun _ _ _=>id) (Or.inr ⟨by rfl, rfl⟩) hS0 ?_;simp only [Act.put,j1,j2,j3,j4,j5,j6];refine jx 21 (v := .bool false) rfl (by kernel_rfl) (fun _ _ _=>id) (Or.inl ⟨by rfl, ?_⟩) hS0 ?_
     ·intro W hW;go_simp
      try with_reducible rfl
      try omega
     simp only [Act.put,j1,j2,j3,j4,j5,j6];refine wpAnyH_done (by kernel_rfl) ?_ _
     go_wp2_with fail
     go_roundw
     case rel => exact ⟨k + 1, by omega, by go_num, HBd.out, NEXT.out HM.out⟩
     case measure => (simp [Go.RowKit.intOf]; try omega)
    ·have h00i : (0 : Int) < en := by omega
     have hd0 : decide (0 < en) = true := decide_eq_true (by omega);rw [hd0] at HMt;clear hd0 h00
     cases hmm : (es.toList == xs.toList)
     ·have HM := jh (HMt.out.trans (by rw [hmm]; rfl) : mtE xs (es, en) = false);clear HMt
      go_upto_region 10 with fail
      refine wp_region_held (S := fun W => W.cell? ⟨g, di * 5 + 4, none⟩ = some (.slice (some ⟨pg, 0, none⟩) n cap) ∧ W.cell? ⟨pg, k * 2, none⟩ = some (.string es) ∧ W.cell? ⟨pg, k * 2 + 1, none⟩ = some (.int .u16 en) ∧ W.cell? ⟨bX, 0, none⟩ = some (.string xs)) (by kernel_rfl) ?_;change wpAnyH _ _ _ _ _ _ _ _ (World.drew _)
      have hS0 : (fun W : World => W.cell? ⟨g, di * 5 + 4, none⟩ = some (.slice (some ⟨pg, 0, none⟩) n cap) ∧ W.cell? ⟨pg, k * 2, none⟩ = some (.string es) ∧ W.cell? ⟨pg, k * 2 + 1, none⟩ = some (.int .u16 en) ∧ W.cell? ⟨bX, 0, none⟩ = some (.string xs)) (World.drew wr) := ⟨ce, cA, cB, cX0⟩
      refine jk 0 (v:=?_) rfl (by kernel_rfl) (fun _ _ _=>id) (by rfl) ?_ hS0 ?_;rotate_left
      ·intro W hW;go_simp;try with_reducible rfl
      simp only [Act.put,j1,j2,j3,j4,j5,j6];refine jk 1 (v:=?_) rfl (by kernel_rfl) (fun _ _ _=>id) (by rfl) ?_ hS0 ?_;rotate_left
      ·intro W hW;go_simp;try with_reducible rfl
      simp only [Act.put,j1,j2,j3,j4,j5,j6];refine jk 2 (v:=?_) rfl (by kernel_rfl) (fun _ _ _=>id) (by rfl) ?_ hS0 ?_;rotate_left
      ·intro W hW;go_simp;try with_reducible rfl
      simp only [Act.put,j1,j2,j3,j4,j5,j6];refine jk 3 (v:=?_) rfl (by kernel_rfl) (fun _ _ _=>id) (by rfl) ?_ hS0 ?_;rotate_left 1
      ·intro W hW;have h1 := hW.1;go_simp
       try with_reducible rfl
      simp only [Act.put,j1,j2,j3,j4,j5,j6];refine jk 4 (v:=?_) rfl (by kernel_rfl) (fun _ _ _=>id) (by rfl) ?_ hS0 ?_;rotate_left
      ·intro W hW;go_simp;try with_reducible rfl
      simp only [Act.put,j1,j2,j3,j4,j5,j6];refine jk 5 (v:=?_) rfl (by kernel_rfl) (fun _ _ _=>id) (by rfl) ?_ hS0 ?_;rotate_left
      ·intro W hW;go_simp;try with_reducible rfl
      simp only [Act.put,j1,j2,j3,j4,j5,j6];refine jk 6 (v:=?_) rfl (by kernel_rfl) (fun _ _ _=>id) (by rfl) ?_ hS0 ?_;rotate_left
      ·intro W hW;go_simp;try with_reducible rfl
      simp only [Act.put,j1,j2,j3,j4,j5,j6];refine jk 7 (v:=?_) rfl (by kernel_rfl) (fun _ _ _=>id) (by rfl) ?_ hS0 ?_;rotate_left 1
      ·intro W hW;have h1 := hW.2.2.1;go_simp
       try with_reducible rfl
      simp only [Act.put,j1,j2,j3,j4,j5,j6];refine jx 8 (v := .bool true) rfl (by kernel_rfl) (fun _ _ _=>id) (Or.inl ⟨by rfl, ?_⟩) hS0 ?_
      ·intro W hW;go_simp
       try with_reducible rfl
       try omega
      simp only [Act.put,j1,j2,j3,j4,j5,j6];refine jk 9 (v:=?_) rfl (by kernel_rfl) (fun _ _ _=>id) (by rfl) ?_ hS0 ?_;rotate_left
      ·intro W hW;go_simp;try with_reducible rfl
      simp only [Act.put,j1,j2,j3,j4,j5,j6];refine jk 10 (v:=?_) rfl (by kernel_rfl) (fun _ _ _=>id) (by rfl) ?_ hS0 ?_;rotate_left
      ·intro W hW;go_simp;try with_reducible rfl
      simp only [Act.put,j1,j2,j3,j4,j5,j6];refine jk 11 (v:=?_) rfl (by kernel_rfl) (fun _ _ _=>id) (by rfl) ?_ hS0 ?_;rotate_left
      ·intro W hW;go_simp;try with_reducible rfl
      simp only [Act.put,j1,j2,j3,j4,j5,j6];refine jk 12 (v:=?_) rfl (by kernel_rfl) (fun _ _ _=>id) (by rfl) ?_ hS0 ?_;rotate_left
      ·intro W hW;go_simp;try with_reducible rfl
      simp only [Act.put,j1,j2,j3,j4,j5,j6];refine jk 13 (v:=?_) rfl (by kernel_rfl) (fun _ _ _=>id) (by rfl) ?_ hS0 ?_;rotate_left 1
      ·intro W hW;have h1 := hW.1;go_simp
       try with_reducible rfl
      simp only [Act.put,j1,j2,j3,j4,j5,j6];refine jk 14 (v:=?_) rfl (by kernel_rfl) (fun _ _ _=>id) (by rfl) ?_ hS0 ?_;rotate_left
      ·intro W hW;go_simp;try with_reducible rfl
      simp only [Act.put,j1,j2,j3,j4,j5,j6];refine jk 15 (v:=?_) rfl (by kernel_rfl) (fun _ _ _=>id) (by rfl) ?_ hS0 ?_;rotate_left
      ·intro W hW;go_simp;try with_reducible rfl
      simp only [Act.put,j1,j2,j3,j4,j5,j6];refine jk 16 (v:=?_) rfl (by kernel_rfl) (fun _ _ _=>id) (by rfl) ?_ hS0 ?_;rotate_left
      ·intro W hW;go_simp;try with_reducible rfl
      simp only [Act.put,j1,j2,j3,j4,j5,j6];refine jk 17 (v:=?_) rfl (by kernel_rfl) (fun _ _ _=>id) (by rfl) ?_ hS0 ?_;rotate_left 1
      ·intro W hW;have h1 := hW.2.1;go_simp
       try with_reducible rfl
      simp only [Act.put,j1,j2,j3,j4,j5,j6];refine jk 18 (v:=?_) rfl (by kernel_rfl) (fun _ _ _=>id) (by rfl) ?_ hS0 ?_;rotate_left
      ·intro W hW;go_simp;try with_reducible rfl
      simp only [Act.put,j1,j2,j3,j4,j5,j6];refine jk 19 (v:=?_) rfl (by kernel_rfl) (fun _ _ _=>id) (by rfl) ?_ hS0 ?_;rotate_left 1
      ·intro W hW;have h1 := hW.2.2.2;go_simp
       try with_reducible rfl
      simp only [Act.put,j1,j2,j3,j4,j5,j6];refine jx 20 (v := .bool false) rfl (by kernel_rfl) (fun _ _ _=>id) (Or.inl ⟨by rfl, ?_⟩) hS0 ?_
      ·intro W hW;go_simp
       try with_reducible rfl
       try omega
      simp only [Act.put,j1,j2,j3,j4,j5,j6];refine jx 21 (v := .bool false) rfl (by kernel_rfl) (fun _ _ _=>id) (Or.inl ⟨by rfl, ?_⟩) hS0 ?_
      ·intro W hW;go_simp
       try with_reducible rfl
       try omega
      simp only [Act.put,j1,j2,j3,j4,j5,j6];refine wpAnyH_done (by kernel_rfl) ?_ _
      go_wp2_with fail
      go_roundw
      case rel => exact ⟨k + 1, by omega, by go_num, HBd.out, NEXT.out HM.out⟩
      case measure => (simp [Go.RowKit.intOf]; try omega)
     ·have HM := jh (HMt.out.trans (by rw [hmm]; rfl) : mtE xs (es, en) = true);clear HMt NEXT
      go_upto_region 10 with fail
      refine wp_region_held (S := fun W => W.cell? ⟨g, di * 5 + 4, none⟩ = some (.slice (some ⟨pg, 0, none⟩) n cap) ∧ W.cell? ⟨pg, k * 2, none⟩ = some (.string es) ∧ W.cell? ⟨pg, k * 2 + 1, none⟩ = some (.int .u16 en) ∧ W.cell? ⟨bX, 0, none⟩ = some (.string xs)) (by kernel_rfl) ?_;change wpAnyH _ _ _ _ _ _ _ _ (World.drew _)
      have hS0 : (fun W : World => W.cell? ⟨g, di * 5 + 4, none⟩ = some (.slice (some ⟨pg, 0, none⟩) n cap) ∧ W.cell? ⟨pg, k * 2, none⟩ = some (.string es) ∧ W.cell? ⟨pg, k * 2 + 1, none⟩ = some (.int .u16 en) ∧ W.cell? ⟨bX, 0, none⟩ = some (.string xs)) (World.drew wr) := ⟨ce, cA, cB, cX0⟩
      refine jk 0 (v:=?_) rfl (by kernel_rfl) (fun _ _ _=>id) (by rfl) ?_ hS0 ?_;rotate_left
      ·intro W hW;go_simp;try with_reducible rfl
      simp only [Act.put,j1,j2,j3,j4,j5,j6];refine jk 1 (v:=?_) rfl (by kernel_rfl) (fun _ _ _=>id) (by rfl) ?_ hS0 ?_;rotate_left
      ·intro W hW;go_simp;try with_reducible rfl
      simp only [Act.put,j1,j2,j3,j4,j5,j6];refine jk 2 (v:=?_) rfl (by kernel_rfl) (fun _ _ _=>id) (by rfl) ?_ hS0 ?_;rotate_left
      ·intro W hW;go_simp;try with_reducible rfl
      simp only [Act.put,j1,j2,j3,j4,j5,j6];refine jk 3 (v:=?_) rfl (by kernel_rfl) (fun _ _ _=>id) (by rfl) ?_ hS0 ?_;rotate_left 1
      ·intro W hW;have h1 := hW.1;go_simp
       try with_reducible rfl
      simp only [Act.put,j1,j2,j3,j4,j5,j6];refine jk 4 (v:=?_) rfl (by kernel_rfl) (fun _ _ _=>id) (by rfl) ?_ hS0 ?_;rotate_left
      ·intro W hW;go_simp;try with_reducible rfl
      simp only [Act.put,j1,j2,j3,j4,j5,j6];refine jk 5 (v:=?_) rfl (by kernel_rfl) (fun _ _ _=>id) (by rfl) ?_ hS0 ?_;rotate_left
      ·intro W hW;go_simp;try with_reducible rfl
      simp only [Act.put,j1,j2,j3,j4,j5,j6];refine jk 6 (v:=?_) rfl (by kernel_rfl) (fun _ _ _=>id) (by rfl) ?_ hS0 ?_;rotate_left
      ·intro W hW;go_simp;try with_reducible rfl
      simp only [Act.put,j1,j2,j3,j4,j5,j6];refine jk 7 (v:=?_) rfl (by kernel_rfl) (fun _ _ _=>id) (by rfl) ?_ hS0 ?_;rotate_left 1
      ·intro W hW;have h1 := hW.2.2.1;go_simp
       try with_reducible rfl
      simp only [Act.put,j1,j2,j3,j4,j5,j6];refine jx 8 (v := .bool true) rfl (by kernel_rfl) (fun _ _ _=>id) (Or.inl ⟨by rfl, ?_⟩) hS0 ?_
      ·intro W hW;go_simp
       try with_reducible rfl
       try omega
      simp only [Act.put,j1,j2,j3,j4,j5,j6];refine jk 9 (v:=?_) rfl (by kernel_rfl) (fun _ _ _=>id) (by rfl) ?_ hS0 ?_;rotate_left
      ·intro W hW;go_simp;try with_reducible rfl
      simp only [Act.put,j1,j2,j3,j4,j5,j6];refine jk 10 (v:=?_) rfl (by kernel_rfl) (fun _ _ _=>id) (by rfl) ?_ hS0 ?_;rotate_left
      ·intro W hW;go_simp;try with_reducible rfl
      simp only [Act.put,j1,j2,j3,j4,j5,j6];refine jk 11 (v:=?_) rfl (by kernel_rfl) (fun _ _ _=>id) (by rfl) ?_ hS0 ?_;rotate_left
      ·intro W hW;go_simp;try with_reducible rfl
      simp only [Act.put,j1,j2,j3,j4,j5,j6];refine jk 12 (v:=?_) rfl (by kernel_rfl) (fun _ _ _=>id) (by rfl) ?_ hS0 ?_;rotate_left
      ·intro W hW;go_simp;try with_reducible rfl
      simp only [Act.put,j1,j2,j3,j4,j5,j6];refine jk 13 (v:=?_) rfl (by kernel_rfl) (fun _ _ _=>id) (by rfl) ?_ hS0 ?_;rotate_left 1
      ·intro W hW;have h1 := hW.1;go_simp
       try with_reducible rfl
      simp only [Act.put,j1,j2,j3,j4,j5,j6];refine jk 14 (v:=?_) rfl (by kernel_rfl) (fun _ _ _=>id) (by rfl) ?_ hS0 ?_;rotate_left
      ·intro W hW;go_simp;try with_reducible rfl
      simp only [Act.put,j1,j2,j3,j4,j5,j6];refine jk 15 (v:=?_) rfl (by kernel_rfl) (fun _ _ _=>id) (by rfl) ?_ hS0 ?_;rotate_left
      ·intro W hW;go_simp;try with_reducible rfl
      simp only [Act.put,j1,j2,j3,j4,j5,j6];refine jk 16 (v:=?_) rfl (by kernel_rfl) (fun _ _ _=>id) (by rfl) ?_ hS0 ?_;rotate_left
      ·intro W hW;go_simp;try with_reducible rfl
      simp only [Act.put,j1,j2,j3,j4,j5,j6];refine jk 17 (v:=?_) rfl (by kernel_rfl) (fun _ _ _=>id) (by rfl) ?_ hS0 ?_;rotate_left 1
      ·intro W hW;have h1 := hW.2.1;go_simp
       try with_reducible rfl
      simp only [Act.put,j1,j2,j3,j4,j5,j6];refine jk 18 (v:=?_) rfl (by kernel_rfl) (fun _ _ _=>id) (by rfl) ?_ hS0 ?_;rotate_left
      ·intro W hW;go_simp;try with_reducible rfl
      simp only [Act.put,j1,j2,j3,j4,j5,j6];refine jk 19 (v:=?_) rfl (by kernel_rfl) (fun _ _ _=>id) (by rfl) ?_ hS0 ?_;rotate_left 1
      ·intro W hW;have h1 := hW.2.2.2;go_simp
       try with_reducible rfl
      simp only [Act.put,j1,j2,j3,j4,j5,j6];refine jx 20 (v := .bool true) rfl (by kernel_rfl) (fun _ _ _=>id) (Or.inl ⟨by rfl, ?_⟩) hS0 ?_
      ·intro W hW;go_simp
       try with_reducible rfl
       try omega
      simp only [Act.put,j1,j2,j3,j4,j5,j6];refine jx 21 (v := .bool true) rfl (by kernel_rfl) (fun _ _ _=>id) (Or.inl ⟨by rfl, ?_⟩) hS0 ?_
      ·intro W hW;go_simp
       try with_reducible rfl
       try omega
      simp only [Act.put,j1,j2,j3,j4,j5,j6];refine wpAnyH_done (by kernel_rfl) ?_ _;have HFn := jh (find_eq xs dm.1.E k (es, en) HHe.out HM.out HAl.out);have HNm := jh (mtE_name HM.out : es = xs);have HTc := jh (turnC_ok (E := dm.1.E) (x := (xs, xn)) HX0.out (List.any_eq_true.2 ⟨_, List.mem_of_getElem? HHe.out, HM.out⟩));clear HAl
      go_upto_region 11 with fail
      obtain ⟨y0, hy0⟩ : ∃ x, World.drew wr = x := ⟨_, rfl⟩
      rw [hy0] at HBd HGd FXd ⊢;clear hy0 ce cA cB cX0 HGr FX HB;have ce : y0.cell? ⟨g, di * 5 + 4, none⟩ = some (.slice (some ⟨pg, 0, none⟩) n cap) := (RvG.at HGd.out.v HMm.out 4 _ rfl).trans (by rw [HV.out, HN.out]);have cX1 : y0.cell? ⟨bX, 1, none⟩ = some (.int .u16 xn) := FXd.out.c 1 _ rfl;refine Cf.wp_region_split (C := fun w' => ∃ q, w' = y0.drewN q) 9 (by kernel_rfl) (of_decide_eq_true (by kernel_rfl)) (by kernel_rfl) (by kernel_rfl) (by kernel_rfl) ⟨1, rfl⟩ ?_;simp only [List.take_succ_cons, List.take_zero]
      repeat (quiet_step (fail))
      refine wpQuiet_nil ?_;intro wy hw';obtain ⟨q, rfl⟩ := hw';refine Cf.wpAny_last 9 (by kernel_rfl) (by kernel_rfl) (Cf.wpOp_step0 rfl rfl (fun K hK => ?_));have hbd : Below y0.heap.size y0 (y0.drewN q) := Cf.below_drewN' (Below.refl _ y0) q;have hGd := HGd.out.keep hbd;have hE1 : dm.2.2 = .slice (some ⟨pg, 0, none⟩) dm.1.E.length cap := HV.out;have hG2 := jh (hGd.setE1 HMm.out hE1 k (es, en) HHe.out xn);have hk2 : Kp w ((y0.drewN q).setCell ⟨pg, k * 2 + 1, none⟩ (.int .u16 xn)) pg pg := ((Kp.of_below (HB1.out.trans (HBd.out.mono HB1.out.size)) pg pg).trans (Kp.of_below hbd pg pg)).setCell _ (.inl rfl) _;have HK2 := jh hk2;have hOw := hGd.v.es dm (List.mem_of_getElem? HMm.out);rw [hE1] at hOw;obtain ⟨pa', cap', hv', hes⟩ := Es.own hOw;obtain ⟨pg', hpg, hr⟩ := hes k _ HHe.out
      have hpp : pg' = pg := by
       injection hv' with h9
       rw [hpg] at h9
       injection h9 with h9
       injection h9 with h9
       exact h9.symm
      subst hpp;have cq : (y0.drewN q).cell? ⟨pg', k * 2 + 1, none⟩ = some (.int .u16 en) := hr 1 _ rfl;have zq : (y0.drewN q).frozen? ⟨pg', k * 2 + 1, none⟩ = false := World.ownsRow.frozenAt hOw _;clear hbd hGd hOw hv' hes hpg hr hE1 hk2;go_simp
      obtain ⟨w9, hw9⟩ : ∃ x, (y0.drewN q).setCell ⟨pg', k * 2 + 1, none⟩ (.int .u16 xn) = x := ⟨_, rfl⟩
      rw [hw9] at hG2 HK2 ⊢;refine hK _ _ ?_;clear hw9 cq zq hK K ce cX1
      go_wp2_with fail
      go_ret
      refine .inr ⟨HTc.out, HK2.out.wide (by rw [HV.out]; rfl), ⟨dm.2.2, ?_, fun k hk => .inl hk⟩, by first | rfl | trivial⟩;rw [← HFn.out, show setE dm.1.E k (xs, xn) = dm.1.E.set k (es, xn) from by unfold setE; rw [if_pos (by rw [HN.out]; exact hkn), HNm.out]];exact hG2.out
   ·obtain rfl : k = n := by omega
    have HTn : Hid (turnC dm.1.E (xs, xn) = 3) := jh (turnC_no HX0.out (fun e he => by
     obtain ⟨j, hj, rfl⟩ := List.mem_iff_getElem.1 he
     exact HAl.out j _ (by have := HN.out; omega) (List.getElem?_eq_getElem hj)))
    go_wp2_with fail
    go_ret
    exact .inl ⟨by rw [HTn.out]; decide, by rw [HTn.out]; rfl, HB1.out.trans (HB.out.mono HB1.out.size)⟩
theorem rnew_any (bl : Int) (n : Nat) (h3 : 3 ≤ n) (hn : n ≤ 200) (w : World) :
  Calls Tryz.prog 14 #[.int .i64 bl, .int .i64 n] w fun e w' => ∃ g c, e = .returned (.agg #[.slice (some ⟨g, 0, none⟩) (n + 1) c, .slice none 0 0, .int .i64 bl]) ∧ RvG w' w.heap.size (.slice (some ⟨g, 0, none⟩) (n + 1) c) (.slice none 0 0) (newM n) 0 [] ∧ Below w.heap.size w w' := by
 obtain ⟨dN, hu, hd⟩ := Tryz.descNd;have HU := jh hu;have HD := jh hd;obtain ⟨dG, hug, hdg⟩ := Tryz.descGr;have HUG := jh hug;have HDG := jh hdg;obtain ⟨iN, hiN, hzN, hsN, hbN⟩ := Tryz.infoNd;have HIN := jh hiN;have HZN := jh hzN;have HSND := jh hsN;have HBN := jh hbN;have hwr : IntKind.i64.wrap ((n : Int) + 1) = n + 1 := IntWalk.i64_in _ (by omega)
 have hn0 : (3 : Int) ≤ n := by omega
 have hn1 : (n : Int) ≤ 200 := by omega
 clear hu hd hug hdg hiN hzN hsN hbN
 go_enter Tryz.func14, Tryz.ntmps14
 go_upto_region 2 with (first | (refine wpList_alloc_list (w := w) rfl 46 rfl [.slice none 0 0, .slice none 0 0, .int .i64 0] Tryz.zeroGr ?_; intro w1 F1 hb1 hz1; have HB1 := jh hb1; clear hb1 hz1) | (refine wpList_make_full w1 rfl _ _ 43 rfl w1.heap.size 84 iN _ 5 Tryz.underlying43 HIN.out HZN.out HSND.out .i64 .i64 _ _ (n + 1) rfl rfl (by omega) (by omega) (by rw [HBN.out]; omega) (by unfold maxLen; omega) (Nat.le_refl _) ?_; intro w2 hown2 hgrow2; have HO2 := jh hown2; have HB2 := jh (Below.grown (Below.refl w1.heap.size w1) hgrow2 (Nat.le_refl _) (fun k hk => by cases hk)); clear hown2 hgrow2) | (refine wpList_alloc_list (w := w2) rfl 46 rfl [.slice none 0 0, .slice none 0 0, .int .i64 0] Tryz.zeroGr ?_; intro w3 F3 hb3 hz3; have HB3 := jh hb3; clear hb3 hz3; simp only [Act.put,j1,j2,j3,j4,j5,j6]) | (refine wpList_store_list rfl 46 (.tmp 5) (.tmp 10) rfl w2.heap.size [.slice none 0 0, .slice none 0 0, .int .i64 0] [.slice (some ⟨w1.heap.size, 0, none⟩) (n + 1) (n + 1), .slice none 0 0, .int .i64 bl] rfl rfl F3.out rfl Tryz.isizeGr (by simp [Value.oneCell']) ?_; intro w4 F4 HK4))
 have hl1 := F1.out.lt;have hg2 : w1.heap.size < w2.heap.size := (World.ownsRow.lt HO2.out w1.heap.size rfl).2
 have hO2 : w2.ownsRow w1.heap.size 84 5 (.slice (some ⟨w1.heap.size, 0, none⟩) (n + 1) (n + 1)) (n + 1) (flN (List.replicate (n + 1) z0N)) := by
  rw [← made_flN];exact HO2.out
 have HP0 := jh (own_mn (ownsRow_kp2 (ownsRow_belowG hO2 HB3.out) HK4.out (fun k hk => by have h1 : w1.heap.size = k := Option.some.inj hk; omega)) (Nat.le_of_lt hl1));have HR0 := jh ((((F1.out.keep HB2.out).keep HB3.out).kp HK4.out (by omega) (by omega)));have HB4 := jh (((HB1.out.trans (HB2.out.mono (Nat.le_of_lt hl1))).trans (HB3.out.mono (by omega))).trans (HK4.out.below (by omega) (by omega) (by have := HB3.out.size; omega)))
 obtain ⟨b4, hb4⟩ : ∃ x, w.heap.size = x := ⟨_, rfl⟩
 obtain ⟨gn, hgn⟩ : ∃ x, w1.heap.size = x := ⟨_, rfl⟩
 obtain ⟨bT, hbT⟩ : ∃ x, w2.heap.size = x := ⟨_, rfl⟩
 rw [hb4] at HR0 HP0 HB4 hl1;rw [hgn] at HP0 F4 hl1 hg2;rw [hbT] at F4 hg2
 try rw [hb4]
 try rw [hgn]
 try rw [hbT]
 have hne1 : b4 ≠ gn := by omega
 have hne2 : bT ≠ gn := by omega
 have hle : b4 ≤ gn := by omega
 have hM0 : (List.replicate (n + 1) z0N).length = n + 1 := List.length_replicate;have HF0 : Hid (Vl w4 bT [.slice (some ⟨gn, 0, none⟩) (n + 1) (n + 1), .slice none 0 0, .int .i64 bl]) := F4;have hwb : b4 < w4.heap.size := HR0.out.lt;have HBE := jh hb4;have HM0 := jh hM0;clear hO2 HO2 HB2 HB3 HK4 F1 F3 F4 HB1 hgn hbT hg2 hl1 hb4 hwb hM0;have HTh1 := jh (own_thereN HP0.out HM0.out 1 (by rw [HM0.out]; omega));have q1 := HF0.out.c 0 _ rfl
 go_upto_region 3 with (refine wpList_store_mid rfl 84 _ _ rfl gn (1 * 5) (nc (⟨2, 1, 1, []⟩, .slice none 0 0, .slice none 0 0)).toArray rfl rfl HTh1.out Tryz.isizeNd (all_oneCell_toArray (rnc_one _ none none 0 0 0 0)) ?_)
 have hk1 : Kp w4 (w4.setCells gn (1 * 5) (nc (⟨2, 1, 1, []⟩, .slice none 0 0, .slice none 0 0))) gn gn := (Kp.refl w4 gn gn).setCells gn (1 * 5) (.inl rfl) _;have HP1 := jh (own_setN HP0.out 1 (by rw [HM0.out]; omega) (⟨2, 1, 1, []⟩, .slice none 0 0, .slice none 0 0));have HF1 := jh (HF0.out.kp hk1 hne2 hne2);have HR1 := jh (HR0.out.kp hk1 hne1 hne1);have HB5 := jh (HB4.out.trans (hk1.below hle hle (Nat.le_of_lt HR0.out.lt)));have HM1 : Hid (((List.replicate (n + 1) z0N).set 1 (⟨2, 1, 1, []⟩, .slice none 0 0, .slice none 0 0)).length = n + 1) := jh (by rw [List.length_set, HM0.out])
 obtain ⟨y1, hy1⟩ : ∃ z, w4.setCells gn (1 * 5) (nc (⟨2, 1, 1, []⟩, .slice none 0 0, .slice none 0 0)) = z := ⟨_, rfl⟩
 rw [hy1] at HP1 HF1 HR1 HB5
 try rw [hy1]
 try (change Code.wp _ _ _ _ (w4.setCells gn (1 * 5) (nc (⟨2, 1, 1, []⟩, .slice none 0 0, .slice none 0 0))); rw [hy1])
 clear hy1 hk1 q1 HTh1 HP0 HF0 HR0 HB4;have HTh2 := jh (own_thereN HP1.out HM1.out 2 (by rw [HM1.out]; omega));have q2 := HF1.out.c 0 _ rfl
 go_upto_region 4 with (refine wpList_store_mid rfl 84 _ _ rfl gn (2 * 5) (nc (⟨1, 1, 1, []⟩, .slice none 0 0, .slice none 0 0)).toArray rfl rfl HTh2.out Tryz.isizeNd (all_oneCell_toArray (rnc_one _ none none 0 0 0 0)) ?_)
 have hk2 : Kp y1 (y1.setCells gn (2 * 5) (nc (⟨1, 1, 1, []⟩, .slice none 0 0, .slice none 0 0))) gn gn := (Kp.refl y1 gn gn).setCells gn (2 * 5) (.inl rfl) _;have HP2 := jh (own_setN HP1.out 2 (by rw [HM1.out]; omega) (⟨1, 1, 1, []⟩, .slice none 0 0, .slice none 0 0));have HF2 := jh (HF1.out.kp hk2 hne2 hne2);have HR2 := jh (HR1.out.kp hk2 hne1 hne1);have HB6 := jh (HB5.out.trans (hk2.below hle hle (Nat.le_of_lt HR1.out.lt)));have HM2 : Hid ((((List.replicate (n + 1) z0N).set 1 (⟨2, 1, 1, []⟩, .slice none 0 0, .slice none 0 0)).set 2 (⟨1, 1, 1, []⟩, .slice none 0 0, .slice none 0 0)).length = n + 1) := jh (by rw [List.length_set, HM1.out])
 obtain ⟨y2, hy2⟩ : ∃ z, y1.setCells gn (2 * 5) (nc (⟨1, 1, 1, []⟩, .slice none 0 0, .slice none 0 0)) = z := ⟨_, rfl⟩
 rw [hy2] at HP2 HF2 HR2 HB6
 try rw [hy2]
 try (change Code.wp _ _ _ _ (y1.setCells gn (2 * 5) (nc (⟨1, 1, 1, []⟩, .slice none 0 0, .slice none 0 0))); rw [hy2])
 clear hy2 hk2 q2 HTh2 HP1 HF1 HR1 HB5;have HTh3 := jh (own_thereN HP2.out HM2.out 3 (by rw [HM2.out]; omega));have q3 := HF2.out.c 0 _ rfl
 go_upto_region 5 with (refine wpList_store_mid rfl 84 _ _ rfl gn (3 * 5) (nc (⟨1, 1, 1, []⟩, .slice none 0 0, .slice none 0 0)).toArray rfl rfl HTh3.out Tryz.isizeNd (all_oneCell_toArray (rnc_one _ none none 0 0 0 0)) ?_)
 have hk3 : Kp y2 (y2.setCells gn (3 * 5) (nc (⟨1, 1, 1, []⟩, .slice none 0 0, .slice none 0 0))) gn gn := (Kp.refl y2 gn gn).setCells gn (3 * 5) (.inl rfl) _;have HP3 := jh (own_setN HP2.out 3 (by rw [HM2.out]; omega) (⟨1, 1, 1, []⟩, .slice none 0 0, .slice none 0 0));have HF3 := jh (HF2.out.kp hk3 hne2 hne2);have HR3 := jh (HR2.out.kp hk3 hne1 hne1);have HB7 := jh (HB6.out.trans (hk3.below hle hle (Nat.le_of_lt HR2.out.lt)));have HM3 : Hid (((((List.replicate (n + 1) z0N).set 1 (⟨2, 1, 1, []⟩, .slice none 0 0, .slice none 0 0)).set 2 (⟨1, 1, 1, []⟩, .slice none 0 0, .slice none 0 0)).set 3 (⟨1, 1, 1, []⟩, .slice none 0 0, .slice none 0 0)).length = n + 1) := jh (by rw [List.length_set, HM2.out])
 obtain ⟨y3, hy3⟩ : ∃ z, y2.setCells gn (3 * 5) (nc (⟨1, 1, 1, []⟩, .slice none 0 0, .slice none 0 0)) = z := ⟨_, rfl⟩
 rw [hy3] at HP3 HF3 HR3 HB7
 try rw [hy3]
 try (change Code.wp _ _ _ _ (y2.setCells gn (3 * 5) (nc (⟨1, 1, 1, []⟩, .slice none 0 0, .slice none 0 0))); rw [hy3])
 clear hy3 hk3 q3 HTh3 HP2 HF2 HR2 HB6;have HG := jh (newM_is (n := n) HP3.out);have HRT := jh HF3.out.range0
 go_wp2_with (first | (refine wpList_load_mid rfl 46 _ rfl bT 0 rfl [.slice (some ⟨gn, 0, none⟩) (n + 1) (n + 1), .slice none 0 0, .int .i64 bl] dG HRT.out HUG.out HDG.out Tryz.isizeGr ?_) | (refine wpList_store_list rfl 46 (.tmp 4) (.tmp 23) rfl b4 [.slice none 0 0, .slice none 0 0, .int .i64 0] [.slice (some ⟨gn, 0, none⟩) (n + 1) (n + 1), .slice none 0 0, .int .i64 bl] rfl rfl HR3.out rfl Tryz.isizeGr (by simp [Value.oneCell']) ?_; intro w9 F9 HK9))
 have hres := ownsRow_kp2 HP3.out HK9.out (fun k hk => by have h1 : gn = k := Option.some.inj hk; omega);have HB9 := jh (HB7.out.trans (HK9.out.below (Nat.le_refl _) (Nat.le_refl _) (Nat.le_of_lt HR3.out.lt)));exact bodyPost_ret_by (results_mid rfl _ _ b4 _ dG rfl F9.out.range0 HUG.out HDG.out Tryz.isizeGr) rfl ⟨gn, n + 1, rfl, by rw [HBE.out]; exact newM_is hres, by rw [HBE.out]; exact HB9.out⟩
theorem ownsRow_kfG {w w' : World} {L : List Nat} {base : Nat} {e : TypeId} {size n : Nat} {v : Value} {xs : List Value} (h : w.ownsRow base e size v n xs) (hk : Kf w w' L) (hn : ∀ k, v.ownBlock = some k → k ∉ L) : w'.ownsRow base e size v n xs :=
 ownsRow_keep h (fun k hk' => hk.block k (World.ownsRow.lt h k hk').2 (hn k hk'))
theorem RvG.kf {w w' : World} {L : List Nat} {base tn : Nat} {vn vt : Value} {M : List Nm} {tc : List Value} (h : RvG w base vn vt M tn tc) (hk : Kf w w' L) (hn : ∀ v ∈ vn :: vt :: M.map (fun m => m.2.2), ∀ k, v.ownBlock = some k → k ∉ L) : RvG w' base vn vt M tn tc :=
 ⟨ownsRow_kfG h.nd hk (hn _ (List.mem_cons_self ..)), ownsRow_kfG h.tb hk (hn _ (List.mem_cons_of_mem _ (List.mem_cons_self ..))), h.t1, fun m hm => (h.bs m hm).nil, fun m hm => ownsRow_kfG (h.es m hm) hk (hn _ (List.mem_cons_of_mem _ (List.mem_cons_of_mem _ (List.mem_map.2 ⟨m, hm, rfl⟩)))), h.ap⟩
theorem Gm.kf {w w' : World} {L : List Nat} {base r o tn : Nat} {vn vt : Value} {M : List Nm} {tc : List Value} {B : Int} (h : Gm w base r o vn vt M tn tc B) (hk : Kf w w' L) (hn : ∀ v ∈ vn :: vt :: M.map (fun m => m.2.2), ∀ k, v.ownBlock = some k → k ∉ L) (hr : r ∉ L) : Gm w' base r o vn vt M tn tc B :=
 ⟨fun j u hj => (hk.cell (p := ⟨r, o + j, none⟩) h.lt hr).trans (h.c j u hj), fun j hj => (hk.frozen (p := ⟨r, o + j, none⟩) h.lt hr).trans (h.z j hj), Nat.lt_of_lt_of_le h.lt hk.size, h.v.kf hk hn, h.ne⟩
theorem RvG.kp3 {w w' : World} {a b base tn : Nat} {vn vt : Value} {M : List Nm} {tc : List Value} (h : RvG w base vn vt M tn tc) (hk : Kp w w' a b) (ha : a < base) (hb : b < base ∨ w.heap.size ≤ b) : RvG w' base vn vt M tn tc := by
 refine h.kf (L := [a, b]) (Kf.of_kp hk (List.mem_cons_self ..) (List.mem_cons_of_mem _ (List.mem_cons_self ..))) (fun v hv k hk' => ?_);have := RvG.lt h v hv k hk';simp only [List.mem_cons, List.not_mem_nil, or_false];omega
def LE (E : List En) : List Rn := [r0, ⟨2, 1, 1, E⟩, ⟨1, 1, 1, []⟩, ⟨1, 1, 1, []⟩, r0, r0, r0, r0, r0]
theorem LE_new : (newM 8).map (fun m => m.1) = LE [] := rfl
theorem LE_set (E E' : List En) : (LE E).set 1 ⟨2, 1, 1, E'⟩ = LE E' := rfl
theorem LE_uB (E : List En) (hE : E.length ≤ 62) : uB 0 (LE E) 9 ≤ 38 := by
 have h : uB 0 (LE E) 9 = bkR 0 1 ⟨2, 1, 1, E⟩ := by
  simp [uB, LE, bkR, szR, r0, dataS, ptrS]
 rw [h];unfold bkR szR dataS ptrS
 simp
 repeat' split
 all_goals omega
def Mg (w : World) (bs T r : Nat) (B : Int) (E : List En) : Prop := ∃ g cap pt ct M, Gm w bs r 0 (.slice (some ⟨g, 0, none⟩) 9 cap) (.slice pt 0 ct) M 0 [] B ∧ M.map (fun m => m.1) = LE E ∧ ∀ v ∈ (.slice (some ⟨g, 0, none⟩) 9 cap) :: (.slice pt 0 ct) :: M.map (fun m => m.2.2), ∀ k, v.ownBlock = some k → k < T
theorem LE_len {M : List Nm} {E : List En} (h : M.map (fun m => m.1) = LE E) : M.length = 9 := by
 have := congrArg List.length h
 simpa [LE] using this
theorem LE_one {M : List Nm} {E : List En} (h : M.map (fun m => m.1) = LE E) : ∃ m, M[1]? = some m ∧ m.1 = ⟨2, 1, 1, E⟩ := by
 have hl := LE_len h;refine ⟨M[1]'(by omega), List.getElem?_eq_getElem (by omega), ?_⟩;have h1 := congrArg (fun l => l[1]?) h;simp only [List.getElem?_map, List.getElem?_eq_getElem (show 1 < M.length by omega)] at h1
 injection h1
theorem Mg.keep {w w' : World} {bs T r : Nat} {B : Int} {E : List En} (h : Mg w bs T r B E) (hb : Below w.heap.size w w') : Mg w' bs T r B E := by
 obtain ⟨g, cap, pt, ct, M, h1, h2, h3⟩ := h;exact ⟨g, cap, pt, ct, M, h1.keep hb, h2, h3⟩
theorem Mg.kf {w w' : World} {L : List Nat} {bs T r : Nat} {B : Int} {E : List En} (h : Mg w bs T r B E) (hk : Kf w w' L) (hL : ∀ a ∈ L, a < bs ∨ T ≤ a) (hr : bs ≤ r) (hrT : r < T) : Mg w' bs T r B E := by
 obtain ⟨g, cap, pt, ct, M, h1, h2, h3⟩ := h;refine ⟨g, cap, pt, ct, M, h1.kf hk (fun v hv k hk' hm => ?_) (fun hm => ?_), h2, h3⟩
 ·have a1 := (RvG.lt h1.v v hv k hk').1;have a2 := h3 v hv k hk';have := hL k hm;omega
 ·have := hL r hm;omega
theorem Mg.of {w : World} {bs r g cap ct : Nat} {pt : Option Addr} {M : List Nm} {B : Int} {E : List En} (h : Gm w bs r 0 (.slice (some ⟨g, 0, none⟩) 9 cap) (.slice pt 0 ct) M 0 [] B) (h2 : M.map (fun m => m.1) = LE E) : Mg w bs w.heap.size r B E :=
 ⟨g, cap, pt, ct, M, h, h2, fun v hv k hk => (RvG.lt h.v v hv k hk).2⟩
def Mg2 (w : World) (bs T S r : Nat) (B : Int) (E : List En) : Prop := ∃ g cap pt ct M, Gm w bs r 0 (.slice (some ⟨g, 0, none⟩) 9 cap) (.slice pt 0 ct) M 0 [] B ∧ M.map (fun m => m.1) = LE E ∧ ∀ v ∈ (.slice (some ⟨g, 0, none⟩) 9 cap) :: (.slice pt 0 ct) :: M.map (fun m => m.2.2), ∀ k, v.ownBlock = some k → k < T ∨ S ≤ k
theorem Mg2.kf {w w' : World} {L : List Nat} {bs T S r : Nat} {B : Int} {E : List En} (h : Mg2 w bs T S r B E) (hk : Kf w w' L) (hL : ∀ a ∈ L, a < bs ∨ T ≤ a) (hS : ∀ a ∈ L, a < S) (hr : bs ≤ r) (hrT : r < T) : Mg w' bs w'.heap.size r B E := by
 obtain ⟨g, cap, pt, ct, M, h1, h2, h3⟩ := h;refine Mg.of (h1.kf hk (fun v hv k hk' hm => ?_) (fun hm => ?_)) h2
 ·have a1 := (RvG.lt h1.v v hv k hk').1;have a2 := h3 v hv k hk';have := hL k hm;have := hS k hm;omega
 ·have := hL r hm;omega
theorem Mg2.of {w w' : World} {bs T r g cap ct : Nat} {pt : Option Addr} {M : List Nm} {m : Nm} {x : Rn} {bv v' : Value} {B : Int} {E' : List En} (h : Gm w' bs r 0 (.slice (some ⟨g, 0, none⟩) 9 cap) (.slice pt 0 ct) (M.set 1 (x, bv, v')) 0 [] B) (h2 : (M.set 1 (x, bv, v')).map (fun m => m.1) = LE E') (h3 : ∀ v ∈ (.slice (some ⟨g, 0, none⟩) 9 cap) :: (.slice pt 0 ct) :: M.map (fun m => m.2.2), ∀ k, v.ownBlock = some k → k < T) (hm : M[1]? = some m) (hv : ∀ k, v'.ownBlock = some k → m.2.2.ownBlock = some k ∨ w.heap.size ≤ k) : Mg2 w' bs T w.heap.size r B E' := by
 refine ⟨g, cap, pt, ct, _, h, h2, fun v hvv k hk => ?_⟩;rcases List.mem_cons.1 hvv with rfl | hvv
 ·exact .inl (h3 _ (List.mem_cons_self ..) k hk)
 ·rcases List.mem_cons.1 hvv with rfl | hvv
  ·exact .inl (h3 _ (List.mem_cons_of_mem _ (List.mem_cons_self ..)) k hk)
  ·obtain ⟨y, hy, rfl⟩ := List.mem_map.1 hvv;rcases List.mem_or_eq_of_mem_set hy with hy | rfl
   ·exact .inl (h3 _ (List.mem_cons_of_mem _ (List.mem_cons_of_mem _ (List.mem_map.2 ⟨y, hy, rfl⟩))) k hk)
   ·rcases hv k hk with h9 | h9
    ·exact .inl (h3 _ (List.mem_cons_of_mem _ (List.mem_cons_of_mem _ (List.mem_map.2 ⟨m, List.mem_of_getElem? hm, rfl⟩))) k h9)
    ·exact .inr h9
def Fr9 (w w' : World) (bs T r : Nat) : Prop := ∃ a b, Kp w w' a b ∧ bs ≤ a ∧ a < T ∧ a ≠ r ∧ bs ≤ b ∧ b ≠ r ∧ (b < T ∨ b = w.heap.size)
theorem Mg.own {w : World} {bs T r g cap ct : Nat} {pt : Option Addr} {M : List Nm} {B : Int} {m : Nm} (h : Gm w bs r 0 (.slice (some ⟨g, 0, none⟩) 9 cap) (.slice pt 0 ct) M 0 [] B) (h3 : ∀ v ∈ (.slice (some ⟨g, 0, none⟩) 9 cap) :: (.slice pt 0 ct) :: M.map (fun m => m.2.2), ∀ k, v.ownBlock = some k → k < T) (hm : M[1]? = some m) {w' : World} (hk : Kp w w' g (m.2.2.ownBlock.getD w.heap.size)) : Fr9 w w' bs T r := by
 have hg := RvG.lt h.v _ (List.mem_cons_self ..) g rfl;have hmm : m.2.2 ∈ (.slice (some ⟨g, 0, none⟩) 9 cap) :: (.slice pt 0 ct) :: M.map (fun m => m.2.2) := List.mem_cons_of_mem _ (List.mem_cons_of_mem _ (List.mem_map.2 ⟨m, List.mem_of_getElem? hm, rfl⟩));have hgr := h.ne _ (List.mem_cons_self ..);have hlt := h.lt;refine ⟨g, _, hk, hg.1, h3 _ (List.mem_cons_self ..) g rfl, fun e => hgr (by rw [← e]; rfl), ?_⟩
 cases ho : m.2.2.ownBlock with
 | none =>
  show bs ≤ w.heap.size ∧ w.heap.size ≠ r ∧ (w.heap.size < T ∨ w.heap.size = w.heap.size)
  exact ⟨by omega, by omega, .inr rfl⟩
 | some k =>
  have h1 := RvG.lt h.v _ hmm k ho;have h2 := h3 _ hmm k ho;have h4 := h.ne _ hmm
  show bs ≤ k ∧ k ≠ r ∧ (k < T ∨ k = w.heap.size)
  exact ⟨h1.1, fun e => h4 (by rw [ho, e]), .inl h2⟩
theorem LE_E {M : List Nm} {E : List En} (h : M.map (fun m => m.1) = LE E) (hE : E.length ≤ 1000) : ∀ m ∈ M, m.1.E.length ≤ 1000 := by
 intro m hm;have h1 : m.1 ∈ LE E := h ▸ List.mem_map.2 ⟨m, hm, rfl⟩;simp only [LE, List.mem_cons, List.not_mem_nil, or_false] at h1
 rcases h1 with h1 | h1 | h1 | h1 | h1 | h1 | h1 | h1 | h1 <;> rw [h1] <;> first | exact hE | exact Nat.zero_le _
theorem mg_add (bs T r : Nat) (E : List En) (hok : ∀ e ∈ E, e = zE ∨ okE e) (hE : E.length ≤ 61) (x : En) (hx : x.2 < 65536) (w : World) (h : Mg w bs T r 38 E) :
  Calls Tryz.prog 26 #[.pointer (some ⟨r, 0, none⟩), .int .i64 1, .agg (enc x).toArray] w fun e w' =>
   e = .returned (.int .i64 (addC E x)) ∧ ((¬ addC E x = 0 ∧ Below w.heap.size w w') ∨ (addC E x = 0 ∧ Fr9 w w' bs T r ∧ Mg2 w' bs T w.heap.size r 38 (setE E (roomN E) x))) := by
 obtain ⟨g, cap, pt, ct, M, h1, h2, h3⟩ := h;have hl := LE_len h2;obtain ⟨m, hm, hm1⟩ := LE_one h2
 have hmE : m.1.E = E := by rw [hm1]
 rw [← hl] at h1;refine (radd_any bs r 0 g cap 0 ct pt M [] 38 1 m hm (by omega) (by rw [hm1]) (by rw [hmE]; exact hok) (LE_E h2 (by omega)) (by decide) x hx w h1).mono ?_;rintro e w' (⟨ha, rfl, hb⟩ | ⟨ha, hk, ⟨v', hG, hpl⟩, rfl⟩)
 ·rw [hmE] at ha ⊢;exact ⟨rfl, .inl ⟨ha, hb⟩⟩
 ·rw [hmE] at ha hG ⊢;rw [hl] at h1 hG
  have hlen : (setE E (roomN E) x).length ≤ 62 := by
   unfold setE
   split
   ·rw [List.length_set];omega
   ·rw [List.length_append]
    show E.length + 1 ≤ 62
    omega
  have hmap : (M.set 1 (⟨m.1.k, m.1.l, m.1.g, setE E (roomN E) x⟩, m.2.1, v')).map (fun m => m.1) = LE (setE E (roomN E) x) := by
   rw [List.map_set, h2, hm1, LE_set]
  have hadd : addR 38 0 ((M.map fun m => m.1).set 1 ⟨m.1.k, m.1.l, m.1.g, setE E (roomN E) x⟩) M.length E = 0 := by
   unfold addR;rw [h2, hm1, LE_set, hl];have := LE_uB _ hlen
   split
   ·rfl
   ·rw [if_neg (by omega)]
  rw [hadd, ha];exact ⟨rfl, .inr ⟨rfl, Mg.own h1 h3 hm hk, Mg2.of hG hmap h3 hm hpl⟩⟩
theorem stE_map {M : List Nm} {m : Nm} {E E' : List En} {v : Value} (h2 : M.map (fun m => m.1) = LE E) (hm1 : m.1 = ⟨2, 1, 1, E⟩) : (stE M 1 m E' v).map (fun m => m.1) = LE E' := by
 unfold stE;rw [List.map_set, h2, hm1, LE_set]
theorem mg_drop (bs T r : Nat) (E : List En) (hok : ∀ e ∈ E, e = zE ∨ okE e) (hE : E.length ≤ 61) (s : ByteArray) (hU : Uq s E) (w : World) (h : Mg w bs T r 38 E) :
  Calls Tryz.prog 20 #[.pointer (some ⟨r, 0, none⟩), .int .i64 1, .string s] w fun e w' =>
   ((∀ e ∈ E, mtE s e = false) ∧ e = .returned (.int .i64 3) ∧ w' = w) ∨ (hasE s E = true ∧ Fr9 w w' bs T r ∧ Mg2 w' bs T w.heap.size r 38 ((E.set (findN s E) zE).take (usedN (E.set (findN s E) zE))) ∧ e = .returned (.int .i64 0)) := by
 obtain ⟨g, cap, pt, ct, M, h1, h2, h3⟩ := h;have hl := LE_len h2;obtain ⟨m, hm, hm1⟩ := LE_one h2
 have hmE : m.1.E = E := by rw [hm1]
 rw [← hl] at h1;refine (rdrop_any bs r 0 g cap 0 (.slice pt 0 ct) M [] 38 1 m hm (by omega) (by rw [hm1]) (by rw [hmE]; exact hok) (by rw [hmE]; omega) s (by rw [hmE]; exact hU) w h1).mono ?_;rintro e w' (⟨ha, rfl, rfl⟩ | ⟨ha, hk, ⟨v', hG, hpl⟩, rfl⟩)
 ·rw [hmE] at ha;exact .inl ⟨ha, rfl, rfl⟩
 ·rw [hmE] at ha hG;rw [hl] at h1 hG;exact .inr ⟨ha, Mg.own h1 h3 hm hk, Mg2.of hG (stE_map h2 hm1) h3 hm hpl, rfl⟩
theorem mg_turn (bs T r : Nat) (E : List En) (hok : ∀ e ∈ E, e = zE ∨ okE e) (hE : E.length ≤ 61) (x : En) (hx : x.2 < 65536) (w : World) (h : Mg w bs T r 38 E) :
  Calls Tryz.prog 22 #[.pointer (some ⟨r, 0, none⟩), .int .i64 1, .agg (enc x).toArray] w fun e w' =>
   e = .returned (.int .i64 (turnC E x)) ∧ ((¬ turnC E x = 0 ∧ Below w.heap.size w w') ∨ (turnC E x = 0 ∧ Fr9 w w' bs T r ∧ Mg2 w' bs T w.heap.size r 38 (setE E (findN x.1 E) x))) := by
 obtain ⟨g, cap, pt, ct, M, h1, h2, h3⟩ := h;have hl := LE_len h2;obtain ⟨m, hm, hm1⟩ := LE_one h2
 have hmE : m.1.E = E := by rw [hm1]
 rw [← hl] at h1;refine (rturn_any bs r 0 g cap 0 (.slice pt 0 ct) M [] 38 1 m hm (by omega) (by rw [hm1]) (by rw [hmE]; exact hok) (by rw [hmE]; omega) x hx w h1).mono ?_;rintro e w' (⟨ha, rfl, hb⟩ | ⟨ha, hk, ⟨v', hG, hpl⟩, rfl⟩)
 ·rw [hmE] at ha ⊢;exact ⟨rfl, .inl ⟨ha, hb⟩⟩
 ·rw [hmE] at ha hG;rw [hl] at h1 hG;exact ⟨by rw [ha], .inr ⟨ha, Mg.own h1 h3 hm hk, Mg2.of hG (stE_map h2 hm1) h3 hm hpl⟩⟩
theorem mg_find (bs T r : Nat) (E : List En) (hok : ∀ e ∈ E, e = zE ∨ okE e) (hE : E.length ≤ 61) (s : ByteArray) (w : World) (h : Mg w bs T r 38 E) :
  Calls Tryz.prog 24 #[.pointer (some ⟨r, 0, none⟩), .int .i64 1, .string s] w fun e w' => w' = w ∧
   ((∃ (i : Nat) (e' : En), E[i]? = some e' ∧ mtE s e' = true ∧ (∀ (j : Nat) (e' : En), j < i → E[j]? = some e' → mtE s e' = false) ∧ e = .returned (.tuple #[.int .i64 e'.2, .int .i64 0])) ∨ ((∀ e ∈ E, mtE s e = false) ∧ e = .returned (.tuple #[.int .i64 0, .int .i64 3]))) := by
 obtain ⟨g, cap, pt, ct, M, h1, h2, h3⟩ := h;have hl := LE_len h2;obtain ⟨m, hm, hm1⟩ := LE_one h2
 have hmE : m.1.E = E := by rw [hm1]
 rw [← hl] at h1;have h9 := rfindg_any bs r 0 g cap 0 (.slice pt 0 ct) M [] 38 1 m hm (by omega) (by rw [hm1]) (by rw [hmE]; exact hok) (by rw [hmE]; omega) s w h1;rw [hmE] at h9;exact h9
theorem Mg.cells {w : World} {bs T r : Nat} {B : Int} {E : List En} (h : Mg w bs T r B E) : ∃ g cap pa c2, w.cell? ⟨r, 0, none⟩ = some (.slice (some ⟨g, 0, none⟩) 9 cap) ∧ w.cell? ⟨g, 9, none⟩ = some (.slice pa E.length c2) := by
 obtain ⟨g, cap, pt, ct, M, h1, h2, h3⟩ := h;have hl := LE_len h2;obtain ⟨m, hm, hm1⟩ := LE_one h2
 have hmE : m.1.E = E := by rw [hm1]
 have h4 := h1.v;rw [← hl] at h4;obtain ⟨pa, c2, hv⟩ := ownsRow_slice (h4.es m (List.mem_of_getElem? hm));have h5 := RvG.at h4 hm 4 _ rfl;refine ⟨g, cap, pa, c2, h1.c 0 _ rfl, ?_⟩;rw [hmE] at hv;rw [← hv];exact h5
def Old (w : World) (bs : Nat) (B : Int) (E : List En) (vn vt : Value) : Prop := ∃ g cap pt ct M, vn = .slice (some ⟨g, 0, none⟩) 9 cap ∧ vt = .slice pt 0 ct ∧ RvG w bs vn vt M 0 [] ∧ M.map (fun m => m.1) = LE E
theorem Old.keep {w w' : World} {bs : Nat} {B : Int} {E : List En} {vn vt : Value} (h : Old w bs B E vn vt) (hb : Below w.heap.size w w') : Old w' bs B E vn vt := by
 obtain ⟨g, cap, pt, ct, M, h1, h2, h3, h4⟩ := h;exact ⟨g, cap, pt, ct, M, h1, h2, h3.keep hb, h4⟩
theorem Old.kf {w w' : World} {L : List Nat} {bs : Nat} {B : Int} {E : List En} {vn vt : Value} (h : Old w bs B E vn vt) (hk : Kf w w' L) (hL : ∀ a ∈ L, a < bs) : Old w' bs B E vn vt := by
 obtain ⟨g, cap, pt, ct, M, h1, h2, h3, h4⟩ := h;refine ⟨g, cap, pt, ct, M, h1, h2, h3.kf hk (fun v hv k hk' hm => ?_), h4⟩;have := (RvG.lt h3 v hv k hk').1;have := hL k hm;omega
theorem mg_copy (bs T r : Nat) (E : List En) (hE : E.length ≤ 62) (w : World) (g cap ct : Nat) (pt : Option Addr) (M : List Nm) (h1 : RvG w bs (.slice (some ⟨g, 0, none⟩) 9 cap) (.slice pt 0 ct) M 0 []) (h2 : M.map (fun m => m.1) = LE E) :
  Calls Tryz.prog 17 #[.agg #[.slice (some ⟨g, 0, none⟩) 9 cap, .slice pt 0 ct, .int .i64 38]] w fun e w' => ∃ vn vt, e = .returned (.agg #[vn, vt, .int .i64 38]) ∧ Old w' w.heap.size 38 E vn vt ∧ Below w.heap.size w w' := by
 have hl := LE_len h2;rw [← hl] at h1 ⊢;refine (rcopy_any bs g cap 0 ct pt M [] 38 (by omega) (by omega) (fun m hm => by have := LE_E h2 (by omega) m hm; omega) (by decide) w h1).mono ?_;rintro e w' ⟨g', c', gt', ct', M', rfl, hm, hR, hb⟩;rw [hl] at hR ⊢;exact ⟨_, _, rfl, ⟨g', c', _, ct', M', rfl, rfl, hR, hm.trans h2⟩, hb⟩
theorem all_live (E : List En) : E.all vacE = decide ((liveE E).length = 0) := by
 induction E with
 | nil => rfl
 | cons e E ih =>
  unfold liveE at ih ⊢;rw [List.all_cons, List.filter_cons]
  cases hv : vacE e
  ·rfl
  ·rw [if_neg (by decide), Bool.true_and];exact ih
theorem Uq.set {E : List En} (h : ∀ s, Uq s E) (i : Nat) : ∀ s, Uq s (E.set i zE) := by
 intro s a b e f ha hb h1 h2
 have hz : mtE s zE = false := by unfold mtE; rw [zE_vacG]; rfl
 by_cases h3 : a = i
 ·subst h3;rw [List.getElem?_set] at ha
  split at ha
  ·split at ha
   ·injection ha with ha
    rw [← ha, hz] at h1
    cases h1
   ·cases ha
  ·rename_i h9
   exact absurd rfl h9
 ·by_cases h4 : b = i
  ·subst h4;rw [List.getElem?_set] at hb
   split at hb
   ·split at hb
    ·injection hb with hb
     rw [← hb, hz] at h2
     cases h2
    ·cases hb
   ·rename_i h9
    exact absurd rfl h9
  ·rw [List.getElem?_set_ne (Ne.symm h3)] at ha;rw [List.getElem?_set_ne (Ne.symm h4)] at hb;exact h s a b e f ha hb h1 h2
theorem Uq.take {E : List En} (h : ∀ s, Uq s E) (n : Nat) : ∀ s, Uq s (E.take n) := by
 intro s a b e f ha hb h1 h2;rw [List.getElem?_take] at ha hb
 split at ha
 ·split at hb
  ·exact h s a b e f ha hb h1 h2
  ·cases hb
 ·cases ha
theorem Uq.add {E : List En} (h : ∀ s, Uq s E) (x : En) (hx : ∀ e ∈ E, mtE x.1 e = false) (i : Nat) : ∀ s, Uq s (setE E i x) := by
 intro s a b e f ha hb h1 h2
 have key : ∀ (a : Nat) (e : En), (setE E i x)[a]? = some e → (E[a]? = some e ∧ e ∈ E) ∨ (e = x ∧ a = (if i < E.length then i else E.length)) := by
  intro a e ha;unfold setE at ha
  split at ha
  ·rename_i hi
   by_cases h3 : a = i
   ·subst h3;rw [List.getElem?_set_self hi] at ha;rw [if_pos hi];exact .inr ⟨(Option.some.inj ha).symm, rfl⟩
   ·rw [List.getElem?_set_ne (Ne.symm h3)] at ha;exact .inl ⟨ha, List.mem_of_getElem? ha⟩
  ·rename_i hi
   rw [if_neg hi];rcases Nat.lt_or_ge a E.length with h3 | h3
   ·rw [List.getElem?_append_left h3] at ha;exact .inl ⟨ha, List.mem_of_getElem? ha⟩
   ·rw [List.getElem?_append_right h3] at ha
    have h4 : a - E.length = 0 := by
     have := (List.getElem?_eq_some_iff.1 ha).1
     simp at this
     omega
    rw [h4] at ha;exact .inr ⟨(Option.some.inj ha).symm, by omega⟩
 rcases key a e ha with ⟨a1, a2⟩ | ⟨a1, a2⟩
 ·rcases key b f hb with ⟨b1, b2⟩ | ⟨b1, b2⟩
  ·exact h s a b e f a1 b1 h1 h2
  ·subst b1;have h3 : s = f.1 := (mtE_name h2).symm;have h4 := hx e a2;rw [← h3, h1] at h4
   cases h4
 ·subst a1;rcases key b f hb with ⟨b1, b2⟩ | ⟨b1, b2⟩
  ·have h3 : s = e.1 := (mtE_name h1).symm;have h4 := hx f b2;rw [← h3, h2] at h4
   cases h4
  ·rw [a2, b2]
theorem Uq.turn {E : List En} (h : ∀ s, Uq s E) (i : Nat) (e0 x : En) (hi : E[i]? = some e0) (hm : mtE x.1 e0 = true) : ∀ s, Uq s (E.set i x) := by
 intro s a b e f ha hb h1 h2;have hil := (List.getElem?_eq_some_iff.1 hi).1
 have key : ∀ (a : Nat) (e : En), (E.set i x)[a]? = some e → mtE s e = true → ∃ e', E[a]? = some e' ∧ mtE s e' = true := by
  intro a e ha h1
  by_cases h3 : a = i
  ·subst h3;rw [List.getElem?_set_self hil] at ha;obtain rfl := Option.some.inj ha;exact ⟨e0, hi, by rw [← mtE_name h1]; exact hm⟩
  ·rw [List.getElem?_set_ne (Ne.symm h3)] at ha;exact ⟨e, ha, h1⟩
 obtain ⟨e', a1, a2⟩ := key a e ha h1;obtain ⟨f', b1, b2⟩ := key b f hb h2;exact h s a b e' f' a1 b1 a2 b2
theorem rlist2_any (base r o gn capn tn : Nat) (vt : Value) (M : List Nm) (tc : List Value) (B : Int) (di : Nat) (dm : Nm) (hm : M[di]? = some dm) (hM : M.length ≤ 200) (hk : dm.1.k = 2) (hE : ∀ e ∈ dm.1.E, e = zE ∨ okE e) (hl : dm.1.E.length ≤ 1024) (w : World) (h : Gm w base r o (.slice (some ⟨gn, 0, none⟩) M.length capn) vt M tn tc B) :
  Calls Tryz.prog 29 #[.pointer (some ⟨r, o, none⟩), .int .i64 di] w fun x w' => ∃ v', x = .returned (.tuple #[v', .int .i64 0]) ∧ w'.ownsRow w.heap.size 58 2 v' (liveE dm.1.E).length (flatE (liveE dm.1.E)) ∧ Below w.heap.size w w' := by
 obtain ⟨iE, hi, hz, hs, hbE⟩ := Tryz.infoEn;have HI := jh hi;have HZ := jh hz;have HS := jh hs;have HBE := jh hbE;obtain ⟨dE, hu, hd⟩ := Tryz.descEn;have HU := jh hu;have HDd := jh hd;have hdr := rdirg_any base r o gn capn tn vt M tc B di dm hm hM w h;rw [hk] at hdr;have HDr : Hid (Calls Tryz.prog 84 #[.pointer (some ⟨r, o, none⟩), .int .i64 di] w fun e w' => e = .returned (.int .i64 0) ∧ w' = w) := jh hdr;have hdi : di < M.length := (List.getElem?_eq_some_iff.1 hm).1
 have hi0 : (0 : Int) ≤ di := by omega
 have hi1 : (di : Int) < M.length := by omega
 have c0 : w.cell? ⟨r, o, none⟩ = some (.slice (some ⟨gn, 0, none⟩) M.length capn) := h.c 0 _ rfl;have ce : w.cell? ⟨gn, di * 5 + 4, none⟩ = some dm.2.2 := RvG.at h.v hm 4 _ rfl;obtain ⟨pa, cap, hv, hes⟩ := Es.own (h.v.es dm (List.mem_of_getElem? hm));rw [hv] at ce
 obtain ⟨E, hEE⟩ : ∃ E, dm.1.E = E := ⟨_, rfl⟩
 rw [hEE] at hes hE hl ce ⊢;have HEs := jh hes;have HOk := jh hE
 obtain ⟨mn, hmn⟩ : ∃ z, M.length = z := ⟨_, rfl⟩
 rw [hmn] at hi1 c0;clear h hE hes hdr hdi hm hk hv hEE hM hmn hi hz hs hbE hu hd
 obtain ⟨n, hn⟩ : ∃ n, E.length = n := ⟨_, rfl⟩
 have HN := jh hn;rw [hn] at hl ce;clear hn
 go_enter Tryz.func29, Tryz.ntmps29
 go_wp2_with fail
 refine HDr.out.mono ?_;rintro e w1 ⟨rfl, hw1⟩;rw [hw1];clear hw1 HDr
 go_wp2_with fail
 clear c0 ce
 go_loopw [7, 9] (fun lv iv wr => ∃ k : Nat, k ≤ n ∧ iv = .int .i64 k ∧ Below w.heap.size w wr ∧ ∃ m : Nat, m = (liveE (E.take k)).length ∧ wr.ownsRow w.heap.size 58 2 lv m (flatE (liveE (E.take k)))) (fun _ iv _ => n - (Go.RowKit.intOf iv).toNat)
 case atStart => exact ⟨0, Nat.zero_le _, rfl, Below.refl _ _, 0, rfl, World.ownsRow_nil _ _ _ _⟩
 case round =>
  obtain ⟨k, hk, rfl, hb, m, hm, hO⟩ := hrel;obtain ⟨lp, lc, hlv⟩ := Cf.ownsRow_form hO;subst hlv;have HB4 := jh hb;have HL4 := jh hO;have HM := jh hm;have hsz4 := hb.size
  have hmk : m ≤ 1024 := by have := liveE_len E k; omega
  clear hb hO hm
  by_cases hlt : k < n
  ·have hke : k < E.length := by have := HN.out; omega
   obtain ⟨e, he⟩ : ∃ e, E[k]? = some e := ⟨E[k], List.getElem?_eq_getElem hke⟩
   obtain ⟨g0, rfl, hr⟩ := HEs.out k e he;have hra : wr.rangeAt g0 (k * 2) (enc e) := fun j u hj => (HB4.out.cell (World.block_lt_of_cell? w _ (hr j u hj))).trans (hr j u hj)
   have hki : (k : Int) < n := by omega
   have hk0 : (0 : Int) ≤ k := by omega
   have hsn := liveE_snoc E k e he;have hok := HOk.out e (List.mem_of_getElem? he)
   have hvc : vacE e = decide (e.2 = 0) := by
    rcases hok with rfl | h
    ·rw [zE_vacG];rfl
    ·have h1 := h.1;rw [decide_eq_false (by omega)];unfold vacE;rw [decide_eq_false];rintro rfl;exact absurd h1 (by decide)
   have hen : e.2 < 65536 := by
    rcases hok with rfl | h
    ·decide
    ·exact h.2.1
   rw [hvc] at hsn;have HSn := jh hsn;have HKn := jh hlt;obtain ⟨es, en⟩ := e;have HSn2 : Hid (liveE (E.take (k + 1)) = if decide (en = 0) = true then liveE (E.take k) else liveE (E.take k) ++ [(es, en)]) := HSn;have hen2 : Hid (en < 65536) := jh hen;have cB : wr.cell? ⟨g0, k * 2 + 1, none⟩ = some (.int .u16 en) := hra 1 _ rfl;have HRx : Hid (wr.rangeAt g0 (k * 2) [.string es, .int .u16 en]) := jh hra;clear he hke hvc hlt hsn hr hra hok hen HSn
   by_cases h0 : en = 0
   ·subst h0
    go_wp2_with fail
    go_roundw
    case rel =>
     have hs := HSn2.out;rw [if_pos (by decide)] at hs;exact ⟨k + 1, HKn.out, by go_num, HB4.out, m, by rw [hs, HM.out], by rw [hs]; exact HL4.out⟩
    case measure => (simp [Go.RowKit.intOf]; try omega)
   ·have h0i : (0 : Int) < en := by omega
    go_wp2_with (first | (refine wpList_load_mid rfl 58 _ rfl g0 (k * 2) rfl [.string es, .int .u16 en] dE HRx.out HU.out HDd.out Tryz.isizeEn ?_) | (at_builtin; refine wpList_append_own _ rfl _ _ 68 rfl w.heap.size 58 iE _ 2 24 Tryz.underlying68 HI.out HZ.out HS.out HBE.out rfl (by decide) _ _ _ rfl (HL4.out.alloc _) ⟨wr.heap.size, 0, none⟩ 1 1 [.string es, .int .u16 en] rfl rfl (Cf.cells_new wr _ 58) (by simp [Value.oneCell']) (by unfold maxLen; omega) (by omega) (by simp; omega) ?_; intro v' wB hown' hgrow _; have hob := ownsRow_block HL4.out; have HLB := jh hown'; have HBB := jh ((HB4.out.alloc hsz4 (.cells #[.string es, .int .u16 en] 58)).grown hgrow (by simp; omega) hob); clear hown' hgrow hob))
    try simp only [Act.put]
    go_roundw
    case rel =>
     have hs := HSn2.out;rw [decide_eq_false h0, if_neg (by decide)] at hs;refine ⟨k + 1, HKn.out, by go_num, HBB.out, m + 1, by rw [hs, List.length_append, HM.out]; rfl, ?_⟩;rw [hs, flatE_snoc];exact HLB.out
    case measure => (simp [Go.RowKit.intOf]; try omega)
  ·obtain rfl : k = n := by omega
   have hl2 := HL4.out;have hm2 := HM.out;rw [List.take_of_length_le (Nat.le_of_eq HN.out)] at hl2 hm2;have hb2 := HB4.out;subst hm2;have HEs2 := jh hl2;clear hl2 HB4 HL4 HM
   go_wp2_with fail
   go_ret2
   exact ⟨_, rfl, HEs2.out, hb2⟩
theorem mg_list2 (bs T r : Nat) (E : List En) (hok : ∀ e ∈ E, e = zE ∨ okE e) (hE : E.length ≤ 62) (w : World) (h : Mg w bs T r 38 E) :
  Calls Tryz.prog 29 #[.pointer (some ⟨r, 0, none⟩), .int .i64 1] w fun e w' => ∃ v', e = .returned (.tuple #[v', .int .i64 0]) ∧ w'.ownsRow w.heap.size 58 2 v' (liveE E).length (flatE (liveE E)) ∧ Below w.heap.size w w' := by
 obtain ⟨g, cap, pt, ct, M, h1, h2, h3⟩ := h;have hl := LE_len h2;obtain ⟨m, hm, hm1⟩ := LE_one h2
 have hmE : m.1.E = E := by rw [hm1]
 rw [← hl] at h1;have h9 := rlist2_any bs r 0 g cap 0 (.slice pt 0 ct) M [] 38 1 m hm (by omega) (by rw [hm1]) (by rw [hmE]; exact hok) (by rw [hmE]; omega) w h1;rw [hmE] at h9;exact h9
end Go.Proofs.YtgdapkbenmlabaaGreatDoor
