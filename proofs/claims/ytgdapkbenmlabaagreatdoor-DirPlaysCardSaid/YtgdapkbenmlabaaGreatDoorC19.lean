import Derived.Test.YtgdapkbenmlabaaGreatDoorC18
import Derived.Deep.Slices
/- Entries: the same. -/
set_option linter.unusedSimpArgs false
set_option linter.unusedVariables false
set_option maxHeartbeats 40000000
set_option maxRecDepth 100000
namespace Go.Proofs.YtgdapkbenmlabaaGreatDoor
open Go.RowKit Go.Maps
theorem same_any (v1 v2 : Value) (E1 E2 : List En) (s1 : smE E1) (s2 : smE E2) (hm : E1.length ≤ 2000) (w : World) (h1 : Es w v1 E1) (h2 : Es w v2 E2) : Calls Tryz.prog 32 #[v1, v2] w fun e w' => e = .returned (.bool (decide (E1 = E2))) ∧ Below w.heap.size w w' := by
 obtain ⟨pa1, cap1, rfl, k1⟩ := id h1;obtain ⟨pa2, cap2, rfl, k2⟩ := id h2;obtain ⟨dE, hu, hd⟩ := Tryz.descEn;have HU := jh hu;have HDd := jh hd;have HK1 := jh k1;have HK2 := jh k2;have HS1 := jh s1;have HS2 := jh s2;clear hu hd k1 k2 s1 s2 h1 h2
 obtain ⟨n1, hn1⟩ : ∃ n, E1.length = n := ⟨_, rfl⟩
 obtain ⟨n2, hn2⟩ : ∃ n, E2.length = n := ⟨_, rfl⟩
 have HN1 := jh hn1;have HN2 := jh hn2;rw [hn1] at hm ⊢;rw [hn2];clear hn1 hn2
 by_cases hl : n1 = n2
 ·subst hl
  go_enter Tryz.func32, Tryz.ntmps32
  go_wp2_with fail
  go_loopw [5] (fun iv wr => ∃ k : Nat, k ≤ n1 ∧ iv = .int .i64 k ∧ Below w.heap.size w wr ∧ ∀ j, j < k → E1[j]? = E2[j]?) (fun iv _ => n1 - (Go.RowKit.intOf iv).toNat)
  case atStart => exact ⟨0, Nat.zero_le _, rfl, Below.refl _ _, fun j hj => absurd hj (Nat.not_lt_zero _)⟩
  case round =>
   obtain ⟨k, hk, rfl, hb, ha⟩ := hrel;have HB := jh hb;have HA := jh ha;clear hb ha
   by_cases hkn : k < n1
   ·have hkn1 : (k : Int) < n1 := by omega
    have hk0 : (0 : Int) ≤ k := by omega
    obtain ⟨e1, he1⟩ : ∃ e, E1[k]? = some e := ⟨_, List.getElem?_eq_getElem (by rw [HN1.out]; exact hkn)⟩
    obtain ⟨e2, he2⟩ : ∃ e, E2[k]? = some e := ⟨_, List.getElem?_eq_getElem (by rw [HN2.out]; exact hkn)⟩
    obtain ⟨g1, rfl, hr1⟩ := HK1.out k e1 he1;obtain ⟨g2, rfl, hr2⟩ := HK2.out k e2 he2;have HQ1 := jh (show wr.rangeAt g1 (k * 2) (enc e1) from fun j u hj => (HB.out.cell (World.block_lt_of_cell? w _ (hr1 j u hj))).trans (hr1 j u hj));have HQ2 := jh (show wr.rangeAt g2 (k * 2) (enc e2) from fun j u hj => (HB.out.cell (World.block_lt_of_cell? w _ (hr2 j u hj))).trans (hr2 j u hj));have hz1 := HS1.out e1 (List.mem_of_getElem? he1);have hz2 := HS2.out e2 (List.mem_of_getElem? he2);have HEQ := jh (fun W => eqEn e1 e2 (by have := hz1.1; unfold maxLen; omega) hz1.2 (by have := hz2.1; unfold maxLen; omega) hz2.2 W);have HE1 := jh he1;have HE2 := jh he2;clear hr1 hr2 hz1 hz2 he1 he2
    by_cases he : e1 = e2
    ·rw [decide_eq_true he] at HEQ
     go_upto_region 6 with fail
     refine wp_region_held (S := fun W => W.rangeAt g1 (k * 2) (enc e1) ∧ W.rangeAt g2 (k * 2) (enc e2)) (by kernel_rfl) ?_;change wpAnyH _ _ _ _ _ _ _ _ (World.drew _);have hbd : Below wr.heap.size wr wr.drew := (Below.refl _ _).drew
     have hS0 : (fun W => W.rangeAt g1 (k * 2) (enc e1) ∧ W.rangeAt g2 (k * 2) (enc e2)) wr.drew := ⟨ra_keep HQ1.out hbd, ra_keep HQ2.out hbd⟩
     have HB3 := jh (HB.out.trans (hbd.mono HB.out.size))
     obtain ⟨w3, hw3⟩ : ∃ x, World.drew wr = x := ⟨_, rfl⟩
     rw [hw3] at hS0 HB3 ⊢;clear hw3 hbd HB;refine jk 0 (v:=?_) rfl (by kernel_rfl) (fun _ _ _=>id) (by rfl) ?_ hS0 ?_;rotate_left
     ·intro W hW;go_simp;try with_reducible rfl
     simp only [Act.put,j1,j2,j3,j4,j5,j6];refine jk 1 (v:=?_) rfl (by kernel_rfl) (fun _ _ _=>id) (by rfl) ?_ hS0 ?_;rotate_left
     ·intro W hW;go_simp;try with_reducible rfl
     simp only [Act.put,j1,j2,j3,j4,j5,j6];refine jk 2 (v:=?_) rfl (by kernel_rfl) (fun _ _ _=>id) (by rfl) ?_ hS0 ?_;rotate_left
     ·intro W hW;go_simp;try with_reducible rfl
     simp only [Act.put,j1,j2,j3,j4,j5,j6];refine jx 3 (v := .agg (enc e1).toArray) rfl (by kernel_rfl) (fun _ _ _=>id) ?_ hS0 ?_
     ·exact yieldsIf_load_mid (by rfl) 58 _ rfl g1 (k * 2) rfl (enc e1) dE (fun _ h => h.1) HU.out HDd.out Tryz.isizeEn
     simp only [Act.put,j1,j2,j3,j4,j5,j6];refine jk 4 (v:=?_) rfl (by kernel_rfl) (fun _ _ _=>id) (by rfl) ?_ hS0 ?_;rotate_left
     ·intro W hW;go_simp;try with_reducible rfl
     simp only [Act.put,j1,j2,j3,j4,j5,j6];refine jk 5 (v:=?_) rfl (by kernel_rfl) (fun _ _ _=>id) (by rfl) ?_ hS0 ?_;rotate_left
     ·intro W hW;go_simp;try with_reducible rfl
     simp only [Act.put,j1,j2,j3,j4,j5,j6];refine jk 6 (v:=?_) rfl (by kernel_rfl) (fun _ _ _=>id) (by rfl) ?_ hS0 ?_;rotate_left
     ·intro W hW;go_simp;try with_reducible rfl
     simp only [Act.put,j1,j2,j3,j4,j5,j6];refine jx 7 (v := .agg (enc e2).toArray) rfl (by kernel_rfl) (fun _ _ _=>id) ?_ hS0 ?_
     ·exact yieldsIf_load_mid (by rfl) 58 _ rfl g2 (k * 2) rfl (enc e2) dE (fun _ h => h.2) HU.out HDd.out Tryz.isizeEn
     simp only [Act.put,j1,j2,j3,j4,j5,j6];refine jx 8 (v := .bool false) rfl (by kernel_rfl) (fun _ _ _=>id) ?_ hS0 ?_
     ·exact yields_neq (by rfl) 58 58 _ _ rfl (enc e1).toArray (enc e2).toArray rfl rfl true Tryz.guardEn (fun W _ => HEQ.out W)
     simp only [Act.put,j1,j2,j3,j4,j5,j6];refine wpAnyH_done (by kernel_rfl) ?_ _
     go_wp2_with fail
     go_roundw
     case rel => exact ⟨k + 1, by omega, by go_num, HB3.out, fun j hj => by
      by_cases ej : j = k
      ·rw [ej, HE1.out, HE2.out, he]
      ·exact HA.out j (by omega)⟩
     case measure => (simp [Go.RowKit.intOf]; try omega)
    ·rw [decide_eq_false he] at HEQ
     go_upto_region 6 with fail
     refine wp_region_held (S := fun W => W.rangeAt g1 (k * 2) (enc e1) ∧ W.rangeAt g2 (k * 2) (enc e2)) (by kernel_rfl) ?_;change wpAnyH _ _ _ _ _ _ _ _ (World.drew _);have hbd : Below wr.heap.size wr wr.drew := (Below.refl _ _).drew
     have hS0 : (fun W => W.rangeAt g1 (k * 2) (enc e1) ∧ W.rangeAt g2 (k * 2) (enc e2)) wr.drew := ⟨ra_keep HQ1.out hbd, ra_keep HQ2.out hbd⟩
     have HB3 := jh (HB.out.trans (hbd.mono HB.out.size))
     obtain ⟨w3, hw3⟩ : ∃ x, World.drew wr = x := ⟨_, rfl⟩
     rw [hw3] at hS0 HB3 ⊢;clear hw3 hbd HB;refine jk 0 (v:=?_) rfl (by kernel_rfl) (fun _ _ _=>id) (by rfl) ?_ hS0 ?_;rotate_left
     ·intro W hW;go_simp;try with_reducible rfl
     simp only [Act.put,j1,j2,j3,j4,j5,j6];refine jk 1 (v:=?_) rfl (by kernel_rfl) (fun _ _ _=>id) (by rfl) ?_ hS0 ?_;rotate_left
     ·intro W hW;go_simp;try with_reducible rfl
     simp only [Act.put,j1,j2,j3,j4,j5,j6];refine jk 2 (v:=?_) rfl (by kernel_rfl) (fun _ _ _=>id) (by rfl) ?_ hS0 ?_;rotate_left
     ·intro W hW;go_simp;try with_reducible rfl
     simp only [Act.put,j1,j2,j3,j4,j5,j6];refine jx 3 (v := .agg (enc e1).toArray) rfl (by kernel_rfl) (fun _ _ _=>id) ?_ hS0 ?_
     ·exact yieldsIf_load_mid (by rfl) 58 _ rfl g1 (k * 2) rfl (enc e1) dE (fun _ h => h.1) HU.out HDd.out Tryz.isizeEn
     simp only [Act.put,j1,j2,j3,j4,j5,j6];refine jk 4 (v:=?_) rfl (by kernel_rfl) (fun _ _ _=>id) (by rfl) ?_ hS0 ?_;rotate_left
     ·intro W hW;go_simp;try with_reducible rfl
     simp only [Act.put,j1,j2,j3,j4,j5,j6];refine jk 5 (v:=?_) rfl (by kernel_rfl) (fun _ _ _=>id) (by rfl) ?_ hS0 ?_;rotate_left
     ·intro W hW;go_simp;try with_reducible rfl
     simp only [Act.put,j1,j2,j3,j4,j5,j6];refine jk 6 (v:=?_) rfl (by kernel_rfl) (fun _ _ _=>id) (by rfl) ?_ hS0 ?_;rotate_left
     ·intro W hW;go_simp;try with_reducible rfl
     simp only [Act.put,j1,j2,j3,j4,j5,j6];refine jx 7 (v := .agg (enc e2).toArray) rfl (by kernel_rfl) (fun _ _ _=>id) ?_ hS0 ?_
     ·exact yieldsIf_load_mid (by rfl) 58 _ rfl g2 (k * 2) rfl (enc e2) dE (fun _ h => h.2) HU.out HDd.out Tryz.isizeEn
     simp only [Act.put,j1,j2,j3,j4,j5,j6];refine jx 8 (v := .bool true) rfl (by kernel_rfl) (fun _ _ _=>id) ?_ hS0 ?_
     ·exact yields_neq (by rfl) 58 58 _ _ rfl (enc e1).toArray (enc e2).toArray rfl rfl false Tryz.guardEn (fun W _ => HEQ.out W)
     simp only [Act.put,j1,j2,j3,j4,j5,j6];refine wpAnyH_done (by kernel_rfl) ?_ _
     go_wp2_with fail
     go_ret
     have hne : decide (E1 = E2) = false := decide_eq_false (fun hh => by
      have := HE1.out;rw [hh, HE2.out] at this
      injection this with this
      exact he this.symm)
     exact ⟨congrArg (fun b => Ending.returned (.bool b)) hne.symm, HB3.out⟩
   ·obtain rfl : k = n1 := by omega
    have hb := HB.out;clear HB
    go_wp2_with fail
    go_ret
    have hyes : decide (E1 = E2) = true := decide_eq_true (List.ext_getElem? (fun j => by
     by_cases hj : j < k
     ·exact HA.out j hj
     ·rw [List.getElem?_eq_none (by rw [HN1.out]; omega), List.getElem?_eq_none (by rw [HN2.out]; omega)]))
    exact ⟨congrArg (fun b => Ending.returned (.bool b)) hyes.symm, hb⟩
 ·have hl1 : ¬ ((n1 : Int) = n2) := by omega
  have hne : decide (E1 = E2) = false := decide_eq_false (fun hh => hl (by rw [← HN1.out, ← HN2.out, hh]))
  go_enter Tryz.func32, Tryz.ntmps32
  go_wp2_with fail
  go_ret
  exact ⟨congrArg (fun b => Ending.returned (.bool b)) hne.symm, Below.refl _ _⟩
structure AC9 where
 kn : Int
 nm : Int
 nu : Nat
 tx : ByteArray
 rw : Bool
def acL (x : AC9) : List Value := actc x.kn x.nm (x.nu : Int) x.tx x.rw
def Acts9 (w : World) (v : Value) (n : Nat) : Prop := ∃ p c, v = .slice p n c ∧ n ≤ maxLen ∧ ∀ i, i < n → ∃ b o x, p = some ⟨b, o, none⟩ ∧ b < w.heap.size ∧ w.rangeAt b (o + i * 5) (acL x) ∧ 0 ≤ x.kn ∧ x.kn < 256 ∧ 0 ≤ x.nm ∧ x.nm < 256 ∧ x.nu < 65536
theorem Tryz.zeroAct : (Tryz.prog.info? 49).map (fun i => i.zero) = some (some (.agg (actc 0 0 0 ⟨#[]⟩ false).toArray)) := by kernel_rfl
theorem actc_one (kn nm nu : Int) (tx : ByteArray) (rw : Bool) : ∀ v ∈ actc kn nm nu tx rw, v.oneCell' = true := by
 intro v hv;simp only [actc, List.mem_cons, List.not_mem_nil, or_false] at hv
 rcases hv with rfl | rfl | rfl | rfl | rfl <;> rfl
theorem setE_le (E : List En) (i : Nat) (e : En) : (setE E i e).length ≤ E.length + 1 := by
 unfold setE
 split
 ·rw [List.length_set];omega
 ·rw [List.length_append];exact Nat.le_refl _
end Go.Proofs.YtgdapkbenmlabaaGreatDoor
namespace Go.Proofs.YtgdapkbenmlabaaGreatDoor
open Go.ChangeShapes Go.WideShapes Go.ChangeAt Go.RowKit Go.Deep Go.Joins
theorem open_acts9 {H : Type} {enc : TypeId × Value → H} {W : World} {b0 : Nat} {v : Value} {d : DataW H} {p : List MemPlace} (hv : Value.okWide Tryz.prog W .any b0 22 v)
  (h : DataW.Trod enc Tryz.prog W 0 (fun _ => true) true 22 v d p) : ∃ n, Acts9 W v n := by
 obtain ⟨a0, len, cap, rfl⟩ := okWide_slice Tryz.underlying22 hv;obtain ⟨fuel, hf⟩ := h;rcases open_slice Tryz.underlying22 hf with ⟨hcs, _⟩ | ⟨a, len', cap', m, n, D, Pl, hcs, hb, hl, hm, hmm, _, hx⟩
 ·simp only [Value.cells, List.cons.injEq, and_true] at hcs
  injection hcs with h1 h2 h3
  subst h1 h2 h3;exact ⟨0, none, 0, rfl, Nat.zero_le _, fun i hi => absurd hi (Nat.not_lt_zero _)⟩
 ·simp only [Value.cells, List.cons.injEq, and_true] at hcs
  injection hcs with h1 h2 h3
  subst h1 h2 h3;refine ⟨len, _, _, rfl, by omega, fun i hi => ?_⟩
  have hspot : a.spot = none := by
   obtain ⟨cs, hcs, ht⟩ := hx 0 (by rw [hmm]; split <;> omega);rw [Tryz.cellsAct] at hcs;obtain ⟨-, hl4, hc⟩ := World.cells?_some hcs;have h0 := hc 0 (by decide);rw [List.getElem?_eq_getElem (show 0 < cs.length by omega)] at h0;have := World.cell?_spot h0;rw [Nat.zero_mul] at this
   simpa [Addr.add] using this
  obtain ⟨ab, ao, asp⟩ := a;simp only at hspot;subst hspot;obtain ⟨cs, hcs, ht⟩ := hx i (by rw [hmm]; split <;> omega);rw [Tryz.cellsAct] at hcs;obtain ⟨-, hl5, hc⟩ := World.cells?_some hcs;obtain ⟨kn, nm, nu, tx, rw, rfl, k0, k1, m0, m1, u1⟩ := act_cells ht
  have hr : W.rangeAt ab (ao + i * 5) (actc kn nm (nu : Int) tx rw) := fun j u hj => by
   have hj5 : j < 5 := (List.getElem?_eq_some_iff.1 hj).1;have := hc j hj5;rw [hj] at this;simp only [Addr.add_mid] at this;exact this
  exact ⟨ab, ao, ⟨kn, nm, nu, tx, rw⟩, rfl, World.block_lt_of_cell? W _ (hr 0 _ rfl), hr, k0, k1, m0, m1, u1⟩
end Go.Proofs.YtgdapkbenmlabaaGreatDoor
namespace Go.Proofs.YtgdapkbenmlabaaGreatDoor
open Go.RowKit Go.Maps
structure Rn where
 k : Int
 l : Int
 g : Int
 E : List En
def rnc (x : Rn) (bv pv : Value) : List Value := [.int .u8 x.k, .int .i64 x.l, .int .u16 x.g, bv, pv]
structure Ng (w : World) (nb n : Nat) (L : List Rn) (bp : Nat → Value × Value) : Prop where
 lt : nb < w.heap.size
 len : L.length = n
 nd : ∀ (i : Nat) (x : Rn), L[i]? = some x → w.rangeAt nb (i * 5) (rnc x (bp i).1 (bp i).2)
 bs : ∀ i, i < n → ∃ pa c, (bp i).1 = .slice pa 0 c
 es : ∀ (i : Nat) (x : Rn), L[i]? = some x → Es w (bp i).2 x.E
 z : ∀ j, j < 5 * n → w.frozen? ⟨nb, j, none⟩ = false
theorem Ng.keep {w w' : World} {nb n : Nat} {L : List Rn} {bp : Nat → Value × Value} (h : Ng w nb n L bp) (hb : Below w.heap.size w w') : Ng w' nb n L bp :=
 ⟨Nat.lt_of_lt_of_le h.lt hb.size, h.len, fun i x hx j v hj => (hb.cell (p := ⟨nb, i * 5 + j, none⟩) h.lt).trans (h.nd i x hx j v hj), h.bs, fun i x hx => (h.es i x hx).keep hb, fun j hj => (hb.frozen (p := ⟨nb, j, none⟩) h.lt).trans (h.z j hj)⟩
theorem Tryz.zeroNd : (Tryz.prog.info? 84).map (fun i => i.zero) = some (some (.agg (rnc ⟨0, 0, 0, []⟩ (.slice none 0 0) (.slice none 0 0)).toArray)) := by kernel_rfl
theorem Tryz.isizeNd : (Tryz.prog.info? 84).map (·.size) = some 5 := by kernel_rfl
theorem sizeNd (x : Rn) (a b : Value) : (Tryz.prog.info? 84).map (·.size) = some (rnc x a b).length := Tryz.isizeNd
theorem Tryz.descNd : ∃ d, Tryz.prog.underlying 84 = some d ∧ d.isRow = true := ⟨_, Tryz.underlying84, rfl⟩
theorem rnc_one (x : Rn) (pa pb : Option Addr) (n c n' c' : Nat) : ∀ v ∈ rnc x (.slice pa n c) (.slice pb n' c'), v.oneCell' = true := by
 intro v hv;simp only [rnc, List.mem_cons, List.not_mem_nil, or_false] at hv
 rcases hv with rfl | rfl | rfl | rfl | rfl <;> rfl
def szR (x : Rn) : Int := if x.k = 2 then 16 * (x.E.length : Int) else 0
theorem rsize_any (x : Rn) (pa pb : Option Addr) (c c' : Nat) (hE : x.E.length ≤ 1024) (w : World) : Calls Tryz.prog 159 #[.agg (rnc x (.slice pa 0 c) (.slice pb x.E.length c')).toArray] w fun e w' => e = .returned (.int .i64 (szR x)) ∧ Below w.heap.size w w' := by
 have hsz : szR x = if x.k = 2 then 16 * (x.E.length : Int) else 0 := rfl
 obtain ⟨k, l, g, E⟩ := x
 obtain ⟨m, hm⟩ : ∃ m, E.length = m := ⟨_, rfl⟩
 simp only at hsz hE ⊢;rw [hm] at hsz hE ⊢;have HS := jh hsz
 have hm0 : (0 : Int) ≤ m := by omega
 have hm1 : (m : Int) ≤ 1024 := by omega
 have hwr : IntKind.i64.wrap (16 * (m : Int)) = 16 * m := IntWalk.i64_in _ (by omega);clear hsz hE hm
 go_enter Tryz.func159, Tryz.ntmps159
 go_upto_region 1 with (first | (refine wpList_box_list (w := w) rfl 84 _ rfl (rnc ⟨k, l, g, E⟩ (.slice pa 0 c) (.slice pb m c')) rfl ?_; intro w1 F1 hb1 hz1; have HB1 := jh hb1; clear hb1 hz1))
 have c0 := F1.out.c 0 _ rfl;have c3 := F1.out.c 3 _ rfl;have c4 := F1.out.c 4 _ rfl
 by_cases hk : k = 2
 ·have HE : Hid (szR ⟨k, l, g, E⟩ = 16 * (m : Int)) := jh (by rw [HS.out, if_pos hk]);subst hk
  go_wp2_with fail
  go_ret
  exact ⟨by rw [HE.out]; rfl, HB1.out⟩
 ·have HE : Hid (szR ⟨k, l, g, E⟩ = 0) := jh (by rw [HS.out, if_neg hk]);have hkb : (k == 2) = false := beq_eq_false_iff_ne.2 hk;clear hk
  go_wp2_with fail
  go_ret
  exact ⟨by rw [HE.out]; rfl, HB1.out⟩
def bkR (tl i : Nat) (x : Rn) : Int := if x.k = 0 then 0 else dataS (if i = 2 then 8 * (tl : Int) else szR x) + ptrS (dataS (if i = 2 then 8 * (tl : Int) else szR x))
def r0 : Rn := ⟨0, 0, 0, []⟩
def uB (tl : Nat) (L : List Rn) : Nat → Int
 | 0 => 0
 | i + 1 => if i = 0 then 0 else uB tl L i + bkR tl i (L.getD i r0)
def uN (L : List Rn) : Nat → Int
 | 0 => 0
 | i + 1 => if i = 0 then 0 else uN L i + if (L.getD i r0).k = 0 then 0 else 1
theorem bkR_bd (tl i : Nat) (x : Rn) (ht : tl ≤ 1024) (hE : x.E.length ≤ 1024) : 0 ≤ bkR tl i x ∧ bkR tl i x ≤ 300 := by
 unfold bkR szR dataS ptrS
 repeat' split
 all_goals omega
theorem uB_bd (tl : Nat) (L : List Rn) (ht : tl ≤ 1024) (hE : ∀ x ∈ L, x.E.length ≤ 1024) : ∀ i, 0 ≤ uB tl L i ∧ uB tl L i ≤ 300 * i
 | 0 => ⟨Int.le_refl _, Int.le_refl _⟩
 | i + 1 => by
  have h := uB_bd tl L ht hE i
  have hx : (L.getD i r0).E.length ≤ 1024 := by
   rw [List.getD_eq_getElem?_getD]
   cases hg : L[i]? with
   | none => exact Nat.zero_le _
   | some x => exact hE x (List.mem_of_getElem? hg)
  have hb := bkR_bd tl i (L.getD i r0) ht hx;unfold uB
  split
  ·omega
  ·omega
theorem uN_bd (L : List Rn) : ∀ i, 0 ≤ uN L i ∧ uN L i ≤ i
 | 0 => ⟨Int.le_refl _, Int.le_refl _⟩
 | i + 1 => by
  have h := uN_bd L i;unfold uN
  repeat' split
  all_goals omega
theorem Tryz.descGr : ∃ d, Tryz.prog.underlying 46 = some d ∧ d.isRow = true := ⟨_, Tryz.underlying46, rfl⟩
theorem Tryz.isizeGr : (Tryz.prog.info? 46).map (·.size) = some 3 := by kernel_rfl
theorem rused_any (nb n cap tl tc : Nat) (ta : Option Addr) (bk : Int) (L : List Rn) (bp : Nat → Value × Value) (hn : 1 ≤ n) (hn2 : n ≤ 200) (ht : tl ≤ 1024) (hE : ∀ x ∈ L, x.E.length ≤ 1024) (w : World) (h : Ng w nb n L bp) :
  Calls Tryz.prog 97 #[.agg #[.slice (some ⟨nb, 0, none⟩) n cap, .slice ta tl tc, .int .i64 bk]] w fun e w' => e = .returned (.tuple #[.int .i64 (uB tl L n), .int .i64 (uN L n)]) ∧ Below w.heap.size w w' := by
 obtain ⟨dN, hu, hd⟩ := Tryz.descNd;have HU := jh hu;have HD := jh hd;have HN := jh h;have HE := jh hE;have HUB := jh (uB_bd tl L ht hE);have HUN := jh (uN_bd L)
 have hn0 : (1 : Int) ≤ n := by omega
 have hn1 : (n : Int) ≤ 200 := by omega
 have ht0 : (0 : Int) ≤ tl := by omega
 have ht1 : (tl : Int) ≤ 1024 := by omega
 have hwt : IntKind.i64.wrap (8 * (tl : Int)) = 8 * tl := IntWalk.i64_in _ (by omega);clear hu hd h hE
 go_enter Tryz.func97, Tryz.ntmps97
 go_upto_region 1 with (first | (refine wpList_box_list (w := w) rfl 46 _ rfl [.slice (some ⟨nb, 0, none⟩) n cap, .slice ta tl tc, .int .i64 bk] rfl ?_; intro w1 F1 hb1 hz1; have HB1 := jh hb1; have hs1 := hb1.size; clear hb1 hz1))
 obtain ⟨bG, hbG⟩ : ∃ y, w.heap.size = y := ⟨_, rfl⟩
 rw [hbG] at F1
 try rw [hbG]
 have HBG := jh hbG;clear hbG
 go_wp2_with fail
 go_loopw [4, 5, 6, 7, 8, 9, 10] (fun bv nv iv _ _ _ _ wr => ∃ i : Nat, 1 ≤ i ∧ i ≤ n ∧ iv = .int .i64 i ∧ bv = .int .i64 (uB tl L i) ∧ nv = .int .i64 (uN L i) ∧ Below w.heap.size w wr ∧ Vl wr bG [.slice (some ⟨nb, 0, none⟩) n cap, .slice ta tl tc, .int .i64 bk]) (fun _ _ iv _ _ _ _ _ => n - (Go.RowKit.intOf iv).toNat)
 case atStart => exact ⟨1, Nat.le_refl _, hn, rfl, rfl, rfl, HB1.out, F1.out⟩
 case round =>
  obtain ⟨i, hi1, hi2, rfl, rfl, rfl, hb, hV⟩ := hrel;have HB := jh hb;have HV := jh hV;have hszr := hb.size;clear hb hV F1 HB1;have c0 := HV.out.c 0 _ rfl
  by_cases hlt : i < n
  ·have hi0 : (1 : Int) ≤ i := by omega
   have hin : (i : Int) < n := by omega
   have HNr := jh (HN.out.keep HB.out)
   have hil : i < L.length := by rw [HN.out.len]; exact hlt
   obtain ⟨x, hx⟩ : ∃ x, L[i]? = some x := ⟨_, List.getElem?_eq_getElem hil⟩
   have hxE := HE.out x (List.mem_of_getElem? hx);obtain ⟨pa, ca, hpa⟩ := HNr.out.bs i hlt;obtain ⟨pb, cb, hpb, -⟩ := HNr.out.es i x hx;have hnd := HNr.out.nd i x hx;rw [hpa, hpb] at hnd;have HRg := jh hnd
   have hgx : L.getD i r0 = x := by rw [List.getD_eq_getElem?_getD, hx]; rfl
   have hub : uB tl L (i + 1) = uB tl L i + bkR tl i x := by
    rw [← hgx]
    show (if i = 0 then (0 : Int) else _) = _
    rw [if_neg (by omega)]
   have hun : uN L (i + 1) = uN L i + if x.k = 0 then 0 else 1 := by
    rw [← hgx]
    show (if i = 0 then (0 : Int) else _) = _
    rw [if_neg (by omega)]
   have HUb := jh hub;have HUn := jh hun;have HSz := jh (fun W => rsize_any x pa pb ca cb hxE W);have b1 := HUB.out i;have b2 := HUN.out i;have b3 := bkR_bd tl i x ht hxE
   have hbk : bkR tl i x = if x.k = 0 then 0 else dataS (if i = 2 then 8 * (tl : Int) else szR x) + ptrS (dataS (if i = 2 then 8 * (tl : Int) else szR x)) := rfl
   have HBk := jh hbk
   obtain ⟨ub, hubv⟩ : ∃ z, uB tl L i = z := ⟨_, rfl⟩
   obtain ⟨un, hunv⟩ : ∃ z, uN L i = z := ⟨_, rfl⟩
   rw [hubv] at HUb b1 ⊢;rw [hunv] at HUn b2 ⊢
   obtain ⟨xk, hxk⟩ : ∃ z, x.k = z := ⟨_, rfl⟩
   rw [hxk] at HUn HBk;have HC0 : Hid ((rnc x (.slice pa 0 ca) (.slice pb x.E.length cb))[0]? = some (.int .u8 xk)) := jh (by rw [← hxk]; rfl);have HOne := jh (rnc_one x pa pb 0 ca x.E.length cb);have HSn := jh (sizeNd x (.slice pa 0 ca) (.slice pb x.E.length cb))
   obtain ⟨cs, hcs⟩ : ∃ z, rnc x (.slice pa 0 ca) (.slice pb x.E.length cb) = z := ⟨_, rfl⟩
   have HL5 : Hid (cs.length = 5) := jh (hcs ▸ rfl);rw [hcs] at HRg HSz HC0 HOne HSn
   have hSz0 : 0 ≤ szR x ∧ szR x ≤ 16384 := by
    unfold szR
    split
    ·omega
    ·decide
   obtain ⟨sz, hszv⟩ : ∃ z, szR x = z := ⟨_, rfl⟩
   rw [hszv] at HSz HBk hSz0;have hsz1 := hSz0.2;clear hil hx hxE hpa hpb hnd hgx hub hun hbk hubv hunv hxk hcs hszv HNr hlt
   go_upto_region 6 with (first | (refine wpList_load_mid rfl 84 _ rfl nb (i * 5) rfl cs dN HRg.out HU.out HD.out HSn.out ?_) | (refine wpList_alloc_list (w := wr) rfl 84 rfl (rnc ⟨0, 0, 0, []⟩ (.slice none 0 0) (.slice none 0 0)) Tryz.zeroNd ?_; intro w2 F2 hb2 hz2; simp only [Act.put,j1,j2,j3,j4,j5,j6]) | (refine wpList_store_list rfl 84 (.tmp 7) (.tmp 22) rfl wr.heap.size (rnc ⟨0, 0, 0, []⟩ (.slice none 0 0) (.slice none 0 0)) cs rfl rfl F2.out (by rw [HL5.out]; rfl) HSn.out HOne.out ?_; intro w3 F3 HK3; have HQ2 := jh hb2; clear hb2 F2))
   obtain ⟨bx, hbx⟩ : ∃ y, wr.heap.size = y := ⟨_, rfl⟩
   have hVl := HV.out.lt;have HB3 := jh ((HB.out.trans (HQ2.out.mono hszr)).trans (HK3.out.below hszr hszr (Nat.le_trans hszr HQ2.out.size)));have HV3 := jh ((HV.out.keep HQ2.out).kp HK3.out (by omega) (by omega));rw [hbx] at F3
   try rw [hbx]
   clear HQ2 HK3 HB HV hbx hz2 HRg hVl c0;have d0 := F3.out.c 0 _ HC0.out
   by_cases hk0 : xk = 0
   ·subst hk0;have e1 : Hid (uB tl L (i + 1) = ub) := jh (by rw [HUb.out, HBk.out, if_pos rfl]; omega);have e2 : Hid (uN L (i + 1) = un) := jh (by rw [HUn.out, if_pos rfl]; omega);clear b1 b2 b3 hSz0 hsz1
    go_wp2_with fail
    go_roundw
    case rel => exact ⟨i + 1, by omega, by omega, by go_num, by rw [e1.out], by rw [e2.out], HB3.out, HV3.out⟩
    case measure => (simp [Go.RowKit.intOf]; try omega)
   ·have hkb : (xk == 0) = false := beq_eq_false_iff_ne.2 hk0;have e2 : Hid (uN L (i + 1) = un + 1) := jh (by rw [HUn.out, if_neg hk0])
    have hbk2 : bkR tl i x = dataS (if i = 2 then 8 * (tl : Int) else sz) + ptrS (dataS (if i = 2 then 8 * (tl : Int) else sz)) := by rw [HBk.out, if_neg hk0]
    have hwn : IntKind.i64.wrap (un + 1) = un + 1 := IntWalk.i64_in _ (by omega);have HRx := jh F3.out.range0;clear hk0
    go_wp2_with (refine wpList_load_mid rfl 84 _ rfl bx 0 rfl cs dN HRx.out HU.out HD.out HSn.out ?_)
    refine (HSz.out w3).mono ?_;rintro e w4 ⟨rfl, hb⟩;have HB4 := jh (HB3.out.trans (hb.mono HB3.out.size));have HV4 := jh (HV3.out.keep hb);clear hb HSz HB3 HV3 F3 HRx d0
    by_cases hi2' : i = 2
    ·rw [if_pos hi2'] at hbk2;have HSp := jh (fun W => rspread_any (8 * (tl : Int)) (by omega) W)
     obtain ⟨da, hda⟩ : ∃ z, dataS (8 * (tl : Int)) = z := ⟨_, rfl⟩
     obtain ⟨pt, hpt⟩ : ∃ z, ptrS da = z := ⟨_, rfl⟩
     rw [hda, hpt] at HSp hbk2
     have hda0 : 0 ≤ da ∧ da ≤ 300 := by rw [← hda]; unfold dataS; split <;> omega
     have e1 : Hid (uB tl L (i + 1) = ub + da + pt) := jh (by rw [HUb.out, hbk2]; omega);have hw1 : IntKind.i64.wrap (ub + da) = ub + da := IntWalk.i64_in _ (by omega);have hw2 : IntKind.i64.wrap (ub + da + pt) = ub + da + pt := IntWalk.i64_in _ (by omega);have c1 := HV4.out.c 1 _ rfl
     have hi2i : (i : Int) = 2 := by omega
     clear hbk2 hda hpt hda0 b1 b2 b3 hSz0 hsz1
     go_wp2_with fail
     refine (HSp.out w4).mono ?_;rintro e wz ⟨rfl, hwz⟩;rw [hwz];clear hwz HSp c1
     go_wp2_with fail
     go_roundw
     case rel => exact ⟨i + 1, by omega, by omega, by go_num, by rw [e1.out], by rw [e2.out], HB4.out, HV4.out⟩
     case measure => (simp [Go.RowKit.intOf]; try omega)
    ·rw [if_neg hi2'] at hbk2;have HSp := jh (fun W => rspread_any sz (by omega) W)
     obtain ⟨da, hda⟩ : ∃ z, dataS sz = z := ⟨_, rfl⟩
     obtain ⟨pt, hpt⟩ : ∃ z, ptrS da = z := ⟨_, rfl⟩
     rw [hda, hpt] at HSp hbk2
     have hda0 : 0 ≤ da ∧ da ≤ 300 := by rw [← hda]; unfold dataS; split <;> omega
     have e1 : Hid (uB tl L (i + 1) = ub + da + pt) := jh (by rw [HUb.out, hbk2]; omega);have hw1 : IntKind.i64.wrap (ub + da) = ub + da := IntWalk.i64_in _ (by omega);have hw2 : IntKind.i64.wrap (ub + da + pt) = ub + da + pt := IntWalk.i64_in _ (by omega);have hi2b : ((i : Int) == 2) = false := beq_eq_false_iff_ne.2 (by omega);clear hbk2 hda hpt hda0 b1 b2 b3 hSz0 hsz1 hi2'
     go_wp2_with fail
     refine (HSp.out w4).mono ?_;rintro e wz ⟨rfl, hwz⟩;rw [hwz];clear hwz HSp
     go_wp2_with fail
     go_roundw
     case rel => exact ⟨i + 1, by omega, by omega, by go_num, by rw [e1.out], by rw [e2.out], HB4.out, HV4.out⟩
     case measure => (simp [Go.RowKit.intOf]; try omega)
  ·obtain rfl : i = n := by omega
   go_wp2_with fail
   go_ret2
   exact ⟨rfl, HB.out⟩
theorem rfull_any (nb n cap tl tc : Nat) (ta : Option Addr) (bk : Int) (L : List Rn) (bp : Nat → Value × Value) (hn : 1 ≤ n) (hn2 : n ≤ 200) (ht : tl ≤ 1024) (hE : ∀ x ∈ L, x.E.length ≤ 1024) (w : World) (h : Ng w nb n L bp) :
  Calls Tryz.prog 88 #[.agg #[.slice (some ⟨nb, 0, none⟩) n cap, .slice ta tl tc, .int .i64 bk]] w fun e w' => e = .returned (.bool (decide (bk < uB tl L n))) ∧ Below w.heap.size w w' := by
 obtain ⟨dG, hu, hd⟩ := Tryz.descGr;have HU := jh hu;have HD := jh hd;have HUs := jh (fun W hW => rused_any nb n cap tl tc ta bk L bp hn hn2 ht hE W hW);have HN := jh h
 obtain ⟨ub, hub⟩ : ∃ z, uB tl L n = z := ⟨_, rfl⟩
 rw [hub] at HUs ⊢;clear hu hd h hE hub
 go_enter Tryz.func88, Tryz.ntmps88
 go_upto_region 1 with (first | (refine wpList_box_list (w := w) rfl 46 _ rfl [.slice (some ⟨nb, 0, none⟩) n cap, .slice ta tl tc, .int .i64 bk] rfl ?_; intro w1 F1 hb1 hz1; have HB1 := jh hb1; have hs1 := hb1.size; clear hb1 hz1))
 have HRx := jh F1.out.range0
 go_wp2_with (refine wpList_load_mid rfl 46 _ rfl w.heap.size 0 rfl [.slice (some ⟨nb, 0, none⟩) n cap, .slice ta tl tc, .int .i64 bk] dG HRx.out HU.out HD.out Tryz.isizeGr ?_)
 refine (HUs.out w1 (HN.out.keep HB1.out)).mono ?_;rintro e w2 ⟨rfl, hb⟩;have HB2 := jh (HB1.out.trans (hb.mono hs1));have F2 := jh (F1.out.keep hb);clear hb HUs HRx HB1 F1;have c2 := F2.out.c 2 _ rfl
 go_wp2_with fail
 go_ret
 exact ⟨rfl, HB2.out⟩
abbrev Nm := Rn × Value × Value
def nc (m : Nm) : List Value := rnc m.1 m.2.1 m.2.2
def flN (M : List Nm) : List Value := M.flatMap nc
theorem nc_len (m : Nm) : (nc m).length = 5 := rfl
theorem flN_len (M : List Nm) : (flN M).length = M.length * 5 := by
 unfold flN
 induction M with
 | nil => rfl
 | cons e E ih => simp only [List.flatMap_cons, List.length_append, ih, List.length_cons, nc_len]; omega
theorem flN_snoc (M : List Nm) (m : Nm) : flN (M ++ [m]) = flN M ++ nc m := by
 unfold flN
 simp
theorem flN_get {M : List Nm} {k : Nat} {e : Nm} (h : M[k]? = some e) (j : Nat) (hj : j < 5) : (flN M)[k * 5 + j]? = (nc e)[j]? := by
 induction M generalizing k with
 | nil => simp at h
 | cons a E ih =>
  have hf : flN (a :: E) = nc a ++ flN E := rfl
  cases k with
  | zero =>
   simp only [List.getElem?_cons_zero, Option.some.injEq] at h;subst h;rw [hf, List.getElem?_append_left (by rw [nc_len]; omega), Nat.zero_mul, Nat.zero_add]
  | succ k =>
   rw [List.getElem?_cons_succ] at h;rw [hf, List.getElem?_append_right (by rw [nc_len]; omega), ← ih h, show (k + 1) * 5 + j - (nc a).length = k * 5 + j from by rw [nc_len]; omega]
def Ag (w : World) (v : Value) (m : Nat) (news : List Value) : Prop := (v = .slice none 0 0 ∧ m = 0 ∧ news = []) ∨ ∃ ad c, v = .slice (some ad) m c ∧ ∀ j u, news[j]? = some u → w.cell? (ad.add j) = some u
theorem Ag.keep {w w' : World} {v : Value} {m : Nat} {news : List Value} (h : Ag w v m news) (hb : Below w.heap.size w w') : Ag w' v m news := by
 rcases h with h | ⟨ad, c, hv, hc⟩
 ·exact .inl h
 ·refine .inr ⟨ad, c, hv, fun j u hu => ?_⟩;have := hc j u hu;exact (hb.cell (World.block_lt_of_cell? w _ this)).trans this
theorem Ag.own {w : World} {base size n : Nat} {e : TypeId} {v : Value} {xs : List Value} (h : w.ownsRow base e size v n xs) : Ag w v n xs := by
 rcases h.2 with ⟨hv, hn⟩ | ⟨g, cap, cur, hv, -⟩
 ·have h1 := h.1;rw [hn, Nat.zero_mul] at h1;exact .inl ⟨hv, hn, List.eq_nil_of_length_eq_zero h1⟩
 ·exact .inr ⟨_, _, hv, h.cells (g := g) (by rw [hv]; rfl)⟩
theorem run_append_ag {P : Program} (w : World) (base : Nat) (t ty e : TypeId) (i : TypeInfo) (z : Value) (size bytes : Nat) (ht : P.underlying t = some (.slice e)) (hi : P.info? e = some i) (hz : i.zero = some z)
  (hsize : i.size = size) (hby : i.bytes = bytes) (hzs : z.cells.size = size) (hsz : 0 < size) (g n cap : Nat) (xs : List Value) (hown : w.ownsRow base e size (.slice (some ⟨g, 0, none⟩) n cap) n xs)
  (v2 : Value) (m : Nat) (news : List Value) (hA : Ag w v2 m news) (hl : news.length = m * size) (h1 : ∀ u ∈ news, u.oneCell' = true) (h63 : n + m ≤ maxLen) (hbytes : (n + m) * bytes ≤ 140737488355328) (hbase : base ≤ w.heap.size) :
  ∃ g' cap' w', (Builtin.append_ #[t, t] ty #[.slice (some ⟨g, 0, none⟩) n cap, v2]).run P w = .ok (.slice (some ⟨g', 0, none⟩) (n + m) cap') w' ∧ w'.ownsRow base e size (.slice (some ⟨g', 0, none⟩) (n + m) cap') (n + m) (xs ++ news) ∧ w.grownBy w' (some g) := by
 rcases hA with ⟨rfl, rfl, rfl⟩ | ⟨ad, c, rfl, hc⟩
 ·refine ⟨g, cap, w, run_append_owned_none (P := P) w base t ty e i size ht hi _ n xs hown, ?_, World.grownBy.refl _ _⟩;rw [List.append_nil];exact hown
 ·obtain ⟨v', w', hr, h2, h3, h4⟩ := run_append_own (P := P) w base t ty e i z size bytes ht hi hz hsize hby hzs hsz _ n xs hown ad m c news hl hc h1 h63 hbytes hbase;rcases h2.2 with ⟨hv, -⟩ | ⟨g', cap', cur, hv, -⟩
  ·exact absurd (h4.1 hv).1 (by intro hh; cases hh)
  ·subst hv;exact ⟨g', cap', w', hr, h2, h3⟩
theorem wp_append_ag {P : Program} (w : World) {o : Oper} {a : Act} {K : Act → World → Prop} {Q : Exit → Act → World → Prop} (s x : Operand) (t : TypeId)
  (ho : o.op = .call { callee := .builtin .append, args := #[s, x], argTypes := #[t, t] })
  (base : Nat) (e : TypeId) (i : TypeInfo) (z : Value) (size bytes : Nat) (ht : P.underlying t = some (.slice e)) (hi : P.info? e = some i) (hz : i.zero = some z)
  (hsize : i.size = size) (hby : i.bytes = bytes) (hzs : z.cells.size = size) (hsz : 0 < size) (g n cap : Nat) (xs : List Value) (hs : a.eval s = .slice (some ⟨g, 0, none⟩) n cap) (hown : w.ownsRow base e size (.slice (some ⟨g, 0, none⟩) n cap) n xs)
  (v2 : Value) (m : Nat) (news : List Value) (hx : a.eval x = v2) (hA : Ag w v2 m news) (hl : news.length = m * size) (h1 : ∀ u ∈ news, u.oneCell' = true) (h63 : n + m ≤ maxLen) (hbytes : (n + m) * bytes ≤ 140737488355328) (hbase : base ≤ w.heap.size)
  (h : ∀ g' cap' w', w'.ownsRow base e size (.slice (some ⟨g', 0, none⟩) (n + m) cap') (n + m) (xs ++ news) → w.grownBy w' (some g) → K (a.put o.dst (.slice (some ⟨g', 0, none⟩) (n + m) cap')) w') : o.wp P a w K Q := by
 obtain ⟨g', cap', w', hr, h2, h3⟩ := run_append_ag (P := P) w base t o.type e i z size bytes ht hi hz hsize hby hzs hsz g n cap xs hown v2 m news hA hl h1 h63 hbytes hbase;unfold Oper.wp execOp;simp only [ho, resolve, invoke, builtin, Sem.run_bind, Sem.run_pure, Result.andThen_ok, List.map_toArray, List.map_cons, List.map_nil, hs, hx, hr];exact h g' cap' w' h2 h3
theorem wpList_append_ag {P : Program} (w : World) {ops : Array Oper} {rest : List Oper} {o : Oper} {a : Act} {Q : Exit → Act → World → Prop} (hgd : o.guard = none) (s x : Operand) (t : TypeId)
  (ho : o.op = .call { callee := .builtin .append, args := #[s, x], argTypes := #[t, t] })
  (base : Nat) (e : TypeId) (i : TypeInfo) (z : Value) (size bytes : Nat) (ht : P.underlying t = some (.slice e)) (hi : P.info? e = some i) (hz : i.zero = some z)
  (hsize : i.size = size) (hby : i.bytes = bytes) (hzs : z.cells.size = size) (hsz : 0 < size) (g n cap : Nat) (xs : List Value) (hs : a.eval s = .slice (some ⟨g, 0, none⟩) n cap) (hown : w.ownsRow base e size (.slice (some ⟨g, 0, none⟩) n cap) n xs)
  (v2 : Value) (m : Nat) (news : List Value) (hx : a.eval x = v2) (hA : Ag w v2 m news) (hl : news.length = m * size) (h1 : ∀ u ∈ news, u.oneCell' = true) (h63 : n + m ≤ maxLen) (hbytes : (n + m) * bytes ≤ 140737488355328) (hbase : base ≤ w.heap.size)
  (h : ∀ g' cap' w', w'.ownsRow base e size (.slice (some ⟨g', 0, none⟩) (n + m) cap') (n + m) (xs ++ news) → w.grownBy w' (some g) → wpList P ops Q rest (a.put o.dst (.slice (some ⟨g', 0, none⟩) (n + m) cap')) w') : wpList P ops Q (o :: rest) a w :=
 wpList_plain hgd fun _ hK => wp_append_ag w s x t ho base e i z size bytes ht hi hz hsize hby hzs hsz g n cap xs hs hown v2 m news hx hA hl h1 h63 hbytes hbase fun g' cap' w' h2 h3 => hK _ _ (h g' cap' w' h2 h3)
def Apart (vs : List Value) : Prop := vs.Pairwise fun a b => a.ownBlock = none ∨ a.ownBlock ≠ b.ownBlock
structure RvG (w : World) (base : Nat) (vn vt : Value) (M : List Nm) (tn : Nat) (tc : List Value) : Prop where
 nd : w.ownsRow base 84 5 vn M.length (flN M)
 tb : w.ownsRow base 104 4 vt tn tc
 t1 : ∀ u ∈ tc, u.oneCell' = true
 bs : ∀ m ∈ M, Ag w m.2.1 0 []
 es : ∀ m ∈ M, w.ownsRow base 58 2 m.2.2 m.1.E.length (flatE m.1.E)
 ap : Apart (vn :: vt :: M.map fun m => m.2.2)
theorem ownsRow_belowG {w w' : World} {base n size : Nat} {e : TypeId} {v : Value} {xs : List Value} (h : w.ownsRow base e size v n xs) (hb : Below w.heap.size w w') : w'.ownsRow base e size v n xs := ownsRow_below h hb
theorem RvG.keep {w w' : World} {base : Nat} {vn vt : Value} {M : List Nm} {tn : Nat} {tc : List Value} (h : RvG w base vn vt M tn tc) (hb : Below w.heap.size w w') : RvG w' base vn vt M tn tc :=
 ⟨ownsRow_belowG h.nd hb, ownsRow_belowG h.tb hb, h.t1, fun m hm => (h.bs m hm).keep hb, fun m hm => ownsRow_belowG (h.es m hm) hb, h.ap⟩
theorem enc_all (E : List En) : ∀ u ∈ flatE E, u.oneCell' = true := by
 intro u hu;unfold flatE at hu;obtain ⟨e, -, he⟩ := List.mem_flatMap.1 hu;exact enc_one e u he
theorem RvG.at {w : World} {base g cap tn : Nat} {vt : Value} {M : List Nm} {tc : List Value} (h : RvG w base (.slice (some ⟨g, 0, none⟩) M.length cap) vt M tn tc) {i : Nat} {m : Nm} (hm : M[i]? = some m) : w.rangeAt g (i * 5) (nc m) := fun j u hu => by
 have hk : i < M.length := (List.getElem?_eq_some_iff.1 hm).1;have hj : j < 5 := (List.getElem?_eq_some_iff.1 hu).1;rw [World.ownsRow.cellAt h.nd (i * 5 + j) (by omega), flN_get hm j hj];exact hu
theorem rnc_oneV (x : Rn) {a b : Value} (ha : a.oneCell' = true) (hb : b.oneCell' = true) : ∀ v ∈ rnc x a b, v.oneCell' = true := by
 intro v hv;simp only [rnc, List.mem_cons, List.not_mem_nil, or_false] at hv;rcases hv with rfl | rfl | rfl | rfl | rfl
 ·rfl
 ·rfl
 ·rfl
 ·exact ha
 ·exact hb
theorem share5 {α β γ δ ε : Type} {F P : α → β → γ → δ → ε → Prop} {G : Prop} (h1 : Hid (∀ a b c d e, F a b c d e → P a b c d e) → G) (h2 : ∀ a b c d e, F a b c d e → P a b c d e) : G := h1 (jh h2)
theorem Tryz.zeroGr : (Tryz.prog.info? 46).map (fun i => i.zero) = some (some (.agg [Value.slice none 0 0, .slice none 0 0, .int .i64 0].toArray)) := by kernel_rfl
theorem Tryz.infoRf : ∃ i, Tryz.prog.info? 104 = some i ∧ i.zero = some (.agg #[.int .u8 0, .int .u16 0, .int .u16 0, .int .i64 0]) ∧ i.size = 4 ∧ i.bytes = 16 := by
 have h : (Tryz.prog.info? 104).map (fun i => (i.zero, i.size, i.bytes)) = some (some (.agg #[.int .u8 0, .int .u16 0, .int .u16 0, .int .i64 0]), 4, 16) := by kernel_rfl
 obtain ⟨i, hi, he⟩ := Option.map_eq_some_iff.1 h;simp only [Prod.mk.injEq] at he;exact ⟨i, hi, he.1, he.2.1, he.2.2⟩
theorem Tryz.infoNd : ∃ i, Tryz.prog.info? 84 = some i ∧ i.zero = some (.agg (rnc ⟨0, 0, 0, []⟩ (.slice none 0 0) (.slice none 0 0)).toArray) ∧ i.size = 5 ∧ i.bytes = 72 := by
 have h : (Tryz.prog.info? 84).map (fun i => (i.zero, i.size, i.bytes)) = some (some (.agg (rnc ⟨0, 0, 0, []⟩ (.slice none 0 0) (.slice none 0 0)).toArray), 5, 72) := by kernel_rfl
 obtain ⟨i, hi, he⟩ := Option.map_eq_some_iff.1 h;simp only [Prod.mk.injEq] at he;exact ⟨i, hi, he.1, he.2.1, he.2.2⟩
theorem grown_kp {w w' : World} {g : Nat} (h : Kp w w' g g) : w.grownBy w' (some g) := ⟨h.os, h.tape, h.output, h.size, fun k hk hne => h.block k hk (fun e => hne (by rw [e])) (fun e => hne (by rw [e]))⟩
theorem Vl.grown {w w' : World} {g x : Nat} {cs : List Value} (h : Vl w g cs) (hg : w.grownBy w' (some x)) (hne : g ≠ x) : Vl w' g cs := by
 have hbl : w'.heap[g]? = w.heap[g]? := hg.block g h.lt (fun e => hne (Option.some.inj e));exact ⟨Nat.lt_of_lt_of_le h.lt hg.size, fun j v hj => (World.cell?_of_block (w := w) hbl).trans (h.c j v hj), fun j hj => (World.frozen?_of_block (w := w) hbl).trans (h.z j hj)⟩
theorem own_mn {w : World} {base base' size n : Nat} {e : TypeId} {v : Value} {xs : List Value} (h : w.ownsRow base e size v n xs) (hb : base' ≤ base) : w.ownsRow base' e size v n xs := ⟨h.1, h.2.imp id fun ⟨g, cap, cur, h1, h2, h3⟩ => ⟨g, cap, cur, h1, Nat.le_trans hb h2, h3⟩⟩
theorem ownsRow_kp2 {w w' : World} {base size n a b : Nat} {e : TypeId} {v : Value} {xs : List Value} (h : w.ownsRow base e size v n xs) (hk : Kp w w' a b) (ha : ∀ k, v.ownBlock = some k → k ≠ a ∧ k ≠ b) : w'.ownsRow base e size v n xs := by
 refine ⟨h.1, ?_⟩;rcases h.2 with hn | ⟨g, cap, cur, hv, hb, hg, hr⟩
 ·exact .inl hn
 ·refine .inr ⟨g, cap, cur, hv, hb, ?_, hr⟩;have hne := ha g (by rw [hv]; rfl);rw [hk.block g (Array.getElem?_eq_some_iff.1 hg).1 hne.1 hne.2];exact hg
theorem own_ne {w : World} {b1 b2 s1 s2 n1 n2 : Nat} {e1 e2 : TypeId} {v1 v2 : Value} {x1 x2 : List Value} (h1 : w.ownsRow b1 e1 s1 v1 n1 x1) (h2 : w.ownsRow b2 e2 s2 v2 n2 x2) (hne : e1 ≠ e2) : v1.ownBlock = none ∨ v1.ownBlock ≠ v2.ownBlock := by
 rcases h1.2 with ⟨rfl, -⟩ | ⟨g, cap, cur, rfl, -, hg, -⟩
 ·exact .inl rfl
 ·refine .inr (fun he => ?_);rcases h2.2 with ⟨rfl, -⟩ | ⟨g2, cap2, cur2, rfl, -, hg2, -⟩
  ·cases he
  ·have : g = g2 := Option.some.inj he;subst this;rw [hg] at hg2
   injection Option.some.inj hg2 with _ e2
   exact hne e2
theorem Ag.nil {w w' : World} {v : Value} (h : Ag w v 0 []) : Ag w' v 0 [] := by
 rcases h with h | ⟨ad, c, hv, -⟩
 ·exact .inl h
 ·exact .inr ⟨ad, c, hv, fun j u hu => by simp at hu⟩
theorem Ag.one {w : World} {v : Value} {m : Nat} {xs : List Value} (h : Ag w v m xs) : v.oneCell' = true := by
 rcases h with ⟨rfl, -⟩ | ⟨ad, c, rfl, -⟩ <;> rfl
theorem Kp.grow2 {w w1 w2 : World} {a : Nat} {o : Option Nat} (h : Kp w w1 a (o.getD w.heap.size)) (hg : w1.grownBy w2 o) : Kp w w2 a (o.getD w.heap.size) :=
 ⟨hg.os.trans h.os, hg.tape.trans h.tape, hg.output.trans h.output, Nat.le_trans h.size hg.size, fun k hk h1 h2 => (hg.block k (Nat.lt_of_lt_of_le hk h.size) (fun e => h2 (by rw [← e]; rfl))).trans (h.block k hk h1 h2)⟩
theorem RvG.kp {w w' : World} {base x tn : Nat} {vn vt : Value} {M : List Nm} {tc : List Value} (h : RvG w base vn vt M tn tc) (hk : Kp w w' x x) (hx : x < base) : RvG w' base vn vt M tn tc :=
 ⟨ownsRow_kp2 h.nd hk (fun k hk => by have := (World.ownsRow.lt h.nd k hk).1; omega), ownsRow_kp2 h.tb hk (fun k hk => by have := (World.ownsRow.lt h.tb k hk).1; omega), h.t1, fun m hm => (h.bs m hm).nil, fun m hm => ownsRow_kp2 (h.es m hm) hk (fun k hk => by have := (World.ownsRow.lt (h.es m hm) k hk).1; omega), h.ap⟩
theorem RvG.mn {w : World} {base base' tn : Nat} {vn vt : Value} {M : List Nm} {tc : List Value} (h : RvG w base vn vt M tn tc) (hb : base' ≤ base) : RvG w base' vn vt M tn tc :=
 ⟨own_mn h.nd hb, own_mn h.tb hb, h.t1, h.bs, fun m hm => own_mn (h.es m hm) hb, h.ap⟩
structure Cp (w2 wr : World) (L bT g tn c k : Nat) (B : Int) (tc : List Value) (M Mk : List Nm) (vk : Value) : Prop where
 hb : Below w2.heap.size w2 wr
 le : L ≤ wr.heap.size
 v : Vl wr bT [vk, .slice (some ⟨g, 0, none⟩) tn c, .int .i64 B]
 t : wr.ownsRow w2.heap.size 104 4 (.slice (some ⟨g, 0, none⟩) tn c) tn tc
 nd : wr.ownsRow L 84 5 vk k (flN Mk)
 len : Mk.length = k
 same : Mk.map (fun m => m.1) = (M.take k).map (fun m => m.1)
 bs : ∀ m ∈ Mk, Ag wr m.2.1 0 []
 es : ∀ m ∈ Mk, wr.ownsRow L 58 2 m.2.2 m.1.E.length (flatE m.1.E)
 ap : Apart (Mk.map fun m => m.2.2)
theorem Cp.step {w2 wr w' : World} {L bT g tn c k : Nat} {B : Int} {tc : List Value} {M Mk : List Nm} {vk vk' v1 v2 : Value} (h : Cp w2 wr L bT g tn c k B tc M Mk vk) (hbT : bT < L) (hg : g < L) (hne : g ≠ bT) (hw2 : w2.heap.size ≤ bT) (m : Nm) (hm : M[k]? = some m)
  (hk : Kp wr w' bT (vk.ownBlock.getD wr.heap.size)) (hV : Vl w' bT [vk', .slice (some ⟨g, 0, none⟩) tn c, .int .i64 B]) (hO : w'.ownsRow L 84 5 vk' (k + 1) (flN Mk ++ rnc m.1 v1 v2)) (h1 : Ag w' v1 0 []) (h2 : w'.ownsRow wr.heap.size 58 2 v2 m.1.E.length (flatE m.1.E)) :
  Cp w2 w' L bT g tn c (k + 1) B tc M (Mk ++ [(m.1, v1, v2)]) vk' := by
 have hge : L ≤ vk.ownBlock.getD wr.heap.size := by
  cases ho : vk.ownBlock with
  | none => exact h.le
  | some x => exact (World.ownsRow.lt h.nd x ho).1
 refine ⟨?_, Nat.le_trans h.le hk.size, hV, ?_, ?_, ?_, ?_, ?_, ?_, ?_⟩
 ·exact h.hb.trans (hk.below hw2 (by omega) h.hb.size)
 ·refine ownsRow_kp2 h.t hk (fun x hx => ?_);have hxg : g = x := Option.some.inj hx;subst hxg;exact ⟨hne, by omega⟩
 ·rw [flN_snoc]; exact hO
 ·rw [List.length_append, h.len]; rfl
 ·rw [List.map_append, h.same, List.take_add_one, hm]
  simp
 ·intro x hx;rcases List.mem_append.1 hx with hx | hx
  ·exact (h.bs x hx).nil
  ·obtain rfl := List.mem_singleton.1 hx;exact h1
 ·intro x hx;rcases List.mem_append.1 hx with hx | hx
  ·refine ownsRow_kp2 (h.es x hx) hk (fun y hy => ?_);have hl := World.ownsRow.lt (h.es x hx) y hy;refine ⟨by omega, fun he => ?_⟩
   cases ho : vk.ownBlock with
   | none => rw [ho] at he; have : y = wr.heap.size := he; omega
   | some z =>
    rw [ho] at he;have hz : y = z := he;rcases own_ne (h.es x hx) h.nd (by decide) with h3 | h3
    ·rw [hy] at h3; cases h3
    ·rw [hy, ho, hz] at h3; exact h3 rfl
  ·obtain rfl := List.mem_singleton.1 hx;exact own_mn h2 h.le
 ·unfold Apart;rw [List.map_append];refine List.pairwise_append.2 ⟨h.ap, List.pairwise_singleton _ _, fun a ha b hb => ?_⟩;obtain ⟨x, hx, rfl⟩ := List.mem_map.1 ha;obtain rfl := List.mem_singleton.1 hb
  cases ho : x.2.2.ownBlock with
  | none => exact .inl rfl
  | some y =>
   refine .inr (fun he => ?_);have hl := World.ownsRow.lt (h.es x hx) y ho;have hl2 := World.ownsRow.lt h2 y he.symm;omega
theorem Cp.end {w w2 wr : World} {L bT g tn c n : Nat} {B : Int} {tc : List Value} {M Mk : List Nm} {vk : Value} (h : Cp w2 wr L bT g tn c n B tc M Mk vk) (hn : M.length = n) (hg : g < L) (h2 : w2.heap.size ≤ L) (hw : w.heap.size ≤ w2.heap.size) (h1 : ∀ u ∈ tc, u.oneCell' = true) : Mk.map (fun m => m.1) = M.map (fun m => m.1) ∧ RvG wr w.heap.size vk (.slice (some ⟨g, 0, none⟩) tn c) Mk tn tc := by
 have hs := h.same;rw [List.take_of_length_le (Nat.le_of_eq hn)] at hs;refine ⟨hs, ?_, own_mn h.t hw, h1, h.bs, fun m hm => own_mn (h.es m hm) (by omega), ?_⟩
 ·rw [h.len]; exact own_mn h.nd (by omega)
 ·refine List.pairwise_cons.2 ⟨fun b hb => ?_, List.pairwise_cons.2 ⟨fun b hb => ?_, h.ap⟩⟩
  ·rcases List.mem_cons.1 hb with rfl | hb
   ·exact own_ne h.nd h.t (by decide)
   ·obtain ⟨x, hx, rfl⟩ := List.mem_map.1 hb;exact own_ne h.nd (h.es x hx) (by decide)
  ·obtain ⟨x, hx, rfl⟩ := List.mem_map.1 hb;exact own_ne h.t (h.es x hx) (by decide)
theorem rcopy_any (base gn cn tn ct : Nat) (pt : Option Addr) (M : List Nm) (tc : List Value) (B : Int) (hM : 1 ≤ M.length) (hM2 : M.length ≤ 200) (hE : ∀ m ∈ M, m.1.E.length ≤ 1100) (ht : tn ≤ 1100) (w : World) (h : RvG w base (.slice (some ⟨gn, 0, none⟩) M.length cn) (.slice pt tn ct) M tn tc) :
  Calls Tryz.prog 17 #[.agg #[.slice (some ⟨gn, 0, none⟩) M.length cn, .slice pt tn ct, .int .i64 B]] w fun e w' => ∃ g' c' gt' ct' M', e = .returned (.agg #[.slice (some ⟨g', 0, none⟩) M.length c', .slice (some ⟨gt', 0, none⟩) tn ct', .int .i64 B]) ∧ M'.map (fun m => m.1) = M.map (fun m => m.1) ∧ RvG w' w.heap.size (.slice (some ⟨g', 0, none⟩) M.length c') (.slice (some ⟨gt', 0, none⟩) tn ct') M' tn tc ∧ Below w.heap.size w w' := by
 obtain ⟨dN, hu, hd⟩ := Tryz.descNd;have HU := jh hu;have HD := jh hd;have HG := jh h;have HE := jh hE
 obtain ⟨n, hn⟩ : ∃ n, M.length = n := ⟨_, rfl⟩
 rw [hn] at hM hM2 HG ⊢;have HN := jh hn
 have hn0 : (1 : Int) ≤ n := by omega
 have hn1 : (n : Int) ≤ 200 := by omega
 have HTN := jh ht;clear hu hd h hE hn ht
 go_enter Tryz.func17, Tryz.ntmps17
 go_upto_region 1 with (first | (refine wpList_box_list (w := w) rfl 46 _ rfl [.slice (some ⟨gn, 0, none⟩) n cn, .slice pt tn ct, .int .i64 B] rfl ?_; intro w1 F1 hb1 hz1; have HB1 := jh hb1; have hs1 := hb1.size; clear hb1 hz1) | (refine wpList_alloc_list (w := w1) rfl 46 rfl [.slice none 0 0, .slice none 0 0, .int .i64 0] Tryz.zeroGr ?_; intro w2 F2 hb2 hz2; have HQ2 := jh hb2; clear hb2 hz2))
 have hl1 := F1.out.lt;have HF1 := jh (F1.out.keep HQ2.out);have HB2 := jh (HB1.out.trans (HQ2.out.mono hs1));have hl2 := F2.out.lt;have hsz2 := HB2.out.size;have hb12 : w.heap.size < w1.heap.size := hl1
 obtain ⟨b1, hbb1⟩ : ∃ x, w.heap.size = x := ⟨_, rfl⟩
 obtain ⟨b2, hbb2⟩ : ∃ x, w1.heap.size = x := ⟨_, rfl⟩
 rw [hbb1] at HF1 hb12;rw [hbb2] at F2 hb12 hl2
 try rw [hbb1]
 try rw [hbb2]
 have HBB1 := jh hbb1;have HBB2 := jh hbb2
 have hq : b1 < w2.heap.size := by omega
 have hb2w : w.heap.size ≤ b2 := by have := HBB1.out; omega
 clear F1 HB1 HQ2 hl1 hs1 hbb1 hbb2;obtain ⟨iB, hiB, hzB, hsB, hbB⟩ := Tryz.info5v;have HIB := jh hiB;have HZB := jh hzB;have HSB := jh hsB;have HBB := jh hbB;obtain ⟨iE, hiE, hzE, hsE, hbE⟩ := Tryz.infoEn;have HIE := jh hiE;have HZE := jh hzE;have HSE := jh hsE;have HBE := jh hbE;obtain ⟨iN, hiN, hzN, hsN, hbN⟩ := Tryz.infoNd;have HIN := jh hiN;have HZN := jh hzN;have HSND := jh hsN;have HBN := jh hbN;clear hiB hzB hsB hbB hiE hzE hsE hbE hiN hzN hsN hbN;obtain ⟨iR, hiR, hzR, hsR, hbR⟩ := Tryz.infoRf;have HIR := jh hiR;have HZR := jh hzR;have HSR := jh hsR;have HBR := jh hbR;have HAg := jh ((Ag.own HG.out.tb).keep HB2.out);have HT1 := jh HG.out.t1;have HTL := jh HG.out.tb.1;clear hiR hzR hsR hbR;apply share5 (F := fun (g' c' bg bT : Nat) (w5 : World) => Vl w5 bT [.slice none 0 0, .slice (some ⟨g', 0, none⟩) tn c', .int .i64 B] ∧ w5.ownsRow w2.heap.size 104 4 (.slice (some ⟨g', 0, none⟩) tn c') tn tc ∧ Below w2.heap.size w2 w5 ∧ g' ≠ bT ∧ w2.heap.size ≤ bT)
 ·intro tail;have q1 : w2.cell? ⟨b1, 1, none⟩ = some (.slice pt tn ct) := HF1.out.c 1 _ rfl;have q2 : w2.cell? ⟨b1, 2, none⟩ = some (.int .i64 B) := HF1.out.c 2 _ rfl;refine wp_region_held (S := fun W => Below w2.heap.size w2 W) (by kernel_rfl) ?_;change wpAnyH _ _ _ _ _ _ _ _ (World.drew _);have hS0 : (fun W => Below w2.heap.size w2 W) w2.drew := (Below.refl _ w2).drew
  obtain ⟨x0, hx0⟩ : ∃ x, World.drew w2 = x := ⟨_, rfl⟩
  rw [hx0] at hS0 ⊢;clear hx0;refine jk 1 (v:=?_) rfl (by kernel_rfl) (fun _ _ _=>id) (by rfl) ?_ hS0 ?_;rotate_left
  ·intro W hW;go_simp;try with_reducible rfl
  simp only [Act.put,j1,j2,j3,j4,j5,j6];refine jk 2 (v:=?_) rfl (by kernel_rfl) (fun _ _ _=>id) (by rfl) ?_ hS0 ?_;rotate_left 1
  ·intro W hW;have q_ := (hW.cell (p := ⟨b1, 1, none⟩) hq).trans q1;go_simp
   try with_reducible rfl
  simp only [Act.put,j1,j2,j3,j4,j5,j6];refine jk 4 (v:=?_) rfl (by kernel_rfl) (fun _ _ _=>id) (by rfl) ?_ hS0 ?_;rotate_left
  ·intro W hW;go_simp;try with_reducible rfl
  simp only [Act.put,j1,j2,j3,j4,j5,j6];refine jk 5 (v:=?_) rfl (by kernel_rfl) (fun _ _ _=>id) (by rfl) ?_ hS0 ?_;rotate_left 1
  ·intro W hW;have q_ := (hW.cell (p := ⟨b1, 2, none⟩) hq).trans q2;go_simp
   try with_reducible rfl
  simp only [Act.put,j1,j2,j3,j4,j5,j6];refine wpAnyH_ready (rs := [0, 7]) (by kernel_rfl) (by simp) (AllReadyH.cons rfl (fun KK hKK => ?_) (AllReadyH.cons rfl (fun KK hKK => ?_) AllReadyH.nil))
  ·skip
   go_simp;refine hKK _ _ (hS0.alloc hS0.size _) ?_;intro _;clear hKK KK
   try simp only [Act.put,j1,j2,j3,j4,j5,j6]
   have hR : (x0.alloc (.cells #[] 104)).ownsRow w2.heap.size 104 4 (.slice (some ⟨x0.heap.size, 0, none⟩) 0 0) 0 [] := World.ownsRow_made x0 #[] 0 hS0.size (Nat.zero_le _) rfl;have hS1 : Below w2.heap.size w2 (x0.alloc (.cells #[] 104)) := hS0.alloc hS0.size _;have hbgT : w2.heap.size ≤ x0.heap.size := hS0.size
   obtain ⟨bg, hbg⟩ : ∃ x, x0.heap.size = x := ⟨_, rfl⟩
   rw [hbg] at hR hbgT ⊢
   obtain ⟨x1, hY⟩ : ∃ x, x0.alloc (.cells #[] 104) = x := ⟨_, rfl⟩
   rw [hY] at hR hS1 ⊢;clear hY hbg
   replace hS0 : (fun W => Below w2.heap.size w2 W) x1 := hS1
   have HR := jh hR;clear hR hS1;refine wpAnyH_ready (rs := [3, 7]) (by kernel_rfl) (by simp) (AllReadyH.cons rfl (fun KK hKK => ?_) (AllReadyH.cons rfl (fun KK hKK => ?_) AllReadyH.nil))
   ·skip
    rw [if_pos (by rfl)];refine wp_append_ag x1 _ _ 44 rfl w2.heap.size 104 iR _ 4 16 Tryz.underlying44 HIR.out HZR.out HSR.out HBR.out rfl (by decide) bg 0 0 [] rfl HR.out _ tn tc rfl (HAg.out.keep hS0) HTL.out HT1.out (by have := HTN.out; unfold maxLen; omega) (by have := HTN.out; omega) hS0.size ?_;intro g' c' x2 hown hgrow;rw [Nat.zero_add] at hown ⊢;rw [List.nil_append] at hown;have hS1 : Below w2.heap.size w2 x2 := Below.grown hS0 hgrow hS0.size (fun k hk => by obtain rfl := Option.some.inj hk; exact hbgT);refine hKK _ _ hS1 ?_;intro _;clear hKK KK
    try simp only [Act.put,j1,j2,j3,j4,j5,j6]
    replace hS0 : (fun W => Below w2.heap.size w2 W) x2 := hS1
    have HO := jh hown;clear hown hgrow hS1 HR;refine jk 6 (v:=?_) rfl (by kernel_rfl) (fun _ _ _=>id) (by rfl) ?_ hS0 ?_;rotate_left
    ·intro W hW;go_simp;try with_reducible rfl
    simp only [Act.put,j1,j2,j3,j4,j5,j6];refine wpAnyH_ready (rs := [7]) (by kernel_rfl) (by simp) (AllReadyH.cons rfl (fun KK hKK => ?_) AllReadyH.nil);go_simp;refine hKK _ _ (hS0.alloc hS0.size _) ?_;intro _;clear hKK KK
    try simp only [Act.put,j1,j2,j3,j4,j5,j6]
    have hV : Vl (x2.alloc (.cells #[.slice none 0 0, .slice none 0 0, .int .i64 0] 46)) x2.heap.size [.slice none 0 0, .slice none 0 0, .int .i64 0] := Vl.new x2 [.slice none 0 0, .slice none 0 0, .int .i64 0] 46;have hT : (x2.alloc (.cells #[.slice none 0 0, .slice none 0 0, .int .i64 0] 46)).heap[x2.heap.size]? = some (.cells #[.slice none 0 0, .slice none 0 0, .int .i64 0] 46 (0, 0)) := heap_alloc_new x2 _;have hS1 : Below w2.heap.size w2 (x2.alloc (.cells #[.slice none 0 0, .slice none 0 0, .int .i64 0] 46)) := hS0.alloc hS0.size _;have hbT : w2.heap.size ≤ x2.heap.size := hS0.size;have hO := HO.out.alloc (.cells #[.slice none 0 0, .slice none 0 0, .int .i64 0] 46)
    have hne : g' ≠ x2.heap.size := by have := (World.ownsRow.lt HO.out g' rfl).2; omega
    obtain ⟨bT, hbTe⟩ : ∃ x, x2.heap.size = x := ⟨_, rfl⟩
    rw [hbTe] at hV hT hbT hne ⊢
    obtain ⟨x3, hY⟩ : ∃ x, x2.alloc (.cells #[.slice none 0 0, .slice none 0 0, .int .i64 0] 46) = x := ⟨_, rfl⟩
    rw [hY] at hV hT hS1 hO ⊢;clear hY hbTe
    replace hS0 : (fun W => Below w2.heap.size w2 W) x3 := hS1
    have HV := jh hV;have HT := jh hT;clear hS1 hV hT
    replace HO := jh hO
    clear hO;refine wpAnyH_ready (rs := [8]) (by kernel_rfl) (by simp) (AllReadyH.cons rfl (fun KK hKK => ?_) AllReadyH.nil);have v0 := HV.out.c 0 _ rfl;have v1 := HV.out.c 1 _ rfl;have v2 := HV.out.c 2 _ rfl;have z0 := HV.out.z 0 (by decide);have z1 := HV.out.z 1 (by decide);have z2 := HV.out.z 2 (by decide);go_simp;have hk : Kp x3 (((x3.setCell ⟨bT, 0, none⟩ (.slice none 0 0)).setCell ⟨bT, 1, none⟩ (.slice (some ⟨g', 0, none⟩) tn c')).setCell ⟨bT, 2, none⟩ (.int .i64 B)) bT bT := (((Kp.refl x3 bT bT).setA 0 _).setA 1 _).setA 2 _;have hS1 := Below.grown hS0 (grown_kp hk) hS0.size (fun k hk => by obtain rfl := Option.some.inj hk; exact hbT);have hV := ((HV.out.set 0 (by decide) (.slice none 0 0)).set 1 (by decide) (.slice (some ⟨g', 0, none⟩) tn c')).set 2 (by show 2 < 3; decide) (.int .i64 B);have hO := World.ownsRow.kept HO.out (grown_kp hk) (.inr (fun e => hne (Option.some.inj e)));refine hKK _ _ hS1 ?_;intro _;clear hKK KK v0 v1 v2 z0 z1 z2
    obtain ⟨wz, hz⟩ : ∃ x, ((x3.setCell ⟨bT, 0, none⟩ (.slice none 0 0)).setCell ⟨bT, 1, none⟩ (.slice (some ⟨g', 0, none⟩) tn c')).setCell ⟨bT, 2, none⟩ (.int .i64 B) = x := ⟨_, rfl⟩
    rw [hz] at hS1 hV hO ⊢;clear hz hk;refine wpAnyH_done (by kernel_rfl) ?_ _;exact tail.out g' c' bg bT wz ⟨hV, hO, hS1, hne, hbT⟩
   ·skip
    go_simp;refine hKK _ _ (hS0.alloc hS0.size _) ?_;intro _;clear hKK KK
    try simp only [Act.put,j1,j2,j3,j4,j5,j6]
    have hV : Vl (x1.alloc (.cells #[.slice none 0 0, .slice none 0 0, .int .i64 0] 46)) x1.heap.size [.slice none 0 0, .slice none 0 0, .int .i64 0] := Vl.new x1 [.slice none 0 0, .slice none 0 0, .int .i64 0] 46;have hT : (x1.alloc (.cells #[.slice none 0 0, .slice none 0 0, .int .i64 0] 46)).heap[x1.heap.size]? = some (.cells #[.slice none 0 0, .slice none 0 0, .int .i64 0] 46 (0, 0)) := heap_alloc_new x1 _;have hS1 : Below w2.heap.size w2 (x1.alloc (.cells #[.slice none 0 0, .slice none 0 0, .int .i64 0] 46)) := hS0.alloc hS0.size _;have hbT : w2.heap.size ≤ x1.heap.size := hS0.size;have hR := HR.out.alloc (.cells #[.slice none 0 0, .slice none 0 0, .int .i64 0] 46)
    have hne : x1.heap.size ≠ bg := by have := (World.ownsRow.lt HR.out bg rfl).2; omega
    obtain ⟨bT, hbTe⟩ : ∃ x, x1.heap.size = x := ⟨_, rfl⟩
    rw [hbTe] at hV hT hbT hne ⊢
    obtain ⟨x2, hY⟩ : ∃ x, x1.alloc (.cells #[.slice none 0 0, .slice none 0 0, .int .i64 0] 46) = x := ⟨_, rfl⟩
    rw [hY] at hV hT hS1 hR ⊢;clear hY hbTe
    replace hS0 : (fun W => Below w2.heap.size w2 W) x2 := hS1
    have HV := jh hV;have HT := jh hT;clear hS1 hV hT
    replace HR := jh hR
    clear hR;refine wpAnyH_ready (rs := [3]) (by kernel_rfl) (by simp) (AllReadyH.cons rfl (fun KK hKK => ?_) AllReadyH.nil);rw [if_pos (by rfl)];refine wp_append_ag x2 _ _ 44 rfl w2.heap.size 104 iR _ 4 16 Tryz.underlying44 HIR.out HZR.out HSR.out HBR.out rfl (by decide) bg 0 0 [] rfl HR.out _ tn tc rfl (HAg.out.keep hS0) HTL.out HT1.out (by have := HTN.out; unfold maxLen; omega) (by have := HTN.out; omega) hS0.size ?_;intro g' c' x3 hown hgrow;rw [Nat.zero_add] at hown ⊢;rw [List.nil_append] at hown;have hS1 : Below w2.heap.size w2 x3 := Below.grown hS0 hgrow hS0.size (fun k hk => by obtain rfl := Option.some.inj hk; exact hbgT);refine hKK _ _ hS1 ?_;intro _;clear hKK KK
    try simp only [Act.put,j1,j2,j3,j4,j5,j6]
    replace hS0 : (fun W => Below w2.heap.size w2 W) x3 := hS1
    have HO := jh hown
    replace HV := jh (HV.out.grown hgrow hne)
    replace HT := jh ((hgrow.block bT (by have := HT.out; exact (Array.getElem?_eq_some_iff.1 this).1) (fun e => hne (Option.some.inj e))).trans HT.out)
    replace hne : g' ≠ bT := fun e => by
     subst e;have h1 := HT.out;rcases HO.out.2 with ⟨hv, -⟩ | ⟨g2, cap2, cur2, hv, -, hg2, -⟩
     ·cases hv
     ·cases hv
      rw [h1] at hg2;exact absurd (Option.some.inj hg2) (by intro hh; injection hh with e1 e2; exact absurd e2 (by decide))
    clear hown hgrow hS1 HR;refine jk 6 (v:=?_) rfl (by kernel_rfl) (fun _ _ _=>id) (by rfl) ?_ hS0 ?_;rotate_left
    ·intro W hW;go_simp;try with_reducible rfl
    simp only [Act.put,j1,j2,j3,j4,j5,j6];refine wpAnyH_ready (rs := [8]) (by kernel_rfl) (by simp) (AllReadyH.cons rfl (fun KK hKK => ?_) AllReadyH.nil);have v0 := HV.out.c 0 _ rfl;have v1 := HV.out.c 1 _ rfl;have v2 := HV.out.c 2 _ rfl;have z0 := HV.out.z 0 (by decide);have z1 := HV.out.z 1 (by decide);have z2 := HV.out.z 2 (by decide);go_simp;have hk : Kp x3 (((x3.setCell ⟨bT, 0, none⟩ (.slice none 0 0)).setCell ⟨bT, 1, none⟩ (.slice (some ⟨g', 0, none⟩) tn c')).setCell ⟨bT, 2, none⟩ (.int .i64 B)) bT bT := (((Kp.refl x3 bT bT).setA 0 _).setA 1 _).setA 2 _;have hS1 := Below.grown hS0 (grown_kp hk) hS0.size (fun k hk => by obtain rfl := Option.some.inj hk; exact hbT);have hV := ((HV.out.set 0 (by decide) (.slice none 0 0)).set 1 (by decide) (.slice (some ⟨g', 0, none⟩) tn c')).set 2 (by show 2 < 3; decide) (.int .i64 B);have hO := World.ownsRow.kept HO.out (grown_kp hk) (.inr (fun e => hne (Option.some.inj e)));refine hKK _ _ hS1 ?_;intro _;clear hKK KK v0 v1 v2 z0 z1 z2
    obtain ⟨wz, hz⟩ : ∃ x, ((x3.setCell ⟨bT, 0, none⟩ (.slice none 0 0)).setCell ⟨bT, 1, none⟩ (.slice (some ⟨g', 0, none⟩) tn c')).setCell ⟨bT, 2, none⟩ (.int .i64 B) = x := ⟨_, rfl⟩
    rw [hz] at hS1 hV hO ⊢;clear hz hk;refine wpAnyH_done (by kernel_rfl) ?_ _;exact tail.out g' c' bg bT wz ⟨hV, hO, hS1, hne, hbT⟩
  ·skip
   go_simp;refine hKK _ _ (hS0.alloc hS0.size _) ?_;intro _;clear hKK KK
   try simp only [Act.put,j1,j2,j3,j4,j5,j6]
   have hV : Vl (x0.alloc (.cells #[.slice none 0 0, .slice none 0 0, .int .i64 0] 46)) x0.heap.size [.slice none 0 0, .slice none 0 0, .int .i64 0] := Vl.new x0 [.slice none 0 0, .slice none 0 0, .int .i64 0] 46;have hT : (x0.alloc (.cells #[.slice none 0 0, .slice none 0 0, .int .i64 0] 46)).heap[x0.heap.size]? = some (.cells #[.slice none 0 0, .slice none 0 0, .int .i64 0] 46 (0, 0)) := heap_alloc_new x0 _;have hS1 : Below w2.heap.size w2 (x0.alloc (.cells #[.slice none 0 0, .slice none 0 0, .int .i64 0] 46)) := hS0.alloc hS0.size _;have hbT : w2.heap.size ≤ x0.heap.size := hS0.size
   obtain ⟨bT, hbTe⟩ : ∃ x, x0.heap.size = x := ⟨_, rfl⟩
   rw [hbTe] at hV hT hbT ⊢
   obtain ⟨x1, hY⟩ : ∃ x, x0.alloc (.cells #[.slice none 0 0, .slice none 0 0, .int .i64 0] 46) = x := ⟨_, rfl⟩
   rw [hY] at hV hT hS1 ⊢;clear hY hbTe
   replace hS0 : (fun W => Below w2.heap.size w2 W) x1 := hS1
   have HV := jh hV;have HT := jh hT;clear hS1 hV hT;refine wpAnyH_ready (rs := [0]) (by kernel_rfl) (by simp) (AllReadyH.cons rfl (fun KK hKK => ?_) AllReadyH.nil);go_simp;refine hKK _ _ (hS0.alloc hS0.size _) ?_;intro _;clear hKK KK
   try simp only [Act.put,j1,j2,j3,j4,j5,j6]
   have hR : (x1.alloc (.cells #[] 104)).ownsRow w2.heap.size 104 4 (.slice (some ⟨x1.heap.size, 0, none⟩) 0 0) 0 [] := World.ownsRow_made x1 #[] 0 hS0.size (Nat.zero_le _) rfl;have hS1 : Below w2.heap.size w2 (x1.alloc (.cells #[] 104)) := hS0.alloc hS0.size _;have hV := HV.out.keep ((Below.refl x1.heap.size x1).alloc (Nat.le_refl _) (.cells #[] 104));have hT := (heap_alloc_old x1 (.cells #[] 104) HV.out.lt).trans HT.out;have hbgT : w2.heap.size ≤ x1.heap.size := hS0.size
   obtain ⟨bg, hbg⟩ : ∃ x, x1.heap.size = x := ⟨_, rfl⟩
   rw [hbg] at hR hbgT ⊢
   have hne : bT ≠ bg := by have := HV.out.lt; omega
   obtain ⟨x2, hY⟩ : ∃ x, x1.alloc (.cells #[] 104) = x := ⟨_, rfl⟩
   rw [hY] at hR hS1 hV hT ⊢;clear hY hbg
   replace hS0 : (fun W => Below w2.heap.size w2 W) x2 := hS1
   have HR := jh hR;clear hR hS1
   replace HV := jh hV
   replace HT := jh hT
   clear hV hT;refine wpAnyH_ready (rs := [3]) (by kernel_rfl) (by simp) (AllReadyH.cons rfl (fun KK hKK => ?_) AllReadyH.nil);rw [if_pos (by rfl)];refine wp_append_ag x2 _ _ 44 rfl w2.heap.size 104 iR _ 4 16 Tryz.underlying44 HIR.out HZR.out HSR.out HBR.out rfl (by decide) bg 0 0 [] rfl HR.out _ tn tc rfl (HAg.out.keep hS0) HTL.out HT1.out (by have := HTN.out; unfold maxLen; omega) (by have := HTN.out; omega) hS0.size ?_;intro g' c' x3 hown hgrow;rw [Nat.zero_add] at hown ⊢;rw [List.nil_append] at hown;have hS1 : Below w2.heap.size w2 x3 := Below.grown hS0 hgrow hS0.size (fun k hk => by obtain rfl := Option.some.inj hk; exact hbgT);refine hKK _ _ hS1 ?_;intro _;clear hKK KK
   try simp only [Act.put,j1,j2,j3,j4,j5,j6]
   replace hS0 : (fun W => Below w2.heap.size w2 W) x3 := hS1
   have HO := jh hown
   replace HV := jh (HV.out.grown hgrow hne)
   replace HT := jh ((hgrow.block bT (by have := HT.out; exact (Array.getElem?_eq_some_iff.1 this).1) (fun e => hne (Option.some.inj e))).trans HT.out)
   replace hne : g' ≠ bT := fun e => by
    subst e;have h1 := HT.out;rcases HO.out.2 with ⟨hv, -⟩ | ⟨g2, cap2, cur2, hv, -, hg2, -⟩
    ·cases hv
    ·cases hv
     rw [h1] at hg2;exact absurd (Option.some.inj hg2) (by intro hh; injection hh with e1 e2; exact absurd e2 (by decide))
   clear hown hgrow hS1 HR;refine jk 6 (v:=?_) rfl (by kernel_rfl) (fun _ _ _=>id) (by rfl) ?_ hS0 ?_;rotate_left
   ·intro W hW;go_simp;try with_reducible rfl
   simp only [Act.put,j1,j2,j3,j4,j5,j6];refine wpAnyH_ready (rs := [8]) (by kernel_rfl) (by simp) (AllReadyH.cons rfl (fun KK hKK => ?_) AllReadyH.nil);have v0 := HV.out.c 0 _ rfl;have v1 := HV.out.c 1 _ rfl;have v2 := HV.out.c 2 _ rfl;have z0 := HV.out.z 0 (by decide);have z1 := HV.out.z 1 (by decide);have z2 := HV.out.z 2 (by decide);go_simp;have hk : Kp x3 (((x3.setCell ⟨bT, 0, none⟩ (.slice none 0 0)).setCell ⟨bT, 1, none⟩ (.slice (some ⟨g', 0, none⟩) tn c')).setCell ⟨bT, 2, none⟩ (.int .i64 B)) bT bT := (((Kp.refl x3 bT bT).setA 0 _).setA 1 _).setA 2 _;have hS1 := Below.grown hS0 (grown_kp hk) hS0.size (fun k hk => by obtain rfl := Option.some.inj hk; exact hbT);have hV := ((HV.out.set 0 (by decide) (.slice none 0 0)).set 1 (by decide) (.slice (some ⟨g', 0, none⟩) tn c')).set 2 (by show 2 < 3; decide) (.int .i64 B);have hO := World.ownsRow.kept HO.out (grown_kp hk) (.inr (fun e => hne (Option.some.inj e)));refine hKK _ _ hS1 ?_;intro _;clear hKK KK v0 v1 v2 z0 z1 z2
   obtain ⟨wz, hz⟩ : ∃ x, ((x3.setCell ⟨bT, 0, none⟩ (.slice none 0 0)).setCell ⟨bT, 1, none⟩ (.slice (some ⟨g', 0, none⟩) tn c')).setCell ⟨bT, 2, none⟩ (.int .i64 B) = x := ⟨_, rfl⟩
   rw [hz] at hS1 hV hO ⊢;clear hz hk;refine wpAnyH_done (by kernel_rfl) ?_ _;exact tail.out g' c' bg bT wz ⟨hV, hO, hS1, hne, hbT⟩
 intro g' c' bg bT w3 ⟨hV, hO, hb, hne, hbT⟩;have hgL := (World.ownsRow.lt hO g' rfl).2;have hTL := hV.lt;have h23 := hb.size;have HP0 : Hid (Cp w2 w3 w3.heap.size bT g' tn c' 0 B tc M [] (.slice none 0 0)) := jh ⟨hb, Nat.le_refl _, hV, hO, World.ownsRow_nil w3 _ _ _, rfl, rfl, fun m hm => absurd hm (List.not_mem_nil), fun m hm => absurd hm (List.not_mem_nil), List.Pairwise.nil⟩
 obtain ⟨L, hL⟩ : ∃ x, w3.heap.size = x := ⟨_, rfl⟩
 rw [hL] at HP0 hgL hTL h23;clear hV hO hb hL;have HG2 := jh (HG.out.keep HB2.out);have HGN := jh HN.out
 go_wp2_with fail
 go_loopw [4, 5, 13, 14, 15, 16, 17, 18, 19, 20, 21, 22, 23, 24, 25, 26, 27, 28, 29, 30, 31, 32, 33, 34, 35, 36, 37, 38, 39, 40] (fun iv _ _ _ _ _ _ _ _ _ _ _ _ _ _ _ _ _ _ _ _ _ _ _ _ _ _ _ _ _ wr => ∃ (k : Nat) (Mk : List Nm) (vk : Value), k ≤ n ∧ iv = .int .i64 k ∧ Cp w2 wr L bT g' tn c' k B tc M Mk vk) (fun iv _ _ _ _ _ _ _ _ _ _ _ _ _ _ _ _ _ _ _ _ _ _ _ _ _ _ _ _ _ _ => n - (Go.RowKit.intOf iv).toNat)
 case atStart => exact ⟨0, [], _, Nat.zero_le _, rfl, HP0.out⟩
 case round =>
  obtain ⟨k, Mk, vk, hkn, rfl, hP⟩ := hrel;have HP := jh hP;have hszr := hP.hb.size;have hLr := hP.le;have HF1r := jh (HF1.out.below hP.hb hq);have c0 := HF1r.out.c 0 _ rfl;clear hP HP0 HF1
  by_cases hlt : k < n
  ·have hk0 : (0 : Int) ≤ k := by omega
   have hkni : (k : Int) < n := by omega
   have hkl : k < M.length := by rw [HN.out]; exact hlt
   obtain ⟨m, hm⟩ : ∃ m, M[k]? = some m := ⟨_, List.getElem?_eq_getElem hkl⟩
   have hmm := List.mem_of_getElem? hm;have hGr := HG2.out.keep HP.out.hb
   have hat : wr.rangeAt gn (k * 5) (nc m) := by
    have h1 := hGr;rw [← HN.out] at h1;exact RvG.at h1 hm
   have HAt := jh hat;have HBs := jh (hGr.bs m hmm);have HEs := jh (hGr.es m hmm);have HEl := jh (HE.out m hmm);have HM := jh hm;clear hkl hm hmm hGr hat hlt;obtain ⟨x, vb, vp⟩ := m;have HNC : Hid (nc (x, vb, vp) = rnc x vb vp) := jh rfl
   obtain ⟨cs, hcs⟩ : ∃ z, nc (x, vb, vp) = z := ⟨_, rfl⟩
   have HCS := jh hcs;have HL5 : Hid (cs.length = 5) := jh (hcs ▸ rfl);have HOne : Hid (∀ v ∈ cs, v.oneCell' = true) := jh (hcs ▸ rnc_oneV x (Ag.one HBs.out) (Ag.one (Ag.own HEs.out)));have HSn : Hid ((Tryz.prog.info? 84).map (·.size) = some cs.length) := jh (hcs ▸ sizeNd x vb vp);rw [hcs] at HAt;clear hcs
   go_upto_region 6 with (first | (refine wpList_load_mid rfl 84 _ rfl gn (k * 5) rfl cs dN HAt.out HU.out HD.out HSn.out ?_) | (refine wpList_alloc_list (w := wr) rfl 84 rfl (rnc ⟨0, 0, 0, []⟩ (.slice none 0 0) (.slice none 0 0)) Tryz.zeroNd ?_; intro w4 F4 hb4 hz4; simp only [Act.put,j1,j2,j3,j4,j5,j6]) | (refine wpList_store_list rfl 84 (.tmp 5) (.tmp 24) rfl wr.heap.size (rnc ⟨0, 0, 0, []⟩ (.slice none 0 0) (.slice none 0 0)) cs rfl rfl F4.out (by rw [HL5.out]; rfl) HSn.out HOne.out ?_; intro w5 F5 HK5; have HQ4 := jh hb4; clear hb4 F4))
   have HB5 := jh (HQ4.out.trans (HK5.out.below (Nat.le_refl _) (Nat.le_refl _) HQ4.out.size));have hbx : wr.heap.size < w5.heap.size := F5.out.lt;have d3 : w5.cell? ⟨wr.heap.size, 3, none⟩ = some vb := F5.out.c 3 vb (by rw [← HCS.out]; rfl);have HR6 := jh (World.ownsRow_made (base := w5.heap.size) (e := 5) (size := 1) w5 #[] 0 (Nat.le_refl _) (Nat.zero_le _) rfl);clear HQ4 HK5 c0 hz4
   go_upto_region 7 with (at_builtin; refine wpList_append_ag (w5.alloc (.cells #[] 5)) rfl _ _ 27 rfl w5.heap.size 5 iB _ 1 1 Tryz.underlying27 HIB.out HZB.out HSB.out HBB.out rfl (by decide) w5.heap.size 0 0 [] rfl HR6.out vb 0 [] rfl (Ag.nil HBs.out) rfl (by simp) (by unfold maxLen; omega) (by omega) (by simp) ?_; intro g1 c1 w6 hown6 hgrow6; have F6 := jh ((F5.out.keep ((Below.refl w5.heap.size w5).alloc (Nat.le_refl _) (.cells #[] 5))).grown hgrow6 (by omega)); have HB6 := jh (Below.grown (HB5.out.alloc HB5.out.size (.cells #[] 5)) hgrow6 (by simp; omega) (fun k hk => by obtain rfl := Option.some.inj hk; omega)); have HA6 := jh (Ag.own hown6); clear hown6 hgrow6 HR6 F5 HB5; have d3 : w6.cell? ⟨wr.heap.size, 3, none⟩ = some vb := F6.out.c 3 vb (by rw [← HCS.out]; rfl); have z3 : w6.frozen? ⟨wr.heap.size, 3, none⟩ = false := F6.out.z 3 (by rw [HL5.out]; decide))
   have F6s := jh (F6.out.set 3 (by rw [HL5.out]; decide) (.slice (some ⟨g1, 0, none⟩) 0 c1));have HB6s := jh (HB6.out.setCell (p := ⟨wr.heap.size, 3, none⟩) (Nat.le_refl _) (.slice (some ⟨g1, 0, none⟩) 0 c1))
   obtain ⟨x6, hx6⟩ : ∃ z, w6.setCell ⟨wr.heap.size, 3, none⟩ (.slice (some ⟨g1, 0, none⟩) 0 c1) = z := ⟨_, rfl⟩
   rw [hx6] at F6s HB6s
   try rw [hx6]
   try (change Code.wp _ _ _ _ (w6.setCell ⟨wr.heap.size, 3, none⟩ (.slice (some ⟨g1, 0, none⟩) 0 c1)); rw [hx6])
   have hbx6 : wr.heap.size < x6.heap.size := F6s.out.lt;have hen : x.E.length ≤ 1100 := HEl.out;have d4 : x6.cell? ⟨wr.heap.size, 4, none⟩ = some vp := F6s.out.c 4 vp (by rw [← HCS.out]; rfl);have HR7 := jh (World.ownsRow_made (base := x6.heap.size) (e := 58) (size := 2) x6 #[] 0 (Nat.le_refl _) (Nat.zero_le _) rfl);have HA7 : Hid (Ag (x6.alloc (.cells #[] 58)) vp x.E.length (flatE x.E)) := jh ((Ag.own HEs.out).keep (HB6s.out.alloc HB6s.out.size _));clear hx6 d3 z3 F6 HB6 HBs
   go_upto_region 8 with (at_builtin; refine wpList_append_ag (x6.alloc (.cells #[] 58)) rfl _ _ 68 rfl x6.heap.size 58 iE _ 2 24 Tryz.underlying68 HIE.out HZE.out HSE.out HBE.out rfl (by decide) x6.heap.size 0 0 [] rfl HR7.out vp x.E.length (flatE x.E) rfl HA7.out (by rw [flatE_len, Nat.mul_comm]) (enc_all _) (by unfold maxLen; omega) (by omega) (by simp) ?_; intro g2 c2 w7 hown7 hgrow7; rw [Nat.zero_add] at hown7 ⊢; rw [List.nil_append] at hown7; have F7 := jh ((F6s.out.keep ((Below.refl x6.heap.size x6).alloc (Nat.le_refl _) (.cells #[] 58))).grown hgrow7 (by omega)); have HB7 := jh (Below.grown (HB6s.out.alloc HB6s.out.size (.cells #[] 58)) hgrow7 (by simp; omega) (fun k hk => by obtain rfl := Option.some.inj hk; omega)); have HO7 := jh hown7; clear hown7 hgrow7 HR7 F6s HB6s HA7 d4; have d4 : w7.cell? ⟨wr.heap.size, 4, none⟩ = some vp := F7.out.c 4 vp (by rw [← HCS.out]; rfl); have z4 : w7.frozen? ⟨wr.heap.size, 4, none⟩ = false := F7.out.z 4 (by rw [List.length_set, HL5.out]; decide))
   have hg2 := (World.ownsRow.lt HO7.out g2 rfl).1;have hk7 : Kp w7 (w7.setCell ⟨wr.heap.size, 4, none⟩ (.slice (some ⟨g2, 0, none⟩) x.E.length c2)) wr.heap.size wr.heap.size := (Kp.refl w7 _ _).setA 4 _;have F7s := jh (F7.out.set 4 (by rw [List.length_set, HL5.out]; decide) (.slice (some ⟨g2, 0, none⟩) x.E.length c2));have HB7s := jh (HB7.out.setCell (p := ⟨wr.heap.size, 4, none⟩) (Nat.le_refl _) (.slice (some ⟨g2, 0, none⟩) x.E.length c2));have HO7s := jh (own_mn (ownsRow_kp2 HO7.out hk7 (fun z hz => by have h1 := (World.ownsRow.lt HO7.out z hz).1; omega)) (Nat.le_of_lt hbx6))
   obtain ⟨x7, hx7⟩ : ∃ z, w7.setCell ⟨wr.heap.size, 4, none⟩ (.slice (some ⟨g2, 0, none⟩) x.E.length c2) = z := ⟨_, rfl⟩
   rw [hx7] at F7s HB7s HO7s
   try rw [hx7]
   try (change Code.wp _ _ _ _ (w7.setCell ⟨wr.heap.size, 4, none⟩ (.slice (some ⟨g2, 0, none⟩) x.E.length c2)); rw [hx7])
   clear hx7 hk7 F7 HB7 HO7 d4 z4 hg2
   have hc7 : (cs.set 3 (.slice (some ⟨g1, 0, none⟩) 0 c1)).set 4 (.slice (some ⟨g2, 0, none⟩) x.E.length c2) = [.int .u8 x.k, .int .i64 x.l, .int .u16 x.g, .slice (some ⟨g1, 0, none⟩) 0 c1, .slice (some ⟨g2, 0, none⟩) x.E.length c2] := by rw [← HCS.out]; rfl
   rw [hc7] at F7s;have HR8 := jh F7s.out.range0;have HVT := jh (HP.out.v.below HB7s.out (Nat.lt_of_lt_of_le hTL hLr));have HOk := jh (ownsRow_belowG HP.out.nd HB7s.out);have e0 := HVT.out.c 0 _ rfl;have hLx : L ≤ x7.heap.size := Nat.le_trans hLr HB7s.out.size;have hlb : ∀ j, vk.ownBlock = some j → L ≤ j := fun j hj => (World.ownsRow.lt HOk.out j hj).1;have HLB := jh hlb;clear hc7 hlb
   go_upto_region 4 with (first | (refine wpList_load_mid rfl 84 _ rfl wr.heap.size 0 rfl [.int .u8 x.k, .int .i64 x.l, .int .u16 x.g, .slice (some ⟨g1, 0, none⟩) 0 c1, .slice (some ⟨g2, 0, none⟩) x.E.length c2] dN HR8.out HU.out HD.out Tryz.isizeNd ?_) | (at_builtin; refine wpList_append_own _ rfl _ _ 43 rfl L 84 iN _ 5 72 Tryz.underlying43 HIN.out HZN.out HSND.out HBN.out rfl (by decide) _ _ _ rfl (HOk.out.alloc _) ⟨x7.heap.size, 0, none⟩ 1 1 [.int .u8 x.k, .int .i64 x.l, .int .u16 x.g, .slice (some ⟨g1, 0, none⟩) 0 c1, .slice (some ⟨g2, 0, none⟩) x.E.length c2] rfl rfl (Cf.cells_new x7 _ 84) (by simp [Value.oneCell']) (by unfold maxLen; omega) (by omega) (by simp; omega) ?_; intro v' w8 hown8 hgrow8 _; obtain ⟨pa8, c8, rfl⟩ := Cf.ownsRow_form hown8; have HK8 := jh (Kp.grow2 ((Kp.of_below HB7s.out bT (vk.ownBlock.getD wr.heap.size)).alloc (.cells #[.int .u8 x.k, .int .i64 x.l, .int .u16 x.g, .slice (some ⟨g1, 0, none⟩) 0 c1, .slice (some ⟨g2, 0, none⟩) x.E.length c2] 84)) hgrow8); have HV8 := jh (Vl.grownO (HVT.out.keep ((Below.refl x7.heap.size x7).alloc (Nat.le_refl _) (.cells #[.int .u8 x.k, .int .i64 x.l, .int .u16 x.g, .slice (some ⟨g1, 0, none⟩) 0 c1, .slice (some ⟨g2, 0, none⟩) x.E.length c2] 84))) hgrow8 (fun j hj => by have := HLB.out j hj; omega)); have HO8 := jh hown8; have HGr8 := jh hgrow8; clear hown8 hgrow8 e0; have e0 := HV8.out.c 0 _ rfl; have y0 := HV8.out.z 0 (by show 0 < 3; decide)))
   have hkE : Kp wr (w8.setCell ⟨bT, 0, none⟩ (.slice pa8 (k + 1) c8)) bT (vk.ownBlock.getD wr.heap.size) := HK8.out.setA 0 _;have hVE : Vl (w8.setCell ⟨bT, 0, none⟩ (.slice pa8 (k + 1) c8)) bT [.slice pa8 (k + 1) c8, .slice (some ⟨g', 0, none⟩) tn c', .int .i64 B] := HV8.out.set 0 (by show 0 < 3; decide) _;have hOE := ownsRow_kp2 HO8.out ((Kp.refl w8 bT bT).setA 0 (.slice pa8 (k + 1) c8)) (fun j hj => by have h1 := (World.ownsRow.lt HO8.out j hj).1; omega);have hk2 : Kp x7 (w8.setCell ⟨bT, 0, none⟩ (.slice pa8 (k + 1) c8)) bT (vk.ownBlock.getD x7.heap.size) := (Kp.grow2 ((Kp.refl x7 bT (vk.ownBlock.getD x7.heap.size)).alloc _) HGr8.out).setA 0 _
   have h2E := ownsRow_kp2 HO7s.out hk2 (fun j hj => by
    have h1 := World.ownsRow.lt HO7s.out j hj;refine ⟨by omega, fun he => ?_⟩
    cases ho : vk.ownBlock with
    | none => rw [ho] at he; have : j = x7.heap.size := he; omega
    | some z =>
     rw [ho] at he;have hz : j = z := he;have h3 := (World.ownsRow.lt HP.out.nd z ho).2
     omega)
   have HPn := jh (Cp.step (v1 := .slice (some ⟨g1, 0, none⟩) 0 c1) (v2 := .slice (some ⟨g2, 0, none⟩) x.E.length c2) HP.out hTL hgL hne hbT (x, vb, vp) HM.out hkE hVE hOE (Ag.nil HA6.out) h2E)
   obtain ⟨x8, hx8⟩ : ∃ z, w8.setCell ⟨bT, 0, none⟩ (.slice pa8 (k + 1) c8) = z := ⟨_, rfl⟩
   rw [hx8] at HPn
   try rw [hx8]
   try (change Code.wp _ _ _ _ (w8.setCell ⟨bT, 0, none⟩ (.slice pa8 (k + 1) c8)); rw [hx8])
   clear hkE hVE hOE hk2 h2E hx8 HK8 HV8 HO8 HGr8 HO7s HVT HOk HR8 F7s HB7s e0 y0 HA6 HAt HEs HP hbx hbx6 hen hLx
   go_wp2_with fail
   go_roundw
   case rel => exact ⟨k + 1, _, _, by omega, by go_num, HPn.out⟩
   case measure => (simp [Go.RowKit.intOf]; try omega)
  ·obtain rfl : k = n := by omega
   obtain ⟨g9, c9, rfl⟩ : ∃ g c, vk = .slice (some ⟨g, 0, none⟩) k c := by
    rcases HP.out.nd.2 with ⟨-, h0⟩ | ⟨g, cap, cur, hv, -⟩
    ·omega
    ·exact ⟨g, cap, hv⟩
   obtain ⟨hsame, hres⟩ := Cp.end (w := w2) HP.out HN.out hgL h23 (Nat.le_refl _) HT1.out;have HSm := jh hsame;have HRs := jh hres;have HV9 := jh HP.out.v;have HR9 := jh HP.out.v.range0;have HF2 := jh (F2.out.below HP.out.hb hl2);have HB9 := jh (HB2.out.trans (HP.out.hb.mono hsz2));obtain ⟨dG, hug, hdg⟩ := Tryz.descGr;have HUG := jh hug;have HDG := jh hdg;clear hsame hres hug hdg F2 HP
   go_wp2_with (first | (refine wpList_load_mid rfl 46 _ rfl bT 0 rfl [.slice (some ⟨g9, 0, none⟩) k c9, .slice (some ⟨g', 0, none⟩) tn c', .int .i64 B] dG HR9.out HUG.out HDG.out Tryz.isizeGr ?_) | (refine wpList_store_list rfl 46 (.tmp 2) (.tmp 41) rfl b2 [.slice none 0 0, .slice none 0 0, .int .i64 0] [.slice (some ⟨g9, 0, none⟩) k c9, .slice (some ⟨g', 0, none⟩) tn c', .int .i64 B] rfl rfl HF2.out rfl Tryz.isizeGr (by simp [Value.oneCell']) ?_; intro w9 F9 HK9))
   have HB10 := jh (HB9.out.trans (HK9.out.below hb2w hb2w HB9.out.size));have HRz := jh ((RvG.kp HRs.out HK9.out hl2).mn hsz2);exact bodyPost_ret_by (results_mid rfl _ _ b2 _ dG rfl F9.out.range0 HUG.out HDG.out Tryz.isizeGr) rfl ⟨g9, c9, g', c', _, rfl, HSm.out, HRz.out, HB10.out⟩
end Go.Proofs.YtgdapkbenmlabaaGreatDoor
