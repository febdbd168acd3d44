import Derived.Test.YtgdapkbenmlabaaGreatDoorC20
import Derived.Deep.LoopGhost
/- The reference: Drop. -/
set_option linter.unusedSimpArgs false
set_option linter.unusedVariables false
set_option maxHeartbeats 40000000
set_option maxRecDepth 100000
namespace Go.Proofs.YtgdapkbenmlabaaGreatDoor
open Go.RowKit Go.Maps
def hasE (s : ByteArray) (E : List En) : Bool := E.any (mtE s)
theorem own_cap {w : World} {base : Nat} {e : TypeId} {size n g c : Nat} {xs : List Value} (h : w.ownsRow base e size (.slice (some ⟨g, 0, none⟩) n c) n xs) : n ≤ c := by
 rcases h.2 with ⟨hv, -⟩ | ⟨g', cap', cur, hv, hb, hg, hc, -⟩
 ·cases hv
 ·injection hv with h1 h2 h3
  omega
def Uq (s : ByteArray) (E : List En) : Prop := ∀ (a b : Nat) (e f : En), E[a]? = some e → E[b]? = some f → mtE s e = true → mtE s f = true → a = b
def stE (M : List Nm) (di : Nat) (dm : Nm) (E : List En) (v : Value) : List Nm := M.set di (⟨dm.1.k, dm.1.l, dm.1.g, E⟩, dm.2.1, v)
theorem stE_at {M : List Nm} {di : Nat} {dm : Nm} {E : List En} {v : Value} (h : di < M.length) : (stE M di dm E v)[di]? = some (⟨dm.1.k, dm.1.l, dm.1.g, E⟩, dm.2.1, v) := by
 unfold stE;rw [List.getElem?_set_self h]
theorem stE_len (M : List Nm) (di : Nat) (dm : Nm) (E : List En) (v : Value) : (stE M di dm E v).length = M.length := List.length_set ..
theorem stE_set (M : List Nm) (di : Nat) (dm : Nm) (E : List En) (v : Value) (E' : List En) (v' : Value) : (stE M di dm E v).set di (⟨dm.1.k, dm.1.l, dm.1.g, E'⟩, dm.2.1, v') = stE M di dm E' v' := by
 unfold stE;rw [List.set_set]
theorem stE_self {M : List Nm} {di : Nat} {dm : Nm} (h : M[di]? = some dm) : stE M di dm dm.1.E dm.2.2 = M := by
 unfold stE;obtain ⟨hl, he⟩ := List.getElem?_eq_some_iff.1 h;have : ((⟨dm.1.k, dm.1.l, dm.1.g, dm.1.E⟩, dm.2.1, dm.2.2) : Nm) = dm := rfl;rw [this, ← he, List.set_getElem_self]
def drE (E : List En) (i k : Nat) : List En := if k ≤ i then E else E.set i zE
theorem drE_len (E : List En) (i k : Nat) : (drE E i k).length = E.length := by
 unfold drE
 split
 ·rfl
 ·rw [List.length_set]
theorem drE_at {E : List En} {i k : Nat} {e : En} (h : E[k]? = some e) (hk : k ≠ i ∨ k ≤ i) : (drE E i k)[k]? = some e := by
 unfold drE
 split
 ·exact h
 ·rw [List.getElem?_set_ne (by omega)];exact h
theorem drE_next {E : List En} {i k : Nat} (h : k ≠ i) : drE E i (k + 1) = drE E i k := by
 unfold drE
 by_cases h1 : k ≤ i
 ·rw [if_pos h1, if_pos (by omega)]
 ·rw [if_neg h1, if_neg (by omega)]
theorem drE_now (E : List En) (i : Nat) : drE E i (i + 1) = (drE E i i).set i zE := by
 unfold drE;rw [if_neg (by omega), if_pos (Nat.le_refl _)]
theorem drE_end {E : List En} {i n : Nat} (hi : i < n) : drE E i n = E.set i zE := by
 unfold drE;rw [if_neg (by omega)]
theorem rdrop_any (base r o g capn tn : Nat) (vt : Value) (M : List Nm) (tc : List Value) (B : Int) (di : Nat) (dm : Nm) (hm : M[di]? = some dm) (hM : M.length ≤ 200) (hk : dm.1.k = 2) (hE : ∀ e ∈ dm.1.E, e = zE ∨ okE e) (hl : dm.1.E.length ≤ 1000) (s : ByteArray) (hU : Uq s dm.1.E) (w : World) (h : Gm w base r o (.slice (some ⟨g, 0, none⟩) M.length capn) vt M tn tc B) :
  Calls Tryz.prog 20 #[.pointer (some ⟨r, o, none⟩), .int .i64 di, .string s] w fun e w' =>
   ((∀ e ∈ dm.1.E, mtE s e = false) ∧ e = .returned (.int .i64 3) ∧ w' = w) ∨
   (hasE s dm.1.E = true ∧ Kp w w' g (dm.2.2.ownBlock.getD w.heap.size) ∧ (∃ v', Gm w' base r o (.slice (some ⟨g, 0, none⟩) M.length capn) vt (stE M di dm ((dm.1.E.set (findN s dm.1.E) zE).take (usedN (dm.1.E.set (findN s dm.1.E) zE))) v') tn tc B ∧ ∀ k, v'.ownBlock = some k → dm.2.2.ownBlock = some k ∨ w.heap.size ≤ k) ∧ e = .returned (.int .i64 0)) := by
 obtain ⟨dE, hu, hd⟩ := Tryz.descEn;have HU := jh hu;have HDd := jh hd;have HG := jh h;have HFi := jh (fun W hW => rfindg_any base r o g capn tn vt M tc B di dm hm hM hk hE (Nat.le_trans hl (by decide)) s W hW);have hdi : di < M.length := (List.getElem?_eq_some_iff.1 hm).1;have HDi := jh hdi
 have hi0 : (0 : Int) ≤ di := by omega
 have hi1 : (di : Int) < M.length := by omega
 have HMm := jh hm;have HOk := jh hE;have HUq := jh hU;obtain ⟨pa, cap, hv⟩ : ∃ pa cap, dm.2.2 = .slice pa dm.1.E.length cap := ownsRow_slice (h.v.es dm (List.mem_of_getElem? hm));have HV := jh hv
 obtain ⟨mn, hmn⟩ : ∃ z, M.length = z := ⟨_, rfl⟩
 have HMn := jh hmn
 obtain ⟨n, hn⟩ : ∃ n, dm.1.E.length = n := ⟨_, rfl⟩
 have HN := jh hn
 have hln0 : (n : Int) ≤ 1000 := by omega
 rw [hmn] at hi1;clear h hm hM hk hE hl hu hd hdi hv hmn hn hU
 go_enter Tryz.func20, Tryz.ntmps20
 go_wp2_with fail
 refine (HFi.out w HG.out).mono ?_;rintro e w1 ⟨hw1, hr⟩;subst hw1;clear HFi;have c0 : w1.cell? ⟨r, o, none⟩ = some (.slice (some ⟨g, 0, none⟩) mn capn) := (HG.out.c 0 _ rfl).trans (by rw [HMn.out]);rcases hr with ⟨i, e', he, hme, hfi, rfl⟩ | ⟨hno, rfl⟩
 ·have hfn : i = findN s dm.1.E := find_eq s dm.1.E i e' he hme hfi
  have hin : i < n := by rw [← HN.out]; exact (List.getElem?_eq_some_iff.1 he).1
  obtain ⟨pg, hpg⟩ : ∃ pg, pa = some ⟨pg, 0, none⟩ := by
   obtain ⟨pa', cap', hv', hes⟩ := Es.own (HG.out.v.es dm (List.mem_of_getElem? HMm.out));obtain ⟨pg, hpg, -⟩ := hes i e' he;have h9 := HV.out.symm.trans hv'
   injection h9 with h9
   exact ⟨pg, by rw [h9, hpg]⟩
  subst hpg;have HAny := jh (List.any_eq_true.2 ⟨e', List.mem_of_getElem? he, hme⟩ : hasE s dm.1.E = true);have HI := jh he;have HMe := jh hme;have HFn := jh hfn;have HIn := jh hin
  have HGs : Hid (Gm w1 base r o (.slice (some ⟨g, 0, none⟩) M.length capn) vt (stE M di dm (drE dm.1.E i 0) (.slice (some ⟨pg, 0, none⟩) n cap)) tn tc B) := jh (by
   have h9 := HG.out;have h8 := stE_self HMm.out;rw [HV.out, HN.out] at h8;rw [show drE dm.1.E i 0 = dm.1.E from if_pos (Nat.zero_le _), h8]
   exact h9)
  clear he hme hfi hfn hin
  go_wp2_with fail
  clear c0
  go_loopw [10] (fun iv wr => ∃ k : Nat, k ≤ n ∧ iv = .int .i64 k ∧ Kp w1 wr g pg ∧ Gm wr base r o (.slice (some ⟨g, 0, none⟩) M.length capn) vt (stE M di dm (drE dm.1.E i k) (.slice (some ⟨pg, 0, none⟩) n cap)) tn tc B) (fun iv _ => n - (Go.RowKit.intOf iv).toNat)
  case atStart => exact ⟨0, Nat.zero_le _, rfl, Kp.refl _ _ _, HGs.out⟩
  case round =>
   obtain ⟨k, hk, rfl, hkp, hg⟩ := hrel;have HKp := jh hkp;have HGk := jh hg;clear hkp hg HGs;have ce : wr.cell? ⟨g, di * 5 + 4, none⟩ = some (.slice (some ⟨pg, 0, none⟩) n cap) := RvG.at (M := stE M di dm (drE dm.1.E i k) (.slice (some ⟨pg, 0, none⟩) n cap)) (by rw [stE_len]; exact HGk.out.v) (stE_at HDi.out) 4 _ rfl
   by_cases hkn : k < n
   ·have hkn1 : (k : Int) < n := by omega
    have hk0 : (0 : Int) ≤ k := by omega
    obtain ⟨e, he⟩ : ∃ e, dm.1.E[k]? = some e := ⟨_, List.getElem?_eq_getElem (by rw [HN.out]; exact hkn)⟩
    have HHe := jh he;have hes := Es.own (HGk.out.v.es _ (List.mem_of_getElem? (stE_at HDi.out)));obtain ⟨pa', cap', hv', hes⟩ := hes;have hrd : (drE dm.1.E i k)[k]? = some e := drE_at he (by omega);obtain ⟨pg', hpg, hr⟩ := hes k e hrd
    have hpp : pg' = pg := by
     injection hv' with h9
     rw [hpg] at h9
     injection h9 with h9
     injection h9 with h9
     exact h9.symm
    subst hpp;have hmt := mtE_iffG s (HOk.out e (List.mem_of_getElem? he));obtain ⟨es, en⟩ := e;have cA : wr.cell? ⟨pg', k * 2, none⟩ = some (.string es) := hr 0 _ rfl;have cB : wr.cell? ⟨pg', k * 2 + 1, none⟩ = some (.int .u16 en) := hr 1 _ rfl;have HMt : Hid (mtE s (es, en) = (decide (0 < en) && (es.toList == s.toList))) := jh hmt;clear hv' hpg hr hmt he hes hrd
    by_cases h00 : en = 0
    ·subst h00;have HM := jh (HMt.out.trans (by rfl) : mtE s (es, 0) = false)
     have HNe : Hid (k ≠ i) := jh (fun e9 => by
      subst e9;have h9 := HHe.out.symm.trans HI.out
      injection h9 with h9
      have h8 := HMe.out;rw [← h9, HM.out] at h8
      cases h8)
     clear HMt
     go_wp2_with fail
     go_roundw
     case rel =>
      refine ⟨k + 1, by omega, by go_num, HKp.out, ?_⟩;rw [drE_next HNe.out];exact HGk.out
     case measure => (simp [Go.RowKit.intOf]; try omega)
    ·have h00i : (0 : Int) < en := by omega
     have hd0 : decide (0 < en) = true := decide_eq_true (by omega);rw [hd0] at HMt;clear hd0 h00
     cases hmm : (es.toList == s.toList)
     ·have HM := jh (HMt.out.trans (by rw [hmm]; rfl) : mtE s (es, en) = false)
      have HNe : Hid (k ≠ i) := jh (fun e9 => by
       subst e9;have h9 := HHe.out.symm.trans HI.out
       injection h9 with h9
       have h8 := HMe.out;rw [← h9, HM.out] at h8
       cases h8)
      clear HMt
      go_wp2_with fail
      go_roundw
      case rel =>
       refine ⟨k + 1, by omega, by go_num, HKp.out, ?_⟩;rw [drE_next HNe.out];exact HGk.out
      case measure => (simp [Go.RowKit.intOf]; try omega)
     ·have HM := jh (HMt.out.trans (by rw [hmm]; rfl) : mtE s (es, en) = true);have hki : k = i := HUq.out k i _ _ HHe.out HI.out HM.out HMe.out;subst hki;clear HMt;have hst := HGk.out.setE (stE_at HDi.out) (k := k) (cap := cap) (pg := pg') (by rw [drE_len, HN.out]) (by rw [drE_len, HN.out]; exact hkn) zE;rw [stE_set] at hst
      have HSt : Hid (Gm (wr.setCells pg' (k * 2) (enc zE)) base r o (.slice (some ⟨g, 0, none⟩) M.length capn) vt (stE M di dm (drE dm.1.E k (k + 1)) (.slice (some ⟨pg', 0, none⟩) n cap)) tn tc B) := jh (by
       rw [drE_now]
       exact hst)
      have hth := own_there (by have h9 := HGk.out.v.es _ (List.mem_of_getElem? (stE_at HDi.out)); rw [show n = (drE dm.1.E k k).length from by rw [drE_len, HN.out]] at h9; exact h9) k (by rw [drE_len, HN.out]; exact hkn);have HTh := jh hth;have HK2 := jh (HKp.out.setCells pg' (k * 2) (.inr rfl) (enc zE));clear hst hth
      go_wp2_with (refine wpList_store_mid rfl 58 _ _ rfl pg' (k * 2) (enc zE).toArray rfl rfl HTh.out (sizeEn _) (all_oneCell_toArray (enc_one _)) ?_; change wpList _ _ _ _ _ (wr.setCells pg' (k * 2) (enc zE)); obtain ⟨w9, hw9⟩ : ∃ x, wr.setCells pg' (k * 2) (enc zE) = x := ⟨_, rfl⟩; rw [hw9] at HSt HK2 ⊢; clear hw9 HTh ce cA cB HGk HKp)
      go_roundw
      case rel => exact ⟨k + 1, by omega, by go_num, HK2.out, HSt.out⟩
      case measure => (simp [Go.RowKit.intOf]; try omega)
   ·obtain rfl : k = n := by omega
    have hE9 : drE dm.1.E i k = dm.1.E.set i zE := drE_end HIn.out;rw [hE9] at HGk;clear hE9
    go_wp2_with fail
    clear ce
    have HKd : ∀ W, Kp w1 W g pg → Kp w1 W g (dm.2.2.ownBlock.getD w1.heap.size) := fun W h => by rw [HV.out]; exact h
    replace HKd := jh HKd
    obtain ⟨F, hF⟩ : ∃ F, dm.1.E.set i zE = F := ⟨_, rfl⟩
    rw [hF] at HGk
    have hFl : F.length = k := by rw [← hF, List.length_set, HN.out]
    have HFl := jh hFl;have HF := jh hF
    have HFok : Hid (∀ e ∈ F, e = zE ∨ okE e) := jh (fun e he => by
     rw [← hF] at he;rcases List.mem_or_eq_of_mem_set he with he | he
     ·exact HOk.out e he
     ·exact .inl he)
    have HG0 : Hid (Gm wr base r o (.slice (some ⟨g, 0, none⟩) M.length capn) vt (stE M di dm (F.take k) (.slice (some ⟨pg, 0, none⟩) k cap)) tn tc B) := jh (by
     rw [List.take_of_length_le (Nat.le_of_eq hFl)]
     exact HGk.out)
    clear hF hFl HGk hkn hk
    go_loopg [] k (fun u wq => u ≤ k ∧ Kp w1 wq g pg ∧ Gm wq base r o (.slice (some ⟨g, 0, none⟩) M.length capn) vt (stE M di dm (F.take u) (.slice (some ⟨pg, 0, none⟩) u cap)) tn tc B ∧ ∀ j e', u ≤ j → F[j]? = some e' → vacE e' = true)
    case atStart => exact ⟨Nat.le_refl _, HKp.out, HG0.out, fun j e' hj he => by
     have := (List.getElem?_eq_some_iff.1 he).1;have := HFl.out
     omega⟩
    case round =>
     obtain ⟨u, hgk⟩ : ∃ u, gk = u := ⟨_, rfl⟩
     subst hgk;obtain ⟨huk, hkp, hg, hvac⟩ := hrel;have HKu := jh hkp;have HGu := jh hg;have HVac := jh hvac;have HUk := jh huk
     have hlu : (F.take gk).length = gk := by rw [List.length_take]; have := HFl.out; omega
     have HLu := jh hlu;have ce : wr.cell? ⟨g, di * 5 + 4, none⟩ = some (.slice (some ⟨pg, 0, none⟩) gk cap) := RvG.at (M := stE M di dm (F.take gk) (.slice (some ⟨pg, 0, none⟩) gk cap)) (by rw [stE_len]; exact HGu.out.v) (stE_at HDi.out) 4 _ rfl;clear hkp hg hvac hlu HG0 HKp HIn
     by_cases hu0 : gk = 0
     ·have hz : ¬ (0 : Int) < gk := by omega
      have hzd : decide ((0 : Int) < gk) = false := decide_eq_false hz;have HU0 : Hid (0 = usedN F) := jh (used_eq F 0 ⟨Nat.zero_le _, fun j e' hj he => HVac.out j e' (by omega) he, .inl rfl⟩)
      have HGz : Hid (∀ W, Gm W base r o (.slice (some ⟨g, 0, none⟩) M.length capn) vt (stE M di dm (F.take gk) (.slice (some ⟨pg, 0, none⟩) gk cap)) tn tc B → ∃ v', Gm W base r o (.slice (some ⟨g, 0, none⟩) M.length capn) vt (stE M di dm (F.take (usedN F)) v') tn tc B ∧ ∀ k, v'.ownBlock = some k → dm.2.2.ownBlock = some k ∨ w1.heap.size ≤ k) := jh (fun W h9 => by
       rw [← HU0.out];rw [hu0] at h9
       exact ⟨_, h9, fun k hk => .inl (by rw [HV.out]; exact hk)⟩)
      clear hu0 huk
      go_upto_region 10 with fail
      refine wp_region_held (S := fun W => W.cell? ⟨g, di * 5 + 4, none⟩ = some (.slice (some ⟨pg, 0, none⟩) gk cap)) (by kernel_rfl) ?_;change wpAnyH _ _ _ _ _ _ _ _ (World.drew _);have hS0 : (fun W : World => W.cell? ⟨g, di * 5 + 4, none⟩ = some (.slice (some ⟨pg, 0, none⟩) gk cap)) wr.drew := ce;have hGy : Gm (World.drew wr) base r o (.slice (some ⟨g, 0, none⟩) M.length capn) vt (stE M di dm (F.take gk) (.slice (some ⟨pg, 0, none⟩) gk cap)) tn tc B := HGu.out.keep (Below.refl _ _).drew;have hKy : Kp w1 (World.drew wr) g pg := HKu.out.drew
      obtain ⟨y0, hy0⟩ : ∃ x, World.drew wr = x := ⟨_, rfl⟩
      rw [hy0] at hS0 hGy hKy ⊢;have HGy := jh hGy;have HKy := jh hKy;clear hy0 hGy hKy;clear ce;refine jk 0 (v:=?_) rfl (by kernel_rfl) (fun _ _ _=>id) (by rfl) ?_ hS0 ?_;rotate_left
      ·intro W hW;go_simp;try with_reducible rfl
      simp only [Act.put,j1,j2,j3,j4,j5,j6];refine jk 1 (v:=?_) rfl (by kernel_rfl) (fun _ _ _=>id) (by rfl) ?_ hS0 ?_;rotate_left
      ·intro W hW;go_simp;try with_reducible rfl
      simp only [Act.put,j1,j2,j3,j4,j5,j6];refine jk 2 (v:=?_) rfl (by kernel_rfl) (fun _ _ _=>id) (by rfl) ?_ hS0 ?_;rotate_left
      ·intro W hW;go_simp;try with_reducible rfl
      simp only [Act.put,j1,j2,j3,j4,j5,j6];refine jk 3 (v:=?_) rfl (by kernel_rfl) (fun _ _ _=>id) (by rfl) ?_ hS0 ?_;rotate_left 1
      ·intro W hW;have h1 := hW;go_simp
       try with_reducible rfl
      simp only [Act.put,j1,j2,j3,j4,j5,j6];refine jk 4 (v:=?_) rfl (by kernel_rfl) (fun _ _ _=>id) (by rfl) ?_ hS0 ?_;rotate_left
      ·intro W hW;go_simp;try with_reducible rfl
      simp only [Act.put,j1,j2,j3,j4,j5,j6];refine jx 5 (v := .bool false) rfl (by kernel_rfl) (fun _ _ _=>id) (Or.inl ⟨by rfl, ?_⟩) hS0 ?_
      ·intro W hW;go_simp
       try with_reducible rfl
       try omega
      simp only [Act.put,j1,j2,j3,j4,j5,j6];refine jk 6 (v:=?_) rfl (by kernel_rfl) (fun _ _ _=>id) (by rfl) ?_ hS0 ?_;rotate_left
      ·intro W hW;go_simp;try with_reducible rfl
      simp only [Act.put,j1,j2,j3,j4,j5,j6];refine jx 7 (v := undef) rfl (by kernel_rfl) (fun _ _ _=>id) (Or.inr ⟨by rfl, rfl⟩) hS0 ?_;simp only [Act.put,j1,j2,j3,j4,j5,j6];refine jx 8 (v := undef) rfl (by kernel_rfl) (fun _ _ _=>id) (Or.inr ⟨by rfl, rfl⟩) hS0 ?_;simp only [Act.put,j1,j2,j3,j4,j5,j6];refine jx 9 (v := undef) rfl (by kernel_rfl) (fun _ _ _=>id) (Or.inr ⟨by rfl, rfl⟩) hS0 ?_;simp only [Act.put,j1,j2,j3,j4,j5,j6];refine jx 10 (v := undef) rfl (by kernel_rfl) (fun _ _ _=>id) (Or.inr ⟨by rfl, rfl⟩) hS0 ?_;simp only [Act.put,j1,j2,j3,j4,j5,j6];refine jx 11 (v := undef) rfl (by kernel_rfl) (fun _ _ _=>id) (Or.inr ⟨by rfl, rfl⟩) hS0 ?_;simp only [Act.put,j1,j2,j3,j4,j5,j6];refine jx 12 (v := undef) rfl (by kernel_rfl) (fun _ _ _=>id) (Or.inr ⟨by rfl, rfl⟩) hS0 ?_;simp only [Act.put,j1,j2,j3,j4,j5,j6];refine jx 13 (v := undef) rfl (by kernel_rfl) (fun _ _ _=>id) (Or.inr ⟨by rfl, rfl⟩) hS0 ?_;simp only [Act.put,j1,j2,j3,j4,j5,j6];refine jx 14 (v := undef) rfl (by kernel_rfl) (fun _ _ _=>id) (Or.inr ⟨by rfl, rfl⟩) hS0 ?_;simp only [Act.put,j1,j2,j3,j4,j5,j6];refine jx 15 (v := undef) rfl (by kernel_rfl) (fun _ _ _=>id) (Or.inr ⟨by rfl, rfl⟩) hS0 ?_;simp only [Act.put,j1,j2,j3,j4,j5,j6];refine jx 16 (v := undef) rfl (by kernel_rfl) (fun _ _ _=>id) (Or.inr ⟨by rfl, rfl⟩) hS0 ?_;simp only [Act.put,j1,j2,j3,j4,j5,j6];refine jx 17 (v := undef) rfl (by kernel_rfl) (fun _ _ _=>id) (Or.inr ⟨by rfl, rfl⟩) hS0 ?_;simp only [Act.put,j1,j2,j3,j4,j5,j6];refine jx 18 (v := undef) rfl (by kernel_rfl) (fun _ _ _=>id) (Or.inr ⟨by rfl, rfl⟩) hS0 ?_;simp only [Act.put,j1,j2,j3,j4,j5,j6];refine jx 19 (v := undef) rfl (by kernel_rfl) (fun _ _ _=>id) (Or.inr ⟨by rfl, rfl⟩) hS0 ?_;simp only [Act.put,j1,j2,j3,j4,j5,j6];refine jx 20 (v := undef) rfl (by kernel_rfl) (fun _ _ _=>id) (Or.inr ⟨by rfl, rfl⟩) hS0 ?_;simp only [Act.put,j1,j2,j3,j4,j5,j6];refine jx 21 (v := .bool false) rfl (by kernel_rfl) (fun _ _ _=>id) (Or.inl ⟨by rfl, ?_⟩) hS0 ?_
      ·intro W hW;go_simp
       try with_reducible rfl
       try omega
      simp only [Act.put,j1,j2,j3,j4,j5,j6];refine wpAnyH_done (by kernel_rfl) ?_ _
      go_wp2_with fail
      go_ret
      refine .inr ⟨HAny.out, HKd.out _ HKy.out, ?_, by first | rfl | trivial⟩;rw [← HFn.out, HF.out];exact HGz.out _ HGy.out
     ·obtain ⟨v, hv⟩ : ∃ v, gk = v + 1 := ⟨gk - 1, by omega⟩
      have HV1 := jh hv
      have hz : (0 : Int) < gk := by omega
      have hzd : decide ((0 : Int) < gk) = true := decide_eq_true hz
      have hw1 : IntKind.i64.wrap ((gk : Int) - 1) = (v : Int) := by rw [IntWalk.i64_in _ (by omega)]; omega
      have hv0 : (0 : Int) ≤ v := by omega
      have hvu : (v : Int) < gk := by omega
      have hrow := HGu.out.v.es _ (List.mem_of_getElem? (stE_at HDi.out))
      have hcap : gk ≤ cap := by
       have h9 : wr.ownsRow base 58 2 (.slice (some ⟨pg, 0, none⟩) gk cap) (F.take gk).length (flatE (F.take gk)) := hrow;rw [HLu.out] at h9;exact own_cap h9
      have hvc : (v : Int) ≤ cap := by omega
      obtain ⟨e, he⟩ : ∃ e, F[v]? = some e := ⟨_, List.getElem?_eq_getElem (by have := HFl.out; omega)⟩
      have HHe := jh he;have hes := Es.own hrow;obtain ⟨pa', cap', hv', hes⟩ := hes
      have hrd : (F.take gk)[v]? = some e := by rw [List.getElem?_take, if_pos (by omega)]; exact he
      obtain ⟨pg', hpg, hr⟩ := hes v e hrd
      have hpp : pg' = pg := by
       injection hv' with h9
       rw [hpg] at h9
       injection h9 with h9
       injection h9 with h9
       exact h9.symm
      subst hpp;have hvn := vac_num (HFok.out e (List.mem_of_getElem? he));obtain ⟨es, en⟩ := e;have cB : wr.cell? ⟨pg', v * 2 + 1, none⟩ = some (.int .u16 en) := hr 1 _ rfl;have HVn : Hid (vacE (es, en) = decide (en = 0)) := jh hvn;clear hu0 huk hv hrow hcap he hes hv' hrd hpg hr hvn
      by_cases h00 : en = 0
      ·subst h00
       go_upto_region 10 with fail
       refine wp_region_held (S := fun W => W.cell? ⟨g, di * 5 + 4, none⟩ = some (.slice (some ⟨pg', 0, none⟩) gk cap) ∧ W.cell? ⟨pg', v * 2 + 1, none⟩ = some (.int .u16 ((0 : Nat) : Int))) (by kernel_rfl) ?_;change wpAnyH _ _ _ _ _ _ _ _ (World.drew _)
       have hS0 : (fun W : World => W.cell? ⟨g, di * 5 + 4, none⟩ = some (.slice (some ⟨pg', 0, none⟩) gk cap) ∧ W.cell? ⟨pg', v * 2 + 1, none⟩ = some (.int .u16 ((0 : Nat) : Int))) wr.drew := ⟨ce, cB⟩
       have hGy : Gm (World.drew wr) base r o (.slice (some ⟨g, 0, none⟩) M.length capn) vt (stE M di dm (F.take gk) (.slice (some ⟨pg', 0, none⟩) gk cap)) tn tc B := HGu.out.keep (Below.refl _ _).drew;have hKy : Kp w1 (World.drew wr) g pg' := HKu.out.drew
       obtain ⟨y0, hy0⟩ : ∃ x, World.drew wr = x := ⟨_, rfl⟩
       rw [hy0] at hS0 hGy hKy ⊢;have HGy := jh hGy;have HKy := jh hKy;clear hy0 hGy hKy;clear ce cB;have ce := hS0.1;have cB := hS0.2;refine jk 0 (v:=?_) rfl (by kernel_rfl) (fun _ _ _=>id) (by rfl) ?_ hS0 ?_;rotate_left
       ·intro W hW;go_simp;try with_reducible rfl
       simp only [Act.put,j1,j2,j3,j4,j5,j6];refine jk 1 (v:=?_) rfl (by kernel_rfl) (fun _ _ _=>id) (by rfl) ?_ hS0 ?_;rotate_left
       ·intro W hW;go_simp;try with_reducible rfl
       simp only [Act.put,j1,j2,j3,j4,j5,j6];refine jk 2 (v:=?_) rfl (by kernel_rfl) (fun _ _ _=>id) (by rfl) ?_ hS0 ?_;rotate_left
       ·intro W hW;go_simp;try with_reducible rfl
       simp only [Act.put,j1,j2,j3,j4,j5,j6];refine jk 3 (v:=?_) rfl (by kernel_rfl) (fun _ _ _=>id) (by rfl) ?_ hS0 ?_;rotate_left 1
       ·intro W hW;have h1 := hW.1;go_simp
        try with_reducible rfl
       simp only [Act.put,j1,j2,j3,j4,j5,j6];refine jk 4 (v:=?_) rfl (by kernel_rfl) (fun _ _ _=>id) (by rfl) ?_ hS0 ?_;rotate_left
       ·intro W hW;go_simp;try with_reducible rfl
       simp only [Act.put,j1,j2,j3,j4,j5,j6];refine jx 5 (v := .bool true) rfl (by kernel_rfl) (fun _ _ _=>id) (Or.inl ⟨by rfl, ?_⟩) hS0 ?_
       ·intro W hW;go_simp
        try with_reducible rfl
        try omega
       simp only [Act.put,j1,j2,j3,j4,j5,j6];refine jk 6 (v:=?_) rfl (by kernel_rfl) (fun _ _ _=>id) (by rfl) ?_ hS0 ?_;rotate_left
       ·intro W hW;go_simp;try with_reducible rfl
       simp only [Act.put,j1,j2,j3,j4,j5,j6];refine jk 7 (v:=?_) rfl (by kernel_rfl) (fun _ _ _=>id) (by rfl) ?_ hS0 ?_;rotate_left
       ·intro W hW;go_simp;try with_reducible rfl
       simp only [Act.put,j1,j2,j3,j4,j5,j6];refine jk 8 (v:=?_) rfl (by kernel_rfl) (fun _ _ _=>id) (by rfl) ?_ hS0 ?_;rotate_left
       ·intro W hW;go_simp;try with_reducible rfl
       simp only [Act.put,j1,j2,j3,j4,j5,j6];refine jk 9 (v:=?_) rfl (by kernel_rfl) (fun _ _ _=>id) (by rfl) ?_ hS0 ?_;rotate_left
       ·intro W hW;go_simp;try with_reducible rfl
       simp only [Act.put,j1,j2,j3,j4,j5,j6];refine jk 10 (v:=?_) rfl (by kernel_rfl) (fun _ _ _=>id) (by rfl) ?_ hS0 ?_;rotate_left 1
       ·intro W hW;have h1 := hW.1;go_simp
        try with_reducible rfl
       simp only [Act.put,j1,j2,j3,j4,j5,j6];refine jk 11 (v:=?_) rfl (by kernel_rfl) (fun _ _ _=>id) (by rfl) ?_ hS0 ?_;rotate_left
       ·intro W hW;go_simp;try with_reducible rfl
       simp only [Act.put,j1,j2,j3,j4,j5,j6];refine jk 12 (v:=?_) rfl (by kernel_rfl) (fun _ _ _=>id) (by rfl) ?_ hS0 ?_;rotate_left
       ·intro W hW;go_simp;try with_reducible rfl
       simp only [Act.put,j1,j2,j3,j4,j5,j6];refine jk 13 (v:=?_) rfl (by kernel_rfl) (fun _ _ _=>id) (by rfl) ?_ hS0 ?_;rotate_left
       ·intro W hW;go_simp;try with_reducible rfl
       simp only [Act.put,j1,j2,j3,j4,j5,j6];refine jk 14 (v:=?_) rfl (by kernel_rfl) (fun _ _ _=>id) (by rfl) ?_ hS0 ?_;rotate_left 1
       ·intro W hW;have h1 := hW.1;go_simp
        try with_reducible rfl
       simp only [Act.put,j1,j2,j3,j4,j5,j6];refine jk 15 (v:=?_) rfl (by kernel_rfl) (fun _ _ _=>id) (by rfl) ?_ hS0 ?_;rotate_left
       ·intro W hW;go_simp;try with_reducible rfl
       simp only [Act.put,j1,j2,j3,j4,j5,j6];refine jk 16 (v:=?_) rfl (by kernel_rfl) (fun _ _ _=>id) (by rfl) ?_ hS0 ?_;rotate_left
       ·intro W hW;go_simp;try with_reducible rfl
       simp only [Act.put,j1,j2,j3,j4,j5,j6];refine jk 17 (v:=?_) rfl (by kernel_rfl) (fun _ _ _=>id) (by rfl) ?_ hS0 ?_;rotate_left
       ·intro W hW;go_simp;try with_reducible rfl
       simp only [Act.put,j1,j2,j3,j4,j5,j6];refine jk 18 (v:=?_) rfl (by kernel_rfl) (fun _ _ _=>id) (by rfl) ?_ hS0 ?_;rotate_left
       ·intro W hW;go_simp;try with_reducible rfl
       simp only [Act.put,j1,j2,j3,j4,j5,j6];refine jk 19 (v:=?_) rfl (by kernel_rfl) (fun _ _ _=>id) (by rfl) ?_ hS0 ?_;rotate_left 1
       ·intro W hW;have h1 := hW.2;go_simp
        try with_reducible rfl
       simp only [Act.put,j1,j2,j3,j4,j5,j6];refine jx 20 (v := .bool true) rfl (by kernel_rfl) (fun _ _ _=>id) (Or.inl ⟨by rfl, ?_⟩) hS0 ?_
       ·intro W hW;go_simp
        try with_reducible rfl
        try omega
       simp only [Act.put,j1,j2,j3,j4,j5,j6];refine jx 21 (v := .bool true) rfl (by kernel_rfl) (fun _ _ _=>id) (Or.inl ⟨by rfl, ?_⟩) hS0 ?_
       ·intro W hW;go_simp
        try with_reducible rfl
        try omega
       simp only [Act.put,j1,j2,j3,j4,j5,j6];refine wpAnyH_done (by kernel_rfl) ?_ _
       go_upto_region 11 with fail
       refine Cf.wp_region_split (C := fun w' => ∃ q, w' = y0.drewN q) 14 (by kernel_rfl) (of_decide_eq_true (by kernel_rfl)) (by kernel_rfl) (by kernel_rfl) (by kernel_rfl) ⟨1, rfl⟩ ?_;simp only [List.take_succ_cons, List.take_zero]
       repeat (quiet_step (fail))
       refine wpQuiet_nil ?_;intro wy hw';obtain ⟨q, rfl⟩ := hw';refine Cf.wpAny_last 14 (by kernel_rfl) (by kernel_rfl) (Cf.wpOp_step0 rfl rfl (fun K hK => ?_));have hbd : Below y0.heap.size y0 (y0.drewN q) := Cf.below_drewN' (Below.refl _ y0) q;have hGd := HGy.out.keep hbd;have hrow := hGd.v.es _ (List.mem_of_getElem? (stE_at HDi.out))
       have hrow2 : (y0.drewN q).ownsRow base 58 2 (.slice (some ⟨pg', 0, none⟩) gk cap) gk (flatE (F.take gk)) := by
        have h9 : (y0.drewN q).ownsRow base 58 2 (.slice (some ⟨pg', 0, none⟩) gk cap) (F.take gk).length (flatE (F.take gk)) := hrow;rw [HLu.out] at h9;exact h9
       have hrow3 := own_take hrow2 v (by omega);rw [flatE_take, List.take_take, Nat.min_eq_left (by omega)] at hrow3
       have hlv : (F.take v).length = v := by rw [List.length_take]; have := HFl.out; have := HUk.out; omega
       have hrow4 : (y0.drewN q).ownsRow base 58 2 (.slice (some ⟨pg', 0, none⟩) v cap) (F.take v).length (flatE (F.take v)) := by
        rw [hlv];exact hrow3
       have hGd2 : Gm (y0.drewN q) base r o (.slice (some ⟨g, 0, none⟩) (stE M di dm (F.take gk) (.slice (some ⟨pg', 0, none⟩) gk cap)).length capn) vt (stE M di dm (F.take gk) (.slice (some ⟨pg', 0, none⟩) gk cap)) tn tc B := by
        rw [stE_len];exact hGd
       have hput := Gm.put hGd2 (stE_at HDi.out) ⟨rfl, rfl, rfl, Nat.le_refl _, fun _ _ _ => rfl⟩ (F.take v) (.slice (some ⟨pg', 0, none⟩) v cap) hrow4 (fun k hk => .inl hk);rw [stE_set, stE_len] at hput;have hkq : Kp w1 ((y0.drewN q).setCell ⟨g, di * 5 + 4, none⟩ (.slice (some ⟨pg', 0, none⟩) v cap)) g pg' := (HKy.out.trans (Kp.of_below hbd g pg')).setCell _ (.inl rfl) _;have cq : (y0.drewN q).cell? ⟨g, di * 5 + 4, none⟩ = some (.slice (some ⟨pg', 0, none⟩) gk cap) := RvG.at (M := stE M di dm (F.take gk) (.slice (some ⟨pg', 0, none⟩) gk cap)) (by rw [stE_len]; exact hGd.v) (stE_at HDi.out) 4 _ rfl;have zq : (y0.drewN q).frozen? ⟨g, di * 5 + 4, none⟩ = false := World.ownsRow.frozenAt hGd2.v.nd _;clear hrow hrow2 hrow3 hlv hrow4;have HPut := jh hput;have HKq := jh hkq;clear hput hkq hGd hGd2 hbd;go_simp
       obtain ⟨w9, hw9⟩ : ∃ x, (y0.drewN q).setCell ⟨g, di * 5 + 4, none⟩ (.slice (some ⟨pg', 0, none⟩) v cap) = x := ⟨_, rfl⟩
       rw [hw9] at HPut HKq ⊢;refine hK _ _ ?_;clear hw9 cq zq hK K ce cB hS0 HGy HKy hz hzd hw1 hv0 hvu hvc
       go_wp2_with fail
       go_roundg v
       case rel =>
        refine ⟨by have := HV1.out; have := HUk.out; omega, HKq.out, HPut.out, fun j e' hj he => ?_⟩
        by_cases ej : j = v
        ·rw [ej, HHe.out] at he
         injection he with he
         rw [← he];exact HVn.out
        ·exact HVac.out j e' (by have := HV1.out; omega) he
       all_goals (have := HV1.out; omega)
      ·have h0j : ((en : Int) == 0) = false := beq_eq_false_iff_ne.2 (by omega);have HU1 : Hid (gk = usedN F) := jh (used_eq F gk ⟨by have := HFl.out; have := HUk.out; omega, HVac.out, .inr ⟨_, by rw [show gk - 1 = v by have := HV1.out; omega]; exact HHe.out, HVn.out.trans (decide_eq_false h00)⟩⟩)
       have HGz : Hid (∀ W, Gm W base r o (.slice (some ⟨g, 0, none⟩) M.length capn) vt (stE M di dm (F.take gk) (.slice (some ⟨pg', 0, none⟩) gk cap)) tn tc B → ∃ v', Gm W base r o (.slice (some ⟨g, 0, none⟩) M.length capn) vt (stE M di dm (F.take (usedN F)) v') tn tc B ∧ ∀ k, v'.ownBlock = some k → dm.2.2.ownBlock = some k ∨ w1.heap.size ≤ k) := jh (fun W h9 => by
        rw [← HU1.out]
        exact ⟨_, h9, fun k hk => .inl (by rw [HV.out]; exact hk)⟩)
       clear h00
       go_upto_region 10 with fail
       refine wp_region_held (S := fun W => W.cell? ⟨g, di * 5 + 4, none⟩ = some (.slice (some ⟨pg', 0, none⟩) gk cap) ∧ W.cell? ⟨pg', v * 2 + 1, none⟩ = some (.int .u16 en)) (by kernel_rfl) ?_;change wpAnyH _ _ _ _ _ _ _ _ (World.drew _)
       have hS0 : (fun W : World => W.cell? ⟨g, di * 5 + 4, none⟩ = some (.slice (some ⟨pg', 0, none⟩) gk cap) ∧ W.cell? ⟨pg', v * 2 + 1, none⟩ = some (.int .u16 en)) wr.drew := ⟨ce, cB⟩
       have hGy : Gm (World.drew wr) base r o (.slice (some ⟨g, 0, none⟩) M.length capn) vt (stE M di dm (F.take gk) (.slice (some ⟨pg', 0, none⟩) gk cap)) tn tc B := HGu.out.keep (Below.refl _ _).drew;have hKy : Kp w1 (World.drew wr) g pg' := HKu.out.drew
       obtain ⟨y0, hy0⟩ : ∃ x, World.drew wr = x := ⟨_, rfl⟩
       rw [hy0] at hS0 hGy hKy ⊢;have HGy := jh hGy;have HKy := jh hKy;clear hy0 hGy hKy;clear ce cB;have ce := hS0.1;have cB := hS0.2;refine jk 0 (v:=?_) rfl (by kernel_rfl) (fun _ _ _=>id) (by rfl) ?_ hS0 ?_;rotate_left
       ·intro W hW;go_simp;try with_reducible rfl
       simp only [Act.put,j1,j2,j3,j4,j5,j6];refine jk 1 (v:=?_) rfl (by kernel_rfl) (fun _ _ _=>id) (by rfl) ?_ hS0 ?_;rotate_left
       ·intro W hW;go_simp;try with_reducible rfl
       simp only [Act.put,j1,j2,j3,j4,j5,j6];refine jk 2 (v:=?_) rfl (by kernel_rfl) (fun _ _ _=>id) (by rfl) ?_ hS0 ?_;rotate_left
       ·intro W hW;go_simp;try with_reducible rfl
       simp only [Act.put,j1,j2,j3,j4,j5,j6];refine jk 3 (v:=?_) rfl (by kernel_rfl) (fun _ _ _=>id) (by rfl) ?_ hS0 ?_;rotate_left 1
       ·intro W hW;have h1 := hW.1;go_simp
        try with_reducible rfl
       simp only [Act.put,j1,j2,j3,j4,j5,j6];refine jk 4 (v:=?_) rfl (by kernel_rfl) (fun _ _ _=>id) (by rfl) ?_ hS0 ?_;rotate_left
       ·intro W hW;go_simp;try with_reducible rfl
       simp only [Act.put,j1,j2,j3,j4,j5,j6];refine jx 5 (v := .bool true) rfl (by kernel_rfl) (fun _ _ _=>id) (Or.inl ⟨by rfl, ?_⟩) hS0 ?_
       ·intro W hW;go_simp
        try with_reducible rfl
        try omega
       simp only [Act.put,j1,j2,j3,j4,j5,j6];refine jk 6 (v:=?_) rfl (by kernel_rfl) (fun _ _ _=>id) (by rfl) ?_ hS0 ?_;rotate_left
       ·intro W hW;go_simp;try with_reducible rfl
       simp only [Act.put,j1,j2,j3,j4,j5,j6];refine jk 7 (v:=?_) rfl (by kernel_rfl) (fun _ _ _=>id) (by rfl) ?_ hS0 ?_;rotate_left
       ·intro W hW;go_simp;try with_reducible rfl
       simp only [Act.put,j1,j2,j3,j4,j5,j6];refine jk 8 (v:=?_) rfl (by kernel_rfl) (fun _ _ _=>id) (by rfl) ?_ hS0 ?_;rotate_left
       ·intro W hW;go_simp;try with_reducible rfl
       simp only [Act.put,j1,j2,j3,j4,j5,j6];refine jk 9 (v:=?_) rfl (by kernel_rfl) (fun _ _ _=>id) (by rfl) ?_ hS0 ?_;rotate_left
       ·intro W hW;go_simp;try with_reducible rfl
       simp only [Act.put,j1,j2,j3,j4,j5,j6];refine jk 10 (v:=?_) rfl (by kernel_rfl) (fun _ _ _=>id) (by rfl) ?_ hS0 ?_;rotate_left 1
       ·intro W hW;have h1 := hW.1;go_simp
        try with_reducible rfl
       simp only [Act.put,j1,j2,j3,j4,j5,j6];refine jk 11 (v:=?_) rfl (by kernel_rfl) (fun _ _ _=>id) (by rfl) ?_ hS0 ?_;rotate_left
       ·intro W hW;go_simp;try with_reducible rfl
       simp only [Act.put,j1,j2,j3,j4,j5,j6];refine jk 12 (v:=?_) rfl (by kernel_rfl) (fun _ _ _=>id) (by rfl) ?_ hS0 ?_;rotate_left
       ·intro W hW;go_simp;try with_reducible rfl
       simp only [Act.put,j1,j2,j3,j4,j5,j6];refine jk 13 (v:=?_) rfl (by kernel_rfl) (fun _ _ _=>id) (by rfl) ?_ hS0 ?_;rotate_left
       ·intro W hW;go_simp;try with_reducible rfl
       simp only [Act.put,j1,j2,j3,j4,j5,j6];refine jk 14 (v:=?_) rfl (by kernel_rfl) (fun _ _ _=>id) (by rfl) ?_ hS0 ?_;rotate_left 1
       ·intro W hW;have h1 := hW.1;go_simp
        try with_reducible rfl
       simp only [Act.put,j1,j2,j3,j4,j5,j6];refine jk 15 (v:=?_) rfl (by kernel_rfl) (fun _ _ _=>id) (by rfl) ?_ hS0 ?_;rotate_left
       ·intro W hW;go_simp;try with_reducible rfl
       simp only [Act.put,j1,j2,j3,j4,j5,j6];refine jk 16 (v:=?_) rfl (by kernel_rfl) (fun _ _ _=>id) (by rfl) ?_ hS0 ?_;rotate_left
       ·intro W hW;go_simp;try with_reducible rfl
       simp only [Act.put,j1,j2,j3,j4,j5,j6];refine jk 17 (v:=?_) rfl (by kernel_rfl) (fun _ _ _=>id) (by rfl) ?_ hS0 ?_;rotate_left
       ·intro W hW;go_simp;try with_reducible rfl
       simp only [Act.put,j1,j2,j3,j4,j5,j6];refine jk 18 (v:=?_) rfl (by kernel_rfl) (fun _ _ _=>id) (by rfl) ?_ hS0 ?_;rotate_left
       ·intro W hW;go_simp;try with_reducible rfl
       simp only [Act.put,j1,j2,j3,j4,j5,j6];refine jk 19 (v:=?_) rfl (by kernel_rfl) (fun _ _ _=>id) (by rfl) ?_ hS0 ?_;rotate_left 1
       ·intro W hW;have h1 := hW.2;go_simp
        try with_reducible rfl
       simp only [Act.put,j1,j2,j3,j4,j5,j6];refine jx 20 (v := .bool false) rfl (by kernel_rfl) (fun _ _ _=>id) (Or.inl ⟨by rfl, ?_⟩) hS0 ?_
       ·intro W hW;go_simp
        try with_reducible rfl
        try omega
       simp only [Act.put,j1,j2,j3,j4,j5,j6];refine jx 21 (v := .bool false) rfl (by kernel_rfl) (fun _ _ _=>id) (Or.inl ⟨by rfl, ?_⟩) hS0 ?_
       ·intro W hW;go_simp
        try with_reducible rfl
        try omega
       simp only [Act.put,j1,j2,j3,j4,j5,j6];refine wpAnyH_done (by kernel_rfl) ?_ _
       go_wp2_with fail
       go_ret
       refine .inr ⟨HAny.out, HKd.out _ HKy.out, ?_, by first | rfl | trivial⟩;rw [← HFn.out, HF.out];exact HGz.out _ HGy.out
 ·have HNo := jh hno;clear hno
  go_wp2_with fail
  go_ret
  exact .inl ⟨HNo.out, rfl, by first | rfl | trivial⟩
end Go.Proofs.YtgdapkbenmlabaaGreatDoor
