import Derived.Test.YtgdapkbenmlabaaGreatDoorC19
import Derived.OrdersHeld
/- The reference: a node set; the nodes of New. -/
set_option linter.unusedSimpArgs false
set_option linter.unusedVariables false
set_option maxHeartbeats 40000000
set_option maxRecDepth 100000
namespace Go.Proofs.YtgdapkbenmlabaaGreatDoor
open Go.RowKit Go.Maps
theorem flN_set (M : List Nm) (i : Nat) (hi : i < M.length) (m : Nm) : ((((((flN M).set (i * 5) (.int .u8 m.1.k)).set (i * 5 + 1) (.int .i64 m.1.l)).set (i * 5 + 2) (.int .u16 m.1.g)).set (i * 5 + 3) m.2.1).set (i * 5 + 4) m.2.2) = flN (M.set i m) := by
 induction M generalizing i with
 | nil => simp at hi
 | cons a E ih =>
  have hf : ∀ (a : Nm) (E : List Nm), flN (a :: E) = .int .u8 a.1.k :: .int .i64 a.1.l :: .int .u16 a.1.g :: a.2.1 :: a.2.2 :: flN E := fun _ _ => rfl
  cases i with
  | zero => rw [List.set_cons_zero, hf, hf]; rfl
  | succ i =>
   rw [List.set_cons_succ, hf, hf, show (i + 1) * 5 = i * 5 + 1 + 1 + 1 + 1 + 1 by omega];simp only [List.set_cons_succ];rw [← ih i (by simpa using hi)]
theorem own_setN {w : World} {base g n cap : Nat} {M : List Nm} (h : w.ownsRow base 84 5 (.slice (some ⟨g, 0, none⟩) n cap) n (flN M)) (i : Nat) (hi : i < M.length) (m : Nm) : (w.setCells g (i * 5) (nc m)).ownsRow base 84 5 (.slice (some ⟨g, 0, none⟩) n cap) n (flN (M.set i m)) := by
 have h1 := (World.ownsRow.stored h (i * 5) (.int .u8 m.1.k)).1;have h2 := (World.ownsRow.stored h1 (i * 5 + 1) (.int .i64 m.1.l)).1;have h3 := (World.ownsRow.stored h2 (i * 5 + 2) (.int .u16 m.1.g)).1;have h4 := (World.ownsRow.stored h3 (i * 5 + 3) m.2.1).1;have h5 := (World.ownsRow.stored h4 (i * 5 + 4) m.2.2).1;rw [flN_set M i hi m] at h5;exact h5
theorem own_thereN {w : World} {base g n cap : Nat} {M : List Nm} (h : w.ownsRow base 84 5 (.slice (some ⟨g, 0, none⟩) n cap) n (flN M)) (hn : M.length = n) (i : Nat) (hi : i < M.length) : w.there g (i * 5) 5 := fun j hj => by
 have hl : i * 5 + j < (flN M).length := by rw [flN_len]; omega
 refine ⟨?_, World.ownsRow.frozenAt h _⟩;rw [World.ownsRow.cellAt h (i * 5 + j) (by omega), List.getElem?_eq_getElem hl];rfl
def z0N : Nm := (⟨0, 0, 0, []⟩, .slice none 0 0, .slice none 0 0)
theorem made_flN (n : Nat) : (madeCells (nc z0N).toArray (n * 5)).toList = flN (List.replicate n z0N) := by
 refine List.ext_getElem? (fun i => ?_)
 by_cases h : i < n * 5
 ·have hq : i / 5 < n := by omega
  have h5 : i % 5 < 5 := Nat.mod_lt _ (by decide);have hg := flN_get (M := List.replicate n z0N) (k := i / 5) (e := z0N) (by rw [List.getElem?_replicate, if_pos hq]) (i % 5) h5;rw [show i / 5 * 5 + i % 5 = i by omega] at hg;rw [hg];have h6 : i % 5 < (nc z0N).length := h5;rw [List.getElem?_eq_getElem h6]
  simp [madeCells, h, nc_len, h5]
  rw [List.getElem?_eq_getElem h6];rfl
 ·rw [List.getElem?_eq_none (by rw [Array.length_toList, size_madeCells]; omega), List.getElem?_eq_none (by rw [flN_len, List.length_replicate]; omega)]
def newM (n : Nat) : List Nm := (((List.replicate (n + 1) z0N).set 1 (⟨2, 1, 1, []⟩, .slice none 0 0, .slice none 0 0)).set 2 (⟨1, 1, 1, []⟩, .slice none 0 0, .slice none 0 0)).set 3 (⟨1, 1, 1, []⟩, .slice none 0 0, .slice none 0 0)
theorem newM_len (n : Nat) : (newM n).length = n + 1 := by simp [newM]
theorem newM_mem {n : Nat} {m : Nm} (h : m ∈ newM n) : m.1.E = [] ∧ m.2.1 = .slice none 0 0 ∧ m.2.2 = .slice none 0 0 := by
 unfold newM at h;rcases List.mem_or_eq_of_mem_set h with h | rfl
 ·rcases List.mem_or_eq_of_mem_set h with h | rfl
  ·rcases List.mem_or_eq_of_mem_set h with h | rfl
   ·obtain ⟨-, rfl⟩ := List.mem_replicate.1 h;exact ⟨rfl, rfl, rfl⟩
   ·exact ⟨rfl, rfl, rfl⟩
  ·exact ⟨rfl, rfl, rfl⟩
 ·exact ⟨rfl, rfl, rfl⟩
theorem newM_is {w : World} {base g n cap : Nat} (h : w.ownsRow base 84 5 (.slice (some ⟨g, 0, none⟩) (n + 1) cap) (n + 1) (flN (newM n))) : RvG w base (.slice (some ⟨g, 0, none⟩) (n + 1) cap) (.slice none 0 0) (newM n) 0 [] := by
 refine ⟨?_, World.ownsRow_nil w _ _ _, fun u hu => absurd hu (List.not_mem_nil), fun m hm => ?_, fun m hm => ?_, ?_⟩
 ·rw [newM_len]; exact h
 ·rw [(newM_mem hm).2.1]; exact .inl ⟨rfl, rfl, rfl⟩
 ·rw [(newM_mem hm).2.2, (newM_mem hm).1]; exact World.ownsRow_nil w _ _ _
 ·refine List.pairwise_cons.2 ⟨fun b hb => ?_, List.pairwise_cons.2 ⟨fun b hb => .inl rfl, ?_⟩⟩
  ·rcases List.mem_cons.1 hb with rfl | hb
   ·exact .inr (by intro hh; cases hh)
   ·obtain ⟨x, hx, rfl⟩ := List.mem_map.1 hb;rw [(newM_mem hx).2.2];exact .inr (by intro hh; cases hh)
  ·refine List.pairwise_iff_forall_sublist.2 (fun {a b} hab => ?_);have ha : a ∈ (newM n).map fun m => m.2.2 := hab.subset (by simp);obtain ⟨x, hx, rfl⟩ := List.mem_map.1 ha;rw [(newM_mem hx).2.2];exact .inl rfl
theorem RvG.ng {w : World} {base nb n cap tn : Nat} {vt : Value} {M : List Nm} {tc : List Value} (h : RvG w base (.slice (some ⟨nb, 0, none⟩) n cap) vt M tn tc) (hn : M.length = n) : Ng w nb n (M.map fun m => m.1) (fun i => (M.getD i z0N).2) := by
 subst hn;refine ⟨(World.ownsRow.lt h.nd nb rfl).2, List.length_map .., fun i x hx => ?_, fun i hi => ?_, fun i x hx => ?_, fun j _ => World.ownsRow.frozenAt h.nd j⟩
 ·rw [List.getElem?_map] at hx;obtain ⟨m, hm, rfl⟩ := Option.map_eq_some_iff.1 hx
  have hg : M.getD i z0N = m := by rw [List.getD_eq_getElem?_getD, hm]; rfl
  rw [hg];exact RvG.at h hm
 ·have hm : M.getD i z0N ∈ M := by
   rw [List.getD_eq_getElem?_getD, List.getElem?_eq_getElem hi];exact List.getElem_mem hi
  rcases h.bs _ hm with ⟨h1, -⟩ | ⟨ad, c, h1, -⟩
  ·exact ⟨none, 0, h1⟩
  ·exact ⟨some ad, c, h1⟩
 ·rw [List.getElem?_map] at hx;obtain ⟨m, hm, rfl⟩ := Option.map_eq_some_iff.1 hx
  have hg : M.getD i z0N = m := by rw [List.getD_eq_getElem?_getD, hm]; rfl
  rw [hg];exact Es.own (h.es m (List.mem_of_getElem? hm))
structure Gm (w : World) (base r o : Nat) (vn vt : Value) (M : List Nm) (tn : Nat) (tc : List Value) (B : Int) : Prop where
 c : w.rangeAt r o [vn, vt, .int .i64 B]
 z : ∀ j, j < 3 → w.frozen? ⟨r, o + j, none⟩ = false
 lt : r < w.heap.size
 v : RvG w base vn vt M tn tc
 ne : ∀ v ∈ vn :: vt :: M.map (fun m => m.2.2), v.ownBlock ≠ some r
theorem Gm.keep {w w' : World} {base r o tn : Nat} {vn vt : Value} {M : List Nm} {tc : List Value} {B : Int} (h : Gm w base r o vn vt M tn tc B) (hb : Below w.heap.size w w') : Gm w' base r o vn vt M tn tc B :=
 ⟨fun j u hj => (hb.cell (p := ⟨r, o + j, none⟩) h.lt).trans (h.c j u hj), fun j hj => (hb.frozen (p := ⟨r, o + j, none⟩) h.lt).trans (h.z j hj), Nat.lt_of_lt_of_le h.lt hb.size, h.v.keep hb, h.ne⟩
def dcC (k : Int) : Int := if k = 0 then 14 else if k = 2 then 0 else 5
theorem rdirg_any (base r o g cap tn : Nat) (vt : Value) (M : List Nm) (tc : List Value) (B : Int) (i : Nat) (m : Nm) (hm : M[i]? = some m) (hM : M.length ≤ 200) (w : World) (h : Gm w base r o (.slice (some ⟨g, 0, none⟩) M.length cap) vt M tn tc B) :
  Calls Tryz.prog 84 #[.pointer (some ⟨r, o, none⟩), .int .i64 i] w fun e w' => e = .returned (.int .i64 (dcC m.1.k)) ∧ w' = w := by
 have hi : i < M.length := (List.getElem?_eq_some_iff.1 hm).1
 have hi0 : (0 : Int) ≤ i := by omega
 have hi1 : (i : Int) < M.length := by omega
 have c0 : w.cell? ⟨r, o, none⟩ = some (.slice (some ⟨g, 0, none⟩) M.length cap) := h.c 0 _ rfl;have ck : w.cell? ⟨g, i * 5, none⟩ = some (.int .u8 m.1.k) := RvG.at h.v hm 0 _ rfl
 obtain ⟨n, hn⟩ : ∃ n, M.length = n := ⟨_, rfl⟩
 obtain ⟨k, hk⟩ : ∃ k, m.1.k = k := ⟨_, rfl⟩
 rw [hn] at hi1 c0;rw [hk] at ck ⊢;clear h hm hi hn hk hM
 go_enter Tryz.func84, Tryz.ntmps84
 by_cases h0 : k = 0
 ·subst h0
  go_wp2_with fail
  go_ret
  exact ⟨rfl, rfl⟩
 ·have hb0 : (k == 0) = false := beq_eq_false_iff_ne.2 h0
  by_cases h2 : k = 2
  ·subst h2
   go_wp2_with fail
   go_ret
   exact ⟨rfl, rfl⟩
  ·have hb2 : (k == 2) = false := beq_eq_false_iff_ne.2 h2
   have hd : dcC k = 5 := by unfold dcC; rw [if_neg h0, if_neg h2]
   have HD := jh hd;clear h0 h2 hd
   go_wp2_with fail
   go_ret
   exact ⟨by rw [HD.out]; rfl, rfl⟩
theorem zE_vacG : vacE zE = true := by
 unfold vacE
 simp
theorem mtE_iffG {e : En} (s : ByteArray) (h : e = zE ∨ okE e) : mtE s e = (decide (0 < e.2) && (e.1.toList == s.toList)) := by
 unfold mtE;rcases h with rfl | h
 ·rw [zE_vacG];rfl
 ·have hv : vacE e = false := by
   unfold vacE;rw [decide_eq_false];rintro rfl;exact absurd h.1 (by decide)
  rw [hv, decide_eq_true h.1];rfl
theorem rfindg_any (base r o gn capn tn : Nat) (vt : Value) (M : List Nm) (tc : List Value) (B : Int) (di : Nat) (dm : Nm) (hm : M[di]? = some dm) (hM : M.length ≤ 200) (hk : dm.1.k = 2) (hE : ∀ e ∈ dm.1.E, e = zE ∨ okE e) (hl : dm.1.E.length ≤ 1024) (s : ByteArray) (w : World) (h : Gm w base r o (.slice (some ⟨gn, 0, none⟩) M.length capn) vt M tn tc B) :
  Calls Tryz.prog 24 #[.pointer (some ⟨r, o, none⟩), .int .i64 di, .string s] w fun x w' => w' = w ∧
  ((∃ (i : Nat) (e : En), dm.1.E[i]? = some e ∧ mtE s e = true ∧ (∀ (j : Nat) (e' : En), j < i → dm.1.E[j]? = some e' → mtE s e' = false) ∧ x = .returned (.tuple #[.int .i64 e.2, .int .i64 0])) ∨ ((∀ e ∈ dm.1.E, mtE s e = false) ∧ x = .returned (.tuple #[.int .i64 0, .int .i64 3]))) := by
 have hdr := rdirg_any base r o gn capn tn vt M tc B di dm hm hM w h;rw [hk] at hdr;have HDr : Hid (Calls Tryz.prog 84 #[.pointer (some ⟨r, o, none⟩), .int .i64 di] w fun e w' => e = .returned (.int .i64 0) ∧ w' = w) := jh hdr;have hi : di < M.length := (List.getElem?_eq_some_iff.1 hm).1
 have hi0 : (0 : Int) ≤ di := by omega
 have hi1 : (di : Int) < M.length := by omega
 have c0 : w.cell? ⟨r, o, none⟩ = some (.slice (some ⟨gn, 0, none⟩) M.length capn) := h.c 0 _ rfl;have ce : w.cell? ⟨gn, di * 5 + 4, none⟩ = some dm.2.2 := RvG.at h.v hm 4 _ rfl;obtain ⟨pa, cap, hv, hes⟩ := Es.own (h.v.es dm (List.mem_of_getElem? hm));rw [hv] at ce
 obtain ⟨E, hEE⟩ : ∃ E, dm.1.E = E := ⟨_, rfl⟩
 rw [hEE] at hes hE hl ce ⊢;have HEs := jh hes;have HOk := jh hE
 obtain ⟨mn, hmn⟩ : ∃ z, M.length = z := ⟨_, rfl⟩
 rw [hmn] at hi1 c0;clear h hE hes hdr hi hm hk hv hEE hM hmn
 obtain ⟨n, hn⟩ : ∃ n, E.length = n := ⟨_, rfl⟩
 have HN := jh hn;rw [hn] at hl ce;clear hn
 go_enter Tryz.func24, Tryz.ntmps24
 go_wp2_with fail
 refine HDr.out.mono ?_;rintro e w1 ⟨rfl, hw1⟩;rw [hw1];clear hw1 HDr
 go_wp2_with fail
 go_loopw [10] (fun iv wr => ∃ k : Nat, wr = w ∧ k ≤ n ∧ iv = .int .i64 k ∧ ∀ (j : Nat) (e' : En), j < k → E[j]? = some e' → mtE s e' = false) (fun iv _ => n - (Go.RowKit.intOf iv).toNat)
 case atStart => exact ⟨0, rfl, Nat.zero_le _, rfl, fun j e' hj => absurd hj (Nat.not_lt_zero _)⟩
 case round =>
  obtain ⟨k, rfl, hk, rfl, ha⟩ := hrel;have HA := jh ha;clear ha
  by_cases hkn : k < n
  ·have hkn1 : (k : Int) < n := by omega
   have hk0 : (0 : Int) ≤ k := by omega
   obtain ⟨e, he⟩ : ∃ e, E[k]? = some e := ⟨_, List.getElem?_eq_getElem (by rw [HN.out]; exact hkn)⟩
   obtain ⟨g, rfl, hr⟩ := HEs.out k e he;have HHe := jh he;have hmt := mtE_iffG s (HOk.out e (List.mem_of_getElem? he));obtain ⟨es, en⟩ := e;have cA : wr.cell? ⟨g, k * 2, none⟩ = some (.string es) := hr 0 _ rfl;have cB : wr.cell? ⟨g, k * 2 + 1, none⟩ = some (.int .u16 en) := hr 1 _ rfl;have HMt : Hid (mtE s (es, en) = (decide (0 < en) && (es.toList == s.toList))) := jh hmt
   have hen : en < 65536 := by
    rcases HOk.out _ (List.mem_of_getElem? he) with h | h
    ·have := congrArg Prod.snd h;change en = 0 at this;omega
    ·exact h.2.1
   have hwr : IntKind.i64.wrap (en : Int) = en := IntWalk.i64_in _ (by omega);clear hr he hmt hen
   by_cases h0 : en = 0
   ·subst h0;have HM := jh (HMt.out.trans (by rfl) : mtE s (es, 0) = false)
    go_wp2_with fail
    go_roundw
    case rel =>
     refine ⟨k + 1, trivial, by omega, by go_num, fun j e' hj he' => ?_⟩
     by_cases ej : j = k
     ·rw [ej, HHe.out] at he'
      injection he' with he'
      rw [← he'];exact HM.out
     ·exact HA.out j e' (by omega) he'
    case measure => (simp [Go.RowKit.intOf]; try omega)
   ·have h0i : (0 : Int) < en := by omega
    have hd0 : decide (0 < en) = true := decide_eq_true (by omega);rw [hd0] at HMt;clear hd0
    cases hm : (es.toList == s.toList)
    ·have HM := jh (HMt.out.trans (by rw [hm]; rfl) : mtE s (es, en) = false)
     go_wp2_with fail
     go_roundw
     case rel =>
      refine ⟨k + 1, trivial, by omega, by go_num, fun j e' hj he' => ?_⟩
      by_cases ej : j = k
      ·rw [ej, HHe.out] at he'
       injection he' with he'
       rw [← he'];exact HM.out
      ·exact HA.out j e' (by omega) he'
     case measure => (simp [Go.RowKit.intOf]; try omega)
    ·have HM := jh (HMt.out.trans (by rw [hm]; rfl) : mtE s (es, en) = true)
     go_wp2_with fail
     go_ret2
     exact ⟨rfl, .inl ⟨k, (es, en), HHe.out, HM.out, HA.out, rfl⟩⟩
  ·obtain rfl : k = n := by omega
   go_wp2_with fail
   go_ret2
   refine ⟨rfl, .inr ⟨fun e he => ?_, rfl⟩⟩;obtain ⟨j, hj, rfl⟩ := List.mem_iff_getElem.1 he;exact HA.out j _ (by have := HN.out; omega) (List.getElem?_eq_getElem hj)
theorem flN_same {M : List Nm} {i : Nat} {m m' : Nm} (h : M[i]? = some m) (he : nc m' = nc m) : flN (M.set i m') = flN M := by
 induction M generalizing i with
 | nil => rfl
 | cons a E ih =>
  have hf : ∀ (a : Nm) (E : List Nm), flN (a :: E) = nc a ++ flN E := fun _ _ => rfl
  cases i with
  | zero =>
   obtain rfl := Option.some.inj h;rw [List.set_cons_zero, hf, hf, he]
  | succ i => rw [List.set_cons_succ, hf, hf, ih (by simpa using h)]
theorem map_same {M : List Nm} {i : Nat} {m m' : Nm} (h : M[i]? = some m) (he : m'.2.2 = m.2.2) : (M.set i m').map (fun m => m.2.2) = M.map fun m => m.2.2 := by
 induction M generalizing i with
 | nil => rfl
 | cons a E ih =>
  cases i with
  | zero =>
   obtain rfl := Option.some.inj h;rw [List.set_cons_zero, List.map_cons, List.map_cons, he]
  | succ i => rw [List.set_cons_succ, List.map_cons, List.map_cons, ih (by simpa using h)]
theorem Gm.setE {w : World} {base r o pg cap tn : Nat} {vn vt : Value} {M : List Nm} {tc : List Value} {B : Int} (h : Gm w base r o vn vt M tn tc B) {di : Nat} {m : Nm} (hm : M[di]? = some m) (hv : m.2.2 = .slice (some ⟨pg, 0, none⟩) m.1.E.length cap) (k : Nat) (hk : k < m.1.E.length) (e : En) :
  Gm (w.setCells pg (k * 2) (enc e)) base r o vn vt (M.set di (⟨m.1.k, m.1.l, m.1.g, m.1.E.set k e⟩, m.2.1, m.2.2)) tn tc B := by
 have hkp : Kp w (w.setCells pg (k * 2) (enc e)) pg pg := (Kp.refl w pg pg).setCells pg (k * 2) (.inl rfl) _;have hmm := List.mem_of_getElem? hm
 have hob : m.2.2.ownBlock = some pg := by rw [hv]; rfl
 have hpr : pg ≠ r := fun e1 => h.ne m.2.2 (List.mem_cons_of_mem _ (List.mem_cons_of_mem _ (List.mem_map.2 ⟨m, hmm, rfl⟩))) (by rw [hob, e1]);have hes := h.v.es m hmm;have hmap := map_same (m' := (⟨m.1.k, m.1.l, m.1.g, m.1.E.set k e⟩, m.2.1, m.2.2)) hm rfl
 have far : ∀ {v : Value}, v.ownBlock = none ∨ v.ownBlock ≠ m.2.2.ownBlock → ∀ x, v.ownBlock = some x → x ≠ pg ∧ x ≠ pg := fun {v} h1 x hx => by
  rcases h1 with h1 | h1
  ·rw [hx] at h1; cases h1
  ·rw [hx, hob] at h1;exact ⟨fun e => h1 (by rw [e]), fun e => h1 (by rw [e])⟩
 refine ⟨fun j u hj => (hkp.cell (p := ⟨r, o + j, none⟩) h.lt hpr.symm hpr.symm).trans (h.c j u hj), fun j hj => (hkp.frozen (p := ⟨r, o + j, none⟩) h.lt hpr.symm hpr.symm).trans (h.z j hj), Nat.lt_of_lt_of_le h.lt hkp.size, ⟨?_, ?_, h.v.t1, fun x hx => ?_, fun x hx => ?_, ?_⟩, ?_⟩
 ·rw [List.length_set, flN_same (m' := (⟨m.1.k, m.1.l, m.1.g, m.1.E.set k e⟩, m.2.1, m.2.2)) hm rfl];exact ownsRow_kp2 h.v.nd hkp (far (own_ne h.v.nd hes (by decide)))
 ·exact ownsRow_kp2 h.v.tb hkp (far (own_ne h.v.tb hes (by decide)))
 ·rcases List.mem_or_eq_of_mem_set hx with hx | rfl
  ·exact (h.v.bs x hx).nil
  ·exact (h.v.bs m hmm).nil
 ·obtain ⟨j, hj⟩ := List.mem_iff_getElem?.1 hx
  by_cases e1 : j = di
  ·subst e1;have hl := (List.getElem?_eq_some_iff.1 hm).1;rw [List.getElem?_set_self hl] at hj;obtain rfl := Option.some.inj hj
   show (w.setCells pg (k * 2) (enc e)).ownsRow base _ 2 m.2.2 (m.1.E.set k e).length (flatE (m.1.E.set k e))
   rw [List.length_set, hv];rw [hv] at hes;exact own_set hes k hk e
  ·rw [List.getElem?_set_ne (Ne.symm e1)] at hj;have hxm := List.mem_of_getElem? hj;refine ownsRow_kp2 (h.v.es x hxm) hkp (far ?_);have hp := List.pairwise_iff_getElem.1 (List.pairwise_cons.1 (List.pairwise_cons.1 h.v.ap).2).2;obtain ⟨lj, ej⟩ := List.getElem?_eq_some_iff.1 hj;obtain ⟨ld, ed⟩ := List.getElem?_eq_some_iff.1 hm;rcases Nat.lt_or_ge j di with hjd | hjd
   ·have h1 := hp j di (by rw [List.length_map]; exact lj) (by rw [List.length_map]; exact ld) hjd;rw [List.getElem_map, List.getElem_map, ej, ed] at h1;exact h1
   ·have h1 := hp di j (by rw [List.length_map]; exact ld) (by rw [List.length_map]; exact lj) (by omega);rw [List.getElem_map, List.getElem_map, ej, ed, hob] at h1;rcases h1 with h1 | h1
    ·cases h1
    ·rw [hob];exact .inr (fun e => h1 e.symm)
 ·have hap := h.v.ap;unfold Apart at hap ⊢;rw [hmap];exact hap
 ·rw [hmap];exact h.ne
theorem rname_any (s : ByteArray) (w : World) : Calls Tryz.prog 87 #[.string s] w fun e w' => e = .returned (.int .i64 (nameC s)) ∧ w' = w := by
 by_cases h0 : s = ⟨#[]⟩
 ·subst h0
  go_enter Tryz.func87, Tryz.ntmps87
  go_wp2_with fail
  go_ret
  exact ⟨rfl, rfl⟩
 by_cases h1 : s = ⟨#[46]⟩
 ·subst h1
  go_enter Tryz.func87, Tryz.ntmps87
  go_wp2_with fail
  go_ret
  exact ⟨rfl, rfl⟩
 by_cases h2 : s = ⟨#[46, 46]⟩
 ·subst h2
  go_enter Tryz.func87, Tryz.ntmps87
  go_wp2_with fail
  go_ret
  exact ⟨by unfold nameC; rw [if_pos (.inr (.inr rfl))]; rfl, rfl⟩
 have hz : ¬ (s.size = 0 ∨ s = ⟨#[46]⟩ ∨ s = ⟨#[46, 46]⟩) := by
  rintro (h | h | h)
  ·refine h0 ?_;obtain ⟨d⟩ := s
   congr 1
   exact Array.size_eq_zero_iff.1 h
  ·exact h1 h
  ·exact h2 h
 have HZ := jh hz;clear hz
 have q0 : s.toList.isEmpty = false := by
  rw [← Bool.not_eq_true, List.isEmpty_iff];exact fun h => h0 (ba_ext h)
 have q1 : (s.toList == [46]) = false := by
  rw [← Bool.not_eq_true, beq_iff_eq];exact fun h => h1 (ba_ext h)
 have q2 : (s.toList == [46, 46]) = false := by
  rw [← Bool.not_eq_true, beq_iff_eq];exact fun h => h2 (ba_ext h)
 clear h0 h1 h2
 by_cases h14 : 14 < s.size
 ·have h14' : (14 : Int) < s.size := by omega
  have HL := jh h14
  go_enter Tryz.func87, Tryz.ntmps87
  go_wp2_with fail
  go_ret
  exact ⟨by unfold nameC; rw [if_neg HZ.out, if_pos HL.out]; rfl, rfl⟩
 ·have h14' : ¬ (14 : Int) < s.size := by omega
  have HL := jh h14
  have hl : (s.size : Int) ≤ 14 := by omega
  go_enter Tryz.func87, Tryz.ntmps87
  go_wp2_with fail
  go_loopw [3] (fun i wr => ∃ k : Nat, wr = w ∧ k ≤ s.size ∧ i = .int .i64 k ∧ ∀ j (hj : j < s.size), j < k → maySt s[j] = true) (fun i _ => s.size - (Go.RowKit.intOf i).toNat)
  case atStart => exact ⟨0, rfl, Nat.zero_le _, rfl, fun j _ h => absurd h (Nat.not_lt_zero _)⟩
  case round =>
   obtain ⟨k, rfl, hk, rfl, hall⟩ := hrel;have HA := jh hall;clear hall
   by_cases hlt : k < s.size
   ·have hlt' : (k : Int) < s.size := by omega
    have hk0 : (0 : Int) ≤ k := by omega
    obtain ⟨n, hn⟩ : ∃ n, s[k].toNat = n := ⟨_, rfl⟩
    have hdef : maySt s[k] = (decide (33 ≤ n) && (decide (n ≤ 126) && (!decide (n = 47) && !decide (n = 64)))) := by rw [← hn]; rfl
    have HDf := jh hdef;clear hdef
    by_cases g1 : n < 33
    ·have g1i : (n : Int) < 33 := by omega
     have HF := jh (may_bad s k hlt (by rw [HDf.out]; simp [show ¬ 33 ≤ n by omega]))
     go_wp2_with fail
     go_ret
     exact ⟨by unfold nameC; rw [if_neg HZ.out, if_neg HL.out, if_neg (by rw [HF.out]; decide)]; rfl, rfl⟩
    by_cases g2 : 126 < n
    ·have g1i : ¬ (n : Int) < 33 := by omega
     have g2i : (126 : Int) < (n : Int) := by omega
     have HF := jh (may_bad s k hlt (by rw [HDf.out]; simp [show ¬ n ≤ 126 by omega]))
     go_wp2_with fail
     go_ret
     exact ⟨by unfold nameC; rw [if_neg HZ.out, if_neg HL.out, if_neg (by rw [HF.out]; decide)]; rfl, rfl⟩
    by_cases g3 : n = 47
    ·have g1i : ¬ (n : Int) < 33 := by omega
     have g2i : (n : Int) ≤ 126 := by omega
     have g3i : (n : Int) = 47 := by omega
     have HF := jh (may_bad s k hlt (by rw [HDf.out]; simp [g3]))
     go_wp2_with fail
     go_ret
     exact ⟨by unfold nameC; rw [if_neg HZ.out, if_neg HL.out, if_neg (by rw [HF.out]; decide)]; rfl, rfl⟩
    by_cases g4 : n = 64
    ·have g1i : ¬ (n : Int) < 33 := by omega
     have g2i : (n : Int) ≤ 126 := by omega
     have g3i : ¬ (n : Int) = 47 := by omega
     have g4i : (n : Int) = 64 := by omega
     have HF := jh (may_bad s k hlt (by rw [HDf.out]; simp [g4]))
     go_wp2_with fail
     go_ret
     exact ⟨by unfold nameC; rw [if_neg HZ.out, if_neg HL.out, if_neg (by rw [HF.out]; decide)]; rfl, rfl⟩
    have HT : Hid (maySt s[k] = true) := jh (by rw [HDf.out, decide_eq_true (show 33 ≤ n by omega), decide_eq_true (show n ≤ 126 by omega), decide_eq_false g3, decide_eq_false g4]; rfl)
    have g1i : ¬ (n : Int) < 33 := by omega
    have g2i : (n : Int) ≤ 126 := by omega
    have g3i : ¬ (n : Int) = 47 := by omega
    have g4i : ¬ (n : Int) = 64 := by omega
    go_wp2_with fail
    ·rename_i hbad
     exfalso
     rcases hbad with (hb | hb) | hb
     ·omega
     ·exact g3i (eq_of_beq hb)
     ·exact g4i (eq_of_beq hb)
    go_roundw
    case rel =>
     refine ⟨k + 1, trivial, by omega, by go_num, fun j hj hjk => ?_⟩
     by_cases e : j = k
     ·subst e;exact HT.out
     ·exact HA.out j hj (by omega)
    case measure => simp [Go.RowKit.intOf]; omega
   ·obtain rfl : k = s.size := by omega
    have HT := jh (may_upto s (fun j hj => HA.out j hj hj));clear HA
    go_wp2_with fail
    go_ret
    exact ⟨by unfold nameC; rw [if_neg HZ.out, if_neg HL.out, if_pos HT.out]; rfl, rfl⟩
theorem own_take {w : World} {base size n cap g : Nat} {e : TypeId} {xs : List Value} (h : w.ownsRow base e size (.slice (some ⟨g, 0, none⟩) n cap) n xs) (n' : Nat) (hn : n' ≤ n) : w.ownsRow base e size (.slice (some ⟨g, 0, none⟩) n' cap) n' (xs.take (n' * size)) := by
 obtain ⟨hl, h⟩ := h;rcases h with ⟨hv, -⟩ | ⟨g', cap', cur, hv, hb, hh, hc, hm, hs, ht⟩
 ·cases hv
 ·injection hv with h1 h2 h3
  injection h1 with h1
  injection h1 with h1
  subst h1 h3;refine ⟨by rw [List.length_take, hl]; exact Nat.min_eq_left (Nat.mul_le_mul_right _ hn), .inr ⟨g, cap, cur, rfl, hb, hh, Nat.le_trans hn hc, hm, hs, ?_⟩⟩;rw [← ht, List.take_take, Nat.min_eq_left (Nat.mul_le_mul_right _ hn)]
theorem flatE_take : ∀ (E : List En) (n : Nat), (flatE E).take (n * 2) = flatE (E.take n)
 | [], n => by simp [flatE]
 | e :: E, 0 => by simp [flatE]
 | e :: E, n + 1 => by
  have hf : ∀ (a : En) (E : List En), flatE (a :: E) = .string a.1 :: .int .u16 a.2 :: flatE E := fun _ _ => rfl;rw [List.take_succ_cons, hf, hf, show (n + 1) * 2 = n * 2 + 1 + 1 by omega, List.take_succ_cons, List.take_succ_cons, flatE_take E n]
theorem flN_put (M : List Nm) (i : Nat) (m : Nm) (hm : M[i]? = some m) (E' : List En) (v : Value) : (flN M).set (i * 5 + 4) v = flN (M.set i (⟨m.1.k, m.1.l, m.1.g, E'⟩, m.2.1, v)) := by
 induction M generalizing i with
 | nil => simp at hm
 | cons a E ih =>
  have hf : ∀ (a : Nm) (E : List Nm), flN (a :: E) = .int .u8 a.1.k :: .int .i64 a.1.l :: .int .u16 a.1.g :: a.2.1 :: a.2.2 :: flN E := fun _ _ => rfl
  cases i with
  | zero =>
   obtain rfl := Option.some.inj hm;rw [List.set_cons_zero, hf, hf]; rfl
  | succ i =>
   rw [List.set_cons_succ, hf, hf, show (i + 1) * 5 + 4 = (i * 5 + 4) + 1 + 1 + 1 + 1 + 1 by omega];simp only [List.set_cons_succ];rw [← ih i (by simpa using hm)]
theorem RvG.lt {w : World} {base tn : Nat} {vn vt : Value} {M : List Nm} {tc : List Value} (h : RvG w base vn vt M tn tc) : ∀ v ∈ vn :: vt :: M.map (fun m => m.2.2), ∀ k, v.ownBlock = some k → base ≤ k ∧ k < w.heap.size := by
 intro v hv k hk;rcases List.mem_cons.1 hv with rfl | hv
 ·exact World.ownsRow.lt h.nd k hk
 ·rcases List.mem_cons.1 hv with rfl | hv
  ·exact World.ownsRow.lt h.tb k hk
  ·obtain ⟨m, hm, rfl⟩ := List.mem_map.1 hv;exact World.ownsRow.lt (h.es m hm) k hk
theorem Gm.put {w w1 : World} {base r o g cap tn : Nat} {vt : Value} {M : List Nm} {tc : List Value} {B : Int} (h : Gm w base r o (.slice (some ⟨g, 0, none⟩) M.length cap) vt M tn tc B) {di : Nat} {m : Nm} (hm : M[di]? = some m) (hg : w.grownBy w1 m.2.2.ownBlock) (E' : List En) (v' : Value) (hown : w1.ownsRow base 58 2 v' E'.length (flatE E')) (hv : ∀ k, v'.ownBlock = some k → m.2.2.ownBlock = some k ∨ w.heap.size ≤ k) :
  Gm (w1.setCell ⟨g, di * 5 + 4, none⟩ v') base r o (.slice (some ⟨g, 0, none⟩) M.length cap) vt (M.set di (⟨m.1.k, m.1.l, m.1.g, E'⟩, m.2.1, v')) tn tc B := by
 have hmm := List.mem_of_getElem? hm;have hlt := RvG.lt h.v;have hes := h.v.es m hmm;have gl : g < w.heap.size := (hlt _ (List.mem_cons_self ..) g rfl).2;have hgr : g ≠ r := fun e => h.ne _ (List.mem_cons_self ..) (by rw [← e]; rfl);have hmv : m.2.2 ∈ (.slice (some ⟨g, 0, none⟩) M.length cap) :: vt :: M.map (fun m => m.2.2) := List.mem_cons_of_mem _ (List.mem_cons_of_mem _ (List.mem_map.2 ⟨m, hmm, rfl⟩));have rm : m.2.2.ownBlock ≠ some r := h.ne _ hmv
 have gm : m.2.2.ownBlock ≠ some g := fun e => by
  rcases own_ne h.v.nd hes (by decide) with h1 | h1
  ·cases h1
  ·rw [e] at h1;exact h1 rfl
 have gv : ∀ k, v'.ownBlock = some k → k ≠ g := fun k hk e => by
  rcases hv k hk with h1 | h1
  ·exact gm (by rw [h1, e])
  ·omega
 have rv : v'.ownBlock ≠ some r := fun e => by
  rcases hv r e with h1 | h1
  ·exact rm h1
  ·have := h.lt;omega
 have hk : Kp w1 (w1.setCell ⟨g, di * 5 + 4, none⟩ v') g g := (Kp.refl w1 g g).setCell _ (.inl rfl) v';have hr : w1.heap[r]? = w.heap[r]? := hg.block r h.lt (fun e => rm e.symm);have rl : r < w1.heap.size := Nat.lt_of_lt_of_le h.lt hg.size
 have far : ∀ {v : Value}, v.ownBlock = none ∨ v.ownBlock ≠ some g → ∀ x, v.ownBlock = some x → x ≠ g ∧ x ≠ g := fun {v} h1 x hx => by
  rcases h1 with h1 | h1
  ·rw [hx] at h1; cases h1
  ·rw [hx] at h1;exact ⟨fun e => h1 (by rw [e]), fun e => h1 (by rw [e])⟩
 have hil : di < M.length := (List.getElem?_eq_some_iff.1 hm).1
 have apart : ∀ v ∈ (.slice (some ⟨g, 0, none⟩) M.length cap) :: vt :: M.map (fun m => m.2.2), (v.ownBlock = none ∨ v.ownBlock ≠ m.2.2.ownBlock) → v.ownBlock = none ∨ v.ownBlock ≠ v'.ownBlock := fun v hvm h1 => by
  cases ho : v.ownBlock with
  | none => exact .inl rfl
  | some k =>
   right
   intro he;rcases hv k he.symm with h2 | h2
   ·rcases h1 with h1 | h1
    ·rw [ho] at h1; cases h1
    ·exact h1 (by rw [ho, h2])
   ·have := (hlt v hvm k ho).2;omega
 refine ⟨fun j u hj => ?_, fun j hj => ?_, Nat.lt_of_lt_of_le rl hk.size, ⟨?_, ?_, h.v.t1, fun x hx => ?_, fun x hx => ?_, ?_⟩, fun v hvv => ?_⟩
 ·rw [hk.cell (p := ⟨r, o + j, none⟩) rl hgr.symm hgr.symm, World.cell?_of_block hr];exact h.c j u hj
 ·rw [hk.frozen (p := ⟨r, o + j, none⟩) rl hgr.symm hgr.symm, World.frozen?_of_block hr];exact h.z j hj
 ·have h1 := World.ownsRow.kept h.v.nd hg (own_ne h.v.nd hes (by decide));have h2 := (World.ownsRow.stored h1 (di * 5 + 4) v').1;rw [flN_put M di m hm E' v'] at h2;rw [List.length_set];exact h2
 ·have h1 := World.ownsRow.kept h.v.tb hg (own_ne h.v.tb hes (by decide));exact ownsRow_kp2 h1 hk (far (own_ne h.v.tb h.v.nd (by decide)))
 ·rcases List.mem_or_eq_of_mem_set hx with hx | rfl
  ·exact (h.v.bs x hx).nil
  ·exact (h.v.bs m hmm).nil
 ·obtain ⟨j, hj⟩ := List.mem_iff_getElem?.1 hx
  by_cases e1 : j = di
  ·subst e1;rw [List.getElem?_set_self hil] at hj;obtain rfl := Option.some.inj hj;exact ownsRow_kp2 hown hk (fun k hk' => ⟨gv k hk', gv k hk'⟩)
  ·rw [List.getElem?_set_ne (Ne.symm e1)] at hj;have hxm := List.mem_of_getElem? hj;have hp := List.pairwise_iff_getElem.1 (List.pairwise_cons.1 (List.pairwise_cons.1 h.v.ap).2).2;obtain ⟨lj, ej⟩ := List.getElem?_eq_some_iff.1 hj;obtain ⟨ld, ed⟩ := List.getElem?_eq_some_iff.1 hm
   have hne : x.2.2.ownBlock = none ∨ x.2.2.ownBlock ≠ m.2.2.ownBlock := by
    rcases Nat.lt_or_ge j di with hjd | hjd
    ·have h1 := hp j di (by rw [List.length_map]; exact lj) (by rw [List.length_map]; exact ld) hjd;rw [List.getElem_map, List.getElem_map, ej, ed] at h1;exact h1
    ·have h1 := hp di j (by rw [List.length_map]; exact ld) (by rw [List.length_map]; exact lj) (by omega);rw [List.getElem_map, List.getElem_map, ej, ed] at h1
     cases ho : x.2.2.ownBlock with
     | none => exact .inl rfl
     | some k =>
      rcases h1 with h1 | h1
      ·exact .inr (by rw [h1]; intro hh; cases hh)
      ·exact .inr (by rw [ho] at h1; exact fun e => h1 e.symm)
   have h1 := World.ownsRow.kept (h.v.es x hxm) hg hne;exact ownsRow_kp2 h1 hk (far ((own_ne (h.v.es x hxm) h.v.nd (by decide))))
 ·have hp := List.pairwise_cons.1 h.v.ap;have hp2 := List.pairwise_cons.1 hp.2;refine List.pairwise_cons.2 ⟨fun b hb => ?_, List.pairwise_cons.2 ⟨fun b hb => ?_, ?_⟩⟩
  ·rcases List.mem_cons.1 hb with rfl | hb
   ·exact hp.1 _ (List.mem_cons_self ..)
   ·obtain ⟨x, hx, rfl⟩ := List.mem_map.1 hb;rcases List.mem_or_eq_of_mem_set hx with hx | rfl
    ·exact hp.1 _ (List.mem_cons_of_mem _ (List.mem_map.2 ⟨x, hx, rfl⟩))
    ·exact apart _ (List.mem_cons_self ..) (hp.1 _ (List.mem_cons_of_mem _ (List.mem_map.2 ⟨m, hmm, rfl⟩)))
  ·obtain ⟨x, hx, rfl⟩ := List.mem_map.1 hb;rcases List.mem_or_eq_of_mem_set hx with hx | rfl
   ·exact hp2.1 _ (List.mem_map.2 ⟨x, hx, rfl⟩)
   ·exact apart _ (List.mem_cons_of_mem _ (List.mem_cons_self ..)) (hp2.1 _ (List.mem_map.2 ⟨m, hmm, rfl⟩))
  ·rw [List.map_set];refine List.pairwise_iff_getElem.2 (fun a b ha hb hab => ?_);have h3 := List.pairwise_iff_getElem.1 hp2.2;rw [List.length_set] at ha hb
   have hgd : (M.map fun m => m.2.2)[di]'(by rw [List.length_map]; exact hil) = m.2.2 := by rw [List.getElem_map, (List.getElem?_eq_some_iff.1 hm).2]
   have mem : ∀ (k : Nat) (hk : k < (M.map fun m => m.2.2).length), (M.map fun m => m.2.2)[k] ∈ (.slice (some ⟨g, 0, none⟩) M.length cap) :: vt :: M.map (fun m => m.2.2) := fun k hk => List.mem_cons_of_mem _ (List.mem_cons_of_mem _ (List.getElem_mem hk));rw [List.getElem_set, List.getElem_set]
   split
   ·rename_i e1
    subst e1;rw [if_neg (by omega)];have h1 := h3 di b ha hb hab;rw [hgd] at h1
    have h2 := apart _ (mem b hb) (by
     cases ho : ((M.map fun m : Nm => m.2.2)[b]).ownBlock with
     | none => exact .inl rfl
     | some k =>
      rcases h1 with h1 | h1
      ·exact .inr (by rw [h1]; intro hh; cases hh)
      ·exact .inr (by rw [ho] at h1; exact fun e => h1 e.symm))
    cases ho : v'.ownBlock with
    | none => exact .inl rfl
    | some k =>
     rcases h2 with h2 | h2
     ·exact .inr (by rw [h2]; intro hh; cases hh)
     ·exact .inr (by rw [ho] at h2; exact fun e => h2 e.symm)
   ·split
    ·rename_i e1
     subst e1;have h1 := h3 a di ha hb hab;rw [hgd] at h1;exact apart _ (mem a ha) h1
    ·exact h3 a b ha hb hab
 ·rcases List.mem_cons.1 hvv with rfl | hvv
  ·exact h.ne _ (List.mem_cons_self ..)
  ·rcases List.mem_cons.1 hvv with rfl | hvv
   ·exact h.ne _ (List.mem_cons_of_mem _ (List.mem_cons_self ..))
   ·obtain ⟨x, hx, rfl⟩ := List.mem_map.1 hvv;rcases List.mem_or_eq_of_mem_set hx with hx | rfl
    ·exact h.ne _ (List.mem_cons_of_mem _ (List.mem_cons_of_mem _ (List.mem_map.2 ⟨x, hx, rfl⟩)))
    ·exact rv
end Go.Proofs.YtgdapkbenmlabaaGreatDoor
namespace Go.Proofs.YtgdapkbenmlabaaGreatDoor
open Go.RowKit Go.Maps
def wpAnyG (P : Program) (md : Region.Mode) (ops : Array Oper) (Q : Exit → Act → World → Prop) (S : World → Prop) (x0 : Nat) : Nat → Array Bool → Act → World → Prop
 | 0, listed, a, w => Region.ready md ops listed = [] ∧ Q .normal a w
 | fuel + 1, listed, a, w =>
  (Region.ready md ops listed = [] → Q .normal a w) ∧
  ∀ i ∈ Region.ready md ops listed, wpOp P ops Q i (fun a' w' => ((listed.setIfInBounds i true).getD x0 true = false → S w') ∧ wpAnyG P md ops Q S x0 fuel (listed.setIfInBounds i true) a' w') a w
section
variable {P : Program} {md : Region.Mode} {ops : Array Oper} {Q : Exit → Act → World → Prop} {S : World → Prop} {x0 : Nat}
theorem wpAny_of_G : ∀ (fuel : Nat) (listed : Array Bool) (a : Act) (w : World), wpAnyG P md ops Q S x0 fuel listed a w → wpAny P md ops Q fuel listed a w
 | 0, _, _, _, h => h
 | fuel + 1, _, _, _, h => ⟨h.1, fun i hi => wpOp_mono (fun a' w' h' => wpAny_of_G fuel _ a' w' h'.2) (h.2 i hi)⟩
theorem wpAnyG_first {i : Nat} {oi : Oper} {v : Value} {S2 : World → Prop} (hi : ops[i]? = some oi) (hsel : ∀ (j : Nat) (o : Oper) cs b, ops[j]? = some o → o.op ≠ .select cs b)
  (hQ : ∀ c a w, Q (.panic c) (a.put oi.dst v) w → Q (.panic c) a w) (hix : i ≠ x0)
  (hS2 : ∀ (listed : Array Bool) (w : World), listed.getD i true = false → (listed.getD x0 true = false → S w) → (listed.getD x0 true = false ∨ ∀ w, S2 w) → S2 w)
  (hkeep : (∀ w, S2 w) ∨ (∀ o, ops[x0]? = some o → ∃ e ∈ o.after, Region.binds md e = true ∧ e.on = i)) :
  ∀ (fuel : Nat) (listed : Array Bool) (a : Act) (w : World),
   (∀ j oj, ops[j]? = some oj → j ≠ i → listed.getD j true = false → (∀ e ∈ oj.after, Region.binds md e = true → e.on ≠ i) → oi.apart ops oj = true) →
   i ∈ Region.ready md ops listed → YieldsIf P ops S2 oi v a → (listed.getD x0 true = false → S w) → (listed.getD x0 true = false ∨ ∀ w, S2 w) →
   wpAnyG P md ops Q S x0 fuel (listed.setIfInBounds i true) (a.put oi.dst v) w → wpAnyG P md ops Q S x0 (fuel + 1) listed a w := by
 intro fuel;have hgi : ∀ (listed : Array Bool), i ∈ Region.ready md ops listed → listed.getD i true = false := fun l h => (mem_ready.1 h).1
 have hself : ∀ (listed : Array Bool) (w : World), (listed.getD x0 true = false → S w) → ((listed.setIfInBounds i true).getD x0 true = false → S w) := fun l w h h2 => by
  by_cases e : i = x0
  ·subst e;refine h ?_
   by_cases hl : i < l.size
   ·simp [hl] at h2
   ·rw [show l.setIfInBounds i true = l from by simp [Array.setIfInBounds, hl]] at h2;exact h2
  ·rw [getD_set_ne true e] at h2;exact h h2
 induction fuel with
 | zero =>
  intro listed a w _ hr hy hS hx H;refine ⟨fun h => (by rw [h] at hr; cases hr), fun j hj => ?_⟩
  by_cases hji : j = i
  ·subst hji; exact hy.wpOp hi (hS2 listed w (hgi listed hr) hS hx) ⟨hself listed w hS, H⟩
  ·have := ready_mono hj hji;rw [H.1] at this
   cases this
 | succ fuel ih =>
  intro listed a w hfree hr hy hS hx H;refine ⟨fun h => (by rw [h] at hr; cases hr), fun j hj => ?_⟩
  by_cases hji : j = i
  ·subst hji; exact hy.wpOp hi (hS2 listed w (hgi listed hr) hS hx) ⟨hself listed w hS, H⟩
  ·have h1 := H.2 j (ready_mono hj hji);obtain ⟨hjun, oj, hoj, hall⟩ := mem_ready.1 hj
   have hnot : ∀ e ∈ oj.after, Region.binds md e = true → e.on ≠ i := fun e he hb heq => by
    have h1 := hall e he hb;have h0 := (mem_ready.1 hr).1;rw [heq] at h1;rcases Nat.lt_or_ge i listed.size with h' | h'
    ·simp [h'] at h0 h1; rw [h0] at h1; cases h1
    ·simp [Array.getElem?_eq_none h'] at h1
   have h2 := wpOp_putIf hoj (hfree j oj hoj hji hjun hnot) (fun cs b => hsel i oi cs b hi) (fun cs b => hsel j oj cs b hoj) hQ hy h1
   have hfree' : ∀ k ok, ops[k]? = some ok → k ≠ i → (listed.setIfInBounds j true).getD k true = false →
     (∀ e ∈ ok.after, Region.binds md e = true → e.on ≠ i) → oi.apart ops ok = true := fun k ok hk hki hun hno => by
    refine hfree k ok hk hki ?_ hno
    by_cases hjk : j = k
    ·subst hjk; exact hjun
    ·rw [getD_set_ne true hjk] at hun; exact hun
   have hx' : (listed.setIfInBounds j true).getD x0 true = false ∨ ∀ w, S2 w := by
    rcases hx with hx | hx
    ·rcases hkeep with hk | hk2
     ·exact .inr hk
     ·refine .inl ?_
      have hjx : j ≠ x0 := fun e => by
       subst e;obtain ⟨e, he, hb, hon⟩ := hk2 oj hoj;exact hnot e he hb hon
      rw [getD_set_ne true hjx];exact hx
    ·exact .inr hx
   have hdown : ∀ (w' : World), (((listed.setIfInBounds i true).setIfInBounds j true).getD x0 true = false → S w') → ((listed.setIfInBounds j true).getD x0 true = false → S w') ∨ x0 = i := fun w' h => by
    by_cases e : i = x0
    ·exact .inr e.symm
    ·refine .inl fun h2 => h ?_;rw [Array.setIfInBounds_comm _ _ (Ne.symm hji), getD_set_ne true e];exact h2
   refine wpOp_mono (fun a' w' h3 => ?_) h2
   have hSd : (listed.setIfInBounds j true).getD x0 true = false → S w' := by
    rcases hdown w' h3.2.1 with h | h
    ·exact h
    ·exact absurd h hix.symm
   refine ⟨hSd, ih (listed.setIfInBounds j true) a' w' hfree' (ready_mono hr (Ne.symm hji)) h3.1 hSd hx' ?_⟩;rw [Array.setIfInBounds_comm _ _ hji];exact h3.2.2
def waitsB (md : Region.Mode) (ops : Array Oper) (x0 i : Nat) : Bool := (ops[x0]?).all fun o => o.after.any fun e => Region.binds md e && e.on == i
theorem waitsB_spec {i : Nat} (h : waitsB md ops x0 i = true) : ∀ o, ops[x0]? = some o → ∃ e ∈ o.after, Region.binds md e = true ∧ e.on = i := by
 intro o ho;unfold waitsB at h;rw [ho] at h;simp only [Option.all_some, Array.any_eq_true] at h;obtain ⟨k, hk, hb⟩ := h;simp only [Bool.and_eq_true, beq_iff_eq] at hb;exact ⟨o.after[k], Array.getElem_mem hk, hb.1, hb.2⟩
theorem wpAnyG_take {i : Nat} {oi : Oper} {v : Value} {fuel : Nat} {listed : Array Bool} {a : Act} {w : World} (hi : ops[i]? = some oi)
  (hs : Region.noSelect ops = true) (hf : Region.free md ops listed i = true) (hr : (Region.ready md ops listed).contains i = true) (hx : (decide (i ≠ x0) && waitsB md ops x0 i) = true) (hx0 : listed.getD x0 true = false)
  (hQ : ∀ c a w, Q (.panic c) (a.put oi.dst v) w → Q (.panic c) a w) (hy : YieldsIf P ops S oi v a) (hS : S w)
  (h : wpAnyG P md ops Q S x0 fuel (listed.setIfInBounds i true) (a.put oi.dst v) w) : wpAnyG P md ops Q S x0 (fuel + 1) listed a w := by
 rw [Bool.and_eq_true, decide_eq_true_eq] at hx;exact wpAnyG_first (S2 := S) hi (Region.noSelect_spec hs) hQ hx.1 (fun l w _ h1 h2 => h2.elim h1 fun h => h w) (.inr (waitsB_spec hx.2)) fuel listed a w (Region.free_spec hi hf) (by simpa using hr) hy (fun _ => hS) (.inl hx0) h
theorem wpAnyG_pure {i : Nat} {oi : Oper} {v : Value} {fuel : Nat} {listed : Array Bool} {a : Act} {w : World} (hi : ops[i]? = some oi)
  (hs : Region.noSelect ops = true) (hf : Region.free md ops listed i = true) (hr : (Region.ready md ops listed).contains i = true) (hx : decide (i ≠ x0) = true)
  (hQ : ∀ c a w, Q (.panic c) (a.put oi.dst v) w → Q (.panic c) a w) (hy : YieldsIf P ops (fun _ => True) oi v a) (hS : S w)
  (h : wpAnyG P md ops Q S x0 fuel (listed.setIfInBounds i true) (a.put oi.dst v) w) : wpAnyG P md ops Q S x0 (fuel + 1) listed a w :=
 wpAnyG_first (S2 := fun _ => True) hi (Region.noSelect_spec hs) hQ (of_decide_eq_true hx) (fun _ _ _ _ _ => trivial) (.inl fun _ => trivial) fuel listed a w (Region.free_spec hi hf) (by simpa using hr) hy (fun _ => hS) (.inr fun _ => trivial) h
theorem wpAnyG_done {listed : Array Bool} {a : Act} {w : World} (hr : Region.ready md ops listed = []) (h : Q .normal a w) :
  ∀ fuel, wpAnyG P md ops Q S x0 fuel listed a w
 | 0 => ⟨hr, h⟩
 | _ + 1 => ⟨fun _ => h, by rw [hr]; simp⟩
def AllReadyG (P : Program) (md : Region.Mode) (ops : Array Oper) (Q : Exit → Act → World → Prop) (S : World → Prop) (x0 : Nat) (fuel : Nat) (listed : Array Bool) (a : Act) (w : World) (rs : List Nat) : Prop :=
 ∀ i ∈ rs, wpOp P ops Q i (fun a' w' => ((listed.setIfInBounds i true).getD x0 true = false → S w') ∧ wpAnyG P md ops Q S x0 fuel (listed.setIfInBounds i true) a' w') a w
theorem AllReadyG.nil {fuel : Nat} {listed : Array Bool} {a : Act} {w : World} : AllReadyG P md ops Q S x0 fuel listed a w [] := fun _ h => by cases h
theorem AllReadyG.cons {fuel : Nat} {listed : Array Bool} {a : Act} {w : World} {i : Nat} {o : Oper} {rs : List Nat} (ho : ops[i]? = some o)
  (h : ∀ K' : Act → World → Prop, Shut (∀ a w, ((listed.setIfInBounds i true).getD x0 true = false → S w) → wpAnyG P md ops Q S x0 fuel (listed.setIfInBounds i true) a w → K' a w) → if Region.wanted o (yielded ops a.tmps) = true then Oper.wp P o a w K' Q else K' (a.put o.dst undef) w)
  (hs : AllReadyG P md ops Q S x0 fuel listed a w rs) : AllReadyG P md ops Q S x0 fuel listed a w (i :: rs) := fun j hj => by
 rcases List.mem_cons.1 hj with rfl | hj
 ·exact wpOp_step ho (fun K' hK => h K' (fun a w hS hW => hK a w ⟨hS, hW⟩))
 ·exact hs j hj
theorem wpAnyG_ready {rs : List Nat} {fuel : Nat} {listed : Array Bool} {a : Act} {w : World} (hr : Region.ready md ops listed = rs) (hne : rs ≠ [])
  (h : AllReadyG P md ops Q S x0 fuel listed a w rs) : wpAnyG P md ops Q S x0 (fuel + 1) listed a w := ⟨fun h0 => absurd (hr ▸ h0) hne, hr ▸ h⟩
theorem wp_region_G (x0 : Nat) {id : Nat} {a : Act} {w : World} (hm : P.follows .mixedOrders = true)
  (h : wpAnyG P .any ops Q S x0 ops.size (Array.replicate ops.size false) a { w with drawn := w.drawn + 1 }) : (Code.region id ops true).wp P Q a w :=
 wp_region_any hm (wpAny_of_G _ _ _ _ h)
end
end Go.Proofs.YtgdapkbenmlabaaGreatDoor
namespace Go.Proofs.YtgdapkbenmlabaaGreatDoor
open Go.RowKit Go.Maps
def addR (B : Int) (tn : Nat) (L : List Rn) (n : Nat) (E : List En) : Int := if roomN E < E.length then 0 else if B < uB tn L n then 10 else 0
theorem vac_num {e : En} (h : e = zE ∨ okE e) : vacE e = decide (e.2 = 0) := by
 rcases h with rfl | h
 ·rfl
 ·have h0 := h.1;rw [decide_eq_false (by omega)];unfold vacE;refine decide_eq_false (fun e1 => ?_);rw [e1] at h0;exact absurd h0 (by decide)
theorem Kp.wide {w w' : World} {a b c : Nat} (h : Kp w w' b b) (h1 : b = c) : Kp w w' a c := by
 subst h1;exact ⟨h.os, h.tape, h.output, h.size, fun k hk _ h2 => h.block k hk h2 h2⟩
theorem append_place {P : Program} (w : World) (base : Nat) (t ty e : TypeId) (i : TypeInfo) (z : Value) (size bytes : Nat) (ht : P.underlying t = some (.slice e)) (hi : P.info? e = some i) (hz : i.zero = some z)
  (hsize : i.size = size) (hby : i.bytes = bytes) (v : Value) (n : Nat) (xs : List Value) (hown : w.ownsRow base e size v n xs)
  (a : Addr) (m c : Nat) (news : List Value) (hl : news.length = m * size) (hnews : ∀ j u, news[j]? = some u → w.cell? (a.add j) = some u) (h1 : ∀ u ∈ news, u.oneCell' = true)
  (h63 : n + m ≤ maxLen) (hbytes : (n + m) * bytes ≤ 140737488355328) (hm0 : 0 < m) (v' : Value) (w' : World) (hr : (Builtin.append_ #[t, t] ty #[v, .slice (some a) m c]).run P w = .ok v' w') :
  ∀ k, v'.ownBlock = some k → v.ownBlock = some k ∨ w.heap.size ≤ k := by
 subst hsize;subst hby
 have hsmall : n + m ≤ 9223372036854775807 := by simp only [maxLen] at h63; omega
 rcases hown.2 with ⟨rfl, rfl⟩ | ⟨g, cap, cur, rfl, hbg, hg, hnc, hcm, hcs, htake⟩
 ·have hr2 := run_append_nil (P := P) w t ty e i z ht hi hz a m c news hl hnews hm0 (by omega) (by have hb := hbytes; simp only [Nat.zero_add] at hb; omega);have h9 := hr.symm.trans hr2
  injection h9 with e1 e2
  subst e1;intro k hk;exact .inr (Nat.le_of_eq (Option.some.inj hk))
 ·by_cases hroom : n + m ≤ cap
  ·have hfit : n * i.size + news.length ≤ cur.size := by rw [hl, hcs, ← Nat.add_mul]; exact Nat.mul_le_mul_right _ hroom
   have hr2 := run_append_room (P := P) w t ty e i ht hi g n cap cur hg a m c news hl hnews h1 hroom hfit;have h9 := hr.symm.trans hr2
   injection h9 with e1 e2
   subst e1;exact fun k hk => .inl hk
  ·have holds : ∀ j u, xs[j]? = some u → w.cell? ((⟨g, 0, none⟩ : Addr).add j) = some u := hown.cells (g := g) rfl;have hr2 := run_append_grow (P := P) w t ty e i z ht hi hz ⟨g, 0, none⟩ n cap xs hown.1 holds a m c news hl hnews (by omega) (by omega) (growslice_fits (by omega) hbytes);have h9 := hr.symm.trans hr2
   injection h9 with e1 e2
   subst e1;intro k hk;exact .inr (Nat.le_of_eq (Option.some.inj hk))
theorem wp_append_own2 {P : Program} (w : World) {o : Oper} {a : Act} {K : Act → World → Prop} {Q : Exit → Act → World → Prop} (s x : Operand) (t : TypeId)
  (ho : o.op = .call { callee := .builtin .append, args := #[s, x], argTypes := #[t, t] })
  (base : Nat) (e : TypeId) (i : TypeInfo) (z : Value) (size bytes : Nat) (ht : P.underlying t = some (.slice e)) (hi : P.info? e = some i) (hz : i.zero = some z)
  (hsize : i.size = size) (hby : i.bytes = bytes) (hzs : z.cells.size = size) (hsz : 0 < size)
  (v : Value) (n : Nat) (xs : List Value) (hs : a.eval s = v) (hown : w.ownsRow base e size v n xs)
  (ad : Addr) (m c : Nat) (news : List Value) (hx : a.eval x = .slice (some ad) m c) (hl : news.length = m * size) (hnews : ∀ j u, news[j]? = some u → w.cell? (ad.add j) = some u) (h1 : ∀ u ∈ news, u.oneCell' = true)
  (h63 : n + m ≤ maxLen) (hbytes : (n + m) * bytes ≤ 140737488355328) (hbase : base ≤ w.heap.size) (hm0 : 0 < m)
  (h : ∀ v' w', w'.ownsRow base e size v' (n + m) (xs ++ news) → w.grownBy w' v.ownBlock → (∀ k, v'.ownBlock = some k → v.ownBlock = some k ∨ w.heap.size ≤ k) → K (a.put o.dst v') w') : o.wp P a w K Q := by
 obtain ⟨v', w', hr, h2, h3, h4⟩ := run_append_own (P := P) w base t o.type e i z size bytes ht hi hz hsize hby hzs hsz v n xs hown ad m c news hl hnews h1 h63 hbytes hbase;have hp := append_place (P := P) w base t o.type e i z size bytes ht hi hz hsize hby v n xs hown ad m c news hl hnews h1 h63 hbytes hm0 v' w' hr;unfold Oper.wp execOp;simp only [ho, resolve, invoke, builtin, Sem.run_bind, Sem.run_pure, Result.andThen_ok, List.map_toArray, List.map_cons, List.map_nil, hs, hx, hr];exact h v' w' h2 h3 hp
theorem radd_any (base r o g capn tn ct : Nat) (pt : Option Addr) (M : List Nm) (tc : List Value) (B : Int) (di : Nat) (dm : Nm) (hm : M[di]? = some dm) (hM : M.length ≤ 200) (hk : dm.1.k = 2) (hE : ∀ e ∈ dm.1.E, e = zE ∨ okE e) (hl : ∀ m ∈ M, m.1.E.length ≤ 1000) (ht : tn ≤ 1024) (x : En) (hx : x.2 < 65536) (w : World) (h : Gm w base r o (.slice (some ⟨g, 0, none⟩) M.length capn) (.slice pt tn ct) M tn tc B) :
  Calls Tryz.prog 26 #[.pointer (some ⟨r, o, none⟩), .int .i64 di, .agg (enc x).toArray] w fun e w' =>
   (¬ addC dm.1.E x = 0 ∧ e = .returned (.int .i64 (addC dm.1.E x)) ∧ Below w.heap.size w w') ∨
   (addC dm.1.E x = 0 ∧ Kp w w' g (dm.2.2.ownBlock.getD w.heap.size) ∧ (∃ v', Gm w' base r o (.slice (some ⟨g, 0, none⟩) M.length capn) (.slice pt tn ct) (M.set di (⟨dm.1.k, dm.1.l, dm.1.g, setE dm.1.E (roomN dm.1.E) x⟩, dm.2.1, v')) tn tc B ∧ ∀ k, v'.ownBlock = some k → dm.2.2.ownBlock = some k ∨ w.heap.size ≤ k) ∧
    e = .returned (.int .i64 (addR B tn ((M.map fun m => m.1).set di ⟨dm.1.k, dm.1.l, dm.1.g, setE dm.1.E (roomN dm.1.E) x⟩) M.length dm.1.E))) := by
 obtain ⟨dE, hu, hd⟩ := Tryz.descEn;have HU := jh hu;have HDd := jh hd;obtain ⟨iE, hi, hz, hs, hbE⟩ := Tryz.infoEn;have HI := jh hi;have HZ := jh hz;have HS := jh hs;have HBE := jh hbE;have HG := jh h;have HDr := jh (fun W hW => rdirg_any base r o g capn tn (.slice pt tn ct) M tc B di dm hm hM W hW);have hfi := fun W hW => rfindg_any base r o g capn tn (.slice pt tn ct) M tc B di dm hm hM hk hE (Nat.le_trans (hl dm (List.mem_of_getElem? hm)) (by decide)) x.1 W hW;have HFi := jh hfi;have hdi : di < M.length := (List.getElem?_eq_some_iff.1 hm).1
 have hi0 : (0 : Int) ≤ di := by omega
 have hi1 : (di : Int) < M.length := by omega
 have HMm := jh hm;have HMl := jh hM;have HKk := jh hk;have HOk := jh hE;have HLe := jh hl;obtain ⟨pa, cap, hv⟩ : ∃ pa cap, dm.2.2 = .slice pa dm.1.E.length cap := ownsRow_slice (h.v.es dm (List.mem_of_getElem? hm));have HV := jh hv;obtain ⟨xs, xn⟩ := x;have HXn := jh (show xn < 65536 from hx)
 obtain ⟨mn, hmn⟩ : ∃ z, M.length = z := ⟨_, rfl⟩
 have HMn := jh hmn
 obtain ⟨n, hn⟩ : ∃ n, dm.1.E.length = n := ⟨_, rfl⟩
 have HN := jh hn;have hln : n ≤ 1000 := hn ▸ hl dm (List.mem_of_getElem? hm)
 have hln0 : (n : Int) ≤ 1000 := by omega
 rw [hmn] at hi1;clear h hm hM hk hE hl hu hd hi hz hs hbE hdi hfi hv hx hmn hn
 go_enter Tryz.func26, Tryz.ntmps26
 go_wp2_with (first | (refine wpList_box_list (w := w) rfl 58 _ rfl (enc (xs, xn)) rfl ?_; intro w1 F1 hb1 hz1; have HB1 := jh hb1; have hzz := hb1.size; clear hb1))
 obtain ⟨bX, hbX⟩ : ∃ y, w.heap.size = y := ⟨_, rfl⟩
 rw [hbX] at F1
 try rw [hbX]
 have HbX := jh hbX;clear hbX hz1;have HG1 := jh (HG.out.keep HB1.out);refine (HDr.out w1 HG1.out).mono ?_;rintro e w2 ⟨rfl, hw2⟩;subst hw2;rw [HKk.out];have c0 : w2.cell? ⟨r, o, none⟩ = some (.slice (some ⟨g, 0, none⟩) mn capn) := (HG1.out.c 0 _ rfl).trans (by rw [HMn.out]);have ce : w2.cell? ⟨g, di * 5 + 4, none⟩ = some (.slice pa n cap) := (RvG.at HG1.out.v HMm.out 4 _ rfl).trans (by rw [HV.out, HN.out]);have cX0 : w2.cell? ⟨bX, 0, none⟩ = some (.string xs) := F1.out.c 0 _ rfl;have cX1 : w2.cell? ⟨bX, 1, none⟩ = some (.int .u16 xn) := F1.out.c 1 _ rfl;clear HDr hzz
 go_wp2_with fail
 refine (rname_any xs w2).mono ?_;rintro e w3 ⟨rfl, hw3⟩;subst hw3
 obtain ⟨nc9, hnc⟩ : ∃ z, nameC xs = z := ⟨_, rfl⟩
 rw [hnc]
 by_cases hn0 : nc9 = 0
 ·subst hn0;have HNc := jh hnc;clear hnc
  by_cases h0 : xn = 0
  ·subst h0;have HA := jh (addC_num (E := dm.1.E) (x := (xs, 0)) HNc.out rfl)
   go_wp2_with fail
   go_ret
   exact .inl ⟨by rw [HA.out]; decide, by rw [HA.out]; rfl, HB1.out⟩
  ·have h0i : ((xn : Int) == 0) = false := beq_eq_false_iff_ne.2 (by omega);have HX0 := jh h0;clear h0
   go_wp2_with fail
   refine (HFi.out w3 HG1.out).mono ?_;rintro e w4 ⟨hw4, hr⟩;subst hw4;clear HFi;rcases hr with ⟨i, e', he, hme, hfi, rfl⟩ | ⟨hno, rfl⟩
   ·have hA := addC_old (E := dm.1.E) (x := (xs, xn)) HNc.out HX0.out (List.any_eq_true.2 ⟨e', List.mem_of_getElem? he, hme⟩);have HA := jh hA;clear he hme hfi hA
    go_wp2_with fail
    go_ret
    exact .inl ⟨by rw [HA.out]; decide, by rw [HA.out]; rfl, HB1.out⟩
   ·have hA := addC_ok (E := dm.1.E) (x := (xs, xn)) HNc.out HX0.out hno;have HA := jh hA;clear hno hA
    go_wp2_with fail
    go_loopw [12] (fun iv wr => ∃ k : Nat, wr = w4 ∧ k ≤ n ∧ iv = .int .i64 k ∧ ∀ (j : Nat) (e' : En), j < k → dm.1.E[j]? = some e' → vacE e' = false) (fun iv _ => n - (Go.RowKit.intOf iv).toNat)
    case atStart => exact ⟨0, rfl, Nat.zero_le _, rfl, fun j e' hj => absurd hj (Nat.not_lt_zero _)⟩
    case round =>
     obtain ⟨k, rfl, hk, rfl, ha⟩ := hrel;have HAl := jh ha;clear ha
     by_cases hkn : k < n
     ·have hkn1 : (k : Int) < n := by omega
      have hk0 : (0 : Int) ≤ k := by omega
      obtain ⟨e, he⟩ : ∃ e, dm.1.E[k]? = some e := ⟨_, List.getElem?_eq_getElem (by rw [HN.out]; exact hkn)⟩
      have HHe := jh he;obtain ⟨pa', cap', hv', hes⟩ := Es.own (HG1.out.v.es dm (List.mem_of_getElem? HMm.out));obtain ⟨pg, hpg, hr⟩ := hes k e he
      have hpa : pa = some ⟨pg, 0, none⟩ := by
       have h9 := HV.out.symm.trans hv'
       injection h9 with h9
       rw [h9, hpg]
      subst hpa;have hvn := vac_num (HOk.out e (List.mem_of_getElem? he));obtain ⟨es, en⟩ := e;have cB : wr.cell? ⟨pg, k * 2 + 1, none⟩ = some (.int .u16 en) := hr 1 _ rfl;have HVn : Hid (vacE (es, en) = decide (en = 0)) := jh hvn;clear hv' hes hpg hr hvn he
      by_cases h00 : en = 0
      ·subst h00;have hR : k = roomN dm.1.E := room_eq dm.1.E k ⟨by rw [HN.out]; exact hk, HAl.out, .inr ⟨_, HHe.out, HVn.out⟩⟩;have HR := jh hR;clear hR
       go_upto_region 17 with fail
       refine Cf.wp_region_split (C := fun w' => ∃ q, w' = wr.drewN q) 7 (by kernel_rfl) (of_decide_eq_true (by kernel_rfl)) (by kernel_rfl) (by kernel_rfl) (by kernel_rfl) ⟨1, rfl⟩ ?_;simp only [List.take_succ_cons, List.take_zero]
       repeat (quiet_step (fail))
       refine wpQuiet_nil ?_;intro wy hw';obtain ⟨q, rfl⟩ := hw';refine Cf.wpAny_last 7 (by kernel_rfl) (by kernel_rfl) (Cf.wpOp_step0 rfl rfl (fun K hK => ?_));have hbd : Below wr.heap.size wr (wr.drewN q) := Cf.below_drewN' (Below.refl _ wr) q;have hGd := HG1.out.keep hbd;have hE1 : dm.2.2 = .slice (some ⟨pg, 0, none⟩) dm.1.E.length cap := HV.out;have hG2 := jh (hGd.setE HMm.out hE1 k (by rw [HN.out]; exact hkn) (xs, xn));have hOw := hGd.v.es dm (List.mem_of_getElem? HMm.out);rw [hE1] at hOw;have hk2 : Kp w ((wr.drewN q).setCells pg (k * 2) (enc (xs, xn))) pg pg := ((Kp.of_below HB1.out pg pg).trans (Kp.of_below hbd pg pg)).setCells pg (k * 2) (.inl rfl) _;refine wp_store_mid 58 (.tmp 68) (.tmp 67) rfl pg (k * 2) (enc (xs, xn)).toArray rfl rfl (own_there hOw k (by rw [HN.out]; exact hkn)) (sizeEn _) (all_oneCell_toArray (enc_one _)) ?_;refine hK _ _ ?_;have HK2 := jh hk2;clear hbd hGd hK K c0 ce cX0 cX1 cB hOw hE1 hk2
       go_wp2_with fail
       go_ret
       refine .inr ⟨HA.out, HK2.out.wide (by rw [HV.out]; rfl), ⟨dm.2.2, ?_, fun k hk => .inl hk⟩, ?_⟩
       ·have h9 := hG2.out;rw [show setE dm.1.E (roomN dm.1.E) (xs, xn) = dm.1.E.set k (xs, xn) from by rw [← HR.out]; unfold setE; rw [if_pos (by rw [HN.out]; exact hkn)]];exact h9
       ·unfold addR; rw [← HR.out, if_pos (by rw [HN.out]; exact hkn)]; rfl
      ·have h0j : ((en : Int) == 0) = false := beq_eq_false_iff_ne.2 (by omega);have HVf := jh (HVn.out.trans (decide_eq_false h00));clear h00
       go_wp2_with fail
       go_roundw
       case rel =>
        refine ⟨k + 1, by first | rfl | trivial, by omega, by go_num, fun j e' hj he' => ?_⟩
        by_cases ej : j = k
        ·rw [ej, HHe.out] at he'
         injection he' with he'
         rw [← he'];exact HVf.out
        ·exact HAl.out j e' (by omega) he'
       case measure => (simp [Go.RowKit.intOf]; try omega)
     ·obtain rfl : k = n := by omega
      have hR : k = roomN dm.1.E := room_eq dm.1.E k ⟨by rw [HN.out]; exact Nat.le_refl _, HAl.out, .inl HN.out.symm⟩;have HR := jh hR
      have hlk : ¬ (1024 : Int) ≤ k := by omega
      clear hR hkn HAl
      go_upto_region 21 with fail
      refine wp_region_G (S := fun W => W.cell? ⟨g, di * 5 + 4, none⟩ = some (.slice pa k cap) ∧ W.cell? ⟨bX, 0, none⟩ = some (.string xs) ∧ W.cell? ⟨bX, 1, none⟩ = some (.int .u16 xn)) 10 (by kernel_rfl) ?_;change wpAnyG _ _ _ _ _ _ _ _ _ (World.drew _)
      have hS0 : (fun W : World => W.cell? ⟨g, di * 5 + 4, none⟩ = some (.slice pa k cap) ∧ W.cell? ⟨bX, 0, none⟩ = some (.string xs) ∧ W.cell? ⟨bX, 1, none⟩ = some (.int .u16 xn)) wr.drew := ⟨ce, cX0, cX1⟩
      have hbd : Below wr.heap.size wr wr.drew := (Below.refl _ _).drew;have HG2 := jh (HG1.out.keep hbd);have HB2 := jh (HB1.out.trans (hbd.mono HB1.out.size));have hXl : bX < wr.drew.heap.size := F1.out.lt;have F2 := F1.out.keep hbd
      obtain ⟨y0, hy0⟩ : ∃ x, World.drew wr = x := ⟨_, rfl⟩
      rw [hy0] at hS0 HG2 HB2 hXl F2 ⊢;have HXl := jh hXl;have HF2 := jh F2;clear hy0 hbd c0 ce cX0 cX1 HG1 F1 F2 hXl;refine wpAnyG_pure (i := 0) (v := ?_) rfl (by kernel_rfl) (by kernel_rfl) (by kernel_rfl) (by kernel_rfl) (fun _ _ _ h => h) (Or.inl ⟨by rfl, ?_⟩) hS0 ?_;rotate_left 1
      ·intro W hW;go_simp
       try with_reducible rfl
      simp only [Act.put,j1,j2,j3,j4,j5,j6];refine wpAnyG_pure (i := 1) (v := ?_) rfl (by kernel_rfl) (by kernel_rfl) (by kernel_rfl) (by kernel_rfl) (fun _ _ _ h => h) (Or.inl ⟨by rfl, ?_⟩) hS0 ?_;rotate_left 1
      ·intro W hW;go_simp
       try with_reducible rfl
      simp only [Act.put,j1,j2,j3,j4,j5,j6];refine wpAnyG_pure (i := 2) (v := ?_) rfl (by kernel_rfl) (by kernel_rfl) (by kernel_rfl) (by kernel_rfl) (fun _ _ _ h => h) (Or.inl ⟨by rfl, ?_⟩) hS0 ?_;rotate_left 1
      ·intro W hW;go_simp
       try with_reducible rfl
      simp only [Act.put,j1,j2,j3,j4,j5,j6];refine wpAnyG_pure (i := 3) (v := ?_) rfl (by kernel_rfl) (by kernel_rfl) (by kernel_rfl) (by kernel_rfl) (fun _ _ _ h => h) (Or.inl ⟨by rfl, ?_⟩) hS0 ?_;rotate_left 1
      ·intro W hW;go_simp
       try with_reducible rfl
      simp only [Act.put,j1,j2,j3,j4,j5,j6];refine wpAnyG_take (i := 4) (v := ?_) rfl (by kernel_rfl) (by kernel_rfl) (by kernel_rfl) (by kernel_rfl) (by kernel_rfl) (fun _ _ _ h => h) (Or.inl ⟨by rfl, ?_⟩) hS0 ?_;rotate_left 1
      ·intro W hW;obtain ⟨h1, -, -⟩ := hW;go_simp
       try with_reducible rfl
      simp only [Act.put,j1,j2,j3,j4,j5,j6];refine wpAnyG_take (i := 5) (v := ?_) rfl (by kernel_rfl) (by kernel_rfl) (by kernel_rfl) (by kernel_rfl) (by kernel_rfl) (fun _ _ _ h => h) (Or.inl ⟨by rfl, ?_⟩) hS0 ?_;rotate_left 1
      ·intro W hW;obtain ⟨-, h1, h2⟩ := hW;go_simp
       try with_reducible rfl
      simp only [Act.put,j1,j2,j3,j4,j5,j6];refine wpAnyG_ready (rs := [6]) (by kernel_rfl) (by simp) (AllReadyG.cons rfl (fun KK hKK => ?_) AllReadyG.nil);go_simp;have hbA : Below y0.heap.size y0 (y0.alloc (.cells #[.string xs, .int .u16 xn] 58)) := (Below.refl _ _).alloc (Nat.le_refl _) _;have hgl : g < y0.heap.size := (RvG.lt HG2.out.v _ (List.mem_cons_self ..) g rfl).2;have hnw := Cf.cells_new y0 [.string xs, .int .u16 xn] 58;have HG3 := jh (HG2.out.keep hbA);have HB3 := jh (HB2.out.trans (hbA.mono HB2.out.size))
      have hS1 : (fun W : World => W.cell? ⟨g, di * 5 + 4, none⟩ = some (.slice pa k cap) ∧ W.cell? ⟨bX, 0, none⟩ = some (.string xs) ∧ W.cell? ⟨bX, 1, none⟩ = some (.int .u16 xn)) (y0.alloc (.cells #[.string xs, .int .u16 xn] 58)) := ⟨(hbA.cell (p := ⟨g, di * 5 + 4, none⟩) hgl).trans hS0.1, (hbA.cell (p := ⟨bX, 0, none⟩) HXl.out).trans hS0.2.1, (hbA.cell (p := ⟨bX, 1, none⟩) HXl.out).trans hS0.2.2⟩
      obtain ⟨bS, hbS⟩ : ∃ x, y0.heap.size = x := ⟨_, rfl⟩
      rw [hbS] at hnw
      try rw [hbS]
      obtain ⟨y1, hy1⟩ : ∃ x, y0.alloc (.cells #[.string xs, .int .u16 xn] 58) = x := ⟨_, rfl⟩
      change ∀ j u, [Value.string xs, .int .u16 xn][j]? = some u → (y0.alloc (.cells #[.string xs, .int .u16 xn] 58)).cell? ((⟨bS, 0, none⟩ : Addr).add j) = some u at hnw;rw [hy1] at hnw HG3 HB3 hS1 ⊢
      have hby1 : y0.heap.size ≤ y1.heap.size := by rw [← hy1]; exact hbA.size
      have HNw := jh hnw;have HS1 := jh hS1;refine hKK _ _ (fun _ => hS1) ?_;clear hKK KK hS0 hbA hbS hy1 hnw HG2 HB2
      try simp only [Act.put,j1,j2,j3,j4,j5,j6]
      refine wpAnyG_ready (rs := [7]) (by kernel_rfl) (by simp) (AllReadyG.cons rfl (fun KK hKK => ?_) AllReadyG.nil);rw [if_pos (by rfl)];have hown0 := HG3.out.v.es dm (List.mem_of_getElem? HMm.out)
      have hdv : dm.2.2 = .slice pa k cap := by rw [HV.out, HN.out]
      rw [hdv, HN.out] at hown0;have HOw := jh hown0
      have hbb : base ≤ y1.heap.size := by have := (RvG.lt HG3.out.v _ (List.mem_cons_self ..) g rfl); omega
      refine wp_append_own2 y1 _ _ 68 rfl base 58 iE _ 2 24 Tryz.underlying68 HI.out HZ.out HS.out HBE.out rfl (by decide) (.slice pa k cap) k (flatE dm.1.E) rfl HOw.out ⟨bS, 0, none⟩ 1 1 [.string xs, .int .u16 xn] rfl rfl HNw.out (by simp [Value.oneCell']) (by unfold maxLen; omega) (by omega) hbb (by decide) ?_;intro v' y2 hown' hgrow hplace;obtain ⟨pv, cv, rfl⟩ := ownsRow_slice hown'
      have hgo : some g ≠ (Value.slice pa k cap).ownBlock := by
       rcases own_ne HG3.out.v.nd HOw.out (by decide) with h9 | h9
       ·cases h9
       ·exact h9
      have hXo : some bX ≠ (Value.slice pa k cap).ownBlock := fun h9 => by
       have h8 := RvG.lt HG.out.v dm.2.2 (List.mem_cons_of_mem _ (List.mem_cons_of_mem _ (List.mem_map.2 ⟨dm, List.mem_of_getElem? HMm.out, rfl⟩))) bX (by rw [hdv]; exact h9.symm);have := HbX.out;omega
      have hS2 : (fun W : World => W.cell? ⟨g, di * 5 + 4, none⟩ = some (.slice pa k cap) ∧ W.cell? ⟨bX, 0, none⟩ = some (.string xs) ∧ W.cell? ⟨bX, 1, none⟩ = some (.int .u16 xn)) y2 := ⟨hgrow.cell hS1.1 hgo, hgrow.cell hS1.2.1 hXo, hgrow.cell hS1.2.2 hXo⟩
      have hzf : y2.frozen? ⟨g, di * 5 + 4, none⟩ = false := by
       rw [World.frozen?_of_block (w := y1) (hgrow.block g (by omega) hgo)];exact World.ownsRow.frozenAt HG3.out.v.nd _
      have hEl : (dm.1.E ++ [(xs, xn)]).length = k + 1 := by rw [List.length_append, HN.out]; rfl
      have hown2 : y2.ownsRow base 58 2 (.slice pv (k + 1) cv) (dm.1.E ++ [(xs, xn)]).length (flatE (dm.1.E ++ [(xs, xn)])) := by
       rw [hEl, flatE_snoc];exact hown'
      have HP := jh (HG3.out.put HMm.out (by rw [hdv]; exact hgrow) (dm.1.E ++ [(xs, xn)]) (.slice pv (k + 1) cv) hown2 (by rw [hdv]; exact hplace));have HK2 := jh (((Kp.of_below HB3.out g ((Value.slice pa k cap).ownBlock.getD w.heap.size)).grow2 hgrow).setCell ⟨g, di * 5 + 4, none⟩ (.inl rfl) (.slice pv (k + 1) cv));refine hKK _ _ (fun _ => hS2) ?_;have HPl : Hid (∀ k', (Value.slice pv (k + 1) cv).ownBlock = some k' → (Value.slice pa k cap).ownBlock = some k' ∨ w.heap.size ≤ k') := jh (fun k' hk' => (hplace k' hk').imp id (fun h9 => Nat.le_trans HB3.out.size h9));clear hKK KK hS1 hown' hgrow hplace hgo hXo hown0 hown2 hEl;have hS0 := hS2
      try simp only [Act.put,j1,j2,j3,j4,j5,j6]
      refine wpAnyG_pure (i := 8) (v := ?_) rfl (by kernel_rfl) (by kernel_rfl) (by kernel_rfl) (by kernel_rfl) (fun _ _ _ h => h) (Or.inl ⟨by rfl, ?_⟩) hS0 ?_;rotate_left 1
      ·intro W hW;go_simp
       try with_reducible rfl
      simp only [Act.put,j1,j2,j3,j4,j5,j6];refine wpAnyG_pure (i := 9) (v := ?_) rfl (by kernel_rfl) (by kernel_rfl) (by kernel_rfl) (by kernel_rfl) (fun _ _ _ h => h) (Or.inl ⟨by rfl, ?_⟩) hS0 ?_;rotate_left 1
      ·intro W hW;go_simp
       try with_reducible rfl
      simp only [Act.put,j1,j2,j3,j4,j5,j6];refine wpAnyG_ready (rs := [10]) (by kernel_rfl) (by simp) (AllReadyG.cons rfl (fun KK hKK => ?_) AllReadyG.nil);clear hS0;obtain ⟨hSa, hSb, hSc⟩ := hS2;go_simp
      obtain ⟨y3, hy3⟩ : ∃ x, y2.setCell ⟨g, di * 5 + 4, none⟩ (.slice pv (k + 1) cv) = x := ⟨_, rfl⟩
      rw [hy3] at HP HK2 ⊢;refine hKK _ _ (fun h9 => by cases h9) ?_;clear hKK KK hSa hSb hSc hzf hy3 HG3 HB3 HOw HNw HS1 HF2 HXl hdv hbb hby1 hgl
      try simp only [Act.put,j1,j2,j3,j4,j5,j6]
      refine wpAnyG_done (by kernel_rfl) ?_ _;clear hlk;have c0 : y3.cell? ⟨r, o, none⟩ = some (.slice (some ⟨g, 0, none⟩) M.length capn) := HP.out.c 0 _ rfl;have c1 : y3.cell? ⟨r, o + 1, none⟩ = some (.slice pt tn ct) := HP.out.c 1 _ rfl;have c2 : y3.cell? ⟨r, o + 2, none⟩ = some (.int .i64 B) := HP.out.c 2 _ rfl
      have hEl2 : dm.1.E ++ [(xs, xn)] = setE dm.1.E (roomN dm.1.E) (xs, xn) := by rw [← HR.out]; unfold setE; rw [if_neg (by rw [HN.out]; omega)]
      rw [hEl2] at HP;clear hEl2
      have hmap : (M.set di (⟨dm.1.k, dm.1.l, dm.1.g, setE dm.1.E (roomN dm.1.E) (xs, xn)⟩, dm.2.1, .slice pv (k + 1) cv)).map (fun m => m.1) = (M.map fun m => m.1).set di ⟨dm.1.k, dm.1.l, dm.1.g, setE dm.1.E (roomN dm.1.E) (xs, xn)⟩ := by rw [List.map_set]
      have hng := RvG.ng HP.out.v (List.length_set ..);rw [hmap] at hng
      have hln1 : 1 ≤ M.length := by have := (List.getElem?_eq_some_iff.1 HMm.out).1; omega
      have hfu := rfull_any g M.length capn tn ct pt B _ _ hln1 HMl.out ht (fun x hx => by
       rcases List.mem_or_eq_of_mem_set hx with hx | rfl
       ·obtain ⟨m, hm, rfl⟩ := List.mem_map.1 hx;exact Nat.le_trans (HLe.out m hm) (by decide)
       ·have h9 := setE_len dm.1.E (roomN dm.1.E) (xs, xn) (by rw [← HR.out, HN.out]; exact Nat.le_refl _);have h8 := HR.out;have h7 := HN.out
        show (setE dm.1.E (roomN dm.1.E) (xs, xn)).length ≤ 1024
        rw [h9]
        omega) y3 hng
      obtain ⟨fb, hfb⟩ : ∃ z, decide (B < uB tn ((M.map fun m => m.1).set di ⟨dm.1.k, dm.1.l, dm.1.g, setE dm.1.E (roomN dm.1.E) (xs, xn)⟩) M.length) = z := ⟨_, rfl⟩
      rw [hfb] at hfu;have HFu := jh hfu;have HFb := jh hfb
      have HAR : Hid (addR B tn ((M.map fun m => m.1).set di ⟨dm.1.k, dm.1.l, dm.1.g, setE dm.1.E (roomN dm.1.E) (xs, xn)⟩) M.length dm.1.E = if fb = true then 10 else 0) := jh (by
       unfold addR;rw [← hfb, ← HR.out, if_neg (by rw [HN.out]; omega)]
       simp only [decide_eq_true_eq])
      clear hmap hng hfu hfb hln1
      go_wp2_with fail
      refine HFu.out.mono ?_;rintro e y4 ⟨rfl, hb⟩;have HK4 := jh (HK2.out.trans (Kp.of_below hb g ((Value.slice pa k cap).ownBlock.getD w.heap.size)));have HP4 := jh (HP.out.keep hb);clear hb HFu HP HK2 c0 c1 c2
      cases fb
      ·go_wp2_with fail
       go_ret
       exact .inr ⟨HA.out, by rw [HV.out, HN.out]; exact HK4.out, ⟨_, HP4.out, by rw [HV.out, HN.out]; exact HPl.out⟩, by rw [HAR.out]; rfl⟩
      ·go_wp2_with fail
       go_ret
       exact .inr ⟨HA.out, by rw [HV.out, HN.out]; exact HK4.out, ⟨_, HP4.out, by rw [HV.out, HN.out]; exact HPl.out⟩, by rw [HAR.out]; rfl⟩
 ·have hA := addC_bad (E := dm.1.E) (x := (xs, xn)) (by show ¬ nameC xs = 0; rw [hnc]; exact hn0);have hA2 : addC dm.1.E (xs, xn) = nc9 := hA.trans hnc;have HA := jh hA2;have HA0 := jh hn0
  have hn0b : (nc9 != 0) = true := by simp [bne, hn0]
  clear hnc hA hA2 hn0
  go_wp2_with fail
  go_ret
  exact .inl ⟨by rw [HA.out]; exact HA0.out, by rw [HA.out]; rfl, HB1.out⟩
end Go.Proofs.YtgdapkbenmlabaaGreatDoor
