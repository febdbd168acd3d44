import Derived.Test.YteaoabppppbkoaaGreatDoorJ21
import Derived.Test.YteaoabppppbkoaaGreatDoorJ20
import Derived.Lib.SliceRun
/- Files: giveFrom. -/
/- Files: wipeBehind. -/
/- Files: Cut. -/
/- Directories: open. -/
/- Own directories: a table, as it is opened. -/
/- Own directories: which place is a node's, which is empty. -/
/- Own directories: a record as bytes. -/
/- Directories: find. -/
/- Directories: room, used, put. -/
/- Directories: what is none. -/
/- Directories: a place written; places cut. -/

namespace Go.Proofs.YteaoabppppbkoaaGreatDoor
set_option linter.unusedSimpArgs false
set_option linter.unusedVariables false
open Go.RowKit Go.Maps

variable {ln : Lm}
end Go.Proofs.YteaoabppppbkoaaGreatDoor

namespace Go.Proofs.YteaoabppppbkoaaGreatDoor
set_option linter.unusedSimpArgs false
set_option linter.unusedVariables false
open Go.RowKit Go.Maps

variable {ln : Lm}
end Go.Proofs.YteaoabppppbkoaaGreatDoor

namespace Go.Proofs.YteaoabppppbkoaaGreatDoor
set_option linter.unusedSimpArgs false
set_option linter.unusedVariables false
open Go.RowKit Go.Maps

variable {ln : Lm}
theorem Tab.ok {P0 M : Nat} {Y V : Nat → Nat → Int} (h : Tab P0 M Y V) (n : Nat) (h1 : 1 ≤ n) (h2 : n ≤ M) : NdOk (V n) := (h n h1 h2).2.1
end Go.Proofs.YteaoabppppbkoaaGreatDoor

namespace Go.Proofs.YteaoabppppbkoaaGreatDoor
set_option linter.unusedSimpArgs false
set_option linter.unusedVariables false
open Go.RowKit Go.Maps

variable {ln : Lm}
/-- a directory's bytes -/
def dirC (E : List En) (i : Nat) : Int := match E[i / 16]? with
  | some e => pkF e (i % 16)
  | none => 0
/-- a node is a directory with these places -/
structure Dir (B0 DA NB : Nat) (Y : Nat → Nat → Int) (f : Nat → Int) (b : Nat → Nat) (E : List En) : Prop where
  k : f 0 = 2
  l : 0 < f 1
  s : f 3 = ((16 * E.length : Nat) : Int)
  n : E.length ≤ 1024
  fu : Fu B0 DA NB Y f (ndS ((16 * E.length + 63) / 64)) b
  ok : ∀ e ∈ E, e = zE ∨ okE e
  ct : ∀ i, i < 64 * ((16 * E.length + 63) / 64) → ctF DA Y b i = dirC E i
theorem Vl.grownO {w w' : World} {v : Value} {g : Nat} {cs : List Value} (h : Vl w g cs) (hg : w.grownBy w' v.ownBlock) (hb : ∀ k, v.ownBlock = some k → k ≠ g) : Vl w' g cs := by
  have hbl : w'.heap[g]? = w.heap[g]? := hg.block g h.lt (fun he => hb g he.symm rfl)
  exact ⟨Nat.lt_of_lt_of_le h.lt hg.size, fun j u hj => (World.cell?_of_block (w := w) hbl).trans (h.c j u hj), fun j hj => (World.frozen?_of_block (w := w) hbl).trans (h.z j hj)⟩
theorem ownsRow_kpn {w w' : World} {x base : Nat} {e : TypeId} {size n : Nat} {v : Value} {xs : List Value} (h : w.ownsRow base e size v n xs) (hk : Kp w w' x x) (hx : x < base) : w'.ownsRow base e size v n xs := by
  refine ⟨h.1, ?_⟩
  rcases h.2 with hn | ⟨g', cap, cur, hv, hb, hgg, rest⟩
  · exact .inl hn
  · refine .inr ⟨g', cap, cur, hv, hb, ?_, rest⟩
    rw [hk.block g' (Array.getElem?_eq_some_iff.1 hgg).1 (by omega) (by omega)]
    exact hgg
theorem ownsRow_kpo {w w' : World} {x base : Nat} {e : TypeId} {size n : Nat} {v : Value} {xs : List Value} (h : w.ownsRow base e size v n xs) (hk : Kp w w' x x) (hx : ∀ k, v.ownBlock = some k → k ≠ x) : w'.ownsRow base e size v n xs := by
  refine ⟨h.1, ?_⟩
  rcases h.2 with hn | ⟨g', cap, cur, hv, hb, hgg, rest⟩
  · exact .inl hn
  · refine .inr ⟨g', cap, cur, hv, hb, ?_, rest⟩
    have := hx g' (by rw [hv]; rfl)
    rw [hk.block g' (Array.getElem?_eq_some_iff.1 hgg).1 this this]
    exact hgg
theorem Kp.growO {w w1 w2 : World} {x base : Nat} {v : Value} (h : Kp w w1 x x) (hg : w1.grownBy w2 v.ownBlock) (hb : ∀ k, v.ownBlock = some k → w.heap.size ≤ k) : Kp w w2 x x :=
  ⟨hg.os.trans h.os, hg.tape.trans h.tape, hg.output.trans h.output, Nat.le_trans h.size hg.size, fun k hk h1 h2 => (hg.block k (Nat.lt_of_lt_of_le hk h.size) (fun he => by have := hb k he.symm; omega)).trans (h.block k hk h1 h2)⟩
end Go.Proofs.YteaoabppppbkoaaGreatDoor

namespace Go.Proofs.YteaoabppppbkoaaGreatDoor
set_option linter.unusedSimpArgs false
set_option linter.unusedVariables false
open Go.RowKit Go.Maps

variable {ln : Lm}
def flatR (E : List Rc) : List Value := E.flatMap rcc
theorem flatR_snoc (E : List Rc) (e : Rc) : flatR (E ++ [e]) = flatR E ++ rcc e := by
  unfold flatR
  simp
/-- a table's bytes -/
def itC (E : List Rc) (i : Nat) : Int := match E[i / 8]? with
  | some e => rcF e (i % 8)
  | none => 0
/-- a node is a table with these places -/
structure It (B0 DA NB : Nat) (Y : Nat → Nat → Int) (f : Nat → Int) (b : Nat → Nat) (E : List Rc) : Prop where
  k : f 0 = 1
  l : 0 < f 1
  s : f 3 = ((8 * E.length : Nat) : Int)
  n : E.length ≤ 1024
  fu : Fu B0 DA NB Y f (ndS ((8 * E.length + 63) / 64)) b
  ok : ∀ e ∈ E, e = zR ∨ okR e
  ct : ∀ i, i < 64 * ((8 * E.length + 63) / 64) → ctF DA Y b i = itC E i
/-- a table as opened: its group, its places -/
def tcl (q : Nat) (v : Value) : List Value := [.pointer (some ⟨q, 0, none⟩), v]
theorem Tryz.zeroTt : (Tryz.prog.info? 181).map (fun i => i.zero) = some (some (.agg [.pointer none, .slice none 0 0].toArray)) := by kernel_rfl
theorem Tryz.isizeTt : (Tryz.prog.info? 181).map (·.size) = some 2 := by kernel_rfl
theorem Tryz.buildTt (q : Nat) (w : World) : (Instr.build 181 #[(0, .pointer (some ⟨q, 0, none⟩))]).run Tryz.prog w = .ok (.agg [.pointer (some ⟨q, 0, none⟩), .slice none 0 0].toArray) w := by kernel_rfl
theorem yields_bld1 {P : Program} {ops : Array Oper} {S : World → Prop} {op : Oper} {a : Act} (hw : Region.wanted op (yielded ops a.tmps) = true) (ty : TypeId) (i : Nat) (x : Operand) (ho : op.op = .build ty #[(i, x)]) (vx : Value) (hx : a.eval x = vx) (v : Value)
    (hr : ∀ w, (Instr.build ty #[(i, vx)]).run P w = .ok v w) : YieldsIf P ops S op v a :=
  .inl ⟨hw, fun w _ => by
    have hr := hr w
    unfold execOp
    simp [ho, hx, hr, Result.andThen]⟩
theorem tcl_one (q : Nat) : ∀ v ∈ tcl q (.slice none 0 0), v.oneCell' = true := by
  intro v hv
  simp only [tcl, List.mem_cons, List.not_mem_nil, or_false] at hv
  rcases hv with rfl | rfl <;> rfl
set_option maxHeartbeats 80000000 in
set_option maxRecDepth 200000 in
theorem iopen_in (q p t m d gg lab B0 P0 M DA NB N K : Nat) (g : Cf.Ge) (Y V : Nat → Nat → Int) (h2 : 2 ≤ M) (b0 : Nat → Nat) (E : List Rc) (hD : It B0 DA NB Y (V 2) b0 E) (hI : Tab P0 M Y V) (hK : K < 190000000) (hg : GG g B0 P0 M DA NB N) (w : World) (h : Gr w q p t m d gg lab g B0 NB N ln Y K) :
    Calls Tryz.prog 75 #[.pointer (some ⟨q, 0, none⟩)] w fun e w' => ∃ bd v base, e = .returned (.tuple #[.pointer (some ⟨bd, 0, none⟩), .int .i64 0]) ∧ w.heap.size ≤ bd ∧ bd < base ∧ Vl w' bd (tcl q v) ∧ w'.ownsRow base 172 4 v E.length (flatR E) ∧ Gr w' q p t m d gg lab g B0 NB N ln Y (K + 1001) ∧ Kf w w' [t, m, d, gg] := by
  obtain ⟨iE, hi, hz, hs, hbE⟩ := Tryz.infoRc
  have HI := Lib.hid hi
  have HZ := Lib.hid hz
  have HS := Lib.hid hs
  have HBE := Lib.hid hbE
  obtain ⟨dE, hu, hd⟩ := Tryz.descRc
  have HU := Lib.hid hu
  have HDd := Lib.hid hd
  have hk2 := hD.k
  have hlen := hD.n
  have HN := Lib.hid (gnode_in (ln := ln) q p t m d gg lab B0 P0 M DA NB N K g Y V 2 (by decide) h2 (by omega) hI hg w h)
  have HRd := Lib.hid (fun W hW => fread_in (ln := ln) q p t m d gg lab B0 P0 M DA NB N (K + 1) g Y V 2 (by decide) h2 (by rw [hk2]; decide) (8 * E.length) hD.s (by omega) b0 (ndS ((8 * E.length + 63) / 64)) hD.fu.fi (fun c hc => (ndS_iff _ _).2 (by omega)) hI (by omega) hg W hW 0 (by decide) ((8 * E.length : Nat) : Int) (by omega) (by omega) (8 * E.length) (by omega))
  have h3 := hD.s
  obtain ⟨f0, hf⟩ : ∃ f, V 2 = f := ⟨_, rfl⟩
  rw [hf] at HN hk2 h3
  have HZ0 := Lib.hid (show (ndc f0)[0]? = some (.int .u8 1) from by rw [← hk2]; rfl)
  obtain ⟨zn, hzn⟩ : ∃ z, 8 * E.length = z := ⟨_, rfl⟩
  rw [hzn] at HRd h3
  have HZ3 := Lib.hid (show (ndc f0)[3]? = some (.int .u32 zn) from by rw [← h3]; rfl)
  have HCt : Hid (∀ i, i < zn → ctF DA Y b0 (0 + i) = itC E i) := Lib.hid (fun i hi => by rw [Nat.zero_add]; exact hD.ct i (by omega))
  have HOk := Lib.hid hD.ok
  have hzl : zn ≤ 8192 := by omega
  have HZn := Lib.hid hzn
  have h0lt : ∀ a ∈ [q, p, t, m, d, gg], a < w.heap.size := fun a ha => by
    obtain ⟨l1, l2, l3, l4, l5, l6⟩ := h.lts
    simp only [List.mem_cons, List.not_mem_nil, or_false] at ha
    rcases ha with rfl | rfl | rfl | rfl | rfl | rfl <;> assumption
  have H0 := Lib.hid h0lt
  have hzi0 : (0 : Int) ≤ zn := by omega
  have hzi1 : (zn : Int) ≤ 8192 := by omega
  have hmod : Int.tmod (zn : Int) 8 = 0 := by
    rw [← hzn, Int.tmod_eq_emod_of_nonneg (by omega)]
    omega
  have HMd := Lib.hid hmod
  clear hi hz hs hbE hu hd h2 hI hg h hf hk2 h3 hD hzn h0lt hmod
  go_enter Tryz.func75, Tryz.ntmps75
  go_wp2_with fail
  refine HN.out.mono ?_
  rintro e w1 ⟨rfl, hG, hk⟩
  have HG1 := Lib.hid hG
  have HK1 := Lib.hid hk
  clear hG hk HN
  go_upto_region 2 with (first | (refine wpList_alloc_list (w := w1) rfl 77 rfl (ndc zpt) Tryz.zero27 ?_; intro w2 F2 hb2 hz2; simp only [Act.put, List.getElem_toArray, List.getElem_cons_zero, List.getElem_cons_succ, List.setIfInBounds_toArray, List.set_cons_zero, List.set_cons_succ]; refine wpList_store_list rfl 77 (.tmp 4) (.tmp 14) rfl w1.heap.size (ndc zpt) (ndc f0) rfl rfl F2.out rfl (size27 _) (ndc_one _) ?_; intro w3 F3 HK3; have HQ2 := Lib.hid hb2; clear hb2 F2))
  obtain ⟨bN, hbN⟩ : ∃ x, w1.heap.size = x := ⟨_, rfl⟩
  have hNw : w.heap.size ≤ bN := hbN ▸ HK1.out.size
  have HG3 := Lib.hid ((HG1.out.keep HQ2.out).kp HK3.out (HG1.out.notin (Nat.le_refl _)))
  have HKa := Lib.hid ((HK1.out.more HQ2.out).new HK3.out HK1.out.size)
  rw [hbN] at F3
  try rw [hbN]
  clear HQ2 HK3 HG1 HK1 hbN hz2
  have HNN : Hid (bN ∉ [t, m, d, gg]) := Lib.hid (fun ha => by
    have := H0.out bN (by simp only [List.mem_cons, List.not_mem_nil, or_false] at ha ⊢; omega)
    omega)
  have c3 := F3.out.c 3 _ HZ3.out
  go_wp2_with fail
  clear c3
  refine (HRd.out w3 HG3.out).mono ?_
  rintro e w4 ⟨bR, rfl, hbR, hF, hG, hk⟩
  have HG4 := Lib.hid hG
  have HKb := Lib.hid (HKa.out.trans hk)
  have FR := Lib.hid hF
  have hRw : w.heap.size ≤ bR := Nat.le_trans HKa.out.size hbR
  have F4 := Lib.hid (F3.out.kf hk HNN.out)
  clear hG hk hF hbR HRd HG3 HKa F3
  have c0 := F4.out.c 0 _ HZ0.out
  have md := HMd.out
  go_wp2_with (first | (refine wpList_yields (.agg [.pointer (some ⟨q, 0, none⟩), .slice none 0 0].toArray) (yields_bld1 (by rfl) 181 0 _ rfl (.pointer (some ⟨q, 0, none⟩)) rfl _ (fun W => Tryz.buildTt q W)) ?_) | (refine wpList_alloc_list (w := w4) rfl 181 rfl [.pointer none, .slice none 0 0] Tryz.zeroTt ?_; intro w5 F5 hb5 hz5; simp only [Act.put, List.getElem_toArray, List.getElem_cons_zero, List.getElem_cons_succ, List.setIfInBounds_toArray, List.set_cons_zero, List.set_cons_succ]; refine wpList_store_list rfl 181 (.tmp 7) (.tmp 40) rfl w4.heap.size [.pointer none, .slice none 0 0] (tcl q (.slice none 0 0)) rfl rfl F5.out rfl Tryz.isizeTt (tcl_one _) ?_; intro w6 F6 HK6; have HQ5 := Lib.hid hb5; clear hb5 F5))
  clear c0 md F4
  obtain ⟨bd, hbd⟩ : ∃ x, w4.heap.size = x := ⟨_, rfl⟩
  have hdw : w.heap.size ≤ bd := by have := HKb.out.size; omega
  have hRd : bR < bd := by have := FR.out.lt; omega
  have hd6 : bd < w6.heap.size := by have := HK6.out.size; omega
  have HG6 := Lib.hid ((HG4.out.keep HQ5.out).kp HK6.out (HG4.out.notin (Nat.le_refl _)))
  have HKc := Lib.hid ((HKb.out.more HQ5.out).new HK6.out HKb.out.size)
  have FR6 := Lib.hid ((FR.out.below HQ5.out FR.out.lt).kp HK6.out (by omega) (by omega))
  rw [hbd] at F6
  try rw [hbd]
  clear HQ5 HK6 HG4 HKb FR hbd hz5
  have HND : Hid (bd ∉ [q, p, t, m, d, gg]) := Lib.hid (fun ha => by have := H0.out bd ha; omega)
  try simp only [Act.put, List.getElem_toArray, List.getElem_cons_zero, List.getElem_cons_succ, List.setIfInBounds_toArray, List.set_cons_zero, List.set_cons_succ]
  go_loopw [8, 9, 10] (fun av _ _ wr => ∃ k : Nat, k ≤ E.length ∧ av = .int .i64 ((8 * k : Nat) : Int) ∧ Kp w6 wr bd bd ∧ ∃ v, Vl wr bd (tcl q v) ∧ wr.ownsRow w6.heap.size 172 4 v k (flatR (E.take k))) (fun av _ _ _ => zn - (Go.RowKit.intOf av).toNat)
  case atStart => exact ⟨0, Nat.zero_le _, rfl, Kp.refl _ _ _, .slice none 0 0, F6.out, World.ownsRow_nil _ _ _ _⟩
  case round =>
    obtain ⟨k, hk, rfl, hkp, v, hV, hO⟩ := hrel
    have HKp := Lib.hid hkp
    have HV := Lib.hid hV
    have HO := Lib.hid hO
    have hsz := hkp.size
    clear hkp hV hO F6
    obtain ⟨o, ho⟩ : ∃ o, 8 * k = o := ⟨_, rfl⟩
    rw [ho]
    have HOo := Lib.hid ho
    have hzz := HZn.out
    by_cases hlt : k < E.length
    · have ho16 : o + 8 ≤ zn := by omega
      have hoi : (o : Int) < zn := by omega
      have hoi0 : (0 : Int) ≤ o := by omega
      have hoi16 : (o : Int) + 8 ≤ zn := by omega
      have hoz : (o : Int) ≤ zn := by omega
      have hon : ¬ zn = o := by omega
      have hon2 : ¬ o = zn := by omega
      obtain ⟨e, he⟩ : ∃ e, E[k]? = some e := ⟨E[k], List.getElem?_eq_getElem hlt⟩
      have heE : e ∈ E := List.mem_of_getElem? he
      have hok := HOk.out e heE
      have hsb : Sb wr bR o 8 (rcF e) := ⟨by have := FR6.out.lt; omega, fun j hj => by
        have := (FR6.out.kp HKp.out (by omega) (by omega)).c (o + j) (by omega)
        rw [HCt.out (o + j) (by omega)] at this
        rw [this]
        unfold itC
        rw [show (o + j) / 8 = k by omega, he, show (o + j) % 8 = j by omega]⟩
      have hun : ∀ cap, 8 ≤ cap → cap ≤ 100000 → Calls Tryz.prog 120 #[.slice (some ⟨bR, o, none⟩) 8 cap] wr fun x w' => x = .returned (.tuple #[.agg (rcc e).toArray, .bool true]) ∧ Below wr.heap.size wr w' := fun cap hc1 hc2 => iunpack_ok e hok bR o cap hc1 hc2 (by omega) wr hsb
      have HUn := Lib.hid (hun (zn - o) (by omega) (by omega))
      have hsnoc : flatR (E.take (k + 1)) = flatR (E.take k) ++ rcc e := by
        rw [← flatR_snoc]
        congr 1
        rw [List.take_add_one, he]
        rfl
      have HSn := Lib.hid hsnoc
      have hE5 : E.length ≤ 1024 := by omega
      obtain ⟨⟨ra, rb, rc⟩, ro⟩ := e
      have HLt := Lib.hid hlt
      clear hsb hun hsnoc he heE hok ho hzz hlt
      go_wp2_with fail
      refine HUn.out.mono ?_
      rintro e w8 ⟨rfl, hb⟩
      have HK8 := Lib.hid (HKp.out.trans (Kp.of_below hb bd bd))
      have HV8 := Lib.hid (HV.out.keep hb)
      have HO8 := Lib.hid (ownsRow_below HO.out hb)
      have hs8 := hb.size
      clear hb HUn HKp HV HO
      go_upto_region 16 with (first | (refine wpList_alloc_list (w := w8) rfl 172 rfl (rcc zR) Tryz.zeroRc ?_; intro w9 F9 hb9 hz9; simp only [Act.put, List.getElem_toArray, List.getElem_cons_zero, List.getElem_cons_succ, List.setIfInBounds_toArray, List.set_cons_zero, List.set_cons_succ]; refine wpList_store_list rfl 172 (.tmp 9) (.tmp 54) rfl w8.heap.size (rcc zR) (rcc ((ra, rb, rc), ro)) rfl rfl F9.out rfl (sizeRc _) (rcc_one _) ?_; intro wA FA HKA; have HQ9 := Lib.hid hb9; clear hb9 F9))
      obtain ⟨bx, hbx⟩ : ∃ x, w8.heap.size = x := ⟨_, rfl⟩
      have hx6 : w6.heap.size ≤ bx := by omega
      have hxA : bx < wA.heap.size := by have := HKA.out.size; omega
      have HKA6 := Lib.hid (HK8.out.trans ((Kp.of_below HQ9.out bd bd).after HKA.out (by omega)))
      have HVA := Lib.hid ((HV8.out.keep HQ9.out).kp HKA.out (by omega) (by omega))
      have hnx : ∀ kk, v.ownBlock = some kk → kk < bx := fun kk hkk => by
        have := World.ownsRow.lt HO8.out kk hkk
        omega
      have HOA := Lib.hid (ownsRow_kpo (ownsRow_below HO8.out HQ9.out) HKA.out (fun kk hkk => by have := hnx kk hkk; omega))
      rw [hbx] at FA
      try rw [hbx]
      clear HQ9 HKA HK8 HV8 HO8 hbx hz9 hnx
      have cV := HVA.out.c 1 _ rfl
      have zV := HVA.out.z 1 (by show 1 < 2; decide)
      have hAd : bd < wA.heap.size := HVA.out.lt
      have HRx : Hid (wA.rangeAt bx 0 [.int .u8 ra, .int .u16 rb, .int .u16 rc, .int .u16 ro]) := Lib.hid FA.out.range0
      go_wp2_with (first | (refine wpList_load_mid rfl 172 _ rfl bx 0 rfl [.int .u8 ra, .int .u16 rb, .int .u16 rc, .int .u16 ro] dE HRx.out HU.out HDd.out Tryz.isizeRc ?_) | (at_builtin; refine wpList_append_own _ rfl _ _ 179 rfl w6.heap.size 172 iE _ 4 8 Tryz.underlying179 HI.out HZ.out HS.out HBE.out rfl (by decide) _ _ _ rfl (HOA.out.alloc _) ⟨wA.heap.size, 0, none⟩ 1 1 [.int .u8 ra, .int .u16 rb, .int .u16 rc, .int .u16 ro] rfl rfl (Cf.cells_new wA _ 172) (by simp [Value.oneCell']) (by unfold maxLen; omega) (by omega) (by simp; omega) ?_; intro v' wB hown' hgrow _; obtain ⟨pa, pc, hv'⟩ := Cf.ownsRow_form hown'; subst hv'; have hob := ownsRow_block HOA.out; have HOB := Lib.hid hown'; have HVB := Lib.hid ((HVA.out.keep ((Below.refl _ _).alloc (Nat.le_refl _) _)).grownO hgrow (fun kk hkk => by have := hob kk hkk; omega)); have HKB := Lib.hid ((HKA6.out.trans (Kp.of_below ((Below.refl wA.heap.size wA).alloc (Nat.le_refl _) (.cells #[.int .u8 ra, .int .u16 rb, .int .u16 rc, .int .u16 ro] 172)) bd bd)).growO (base := w6.heap.size) hgrow hob); clear hown' hgrow hob cV zV; have cV := HVB.out.c 1 _ rfl; have zV := HVB.out.z 1 (by show 1 < 2; decide)))
      have hk15 : Kp wB (wB.setCell ⟨bd, 1, none⟩ (.slice pa (k + 1) pc)) bd bd := (Kp.refl wB bd bd).setA 1 _
      have HVC : Hid (Vl (wB.setCell ⟨bd, 1, none⟩ (.slice pa (k + 1) pc)) bd (tcl q (.slice pa (k + 1) pc))) := Lib.hid (HVB.out.set 1 (by show 1 < 2; decide) (.slice pa (k + 1) pc))
      have HOC := Lib.hid (ownsRow_kpn HOB.out hk15 hd6)
      have HKC := Lib.hid (HKB.out.trans hk15)
      clear hk15
      go_roundw
      case rel =>
        refine ⟨k + 1, HLt.out, ?_, HKC.out, _, HVC.out, ?_⟩
        · have := HOo.out
          rw [show ((8 * (k + 1) : Nat) : Int) = (o : Int) + 8 by omega]
        · rw [HSn.out]
          exact HOC.out
      case measure => (have := HOo.out; have := HZn.out; simp [Go.RowKit.intOf]; try omega)
    · obtain rfl : k = E.length := by omega
      have hoi : ¬ ((o : Int) < zn) := by omega
      have HOf := HO.out
      rw [List.take_length] at HOf
      have HOg := Lib.hid HOf
      clear HOf
      go_wp2_with fail
      go_ret2
      exact ⟨bd, rfl, hdw, v, w6.heap.size, hd6, HV.out, HOg.out, (HG6.out.kp HKp.out HND.out).mono (Lm.le_refl _) (by omega), HKc.out.new HKp.out hdw⟩
end Go.Proofs.YteaoabppppbkoaaGreatDoor

namespace Go.Proofs.YteaoabppppbkoaaGreatDoor
set_option linter.unusedSimpArgs false
set_option linter.unusedVariables false
open Go.RowKit Go.Maps

/-- records that may be loaded -/
def smR (E : List Rc) : Prop := ∀ e ∈ E, bdR e
theorem smR_of {E : List Rc} (h : ∀ e ∈ E, e = zR ∨ okR e) : smR E := fun e he => by
  rcases h e he with rfl | h
  · exact zR_bd
  · exact h.1
theorem flatR_get {E : List Rc} {k : Nat} {e : Rc} (h : E[k]? = some e) (j : Nat) (hj : j < 4) : (flatR E)[4 * k + j]? = (rcc e)[j]? := by
  induction E generalizing k with
  | nil => simp at h
  | cons a E ih =>
    have hf : flatR (a :: E) = rcc a ++ flatR E := rfl
    cases k with
    | zero =>
      simp only [List.getElem?_cons_zero, Option.some.injEq] at h
      subst h
      rw [hf, List.getElem?_append_left (by show 4 * 0 + j < 4; omega), Nat.mul_zero, Nat.zero_add]
    | succ k =>
      rw [List.getElem?_cons_succ] at h
      rw [hf, List.getElem?_append_right (by show 4 ≤ _; omega), ← ih h, show 4 * (k + 1) + j - (rcc a).length = 4 * k + j from by show 4 * (k + 1) + j - 4 = _; omega]
theorem ownR_some {w : World} {base n : Nat} {pa : Option Addr} {cap : Nat} {xs : List Value} (h : w.ownsRow base 172 4 (.slice pa n cap) n xs) (hn : 0 < n) : ∃ g, pa = some ⟨g, 0, none⟩ ∧ base ≤ g ∧ g < w.heap.size := by
  rcases h.2 with ⟨hv, hx⟩ | ⟨g', cap', cur, hv, hb, hgg, -⟩
  · injection hv with h1 h2 h3
    omega
  · injection hv with h1 h2 h3
    exact ⟨g', h1, hb, (Array.getElem?_eq_some_iff.1 hgg).1⟩
theorem ownR_at {w : World} {base n g cap : Nat} {E : List Rc} (h : w.ownsRow base 172 4 (.slice (some ⟨g, 0, none⟩) n cap) n (flatR E)) (hn : n = E.length) {k : Nat} {e : Rc} (he : E[k]? = some e) : w.rangeAt g (k * 4) (rcc e) := fun j u hu => by
  have hk : k < E.length := (List.getElem?_eq_some_iff.1 he).1
  have hj : j < 4 := (List.getElem?_eq_some_iff.1 hu).1
  rw [World.ownsRow.cellAt h (k * 4 + j) (by rw [hn]; omega), Nat.mul_comm k 4, flatR_get he j hj]
  exact hu
theorem ownsRow_belowR {w w' : World} {base n g cap : Nat} {xs : List Value} (h : w.ownsRow base 172 4 (.slice (some ⟨g, 0, none⟩) n cap) n xs) (hb : Below w.heap.size w w') (hg : g < w.heap.size) : w'.ownsRow base 172 4 (.slice (some ⟨g, 0, none⟩) n cap) n xs := ownsRow_below h hb
/-- is it the record of a node? -/
def mtI (x : In) (r : Rc) : Bool := !vacR r && decide (r.1 = x)
theorem rcc_ink {W : World} {b : Nat} {r : Rc} (h : Vl W b (rcc r)) : W.rangeAt b 0 (ink r.1) := fun j v hj => by
  have : j < 3 := (List.getElem?_eq_some_iff.1 hj).1
  have hj3 : j = 0 ∨ j = 1 ∨ j = 2 := by omega
  rw [Nat.zero_add]
  rcases hj3 with rfl | rfl | rfl <;> exact h.c _ _ hj
set_option maxHeartbeats 40000000 in
set_option maxRecDepth 100000 in
theorem ifind_any (q bd base : Nat) (v : Value) (E : List Rc) (hE : smR E) (x : In) (hx : bdI x) (hl : E.length ≤ 1024) (w : World) (hV : Vl w bd (tcl q v)) (hO : w.ownsRow base 172 4 v E.length (flatR E)) :
    Calls Tryz.prog 76 #[.pointer (some ⟨bd, 0, none⟩), .agg (ink x).toArray] w fun r w' => Below w.heap.size w w' ∧ ((∃ (i : Nat) (e : Rc), E[i]? = some e ∧ mtI x e = true ∧ (∀ (j : Nat) (e' : Rc), j < i → E[j]? = some e' → mtI x e' = false) ∧ r = .returned (.tuple #[.int .i64 i, .bool true])) ∨ ((∀ e ∈ E, mtI x e = false) ∧ r = .returned (.tuple #[.int .i64 0, .bool false]))) := by
  obtain ⟨pa, cap, rfl⟩ := Cf.ownsRow_form hO
  obtain ⟨dE, hu, hd⟩ := Tryz.descRc
  have HU := Lib.hid hu
  have HD := Lib.hid hd
  obtain ⟨dI, huI, hdI⟩ := Tryz.descIno
  have HUI := Lib.hid huI
  have HDI := Lib.hid hdI
  have HV := Lib.hid hV
  have HO := Lib.hid hO
  have HE := Lib.hid hE
  have HX := Lib.hid hx
  obtain ⟨n, hn⟩ : ∃ n, E.length = n := ⟨_, rfl⟩
  rw [hn] at HV HO hl
  have HN := Lib.hid hn
  have hn0 : (0 : Int) ≤ n := by omega
  have hn1 : (n : Int) ≤ 1024 := by omega
  clear hu hd hV hO hE hn hx huI hdI
  go_enter Tryz.func76, Tryz.ntmps76
  go_upto_region 1 with (refine wpList_box_list (w := w) rfl 92 _ rfl (ink x) rfl ?_; intro w0 FX hb0 hz0; have HB0 := Lib.hid hb0; have hz0' := hb0.size; clear hb0)
  obtain ⟨bX, hbX⟩ : ∃ y, w.heap.size = y := ⟨_, rfl⟩
  have hXw : w.heap.size ≤ bX := Nat.le_of_eq hbX
  have hXX : bX < w0.heap.size := by omega
  have HV0 := Lib.hid (HV.out.keep HB0.out)
  rw [hbX] at FX
  try rw [hbX]
  clear hbX hz0
  have c1 : w0.cell? ⟨bd, 1, none⟩ = some (.slice pa n cap) := HV0.out.c 1 _ rfl
  go_wp2_with fail
  clear c1
  go_loopw [6, 7, 13] (fun _ _ iv wr => ∃ k : Nat, k ≤ n ∧ iv = .int .i64 k ∧ Below w.heap.size w wr ∧ Vl wr bX (ink x) ∧ ∀ j e', j < k → E[j]? = some e' → mtI x e' = false) (fun _ _ iv _ => n - (Go.RowKit.intOf iv).toNat)
  case atStart => exact ⟨0, Nat.zero_le _, rfl, HB0.out, FX.out, fun j _ h => absurd h (Nat.not_lt_zero _)⟩
  case round =>
    obtain ⟨k, hk, rfl, hb, hX, hall⟩ := hrel
    have HB := Lib.hid hb
    have HA := Lib.hid hall
    have FXr := Lib.hid hX
    have hsz := hb.size
    clear hb hall hX
    by_cases hlt : k < n
    · obtain ⟨g, rfl, hg1, hg2⟩ := ownR_some HO.out (by omega)
      have hke : k < E.length := by have := HN.out; omega
      obtain ⟨e, he⟩ : ∃ e, E[k]? = some e := ⟨E[k], List.getElem?_eq_getElem hke⟩
      have hbe := HE.out e (List.mem_of_getElem? he)
      have HRg := Lib.hid (ownR_at (ownsRow_belowR HO.out HB.out hg2) HN.out.symm he)
      have HVc := Lib.hid (fun W => ivacant_any e hbe W)
      have HEq := Lib.hid (fun W => eqIk e.1 x hbe.1 HX.out W)
      have HHe := Lib.hid he
      have hki : (k : Int) < n := by omega
      have hk0 : (0 : Int) ≤ k := by omega
      have hmt : mtI x e = (!vacR e && decide (e.1 = x)) := rfl
      obtain ⟨vc, hvc⟩ : ∃ y, vacR e = y := ⟨_, rfl⟩
      obtain ⟨eq, heq⟩ : ∃ y, decide (e.1 = x) = y := ⟨_, rfl⟩
      rw [hvc] at HVc hmt
      rw [heq] at HEq hmt
      have HMt := Lib.hid hmt
      clear he hke hbe hmt hvc heq hlt
      go_upto_region 4 with (first | (refine wpList_load_mid rfl 172 _ rfl g (k * 4) rfl (rcc e) dE HRg.out HU.out HD.out (sizeRc _) ?_) | (refine wpList_alloc_list (w := wr) rfl 172 rfl (rcc zR) Tryz.zeroRc ?_; intro w2 F2 hb2 hz2; simp only [Act.put, List.getElem_toArray, List.getElem_cons_zero, List.getElem_cons_succ, List.setIfInBounds_toArray, List.set_cons_zero, List.set_cons_succ]) | (refine wpList_store_list rfl 172 (.tmp 7) (.tmp 17) rfl wr.heap.size (rcc zR) (rcc e) rfl rfl F2.out rfl (sizeRc _) (rcc_one _) ?_; intro w3 F3 HK3; have HQ2 := Lib.hid hb2; clear hb2 F2))
      obtain ⟨bx, hbx⟩ : ∃ y, wr.heap.size = y := ⟨_, rfl⟩
      have HB3 := Lib.hid ((HB.out.trans (HQ2.out.mono hsz)).trans (HK3.out.below hsz hsz (Nat.le_trans hsz HQ2.out.size)))
      have hXr : bX < wr.heap.size := FXr.out.lt
      have FX3 := Lib.hid ((FXr.out.keep HQ2.out).kp HK3.out (by omega) (by omega))
      rw [hbx] at F3
      try rw [hbx]
      clear HQ2 HK3 HB hbx hz2 HRg FXr
      have HRx := Lib.hid F3.out.range0
      go_wp2_with (refine wpList_load_mid rfl 172 _ rfl bx 0 rfl (rcc e) dE HRx.out HU.out HD.out (sizeRc _) ?_)
      refine (HVc.out w3).mono ?_
      rintro y w4 ⟨rfl, hb⟩
      have HB4 := Lib.hid (HB3.out.trans (hb.mono HB3.out.size))
      have F4 := Lib.hid (F3.out.keep hb)
      have FX4 := Lib.hid (FX3.out.keep hb)
      clear hb HVc HB3 F3 HRx FX3
      cases vc
      · have HRe := Lib.hid (rcc_ink F4.out)
        have HRX := Lib.hid FX4.out.range0
        cases eq
        · have HM := Lib.hid (HMt.out.trans (by rfl) : mtI x e = false)
          go_wp2_with (first | (refine wpList_yields (.agg (ink e.1).toArray) (yieldsIf_load_mid (by rfl) 92 _ rfl bx 0 rfl (ink e.1) dI (fun W hW => (hW ▸ HRe.out : W.rangeAt bx 0 (ink e.1))) HUI.out HDI.out (sizeIk _)) ?_) | (refine wpList_yields (.agg (ink x).toArray) (yieldsIf_load_mid (by rfl) 92 _ rfl bX 0 rfl (ink x) dI (fun W hW => (hW ▸ HRX.out : W.rangeAt bX 0 (ink x))) HUI.out HDI.out (sizeIk _)) ?_) | (refine wpList_yields (.bool false) (yields_eql (by rfl) 92 92 _ _ rfl (ink e.1).toArray (ink x).toArray rfl rfl false Tryz.guardIk (fun W _ => HEq.out W)) ?_))
          go_roundw
          case rel =>
            refine ⟨k + 1, by omega, by go_num, HB4.out, FX4.out, fun j e' hj he' => ?_⟩
            by_cases ej : j = k
            · rw [ej, HHe.out] at he'
              injection he' with he'
              rw [← he']
              exact HM.out
            · exact HA.out j e' (by omega) he'
          case measure => (simp [Go.RowKit.intOf]; try omega)
        · have HM := Lib.hid (HMt.out.trans (by rfl) : mtI x e = true)
          go_wp2_with (first | (refine wpList_yields (.agg (ink e.1).toArray) (yieldsIf_load_mid (by rfl) 92 _ rfl bx 0 rfl (ink e.1) dI (fun W hW => (hW ▸ HRe.out : W.rangeAt bx 0 (ink e.1))) HUI.out HDI.out (sizeIk _)) ?_) | (refine wpList_yields (.agg (ink x).toArray) (yieldsIf_load_mid (by rfl) 92 _ rfl bX 0 rfl (ink x) dI (fun W hW => (hW ▸ HRX.out : W.rangeAt bX 0 (ink x))) HUI.out HDI.out (sizeIk _)) ?_) | (refine wpList_yields (.bool true) (yields_eql (by rfl) 92 92 _ _ rfl (ink e.1).toArray (ink x).toArray rfl rfl true Tryz.guardIk (fun W _ => HEq.out W)) ?_))
          go_ret2
          exact ⟨HB4.out, .inl ⟨k, e, HHe.out, HM.out, HA.out, rfl⟩⟩
      · have HM := Lib.hid (HMt.out.trans (by rfl) : mtI x e = false)
        go_wp2_with fail
        go_roundw
        case rel =>
          refine ⟨k + 1, by omega, by go_num, HB4.out, FX4.out, fun j e' hj he' => ?_⟩
          by_cases ej : j = k
          · rw [ej, HHe.out] at he'
            injection he' with he'
            rw [← he']
            exact HM.out
          · exact HA.out j e' (by omega) he'
        case measure => (simp [Go.RowKit.intOf]; try omega)
    · obtain rfl : k = n := by omega
      go_wp2_with fail
      go_ret2
      refine ⟨HB.out, .inr ⟨fun e he => ?_, rfl⟩⟩
      obtain ⟨j, hj, rfl⟩ := List.mem_iff_getElem.1 he
      exact HA.out j _ (by have := HN.out; omega) (List.getElem?_eq_getElem hj)
/-- the first place that is empty, or the one behind all -/
def isRoomR (E : List Rc) (i : Nat) : Prop := i ≤ E.length ∧ (∀ j e', j < i → E[j]? = some e' → vacR e' = false) ∧ (i = E.length ∨ ∃ e, E[i]? = some e ∧ vacR e = true)
set_option maxHeartbeats 20000000 in
set_option maxRecDepth 100000 in
theorem iroom_any (q bd base : Nat) (v : Value) (E : List Rc) (hE : smR E) (hl : E.length ≤ 1024) (w : World) (hV : Vl w bd (tcl q v)) (hO : w.ownsRow base 172 4 v E.length (flatR E)) :
    Calls Tryz.prog 117 #[.pointer (some ⟨bd, 0, none⟩)] w fun x w' => Below w.heap.size w w' ∧ ∃ i : Nat, isRoomR E i ∧ x = .returned (.int .i64 i) := by
  obtain ⟨pa, cap, hv⟩ := Cf.ownsRow_form hO
  subst hv
  obtain ⟨dE, hu, hd⟩ := Tryz.descRc
  have HU := Lib.hid hu
  have HD := Lib.hid hd
  have HV := Lib.hid hV
  have HO := Lib.hid hO
  have HE := Lib.hid hE
  obtain ⟨n, hn⟩ : ∃ n, E.length = n := ⟨_, rfl⟩
  rw [hn] at HV HO hl
  have HN := Lib.hid hn
  have hn0 : (0 : Int) ≤ n := by omega
  have hn1 : (n : Int) ≤ 1024 := by omega
  have c1 : w.cell? ⟨bd, 1, none⟩ = some (.slice pa n cap) := HV.out.c 1 _ rfl
  clear hu hd hV hO hE hn
  go_enter Tryz.func117, Tryz.ntmps117
  go_wp2_with fail
  clear c1
  go_loopw [3, 4, 10] (fun _ _ iv wr => ∃ k : Nat, k ≤ n ∧ iv = .int .i64 k ∧ Below w.heap.size w wr ∧ ∀ j e', j < k → E[j]? = some e' → vacR e' = false) (fun _ _ iv _ => n - (Go.RowKit.intOf iv).toNat)
  case atStart => exact ⟨0, Nat.zero_le _, rfl, Below.refl _ _, fun j _ h => absurd h (Nat.not_lt_zero _)⟩
  case round =>
    obtain ⟨k, hk, rfl, hb, hall⟩ := hrel
    have HB := Lib.hid hb
    have HA := Lib.hid hall
    have hsz := hb.size
    clear hb hall
    by_cases hlt : k < n
    · obtain ⟨g, rfl, hg1, hg2⟩ := ownR_some HO.out (by omega)
      have hke : k < E.length := by have := HN.out; omega
      obtain ⟨e, he⟩ : ∃ e, E[k]? = some e := ⟨E[k], List.getElem?_eq_getElem hke⟩
      have hbe := HE.out e (List.mem_of_getElem? he)
      have HRg := Lib.hid (ownR_at (ownsRow_belowR HO.out HB.out hg2) HN.out.symm he)
      have HVc := Lib.hid (fun W => ivacant_any e hbe W)
      have HHe := Lib.hid he
      have hki : (k : Int) < n := by omega
      have hk0 : (0 : Int) ≤ k := by omega
      obtain ⟨vc, hvc⟩ : ∃ x, vacR e = x := ⟨_, rfl⟩
      rw [hvc] at HVc
      have HMt := Lib.hid hvc
      have HKn := Lib.hid hke
      clear he hke hbe hvc hlt
      go_upto_region 4 with (first | (refine wpList_load_mid rfl 172 _ rfl g (k * 4) rfl (rcc e) dE HRg.out HU.out HD.out (sizeRc _) ?_) | (refine wpList_alloc_list (w := wr) rfl 172 rfl (rcc zR) Tryz.zeroRc ?_; intro w2 F2 hb2 hz2; simp only [Act.put, List.getElem_toArray, List.getElem_cons_zero, List.getElem_cons_succ, List.setIfInBounds_toArray, List.set_cons_zero, List.set_cons_succ]) | (refine wpList_store_list rfl 172 (.tmp 4) (.tmp 14) rfl wr.heap.size (rcc zR) (rcc e) rfl rfl F2.out rfl (sizeRc _) (rcc_one _) ?_; intro w3 F3 HK3; have HQ2 := Lib.hid hb2; clear hb2 F2))
      obtain ⟨bx, hbx⟩ : ∃ x, wr.heap.size = x := ⟨_, rfl⟩
      have HB3 := Lib.hid ((HB.out.trans (HQ2.out.mono hsz)).trans (HK3.out.below hsz hsz (Nat.le_trans hsz HQ2.out.size)))
      rw [hbx] at F3
      try rw [hbx]
      clear HQ2 HK3 HB hbx hz2 HRg
      have HRx := Lib.hid F3.out.range0
      go_wp2_with (refine wpList_load_mid rfl 172 _ rfl bx 0 rfl (rcc e) dE HRx.out HU.out HD.out (sizeRc _) ?_)
      refine (HVc.out w3).mono ?_
      rintro x w4 ⟨rfl, hb⟩
      have HB4 := Lib.hid (HB3.out.trans (hb.mono HB3.out.size))
      clear hb HVc HB3 F3 HRx
      cases vc
      · go_wp2_with fail
        go_roundw
        case rel =>
          refine ⟨k + 1, by omega, by go_num, HB4.out, fun j e' hj he' => ?_⟩
          by_cases ej : j = k
          · rw [ej, HHe.out] at he'
            injection he' with he'
            rw [← he']
            exact HMt.out
          · exact HA.out j e' (by omega) he'
        case measure => (simp [Go.RowKit.intOf]; try omega)
      · go_wp2_with fail
        go_ret
        exact ⟨HB4.out, k, ⟨Nat.le_of_lt HKn.out, HA.out, .inr ⟨e, HHe.out, HMt.out⟩⟩, rfl⟩
    · obtain rfl : k = n := by omega
      have c1 : wr.cell? ⟨bd, 1, none⟩ = some (.slice pa k cap) := (HV.out.below HB.out HV.out.lt).c 1 _ rfl
      go_wp2_with fail
      go_ret
      exact ⟨HB.out, k, ⟨Nat.le_of_eq HN.out.symm, HA.out, .inl HN.out.symm⟩, rfl⟩
end Go.Proofs.YteaoabppppbkoaaGreatDoor

namespace Go.Proofs.YteaoabppppbkoaaGreatDoor
set_option linter.unusedSimpArgs false
set_option linter.unusedVariables false
open Go.RowKit Go.Maps

set_option maxHeartbeats 40000000 in
set_option maxRecDepth 100000 in
theorem ipack_any (r : Rc) (h : bdR r) (w : World) : Calls Tryz.prog 148 #[.agg (rcc r).toArray] w fun x w' => x = .returned (.agg (byts 8 (rcF r)).toArray) ∧ Below w.heap.size w w' := by
  obtain ⟨d, hu, hd⟩ := Tryz.descRc
  have HU := Lib.hid hu
  have HD := Lib.hid hd
  have HVc := Lib.hid (fun W => ivacant_any r h W)
  obtain ⟨⟨h1, h2, h3⟩, h4⟩ := h
  have HP : Hid (∀ j, j < 8 → rcF r j = if r = zR then 0 else if j = 0 then (r.1.1 : Int) else if j = 1 then 1 else if j = 2 then (r.1.2.1 : Int) % 256 else if j = 3 then (r.1.2.1 : Int) / 256 else if j = 4 then (r.1.2.2 : Int) % 256 else if j = 5 then (r.1.2.2 : Int) / 256 else if j = 6 then (r.2 : Int) % 256 else (r.2 : Int) / 256) := Lib.hid (fun j _ => rfl)
  obtain ⟨P, hP⟩ : ∃ P, rcF r = P := ⟨_, rfl⟩
  rw [hP] at HP ⊢
  clear hu hd hP
  have HPn := Lib.hid (fun (g p : Nat) (hp : p + 1 < 8) (q : Nat) (hq : q < 65536) (f : Nat → Int) W (F : Fl W g 8 f) => iputnum g f p hp q hq W F)
  go_enter Tryz.func148, Tryz.ntmps148
  go_upto_region 2 with (first | (refine wpList_box_list (w := w) rfl 172 _ rfl (rcc r) rfl ?_; intro w1 F1 hb1 hz1; have HB1 := Lib.hid hb1; have hq1 : w.heap.size < w1.heap.size := (by omega); clear hb1 hz1) | (refine wpList_alloc_byts (w := w1) rfl 267 8 rfl Tryz.zeroA8 ?_; intro w2 F2 hb2 hz2; have HB2 := Lib.hid hb2; have hq2 : w1.heap.size < w2.heap.size := (by omega); clear hb2 hz2) | (refine wpList_alloc_byts (w := w2) rfl 267 8 rfl Tryz.zeroA8 ?_; intro w3 F3 hb3 hz3; have HB3 := Lib.hid hb3; have hq3 : w2.heap.size < w3.heap.size := (by omega); clear hb3 hz3))
  obtain ⟨b1, hb1⟩ : ∃ b, w.heap.size = b := ⟨_, rfl⟩
  obtain ⟨b2, hb2⟩ : ∃ b, w1.heap.size = b := ⟨_, rfl⟩
  obtain ⟨b3, hb3⟩ : ∃ b, w2.heap.size = b := ⟨_, rfl⟩
  have G1 := Lib.hid ((F1.out.keep HB2.out).keep HB3.out)
  have G2 := Lib.hid (F2.out.below HB3.out F2.out.lt)
  have HB := Lib.hid ((HB1.out.trans (HB2.out.mono HB1.out.size)).trans (HB3.out.mono (Nat.le_trans HB1.out.size HB2.out.size)))
  rw [hb1, hb2] at hq1
  rw [hb2, hb3] at hq2
  rw [hb3] at hq3
  rw [hb1] at G1 HB
  rw [hb2] at G2
  rw [hb3] at F3
  have HW := Lib.hid hb1
  try rw [hb1]
  try rw [hb2]
  try rw [hb3]
  clear hb1 hb2 hb3 HB1 HB2 HB3 F1 F2
  have HR1 := Lib.hid G1.out.range0
  go_wp2_with (first | (refine wpList_load_mid rfl 172 _ rfl b1 0 rfl (rcc r) d HR1.out HU.out HD.out (sizeRc r) ?_))
  refine (HVc.out w3).mono ?_
  rintro e w4 ⟨rfl, hb⟩
  have G14 := Lib.hid (G1.out.keep hb)
  have G24 := Lib.hid (G2.out.below hb G2.out.lt)
  have F4 := Lib.hid (F3.out.below hb F3.out.lt)
  have HB4 := Lib.hid (HB.out.trans (hb.mono (by omega)))
  have hq4 := hb.size
  clear hb G1 G2 F3 HB HR1 HVc
  by_cases hz : r = zR
  · have hv : vacR r = true := decide_eq_true hz
    have F8 : Hid (Fl w4 b3 8 P) := Lib.hid (F4.out.congr (fun j hj => by rw [HP.out j hj, if_pos hz]))
    have PF := Lib.hid (G24.out.stored P)
    rw [hv]
    clear hz hv
    go_wp2_with (first | (refine wpList_load_mid rfl 267 _ rfl b3 0 rfl (byts 8 P) (.array 8 5) F8.out.range0 Tryz.arrA8 rfl (sizeA8 _) ?_) | (refine wpList_store_mid rfl 267 _ _ rfl b2 0 (byts 8 P).toArray rfl rfl (by rw [byts_size]; exact G24.out.there 0 8 (Nat.le_refl _)) (sizeA8' _) (byts_all _ _) ?_))
    exact bodyPost_ret_by (results_mid rfl _ _ b2 _ (.array 8 5) rfl PF.out.range0 Tryz.arrA8 rfl (sizeA8 _)) rfl ⟨rfl, by rw [HW.out]; exact below_setCells HB4.out b2 0 (by omega) _⟩
  · have hv : vacR r = false := decide_eq_false hz
    rw [hv]
    have HNz := Lib.hid hz
    clear hz hv
    have HC : Hid (rcc r = [.int .u8 r.1.1, .int .u16 r.1.2.1, .int .u16 r.1.2.2, .int .u16 r.2]) := Lib.hid rfl
    obtain ⟨⟨a, b, c⟩, o⟩ := r
    simp only at h1 h2 h3 h4
    have e0 := G14.out.c 0 _ rfl
    have d0 := F4.out.c 0 (by decide)
    have z0 := F4.out.z 0 (by decide)
    go_upto_region 5 with fail
    have F5 := Lib.hid (F4.out.set 0 (by decide) (a : Int))
    have hk5 : Kp w4 (w4.setCell ⟨b3, 0, none⟩ (.int .u8 (a : Int))) b3 b3 := (Kp.refl w4 b3 b3).setA 0 _
    obtain ⟨w5, hw5⟩ : ∃ y, w4.setCell ⟨b3, 0, none⟩ (.int .u8 (a : Int)) = y := ⟨_, rfl⟩
    rw [hw5] at F5 hk5 ⊢
    have G15 := Lib.hid (G14.out.kp hk5 (by omega) (by omega))
    have G25 := Lib.hid (G24.out.kp hk5 (by omega) (by omega))
    have HB5 := Lib.hid (HB4.out.trans (hk5.below (by omega) (by omega) (by omega)))
    have hq5 := hk5.size
    clear hw5 e0 d0 z0 hk5 G14 G24 HB4 F4
    have d1 := F5.out.c 1 (by decide)
    have z1 := F5.out.z 1 (by decide)
    go_upto_region 6 with fail
    have F6 := Lib.hid (F5.out.set 1 (by decide) 1)
    have hk6 : Kp w5 (w5.setCell ⟨b3, 1, none⟩ (.int .u8 1)) b3 b3 := (Kp.refl w5 b3 b3).setA 1 _
    obtain ⟨w6, hw6⟩ : ∃ y, w5.setCell ⟨b3, 1, none⟩ (.int .u8 1) = y := ⟨_, rfl⟩
    rw [hw6] at F6 hk6 ⊢
    have G16 := Lib.hid (G15.out.kp hk6 (by omega) (by omega))
    have G26 := Lib.hid (G25.out.kp hk6 (by omega) (by omega))
    have HB6 := Lib.hid (HB5.out.trans (hk6.below (by omega) (by omega) (by omega)))
    have hq6 := hk6.size
    clear hw6 d1 z1 hk6 G15 G25 HB5 F5
    have e1 := G16.out.c 1 _ rfl
    go_wp2_with fail
    refine (HPn.out b3 2 (by decide) b h2 _ w6 F6.out).mono ?_
    rintro e w7 ⟨rfl, F7', hk7⟩
    have F7 := Lib.hid F7'
    have G17 := Lib.hid (G16.out.kp hk7 (by omega) (by omega))
    have G27 := Lib.hid (G26.out.kp hk7 (by omega) (by omega))
    have HB7 := Lib.hid (HB6.out.trans (hk7.below (by omega) (by omega) (by omega)))
    have hq7 := hk7.size
    clear F7' hk7 G16 G26 HB6 F6 e1
    have e2 := G17.out.c 2 _ rfl
    go_wp2_with fail
    refine (HPn.out b3 4 (by decide) c h3 _ w7 F7.out).mono ?_
    rintro e w8 ⟨rfl, F8', hk8⟩
    have F8 := Lib.hid F8'
    have G18 := Lib.hid (G17.out.kp hk8 (by omega) (by omega))
    have G28 := Lib.hid (G27.out.kp hk8 (by omega) (by omega))
    have HB8 := Lib.hid (HB7.out.trans (hk8.below (by omega) (by omega) (by omega)))
    have hq8 := hk8.size
    clear F8' hk8 G17 G27 HB7 F7 e2
    have e3 := G18.out.c 3 _ rfl
    go_wp2_with fail
    refine (HPn.out b3 6 (by decide) o h4 _ w8 F8.out).mono ?_
    rintro e w9 ⟨rfl, F9', hk9⟩
    have F9 : Hid (Fl w9 b3 8 P) := Lib.hid (F9'.congr (fun j hj => by
      rw [HP.out j hj, if_neg HNz.out]
      have hj8 : j = 0 ∨ j = 1 ∨ j = 2 ∨ j = 3 ∨ j = 4 ∨ j = 5 ∨ j = 6 ∨ j = 7 := by omega
      rcases hj8 with rfl | rfl | rfl | rfl | rfl | rfl | rfl | rfl
      · rfl
      · rfl
      · rfl
      · show (b : Int) / 256 % 256 = (b : Int) / 256
        omega
      · rfl
      · show (c : Int) / 256 % 256 = (c : Int) / 256
        omega
      · rfl
      · show (o : Int) / 256 % 256 = (o : Int) / 256
        omega))
    have G29 := Lib.hid (G28.out.kp hk9 (by omega) (by omega))
    have HB9 := Lib.hid (HB8.out.trans (hk9.below (by omega) (by omega) (by omega)))
    have PF := Lib.hid (G29.out.stored P)
    clear F9' hk9 G18 G28 HB8 F8 e3
    go_wp2_with (first | (refine wpList_load_mid rfl 267 _ rfl b3 0 rfl (byts 8 P) (.array 8 5) F9.out.range0 Tryz.arrA8 rfl (sizeA8 _) ?_) | (refine wpList_store_mid rfl 267 _ _ rfl b2 0 (byts 8 P).toArray rfl rfl (by rw [byts_size]; exact G29.out.there 0 8 (Nat.le_refl _)) (sizeA8' _) (byts_all _ _) ?_))
    exact bodyPost_ret_by (results_mid rfl _ _ b2 _ (.array 8 5) rfl PF.out.range0 Tryz.arrA8 rfl (sizeA8 _)) rfl ⟨rfl, by rw [HW.out]; exact below_setCells HB9.out b2 0 (by omega) _⟩
end Go.Proofs.YteaoabppppbkoaaGreatDoor

namespace Go.Proofs.YteaoabppppbkoaaGreatDoor
set_option linter.unusedSimpArgs false
set_option linter.unusedVariables false
open Go.RowKit Go.Maps

end Go.Proofs.YteaoabppppbkoaaGreatDoor

namespace Go.Proofs.YteaoabppppbkoaaGreatDoor
set_option linter.unusedSimpArgs false
set_option linter.unusedVariables false
open Go.RowKit Go.Maps

end Go.Proofs.YteaoabppppbkoaaGreatDoor

namespace Go.Proofs.YteaoabppppbkoaaGreatDoor
set_option linter.unusedSimpArgs false
set_option linter.unusedVariables false
open Go.RowKit Go.Maps

variable {ln : Lm}
end Go.Proofs.YteaoabppppbkoaaGreatDoor

namespace Go.Proofs.YteaoabppppbkoaaGreatDoor
set_option linter.unusedSimpArgs false
set_option linter.unusedVariables false
open Go.RowKit Go.Maps

/-- from one state of a node's blocks to a later one -/
structure Mv (B0 TB DA NB : Nat) (Y0 : Nat → Nat → Int) (n0 : Nat) (b0 : Nat → Nat) (Y : Nat → Nat → Int) (n : Nat) (b : Nat → Nat) : Prop where
  bb : ∀ c, ndS n0 c = true → ndS n c = true → b c = b0 c
  y : ∀ z, z ≠ B0 → z ≠ TB → (∀ c, ndS n0 c = true → z ≠ DA + (b0 c - 1)) → (∀ c, ndS n c = true → z ≠ DA + (b c - 1)) → Y z = Y0 z
  u : ∀ j, j < NB → (bt Y B0 j = true ↔ (bt Y0 B0 j = true ∧ ¬ ∃ c, ndS n0 c = true ∧ ndS n c = false ∧ b0 c = j + 1) ∨ ∃ c, ndS n c = true ∧ ndS n0 c = false ∧ b c = j + 1)
  fr : ∀ c, ndS n c = true → ndS n0 c = false → bt Y0 B0 (b c - 1) = false
/-- how many blocks so many places take -/
def nbE (k : Nat) : Nat := (16 * k + 63) / 64
variable {ln : Lm}
theorem Mv.refl (B0 TB DA NB : Nat) (Y : Nat → Nat → Int) (n : Nat) (b : Nat → Nat) : Mv B0 TB DA NB Y n b Y n b :=
  ⟨fun _ _ _ => rfl, fun _ _ _ _ _ => rfl, fun j _ => ⟨fun h => .inl ⟨h, fun ⟨c, k1, k2, _⟩ => by (rw [k1] at k2; cases k2)⟩, fun h => h.elim (fun h => h.1) fun ⟨c, k1, k2, _⟩ => by (rw [k1] at k2; cases k2)⟩, fun c k1 k2 => by (rw [k1] at k2; cases k2)⟩
end Go.Proofs.YteaoabppppbkoaaGreatDoor
