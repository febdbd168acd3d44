import Derived.Test.YtgdapkbenmlabaaGreatDoorC11
import Derived.Lib.LazyBuf
/- Directories: entries as bytes. -/
set_option linter.unusedSimpArgs false
set_option linter.unusedVariables false
set_option maxHeartbeats 40000000
set_option maxRecDepth 100000
namespace Go.Proofs.YtgdapkbenmlabaaGreatDoor
open Go.RowKit Go.Maps
abbrev En := ByteArray × Nat
def enc (e : En) : List Value := [.string e.1, .int .u16 e.2]
def zE : En := (⟨#[]⟩, 0)
theorem enc_one (e : En) : ∀ v ∈ enc e, v.oneCell' = true := by
 intro v hv;simp only [enc, List.mem_cons, List.not_mem_nil, or_false] at hv
 rcases hv with rfl | rfl <;> rfl
theorem Tryz.zeroEn : (Tryz.prog.info? 58).map (fun i => i.zero) = some (some (.agg (enc zE).toArray)) := by kernel_rfl
theorem Tryz.isizeEn : (Tryz.prog.info? 58).map (·.size) = some 2 := by kernel_rfl
theorem sizeEn (e : En) : (Tryz.prog.info? 58).map (·.size) = some (enc e).length := Tryz.isizeEn
theorem Tryz.descEn : ∃ d, Tryz.prog.underlying 58 = some d ∧ d.isRow = true := ⟨_, Tryz.underlying58, rfl⟩
theorem Tryz.buildEn0 (w : World) : (Instr.build 58 #[]).run Tryz.prog w = .ok (.agg (enc zE).toArray) w := by kernel_rfl
theorem Tryz.buildEn2 (s : ByteArray) (n : Int) (w : World) : (Instr.build 58 #[(0, .string s), (1, .int .u16 n)]).run Tryz.prog w = .ok (.agg #[.string s, .int .u16 n]) w := by kernel_rfl
theorem Tryz.guardEn : Tryz.prog.eqGuardType Tryz.prog.depth 58 = false := by kernel_rfl
theorem Tryz.clEn : Tryz.prog.cellsOf 58 = 2 := by kernel_rfl
theorem Tryz.clStr : Tryz.prog.cellsOf 9 = 1 := by kernel_rfl
theorem Tryz.keyEn : Tryz.prog.keyTypeAt 3 58 = true := by kernel_rfl
def enl (e : En) : List Lit := [.string e.1.data.toList, .int .u16 e.2]
theorem enl_is (e : En) (h1 : e.1.size ≤ maxLen) (h2 : e.2 < 65536) : Tryz.prog.keyLits 4 58 (enc e) = some (enl e) := by
 have w1 := wf16 (e.2 : Int) ⟨by omega, by omega⟩
 simp [enc, enl, Program.keyLits, Tryz.underlying58, Tryz.underlying9, Tryz.underlying36, Tryz.clEn, Tryz.clStr, Tryz.cl23, w1, h1]
theorem enc_formed (e : En) : (Value.agg (enc e).toArray).formed Tryz.prog 58 = true := by simp [Value.formed, Tryz.underlying58, Tryz.clEn, enc]
theorem enl_inj (e e' : En) : enl e = enl e' ↔ e = e' := by
 constructor
 ·intro h;simp only [enl, List.cons.injEq, Lit.string.injEq, Lit.int.injEq, and_true, true_and] at h;obtain ⟨⟨s⟩, n⟩ := e;obtain ⟨⟨s'⟩, n'⟩ := e';obtain ⟨h1, h2⟩ := h;have h3 : s = s' := Array.ext' h1
  have h4 : n = n' := by
   have : (n : Int) = n' := h2;omega
  rw [h3, h4]
 ·rintro rfl;rfl
theorem eqEn (e e' : En) (h1 : e.1.size ≤ maxLen) (h2 : e.2 < 65536) (h3 : e'.1.size ≤ maxLen) (h4 : e'.2 < 65536) (w : World) : (Op.equalIn 10000 58 (.agg (enc e).toArray) (.agg (enc e').toArray)).run Tryz.prog w = .ok (decide (e = e')) w := by
 obtain ⟨r, hr, hiff⟩ := run_equalIn_deep (P := Tryz.prog) 9997 3 58 Tryz.keyEn w 4 4 _ _ _ _ (enc_formed e) (enc_formed e') (enl_is e h1 h2) (enl_is e' h3 h4);rw [show 9997 + 3 = 10000 from rfl] at hr;rw [hr, show r = decide (e = e') from Bool.eq_iff_iff.2 (hiff.trans ((enl_inj e e').trans decide_eq_true_iff.symm))]
def vacE (e : En) : Bool := decide (e = zE)
theorem vacant_any (e : En) (h1 : e.1.size ≤ maxLen) (h2 : e.2 < 65536) (w : World) : Calls Tryz.prog 92 #[.agg (enc e).toArray] w fun x w' => x = .returned (.bool (vacE e)) ∧ Below w.heap.size w w' := by
 obtain ⟨d, hu, hd⟩ := Tryz.descEn;have HU := jh hu;have HD := jh hd;have HE := jh (fun W => eqEn e zE h1 h2 (Nat.zero_le _) (by decide) W);unfold vacE
 obtain ⟨C, hC⟩ : ∃ C, decide (e = zE) = C := ⟨_, rfl⟩
 rw [hC] at HE ⊢;clear hu hd hC h1 h2
 go_enter Tryz.func92, Tryz.ntmps92
 go_wp2_with (first | (refine wpList_box_list rfl 58 _ rfl (enc e) rfl ?_; intro w1 F1 hb1 hz1; have HB1 := jh hb1; clear hb1 hz1) | (refine wpList_load_mid rfl 58 _ rfl w.heap.size 0 rfl (enc e) d F1.out.range0 HU.out HD.out (sizeEn e) ?_) | (refine wpList_yields (.agg (enc zE).toArray) (yields_bld0 (by rfl) 58 rfl _ Tryz.buildEn0) ?_) | (refine wpList_yields (.bool C) (yields_eql (by rfl) 58 58 _ _ rfl (enc e).toArray (enc zE).toArray rfl rfl C Tryz.guardEn (fun W _ => HE.out W)) ?_))
 go_ret
 exact ⟨rfl, HB1.out⟩
def btF (s : ByteArray) (j : Nat) : Int := match s.data.toList[j]? with
 | some b => (b.toNat : Int)
 | none => 0
theorem btF_bd (s : ByteArray) (j : Nat) : 0 ≤ btF s j ∧ btF s j < 256 := by
 unfold btF
 split
 ·rename_i b _
  have := b.toNat_lt;omega
 ·decide
theorem btF_past (s : ByteArray) (j : Nat) (h : s.size ≤ j) : btF s j = 0 := by
 unfold btF;rw [List.getElem?_eq_none (by rw [← Lib.size_eq]; exact h)]
theorem strb (s : ByteArray) : (s.data.toList.map fun x => Value.int .u8 (x.toNat : Int)) = byts s.size (btF s) := by
 refine List.ext_getElem? fun j => ?_;rw [List.getElem?_map]
 by_cases h : j < s.size
 ·rw [byts_get (btF s) h]
  have hl : j < s.data.toList.length := by rw [← Lib.size_eq]; exact h
  unfold btF;rw [List.getElem?_eq_getElem hl];rfl
 ·rw [List.getElem?_eq_none (by rw [← Lib.size_eq]; omega), List.getElem?_eq_none (by rw [byts_len]; omega)];rfl
def pkF (e : En) : Nat → Int := fun j => if j = 0 then (e.2 : Int) % 256 else if j = 1 then (e.2 : Int) / 256 else btF e.1 (j - 2)
theorem pkF_bd (e : En) (h : e.2 < 65536) (j : Nat) : 0 ≤ pkF e j ∧ pkF e j < 256 := by
 unfold pkF
 split
 ·omega
 ·split
  ·omega
  ·exact btF_bd _ _
theorem Tryz.zero171 : (Tryz.prog.info? 295).map (fun i => i.zero) = some (some (.agg (byts 16 fun _ => 0).toArray)) := by kernel_rfl
theorem Tryz.arr171 : Tryz.prog.underlying 295 = some (.array 16 5) := by kernel_rfl
theorem Tryz.isize171 : (Tryz.prog.info? 295).map (·.size) = some 16 := by kernel_rfl
theorem size171 (f : Nat → Int) : (Tryz.prog.info? 295).map (·.size) = some (byts 16 f).length := by rw [byts_len]; exact Tryz.isize171
theorem size171' (f : Nat → Int) : (Tryz.prog.info? 295).map (·.size) = some (byts 16 f).toArray.size := by rw [List.size_toArray]; exact size171 f
theorem Tryz.info5v : ∃ i, Tryz.prog.info? 5 = some i ∧ i.zero = some (.int .u8 0) ∧ i.size = 1 ∧ i.bytes = 1 := by
 have h : (Tryz.prog.info? 5).map (fun i => (i.zero, i.size, i.bytes)) = some (some (.int .u8 0), 1, 1) := by kernel_rfl
 obtain ⟨i, hi, he⟩ := Option.map_eq_some_iff.1 h;simp only [Prod.mk.injEq] at he;exact ⟨i, hi, he.1, he.2.1, he.2.2⟩
theorem Tryz.sizeOf5 (w : World) : (Go.sizeOf 5).run Tryz.prog w = .ok 1 w := by
 obtain ⟨i, hi, -, hs, -⟩ := Tryz.info5v;rw [run_sizeOf w hi, Tryz.cells5]
theorem pack_any (e : En) (h1 : e.1.size ≤ 14) (h2 : e.2 < 65536) (w : World) : Calls Tryz.prog 145 #[.agg (enc e).toArray] w fun x w' => x = .returned (.agg (byts 16 (pkF e)).toArray) ∧ Below w.heap.size w w' := by
 obtain ⟨d, hu, hd⟩ := Tryz.descEn;have HU := jh hu;have HD := jh hd;obtain ⟨s, n⟩ := e;have H14 : Hid (s.size ≤ 14) := jh h1
 have n0 : (0 : Int) ≤ n := by omega
 have n1 : (n : Int) < 65536 := by
  have : n < 65536 := h2;omega
 have HP : Hid (∀ j, j < 16 → pkF (s, n) j = if j = 0 then (n : Int) % 256 else if j = 1 then (n : Int) / 256 else btF s (j - 2)) := jh (fun j _ => rfl);have HSt := jh (strb s)
 obtain ⟨P, hP⟩ : ∃ P, pkF (s, n) = P := ⟨_, rfl⟩
 rw [hP] at HP ⊢;clear hu hd h1 h2 hP
 go_enter Tryz.func145, Tryz.ntmps145
 go_upto_region 2 with (first | (refine wpList_box_list (w := w) rfl 58 _ rfl (enc (s, n)) rfl ?_; intro w1 F1 hb1 hz1; have HB1 := jh hb1; have hq1 : w.heap.size < w1.heap.size := (by omega); clear hb1 hz1) | (refine wpList_alloc_byts (w := w1) rfl 295 16 rfl Tryz.zero171 ?_; intro w2 F2 hb2 hz2; have HB2 := jh hb2; have hq2 : w1.heap.size < w2.heap.size := (by omega); clear hb2 hz2) | (refine wpList_alloc_byts (w := w2) rfl 295 16 rfl Tryz.zero171 ?_; intro w3 F3 hb3 hz3; have HB3 := jh hb3; have hq3 : w2.heap.size < w3.heap.size := (by omega); clear hb3 hz3))
 obtain ⟨b1, hb1⟩ : ∃ b, w.heap.size = b := ⟨_, rfl⟩
 obtain ⟨b2, hb2⟩ : ∃ b, w1.heap.size = b := ⟨_, rfl⟩
 obtain ⟨b3, hb3⟩ : ∃ b, w2.heap.size = b := ⟨_, rfl⟩
 have G1 := jh ((F1.out.keep HB2.out).keep HB3.out);have G2 := jh (F2.out.below HB3.out F2.out.lt);have HB := jh ((HB1.out.trans (HB2.out.mono HB1.out.size)).trans (HB3.out.mono (Nat.le_trans HB1.out.size HB2.out.size)));rw [hb1, hb2] at hq1;rw [hb2, hb3] at hq2;rw [hb3] at hq3;rw [hb1] at G1 HB;rw [hb2] at G2;rw [hb3] at F3;have HW := jh hb1
 try rw [hb1]
 try rw [hb2]
 try rw [hb3]
 clear hb1 hb2 hb3 HB1 HB2 HB3 F1 F2;have c1 := G1.out.c 1 _ rfl;have d0 := F3.out.c 0 (by decide);have z0 := F3.out.z 0 (by decide)
 go_upto_region 3 with fail
 have F4 := jh (F3.out.set 0 (by decide) ((n : Int) % 256));have hk4 : Kp w3 (w3.setCell ⟨b3, 0, none⟩ (.int .u8 ((n : Int) % 256))) b3 b3 := (Kp.refl w3 b3 b3).setA 0 _
 obtain ⟨w4, hw4⟩ : ∃ y, w3.setCell ⟨b3, 0, none⟩ (.int .u8 ((n : Int) % 256)) = y := ⟨_, rfl⟩
 rw [hw4] at F4 hk4 ⊢;have G14 := jh (G1.out.kp hk4 (by omega) (by omega));have G24 := jh (G2.out.kp hk4 (by omega) (by omega));have HB4 := jh (HB.out.trans (hk4.below (by omega) (by omega) (by omega)));have hq4 := hk4.size;clear hw4 c1 d0 z0 hk4 G1 G2 HB F3;have c1 := G14.out.c 1 _ rfl;have d1 := F4.out.c 1 (by decide);have z1 := F4.out.z 1 (by decide)
 go_upto_region 4 with fail
 have F5 := jh (F4.out.set 1 (by decide) ((n : Int) / 256));have hk5 : Kp w4 (w4.setCell ⟨b3, 1, none⟩ (.int .u8 ((n : Int) / 256))) b3 b3 := (Kp.refl w4 b3 b3).setA 1 _
 obtain ⟨w5, hw5⟩ : ∃ y, w4.setCell ⟨b3, 1, none⟩ (.int .u8 ((n : Int) / 256)) = y := ⟨_, rfl⟩
 rw [hw5] at F5 hk5 ⊢;have G15 := jh (G14.out.kp hk5 (by omega) (by omega));have G25 := jh (G24.out.kp hk5 (by omega) (by omega));have HB5 := jh (HB4.out.trans (hk5.below (by omega) (by omega) (by omega)));have hq5 := hk5.size;clear hw5 c1 d1 z1 hk5 G14 G24 HB4 F4;refine wp_region_held (S := fun W => W.cell? ⟨b1, 0, none⟩ = some (.string s)) (by kernel_rfl) ?_;change wpAnyH _ _ _ _ _ _ _ _ (World.drew _);have hS0 : (fun W => W.cell? ⟨b1, 0, none⟩ = some (.string s)) w5.drew := (G15.out.keep (Below.refl _ _).drew).c 0 _ rfl;have F6 := jh (F5.out.below (Below.refl w5.heap.size w5).drew F5.out.lt);have G26 := jh (G25.out.below (Below.refl w5.heap.size w5).drew G25.out.lt);have HB6 := jh (HB5.out.drew)
 have hq6 : b3 < (World.drew w5).heap.size := by
  show b3 < w5.heap.size
  omega
 obtain ⟨w6, hw6⟩ : ∃ x, World.drew w5 = x := ⟨_, rfl⟩
 rw [hw6] at hS0 F6 G26 HB6 hq6 ⊢;clear hw6 F5 G15 G25 HB5;refine jk 0 (v:=?_) rfl (by kernel_rfl) (fun _ _ _=>id) (by rfl) ?_ hS0 ?_;rotate_left
 ·intro W hW;go_simp;try with_reducible rfl
 simp only [Act.put,j1,j2,j3,j4,j5,j6];refine jk 1 (v:=?_) rfl (by kernel_rfl) (fun _ _ _=>id) (by rfl) ?_ hS0 ?_;rotate_left
 ·intro W hW;go_simp;try with_reducible rfl
 simp only [Act.put,j1,j2,j3,j4,j5,j6];refine jk 2 (v:=?_) rfl (by kernel_rfl) (fun _ _ _=>id) (by rfl) ?_ hS0 ?_;rotate_left 1
 ·intro W hW;have c0 : W.cell? ⟨b1, 0, none⟩ = some (.string s) := hW;go_simp
  try with_reducible rfl
 simp only [Act.put,j1,j2,j3,j4,j5,j6];refine wpAnyH_ready (rs := [3]) (by kernel_rfl) (by simp) (AllReadyH.cons rfl (fun KK hKK => ?_) AllReadyH.nil);refine step_copy_string rfl _ _ _ _ rfl 5 Tryz.sl34 Tryz.sizeOf5 b3 2 14 14 rfl s rfl H14.out (fun j hj => ?_) (fun j hj => F6.out.z (2 + j) (by have := H14.out; omega)) ?_
 ·rw [F6.out.c (2 + j) (by have := H14.out; omega)];rfl
 rw [HSt.out];have F7 := jh (F6.out.store 2 s.size (by have := H14.out; omega) (btF s));have hk7 : Kp w6 (w6.setCells b3 2 (byts s.size (btF s))) b3 b3 := (Kp.refl w6 b3 b3).setCells b3 2 (.inl rfl) _;have G27 := jh (G26.out.kp hk7 (by omega) (by omega));have HB7 := jh (HB6.out.trans (hk7.below (by omega) (by omega) (by omega)));have hS1 : (fun W => W.cell? ⟨b1, 0, none⟩ = some (.string s)) (w6.setCells b3 2 (byts s.size (btF s))) := (hk7.cell (p := ⟨b1, 0, none⟩) (by show b1 < _; omega) (by show b1 ≠ b3; omega) (by show b1 ≠ b3; omega)).trans hS0;have hq7 := hk7.size
 obtain ⟨w7, hw7⟩ : ∃ x, w6.setCells b3 2 (byts s.size (btF s)) = x := ⟨_, rfl⟩
 rw [hw7] at F7 G27 HB7 hS1 hq7 ⊢;clear hw7 hk7 F6 G26 HB6 hS0;have hS0 := hS1;clear hS1;refine hKK _ _ hS0 ?_;intro _;clear hKK KK
 try simp only [Act.put,j1,j2,j3,j4,j5,j6]
 refine wpAnyH_done (by kernel_rfl) ?_ _;clear hS0
 have F8 : Hid (Fl w7 b3 16 P) := jh (F7.out.congr (fun j hj => by
  rw [HP.out j hj];unfold upd
  by_cases e0 : j = 0
  ·subst e0;rfl
  ·by_cases e1 : j = 1
   ·subst e1;rfl
   ·rw [if_neg e0, if_neg e1]
    by_cases e2 : 2 ≤ j ∧ j < 2 + s.size
    ·rw [if_pos e2]
    ·rw [if_neg e2, btF_past s _ (by omega)]
     show (if j = 1 then (n : Int) / 256 else if j = 0 then (n : Int) % 256 else 0) = 0
     rw [if_neg e1, if_neg e0]))
 have PF := jh (G27.out.stored P)
 go_wp2_with (first | (refine wpList_load_mid rfl 295 _ rfl b3 0 rfl (byts 16 P) (.array 16 5) F8.out.range0 Tryz.arr171 rfl (size171 _) ?_) | (refine wpList_store_mid rfl 295 _ _ rfl b2 0 (byts 16 P).toArray rfl rfl (by rw [byts_size]; exact G27.out.there 0 16 (Nat.le_refl _)) (size171' _) (byts_all _ _) ?_))
 exact bodyPost_ret_by (results_mid rfl _ _ b2 _ (.array 16 5) rfl PF.out.range0 Tryz.arr171 rfl (size171 _)) rfl ⟨rfl, by rw [HW.out]; exact below_setCells HB7.out b2 0 (by omega) _⟩
end Go.Proofs.YtgdapkbenmlabaaGreatDoor
namespace Go.Proofs.YtgdapkbenmlabaaGreatDoor
open Go.RowKit Go.Maps
variable {ln : Lm}
structure GG (g : Cf.Ge) (B0 P0 M DA NB N : Nat) : Prop where
 base : g.base = B0
 tab : g.base + g.bm = P0
 bm0 : 0 ≤ g.bm
 da : g.da = DA
 bl : g.bl = NB
 nd : g.nd = M
 b32 : 32 ≤ B0
 bp : B0 + 1 ≤ P0
 pd : P0 + (M + 1) / 2 ≤ DA
 dn : DA + NB ≤ N
 n4 : 4 ≤ NB
 n512 : NB ≤ 512
 m4 : 4 ≤ M
 m128 : M ≤ 128
def gpc (t : Nat) (lab : Int) (g : Cf.Ge) (p : Nat) : List Value := [.pointer (some ⟨t, 0, none⟩), .int .i64 lab, .int .i64 g.base, .int .i64 g.bm, .int .i64 g.tb, .int .i64 g.da, .int .i64 g.bl, .int .i64 g.nd, .pointer (some ⟨p, 0, none⟩)]
structure Gr (w : World) (q p t m d gg : Nat) (lab : Nat) (g : Cf.Ge) (B0 NB N : Nat) (ln : Lm) (Y : Nat → Nat → Int) (K : Nat) : Prop where
 gb : Vl w q (gpc t lab g p)
 mb : Mb w p t B0 NB
 rd : Rd w t m d gg N ln Y K
 nq : q ∉ [t, m, d, gg]
 np : p ∉ [t, m, d, gg]
theorem Gr.keep {w w' : World} {q p t m d gg lab B0 NB N K : Nat} {ln : Lm} {g : Cf.Ge} {Y : Nat → Nat → Int} (h : Gr w q p t m d gg lab g B0 NB N ln Y K) (hb : Below w.heap.size w w') : Gr w' q p t m d gg lab g B0 NB N ln Y K :=
 ⟨h.gb.keep hb, h.mb.keep hb, h.rd.keep hb, h.nq, h.np⟩
theorem Gr.mono {w : World} {q p t m d gg lab B0 NB N K K' : Nat} {ln ln' : Lm} {g : Cf.Ge} {Y : Nat → Nat → Int} (h : Gr w q p t m d gg lab g B0 NB N ln Y K) (hl : Lm.Le ln ln') (hk : K ≤ K') : Gr w q p t m d gg lab g B0 NB N ln' Y K' :=
 ⟨h.gb, h.mb, h.rd.mono2 hl hk, h.nq, h.np⟩
theorem Gr.call {w w' : World} {q p t m d gg lab B0 NB N K K' : Nat} {ln ln' : Lm} {g : Cf.Ge} {Y Y' : Nat → Nat → Int} (h : Gr w q p t m d gg lab g B0 NB N ln Y K) (hR : Rd w' t m d gg N ln' Y' K') (hk : Kf w w' [t, m, d, gg]) : Gr w' q p t m d gg lab g B0 NB N ln' Y' K' :=
 ⟨h.gb.kf hk h.nq, h.mb.kf hk h.np, hR, h.nq, h.np⟩
theorem Gr.kp {w w' : World} {b q p t m d gg lab B0 NB N K : Nat} {ln : Lm} {g : Cf.Ge} {Y : Nat → Nat → Int} (h : Gr w q p t m d gg lab g B0 NB N ln Y K) (hk : Kp w w' b b) (hb : b ∉ [q, p, t, m, d, gg]) : Gr w' q p t m d gg lab g B0 NB N ln Y K := by
 simp only [List.mem_cons, List.not_mem_nil, or_false, not_or] at hb
 have hb4 : b ∉ [t, m, d, gg] := by simp; omega
 exact ⟨h.gb.kp hk (by omega) (by omega), h.mb.kp hk (by omega), h.rd.kp hk hb4 hb4, h.nq, h.np⟩
theorem Gr.lts {w : World} {q p t m d gg lab B0 NB N K : Nat} {ln : Lm} {g : Cf.Ge} {Y : Nat → Nat → Int} (h : Gr w q p t m d gg lab g B0 NB N ln Y K) : q < w.heap.size ∧ p < w.heap.size ∧ t < w.heap.size ∧ m < w.heap.size ∧ d < w.heap.size ∧ gg < w.heap.size :=
 ⟨h.gb.lt, h.mb.lt, h.rd.lts⟩
theorem Gr.notin {w : World} {b q p t m d gg lab B0 NB N K : Nat} {ln : Lm} {g : Cf.Ge} {Y : Nat → Nat → Int} (h : Gr w q p t m d gg lab g B0 NB N ln Y K) (hb : w.heap.size ≤ b) : b ∉ [q, p, t, m, d, gg] := by
 obtain ⟨h1, h2, h3, h4, h5, h6⟩ := h.lts
 simp
 omega
theorem nin6 {B q p t m d g b : Nat} (h0 : q < B) (h0' : p < B) (h1 : t < B) (h2 : m < B) (h3 : d < B) (h4 : g < B) (hb : B ≤ b) : b ∉ [q, p, t, m, d, g] := by
 simp
 omega
theorem bit_any (n : Int) (h0 : 0 ≤ n) (h1 : n < 65536) (w : World) : Calls Tryz.prog 185 #[.int .u16 n] w fun e w' => e = .returned (.int .i64 (n - 1)) ∧ w' = w := by
 go_enter Tryz.func185, Tryz.ntmps185
 go_wp2
 go_ret
 exact ⟨rfl, rfl⟩
theorem reach_in (q : Nat) (NB : Int) (x : Int) (h0 : 1 ≤ x) (h1 : x ≤ NB) (w : World) (c6 : w.cell? ⟨q, 6, none⟩ = some (.int .i64 NB)) : Calls Tryz.prog 125 #[.pointer (some ⟨q, 0, none⟩), .int .i64 x] w fun e w' => e = .returned (.int .i64 0) ∧ w' = w := by
 go_enter Tryz.func125, Tryz.ntmps125
 go_wp2
 go_ret
 exact ⟨rfl, rfl⟩
theorem place7_any (q : Nat) (DA n : Int) (h0 : 0 ≤ n) (h1 : n < 65536) (d0 : 0 ≤ DA) (d1 : DA ≤ 65536) (w : World) (c5 : w.cell? ⟨q, 5, none⟩ = some (.int .i64 DA)) : Calls Tryz.prog 127 #[.pointer (some ⟨q, 0, none⟩), .int .u16 n] w fun e w' => e = .returned (.int .i64 (DA + (n - 1))) ∧ Below w.heap.size w w' := by
 go_enter Tryz.func127, Tryz.ntmps127
 go_wp2_with fail
 go_quiet ((go_at_call 185; exact Calls.quiet_of_same (bit_any _ (by omega) (by omega) _)))
 go_wp2_with fail
 go_ret
 exact ⟨rfl, ⟨rfl, rfl, rfl, Nat.le_refl _, fun _ _ => rfl⟩⟩
theorem gput_in (q p t m d gg lab B0 P0 M DA NB N K : Nat) (g : Cf.Ge) (Y : Nat → Nat → Int) (n : Nat) (hn0 : 1 ≤ n) (hn : n ≤ NB) (f : Nat → Int) (hf : Byt f) (hT : Has ln (DA + (n - 1))) (hg : GG g B0 P0 M DA NB N) (w : World) (h : Gr w q p t m d gg lab g B0 NB N ln Y K) :
  Calls Tryz.prog 69 #[.pointer (some ⟨q, 0, none⟩), .int .u16 n, .agg (byts 64 f).toArray] w fun e w' => e = .returned (.int .i64 0) ∧ Gr w' q p t m d gg lab g B0 NB N ln (vput (DA + (n - 1)) f Y) K ∧ Kf w w' [t, m, d, gg] := by
 have hN := h.rd.hN;have HPut := jh (fun W (hW : Rd W t m d gg N ln Y K) => put6 t m d gg K Y (DA + (n - 1)) f hf (by have := hg.b32; have := hg.bp; have := hg.pd; omega) (by have := hg.dn; omega) hT W hW);have hGr := h;have HG := jh hGr;have HR := jh (show 1 ≤ (n : Int) ∧ (n : Int) ≤ g.bl by have := hg.bl; omega)
 have HP : Hid (∀ W : World, W.cell? ⟨q, 5, none⟩ = some (.int .i64 g.da) → Calls Tryz.prog 127 #[.pointer (some ⟨q, 0, none⟩), .int .u16 n] W fun e w' => e = .returned (.int .i64 ((DA + (n - 1) : Nat) : Int)) ∧ Below W.heap.size W w') := fun W hc => by
  have hda := hg.da;have h5 := hg.n512;have hdn := hg.dn;have := place7_any q g.da n (by omega) (by omega) (by omega) (by omega) W hc
  rwa [show g.da + ((n : Int) - 1) = ((DA + (n - 1) : Nat) : Int) by omega] at this
 obtain ⟨X, hX⟩ : ∃ X, DA + (n - 1) = X := ⟨_, rfl⟩
 rw [hX] at HPut HP ⊢
 have hx1 : (n : Int) < 65536 := by have := hg.n512; omega
 have lts := jh h.lts;have hq0 := h.lts.1;clear hX hN hf hT hn0 hn hGr h
 obtain ⟨x, hx⟩ : ∃ x : Int, (n : Int) = x := ⟨_, rfl⟩
 have hx0 : 0 ≤ x := by omega
 rw [hx] at HR HP hx1 ⊢;clear hx hg
 go_enter Tryz.func69, Tryz.ntmps69
 go_upto_region 4 with (first | (refine wpList_box_byts rfl 162 _ 64 rfl f rfl ?_; intro w1 F1 hb1 hz1; have HB1 := jh hb1; have HG1 := jh (HG.out.keep hb1); clear hb1 hz1) | (go_at_call 125; refine (reach_in q g.bl x HR.out.1 HR.out.2 w1 (HG1.out.gb.c 6 _ rfl)).mono ?_; rintro e w' ⟨rfl, hww⟩; rw [hww]; clear hww))
 obtain ⟨b, hb⟩ : ∃ b, w.heap.size = b := ⟨_, rfl⟩
 have NB6 := jh (nin6 lts.out.1 lts.out.2.1 lts.out.2.2.1 lts.out.2.2.2.1 lts.out.2.2.2.2.1 lts.out.2.2.2.2.2 (Nat.le_of_eq hb));have HK1 := jh (Kf.of_below HB1.out [t, m, d, gg]);rw [hb] at F1 hq0
 try rw [hb]
 clear hb lts HB1 HG;refine wp_region_held (S := fun W => Vl W q (gpc t lab g p) ∧ Fl W b 64 f) (by kernel_rfl) ?_;change wpAnyH _ _ _ _ _ _ _ _ (World.drew _)
 have hS0 : (fun W => Vl W q (gpc t lab g p) ∧ Fl W b 64 f) w1.drew := ⟨HG1.out.gb.keep (Below.refl _ _).drew, F1.out.below (Below.refl _ _).drew F1.out.lt⟩
 have HG2 := jh (HG1.out.keep (Below.refl w1.heap.size w1).drew);have HK2 := jh (HK1.out.trans (Kf.of_below (Below.refl w1.heap.size w1).drew _))
 obtain ⟨w2, hw2⟩ : ∃ x, World.drew w1 = x := ⟨_, rfl⟩
 rw [hw2] at hS0 HG2 HK2 ⊢;clear hw2;clear HG1 HK1 F1;refine jk 0 (v:=?_) rfl (by kernel_rfl) (fun _ _ _=>id) (by rfl) ?_ hS0 ?_;rotate_left
 ·intro W hW;go_simp;try with_reducible rfl
 simp only [Act.put,j1,j2,j3,j4,j5,j6];refine jk 1 (v:=?_) rfl (by kernel_rfl) (fun _ _ _=>id) (by rfl) ?_ hS0 ?_;rotate_left
 ·intro W hW;go_simp;try with_reducible rfl
 simp only [Act.put,j1,j2,j3,j4,j5,j6];refine jk 2 (v:=?_) rfl (by kernel_rfl) (fun _ _ _=>id) (by rfl) ?_ hS0 ?_;rotate_left
 ·intro W hW;go_simp;try with_reducible rfl
 simp only [Act.put,j1,j2,j3,j4,j5,j6];refine jk 3 (v:=?_) rfl (by kernel_rfl) (fun _ _ _=>id) (by rfl) ?_ hS0 ?_;rotate_left 1
 ·intro W hW;have c0 := hW.1.c 0 _ rfl;go_simp
  try with_reducible rfl
 simp only [Act.put,j1,j2,j3,j4,j5,j6];refine jk 4 (v:=?_) rfl (by kernel_rfl) (fun _ _ _=>id) (by rfl) ?_ hS0 ?_;rotate_left
 ·intro W hW;go_simp;try with_reducible rfl
 simp only [Act.put,j1,j2,j3,j4,j5,j6];refine jk 5 (v:=?_) rfl (by kernel_rfl) (fun _ _ _=>id) (by rfl) ?_ hS0 ?_;rotate_left
 ·intro W hW;go_simp;try with_reducible rfl
 simp only [Act.put,j1,j2,j3,j4,j5,j6];refine jx 7 (v := .agg (byts 64 f).toArray) rfl (by kernel_rfl) (fun _ _ _=>id) ?_ hS0 ?_
 ·exact yieldsIf_load_mid (by rfl) 162 _ rfl b 0 rfl (byts 64 f) (.array 64 5) (fun _ h => h.2.range0) Tryz.arr36 rfl (size36 _)
 simp only [Act.put,j1,j2,j3,j4,j5,j6];refine wpAnyH_ready (rs := [6]) (by kernel_rfl) (by simp) (AllReadyH.cons rfl (fun KK hKK => ?_) AllReadyH.nil);go_simp;refine (HP.out w2 (hS0.1.c 5 _ rfl)).mono ?_;rintro e w3 ⟨rfl, hb3⟩;have HG3 := jh (HG2.out.keep hb3);have HK3 := jh (HK2.out.trans (Kf.of_below hb3 _))
 have hS1 : (fun W => Vl W q (gpc t lab g p) ∧ Fl W b 64 f) w3 := ⟨hS0.1.keep hb3, hS0.2.below hb3 hS0.2.lt⟩
 clear hb3 HG2 HK2 hS0;have hS0 := hS1;clear hS1;refine hKK _ _ hS0 ?_;intro _;clear hKK KK
 try simp only [Act.put,j1,j2,j3,j4,j5,j6]
 refine wpAnyH_ready (rs := [8]) (by kernel_rfl) (by simp) (AllReadyH.cons rfl (fun KK hKK => ?_) AllReadyH.nil);go_simp;refine (HPut.out w3 HG3.out.rd).mono ?_;rintro e w4 ⟨rfl, hR4, hk4⟩;have HG4 := jh (HG3.out.call hR4 hk4);have HK4 := jh (HK3.out.trans hk4)
 have nb4 : b ∉ [t, m, d, gg] := by have := NB6.out; simp at this ⊢; omega
 have hS1 : (fun W => Vl W q (gpc t lab g p) ∧ Fl W b 64 f) w4 := ⟨HG4.out.gb, hS0.2.kf hk4 nb4⟩
 clear hR4 hk4 HG3 HK3 hS0 nb4;have hS0 := hS1;clear hS1;refine hKK _ _ hS0 ?_;intro _;clear hKK KK
 try simp only [Act.put,j1,j2,j3,j4,j5,j6]
 refine jk 9 (v:=?_) rfl (by kernel_rfl) (fun _ _ _=>id) (by rfl) ?_ hS0 ?_;rotate_left
 ·intro W hW;go_simp;try with_reducible rfl
 simp only [Act.put,j1,j2,j3,j4,j5,j6];refine wpAnyH_done (by kernel_rfl) ?_ _;clear hS0
 go_wp2_with fail
 go_ret
 exact ⟨rfl, HG4.out, HK4.out⟩
end Go.Proofs.YtgdapkbenmlabaaGreatDoor
namespace Go.Proofs.YtgdapkbenmlabaaGreatDoor
open Go.RowKit Go.Maps
variable {ln : Lm}
theorem gget_in (q p t m d gg lab B0 P0 M DA NB N K : Nat) (g : Cf.Ge) (Y : Nat → Nat → Int) (n : Nat) (hn0 : 1 ≤ n) (hn : n ≤ NB) (hK : K < 700000000) (hg : GG g B0 P0 M DA NB N) (w : World) (h : Gr w q p t m d gg lab g B0 NB N ln Y K) :
  Calls Tryz.prog 188 #[.pointer (some ⟨q, 0, none⟩), .int .u16 n] w fun e w' => e = .returned (.tuple #[.agg (byts 64 (Y (DA + (n - 1)))).toArray, .int .i64 0]) ∧ Gr w' q p t m d gg lab g B0 NB N ln Y (K + 1) ∧ Kf w w' [t, m, d, gg] := by
 have hN := h.rd.hN;have HGet := jh (fun W (hW : Rd W t m d gg N ln Y K) => get6 t m d gg K Y (DA + (n - 1)) (by have := hg.b32; have := hg.bp; have := hg.pd; omega) (by have := hg.dn; omega) hK W hW);have hGr := h;have HG := jh hGr;have HR := jh (show 1 ≤ (n : Int) ∧ (n : Int) ≤ g.bl by have := hg.bl; omega)
 have HP : Hid (∀ W : World, W.cell? ⟨q, 5, none⟩ = some (.int .i64 g.da) → Calls Tryz.prog 127 #[.pointer (some ⟨q, 0, none⟩), .int .u16 n] W fun e w' => e = .returned (.int .i64 ((DA + (n - 1) : Nat) : Int)) ∧ Below W.heap.size W w') := fun W hc => by
  have hda := hg.da;have h5 := hg.n512;have hdn := hg.dn;have := place7_any q g.da n (by omega) (by omega) (by omega) (by omega) W hc
  rwa [show g.da + ((n : Int) - 1) = ((DA + (n - 1) : Nat) : Int) by omega] at this
 obtain ⟨V, hV⟩ : ∃ V, Y (DA + (n - 1)) = V := ⟨_, rfl⟩
 rw [hV] at HGet ⊢
 obtain ⟨X, hX⟩ : ∃ X, DA + (n - 1) = X := ⟨_, rfl⟩
 rw [hX] at HGet HP
 have hx1 : (n : Int) < 65536 := by have := hg.n512; omega
 have lts := jh h.lts;have hq0 := h.lts.1;clear hX hV hN hn0 hn hGr h
 obtain ⟨x, hx⟩ : ∃ x : Int, (n : Int) = x := ⟨_, rfl⟩
 have hx0 : 0 ≤ x := by omega
 rw [hx] at HR HP hx1 ⊢;clear hx hg
 go_enter Tryz.func188, Tryz.ntmps188
 go_upto_region 4 with (first | (refine wpList_alloc_byts rfl 162 64 rfl Tryz.zero36 ?_; intro w1 F1 hb1 hz1; have HB1 := jh hb1; have HG1 := jh (HG.out.keep hb1); clear hb1 hz1) | (go_at_call 125; refine (reach_in q g.bl x HR.out.1 HR.out.2 w1 (HG1.out.gb.c 6 _ rfl)).mono ?_; rintro e w' ⟨rfl, hww⟩; rw [hww]; clear hww))
 obtain ⟨b, hb⟩ : ∃ b, w.heap.size = b := ⟨_, rfl⟩
 have NB6 := jh (nin6 lts.out.1 lts.out.2.1 lts.out.2.2.1 lts.out.2.2.2.1 lts.out.2.2.2.2.1 lts.out.2.2.2.2.2 (Nat.le_of_eq hb));have HK1 := jh (Kf.of_below HB1.out [t, m, d, gg]);have HWb := jh (Nat.le_of_eq hb);rw [hb] at F1 hq0
 try rw [hb]
 clear hb lts HB1 HG;refine wp_region_held (S := fun W => Vl W q (gpc t lab g p)) (by kernel_rfl) ?_;change wpAnyH _ _ _ _ _ _ _ _ (World.drew _);have hS0 : (fun W => Vl W q (gpc t lab g p)) w1.drew := HG1.out.gb.keep (Below.refl _ _).drew;have HG2 := jh (HG1.out.keep (Below.refl w1.heap.size w1).drew);have HK2 := jh (HK1.out.trans (Kf.of_below (Below.refl w1.heap.size w1).drew _));have F2 := jh (F1.out.below (Below.refl w1.heap.size w1).drew F1.out.lt)
 obtain ⟨w2, hw2⟩ : ∃ x, World.drew w1 = x := ⟨_, rfl⟩
 rw [hw2] at hS0 HG2 HK2 F2 ⊢;clear hw2;clear HG1 HK1 F1;refine jk 0 (v:=?_) rfl (by kernel_rfl) (fun _ _ _=>id) (by rfl) ?_ hS0 ?_;rotate_left
 ·intro W hW;go_simp;try with_reducible rfl
 simp only [Act.put,j1,j2,j3,j4,j5,j6];refine jk 1 (v:=?_) rfl (by kernel_rfl) (fun _ _ _=>id) (by rfl) ?_ hS0 ?_;rotate_left
 ·intro W hW;go_simp;try with_reducible rfl
 simp only [Act.put,j1,j2,j3,j4,j5,j6];refine jk 2 (v:=?_) rfl (by kernel_rfl) (fun _ _ _=>id) (by rfl) ?_ hS0 ?_;rotate_left
 ·intro W hW;go_simp;try with_reducible rfl
 simp only [Act.put,j1,j2,j3,j4,j5,j6];refine jk 3 (v:=?_) rfl (by kernel_rfl) (fun _ _ _=>id) (by rfl) ?_ hS0 ?_;rotate_left 1
 ·intro W hW;have c0 := hW.c 0 _ rfl;go_simp
  try with_reducible rfl
 simp only [Act.put,j1,j2,j3,j4,j5,j6];refine jk 4 (v:=?_) rfl (by kernel_rfl) (fun _ _ _=>id) (by rfl) ?_ hS0 ?_;rotate_left
 ·intro W hW;go_simp;try with_reducible rfl
 simp only [Act.put,j1,j2,j3,j4,j5,j6];refine jk 5 (v:=?_) rfl (by kernel_rfl) (fun _ _ _=>id) (by rfl) ?_ hS0 ?_;rotate_left
 ·intro W hW;go_simp;try with_reducible rfl
 simp only [Act.put,j1,j2,j3,j4,j5,j6];refine wpAnyH_ready (rs := [6]) (by kernel_rfl) (by simp) (AllReadyH.cons rfl (fun KK hKK => ?_) AllReadyH.nil);go_simp;refine (HP.out w2 (hS0.c 5 _ rfl)).mono ?_;rintro e w3 ⟨rfl, hb3⟩;have HG3 := jh (HG2.out.keep hb3);have HK3 := jh (HK2.out.trans (Kf.of_below hb3 _));have F3 := jh (F2.out.below hb3 F2.out.lt)
 replace hS0 : (fun W => Vl W q (gpc t lab g p)) w3 := hS0.keep hb3
 clear hb3 HG2 HK2 F2;refine hKK _ _ hS0 ?_;intro _;clear hKK KK
 try simp only [Act.put,j1,j2,j3,j4,j5,j6]
 refine wpAnyH_ready (rs := [7]) (by kernel_rfl) (by simp) (AllReadyH.cons rfl (fun KK hKK => ?_) AllReadyH.nil);go_simp;refine (HGet.out w3 HG3.out.rd).mono ?_;rintro e w4 ⟨rfl, hR4, hk4⟩;have HG4 := jh (HG3.out.call hR4 hk4);have HK4 := jh (HK3.out.trans hk4)
 have nb4 : b ∉ [t, m, d, gg] := by have := NB6.out; simp at this ⊢; omega
 have F4 := jh (F3.out.kf hk4 nb4)
 replace hS0 : (fun W => Vl W q (gpc t lab g p)) w4 := HG4.out.gb
 clear hR4 hk4 HG3 HK3 F3 nb4;refine hKK _ _ hS0 ?_;intro _;clear hKK KK
 try simp only [Act.put,j1,j2,j3,j4,j5,j6]
 refine jk 8 (v:=?_) rfl (by kernel_rfl) (fun _ _ _=>id) (by rfl) ?_ hS0 ?_;rotate_left
 ·intro W hW;go_simp;try with_reducible rfl
 simp only [Act.put,j1,j2,j3,j4,j5,j6];refine jk 9 (v:=?_) rfl (by kernel_rfl) (fun _ _ _=>id) (by rfl) ?_ hS0 ?_;rotate_left
 ·intro W hW;go_simp;try with_reducible rfl
 simp only [Act.put,j1,j2,j3,j4,j5,j6];refine wpAnyH_ready (rs := [10]) (by kernel_rfl) (by simp) (AllReadyH.cons rfl (fun KK hKK => ?_) AllReadyH.nil);refine step_store_mid rfl 162 _ _ rfl b 0 (byts 64 V).toArray rfl rfl (by rw [byts_size]; exact F4.out.there 0 64 (Nat.le_refl _)) (size36' _) (byts_all _ _) ?_;rw [List.toList_toArray];have F5 := jh (F4.out.stored V);have hk5 : Kp w4 (w4.setCells b 0 (byts 64 V)) b b := (Kp.refl _ _ _).setCells b 0 (.inl rfl) _;have HG5 := jh (HG4.out.kp hk5 NB6.out);have HK5 := jh (HK4.out.fresh hk5 HWb.out)
 obtain ⟨w5, hw5⟩ : ∃ x, w4.setCells b 0 (byts 64 V) = x := ⟨_, rfl⟩
 rw [hw5] at F5 HG5 HK5 ⊢;clear hS0 hk5 hw5 F4 HG4 HK4;have hS0 : (fun W => Vl W q (gpc t lab g p)) w5 := HG5.out.gb;refine hKK _ _ hS0 ?_;intro _;clear hKK KK
 try simp only [Act.put,j1,j2,j3,j4,j5,j6]
 refine jk 11 (v:=?_) rfl (by kernel_rfl) (fun _ _ _=>id) (by rfl) ?_ hS0 ?_;rotate_left
 ·intro W hW;go_simp;try with_reducible rfl
 simp only [Act.put,j1,j2,j3,j4,j5,j6];refine wpAnyH_done (by kernel_rfl) ?_ _;clear hS0
 go_wp2_with fail
 exact bodyPost_ret_by (results_mid_tmp rfl _ _ b _ (.array 64 5) rfl F5.out.range0 Tryz.arr36 rfl (size36 _)) rfl ⟨rfl, HG5.out, HK5.out⟩
theorem gfree (q p t m d gg lab B0 P0 M DA NB N K : Nat) (g : Cf.Ge) (Y : Nat → Nat → Int) (hK : K < 600000000) (hg : GG g B0 P0 M DA NB N) (w : World) (h : Gr w q p t m d gg lab g B0 NB N ln Y K) :
  Calls Tryz.prog 123 #[.pointer (some ⟨p, 0, none⟩)] w fun e w' => ∃ v, e = .returned (.tuple #[.int .i64 v, .int .i64 0]) ∧ Fr (bt Y B0) NB v ∧ Gr w' q p t m d gg lab g B0 NB N ln Y (K + 200) ∧ Kf w w' [t, m, d, gg] := by
 have hN := h.rd.hN;have h1 := hg.dn;have h2 := hg.pd;have h3 := hg.bp;have h4 := hg.n512;refine (free_any p t m d gg B0 NB K Y (by omega) (by omega) (fun i hi => by omega) hK w h.mb h.rd h.np).mono ?_;rintro e w' ⟨v, he, hF, hR, hk⟩;exact ⟨v, he, hF, h.call hR hk, hk⟩
theorem gset (q p t m d gg lab B0 P0 M DA NB N K : Nat) (g : Cf.Ge) (Y : Nat → Nat → Int) (i : Nat) (hi : i < NB) (on : Bool) (hT : Has ln B0) (hK : K < 700000000) (hg : GG g B0 P0 M DA NB N) (w : World) (h : Gr w q p t m d gg lab g B0 NB N ln Y K) :
  Calls Tryz.prog 124 #[.pointer (some ⟨p, 0, none⟩), .int .i64 i, .bool on] w fun e w' => e = .returned (.int .i64 0) ∧ Gr w' q p t m d gg lab g B0 NB N ln (setV Y B0 i on) (K + 1) ∧ Kf w w' [t, m, d, gg] := by
 have hN := h.rd.hN;have h1 := hg.dn;have h2 := hg.pd;have h3 := hg.bp;have h4 := hg.n512
 have e0 : B0 + i / 512 = B0 := by omega
 have := set_any p t m d gg B0 NB K i Y on (by omega) (by omega) hi (by omega) (by rw [e0]; exact hT) hK w h.mb h.rd h.np;rw [e0] at this;refine this.mono ?_;rintro e w' ⟨he, hR, hk⟩;exact ⟨he, h.call hR hk, hk⟩
theorem ghas (q p t m d gg lab B0 P0 M DA NB N K : Nat) (g : Cf.Ge) (Y : Nat → Nat → Int) (i : Nat) (hi : i < NB) (hK : K < 700000000) (hg : GG g B0 P0 M DA NB N) (w : World) (h : Gr w q p t m d gg lab g B0 NB N ln Y K) :
  Calls Tryz.prog 249 #[.pointer (some ⟨p, 0, none⟩), .int .i64 i] w fun e w' => e = .returned (.tuple #[.bool (bt Y B0 i), .int .i64 0]) ∧ Gr w' q p t m d gg lab g B0 NB N ln Y (K + 1) ∧ Kf w w' [t, m, d, gg] := by
 have hN := h.rd.hN;have h1 := hg.dn;have h2 := hg.pd;have h3 := hg.bp;have h4 := hg.n512;refine (has_any p t m d gg B0 NB K i Y (by omega) (by omega) hi (by omega) hK w h.mb h.rd h.np).mono ?_;rintro e w' ⟨he, hR, hk⟩;exact ⟨he, h.call hR hk, hk⟩
theorem gtake_none (q p t m d gg lab B0 P0 M DA NB N K : Nat) (g : Cf.Ge) (Y : Nat → Nat → Int) (hF : ∀ j, j < NB → bt Y B0 j = true) (hK : K < 600000000) (hg : GG g B0 P0 M DA NB N) (w : World) (h : Gr w q p t m d gg lab g B0 NB N ln Y K) :
  Calls Tryz.prog 68 #[.pointer (some ⟨q, 0, none⟩)] w fun e w' => e = .returned (.tuple #[.int .u16 0, .int .i64 10]) ∧ Gr w' q p t m d gg lab g B0 NB N ln Y (K + 200) ∧ Kf w w' [t, m, d, gg] := by
 have HC := jh (gfree q p t m d gg lab B0 P0 M DA NB N K g Y hK hg w h);have HF : Hid (Fr (bt Y B0) NB (-1)) := .inl ⟨rfl, hF⟩;have c8 := h.gb.c 8 _ rfl;clear hF h hg
 go_enter Tryz.func68, Tryz.ntmps68
 go_wp2_with fail
 refine HC.out.mono ?_;rintro e w' ⟨v, rfl, hv, hG, hk⟩;obtain rfl := hv.uniq HF.out;have HG := jh hG;have HK := jh hk;clear hv hG hk HC HF c8
 go_wp2_with fail
 exact bodyPost_ret (v := .tuple #[.int .u16 0, .int .i64 10]) (by simp [results, Tryz.results68, go_sem]) rfl ⟨rfl, HG.out, HK.out⟩
theorem gtake_some (q p t m d gg lab B0 P0 M DA NB N K : Nat) (g : Cf.Ge) (Y : Nat → Nat → Int) (i : Nat) (hi : i < NB) (hF : Fr (bt Y B0) NB i) (hT : Has ln B0) (hT2 : Has ln (DA + i)) (hK : K < 600000000) (hg : GG g B0 P0 M DA NB N) (w : World) (h : Gr w q p t m d gg lab g B0 NB N ln Y K) :
  Calls Tryz.prog 68 #[.pointer (some ⟨q, 0, none⟩)] w fun e w' => e = .returned (.tuple #[.int .u16 ((i : Int) + 1), .int .i64 0]) ∧ Gr w' q p t m d gg lab g B0 NB N ln (vput (DA + i) (fun _ => 0) (setV Y B0 i true)) (K + 201) ∧ Kf w w' [t, m, d, gg] := by
 have HC := jh (gfree q p t m d gg lab B0 P0 M DA NB N K g Y hK hg w h);have HS := jh (fun W hW => gset (ln := ln) q p t m d gg lab B0 P0 M DA NB N (K + 200) g Y i hi true hT (by omega) hg W hW)
 have HP : Hid (∀ W, Gr W q p t m d gg lab g B0 NB N ln (setV Y B0 i true) (K + 200 + 1) → Calls Tryz.prog 69 #[.pointer (some ⟨q, 0, none⟩), .int .u16 ((i : Int) + 1), .agg (byts 64 fun _ => 0).toArray] W fun e w' => e = .returned (.int .i64 0) ∧ Gr w' q p t m d gg lab g B0 NB N ln (vput (DA + i) (fun _ => 0) (setV Y B0 i true)) (K + 200 + 1) ∧ Kf W w' [t, m, d, gg]) := fun W hW => by
  have := gput_in (ln := ln) q p t m d gg lab B0 P0 M DA NB N (K + 200 + 1) g (setV Y B0 i true) (i + 1) (by omega) (by omega) (fun _ => 0) (fun j _ => ⟨Int.le_refl _, (by show (0 : Int) < 256; decide)⟩) hT2 hg W hW
  rwa [show ((i + 1 : Nat) : Int) = (i : Int) + 1 by omega, show DA + (i + 1 - 1) = DA + i by omega] at this
 have HF := jh hF;have c8 := h.gb.c 8 _ rfl
 have hi5 : i < 512 := by have := hg.n512; omega
 clear hF h hg hi hT hT2
 obtain ⟨x, hx⟩ : ∃ x : Int, (i : Int) = x := ⟨_, rfl⟩
 have hx0 : 0 ≤ x := by omega
 have hx1 : x < 512 := by omega
 rw [hx] at HS HP HF ⊢;clear hx hi5
 go_enter Tryz.func68, Tryz.ntmps68
 go_wp2_with fail
 refine HC.out.mono ?_;rintro e w2 ⟨v, rfl, hv, hG, hk⟩;obtain rfl := hv.uniq HF.out;have HG2 := jh hG;have HK2 := jh hk;have c8' := hG.gb.c 8 _ rfl;clear hv hG hk HC HF c8
 go_wp2_with fail
 refine (HS.out w2 HG2.out).mono ?_;rintro e w3 ⟨rfl, hG, hk⟩;have HG3 := jh hG;have HK3 := jh (HK2.out.trans hk);clear hG hk HS HG2 HK2 c8'
 go_wp2_with (first | (refine wpList_yields _ (yields_build0 rfl rfl) ?_))
 refine (HP.out w3 HG3.out).mono ?_;rintro e w4 ⟨rfl, hG, hk⟩;have HG4 := jh hG;have HK4 := jh (HK3.out.trans hk);clear hG hk HP HG3 HK3
 go_wp2_with fail
 exact bodyPost_ret (v := .tuple #[.int .u16 (v + 1), .int .i64 0]) (by simp [results, Tryz.results68, go_sem]) rfl ⟨rfl, HG4.out, HK4.out⟩
theorem ggive_ok (q p t m d gg lab B0 P0 M DA NB N K : Nat) (g : Cf.Ge) (Y : Nat → Nat → Int) (n : Nat) (hn0 : 1 ≤ n) (hn : n ≤ NB) (hbit : bt Y B0 (n - 1) = true) (hT : Has ln B0) (hK : K < 600000000) (hg : GG g B0 P0 M DA NB N) (w : World) (h : Gr w q p t m d gg lab g B0 NB N ln Y K) :
  Calls Tryz.prog 211 #[.pointer (some ⟨q, 0, none⟩), .int .u16 n] w fun e w' => e = .returned (.int .i64 0) ∧ Gr w' q p t m d gg lab g B0 NB N ln (setV Y B0 (n - 1) false) (K + 2) ∧ Kf w w' [t, m, d, gg] := by
 have HR := jh (show 1 ≤ (n : Int) ∧ (n : Int) ≤ g.bl by have := hg.bl; omega)
 have hx1 : (n : Int) < 65536 := by have := hg.n512; omega
 have HH : Hid (∀ W, Gr W q p t m d gg lab g B0 NB N ln Y K → Calls Tryz.prog 249 #[.pointer (some ⟨p, 0, none⟩), .int .i64 ((n : Int) - 1)] W fun e w' => e = .returned (.tuple #[.bool true, .int .i64 0]) ∧ Gr w' q p t m d gg lab g B0 NB N ln Y (K + 1) ∧ Kf W w' [t, m, d, gg]) := fun W hW => by
  have := ghas q p t m d gg lab B0 P0 M DA NB N K g Y (n - 1) (by omega) (by omega) hg W hW
  rwa [hbit, show ((n - 1 : Nat) : Int) = (n : Int) - 1 by omega] at this
 have HS : Hid (∀ W, Gr W q p t m d gg lab g B0 NB N ln Y (K + 1) → Calls Tryz.prog 124 #[.pointer (some ⟨p, 0, none⟩), .int .i64 ((n : Int) - 1), .bool false] W fun e w' => e = .returned (.int .i64 0) ∧ Gr w' q p t m d gg lab g B0 NB N ln (setV Y B0 (n - 1) false) (K + 1 + 1) ∧ Kf W w' [t, m, d, gg]) := fun W hW => by
  have := gset q p t m d gg lab B0 P0 M DA NB N (K + 1) g Y (n - 1) (by omega) false hT (by omega) hg W hW
  rwa [show ((n - 1 : Nat) : Int) = (n : Int) - 1 by omega] at this
 obtain ⟨Z, hZ⟩ : ∃ Z, setV Y B0 (n - 1) false = Z := ⟨_, rfl⟩
 rw [hZ] at HS ⊢;clear hZ;have HG := jh h;clear h hbit
 obtain ⟨x, hx⟩ : ∃ x : Int, (n : Int) = x := ⟨_, rfl⟩
 have hx0 : 0 ≤ x := by omega
 rw [hx] at HR HH hx1 ⊢;rw [hx] at HS;clear hx hg hn0 hn
 go_enter Tryz.func211, Tryz.ntmps211
 go_upto_region 4 with (first | (go_at_call 125; refine (reach_in q g.bl x HR.out.1 HR.out.2 w (HG.out.gb.c 6 _ rfl)).mono ?_; rintro e w' ⟨rfl, hww⟩; rw [hww]; clear hww))
 refine wp_region_held (S := fun W => Vl W q (gpc t lab g p)) (by kernel_rfl) ?_;change wpAnyH _ _ _ _ _ _ _ _ (World.drew _);have hS0 : (fun W => Vl W q (gpc t lab g p)) w.drew := HG.out.gb.keep (Below.refl _ _).drew;have HG2 := jh (HG.out.keep (Below.refl w.heap.size w).drew);have HK2 := jh (Kf.of_below (Below.refl w.heap.size w).drew [t, m, d, gg])
 obtain ⟨w2, hw2⟩ : ∃ x, World.drew w = x := ⟨_, rfl⟩
 rw [hw2] at hS0 HG2 HK2 ⊢;clear hw2;clear HG;refine jk 0 (v:=?_) rfl (by kernel_rfl) (fun _ _ _=>id) (by rfl) ?_ hS0 ?_;rotate_left
 ·intro W hW;go_simp;try with_reducible rfl
 simp only [Act.put,j1,j2,j3,j4,j5,j6];refine jk 1 (v:=?_) rfl (by kernel_rfl) (fun _ _ _=>id) (by rfl) ?_ hS0 ?_;rotate_left
 ·intro W hW;go_simp;try with_reducible rfl
 simp only [Act.put,j1,j2,j3,j4,j5,j6];refine jk 2 (v:=?_) rfl (by kernel_rfl) (fun _ _ _=>id) (by rfl) ?_ hS0 ?_;rotate_left
 ·intro W hW;go_simp;try with_reducible rfl
 simp only [Act.put,j1,j2,j3,j4,j5,j6];refine jk 3 (v:=?_) rfl (by kernel_rfl) (fun _ _ _=>id) (by rfl) ?_ hS0 ?_;rotate_left 1
 ·intro W hW;have c8 := hW.c 8 _ rfl;go_simp
  try with_reducible rfl
 simp only [Act.put,j1,j2,j3,j4,j5,j6];refine jk 4 (v:=?_) rfl (by kernel_rfl) (fun _ _ _=>id) (by rfl) ?_ hS0 ?_;rotate_left
 ·intro W hW;go_simp;try with_reducible rfl
 simp only [Act.put,j1,j2,j3,j4,j5,j6];refine wpAnyH_ready (rs := [5]) (by kernel_rfl) (by simp) (AllReadyH.cons rfl (fun KK hKK => ?_) AllReadyH.nil);go_simp;refine (bit_any x hx0 hx1 w2).mono ?_;rintro e wz ⟨rfl, hwz⟩;rw [hwz];clear hwz;refine hKK _ _ hS0 ?_;intro _;clear hKK KK
 try simp only [Act.put,j1,j2,j3,j4,j5,j6]
 refine wpAnyH_ready (rs := [6]) (by kernel_rfl) (by simp) (AllReadyH.cons rfl (fun KK hKK => ?_) AllReadyH.nil);go_simp;refine (HH.out w2 HG2.out).mono ?_;rintro e w3 ⟨rfl, hG, hk⟩;have HG3 := jh hG;have HK3 := jh (HK2.out.trans hk)
 replace hS0 : (fun W => Vl W q (gpc t lab g p)) w3 := HG3.out.gb
 clear hG hk HG2 HK2;refine hKK _ _ hS0 ?_;intro _;clear hKK KK
 try simp only [Act.put,j1,j2,j3,j4,j5,j6]
 refine jk 7 (v:=?_) rfl (by kernel_rfl) (fun _ _ _=>id) (by rfl) ?_ hS0 ?_;rotate_left
 ·intro W hW;go_simp;try with_reducible rfl
 simp only [Act.put,j1,j2,j3,j4,j5,j6];refine jk 8 (v:=?_) rfl (by kernel_rfl) (fun _ _ _=>id) (by rfl) ?_ hS0 ?_;rotate_left
 ·intro W hW;go_simp;try with_reducible rfl
 simp only [Act.put,j1,j2,j3,j4,j5,j6];refine jk 9 (v:=?_) rfl (by kernel_rfl) (fun _ _ _=>id) (by rfl) ?_ hS0 ?_;rotate_left
 ·intro W hW;go_simp;try with_reducible rfl
 simp only [Act.put,j1,j2,j3,j4,j5,j6];refine jk 10 (v:=?_) rfl (by kernel_rfl) (fun _ _ _=>id) (by rfl) ?_ hS0 ?_;rotate_left
 ·intro W hW;go_simp;try with_reducible rfl
 simp only [Act.put,j1,j2,j3,j4,j5,j6];refine jk 11 (v:=?_) rfl (by kernel_rfl) (fun _ _ _=>id) (by rfl) ?_ hS0 ?_;rotate_left
 ·intro W hW;go_simp;try with_reducible rfl
 simp only [Act.put,j1,j2,j3,j4,j5,j6];refine wpAnyH_done (by kernel_rfl) ?_ _;clear hS0 HH
 go_upto_region 9 with fail
 refine wp_region_held (S := fun W => Vl W q (gpc t lab g p)) (by kernel_rfl) ?_;change wpAnyH _ _ _ _ _ _ _ _ (World.drew _);have hS0 : (fun W => Vl W q (gpc t lab g p)) w3.drew := HG3.out.gb.keep (Below.refl _ _).drew;have HG4 := jh (HG3.out.keep (Below.refl w3.heap.size w3).drew);have HK4 := jh (HK3.out.trans (Kf.of_below (Below.refl w3.heap.size w3).drew [t, m, d, gg]))
 obtain ⟨w4, hw4⟩ : ∃ x, World.drew w3 = x := ⟨_, rfl⟩
 rw [hw4] at hS0 HG4 HK4 ⊢;clear hw4;clear HG3 HK3;refine jk 0 (v:=?_) rfl (by kernel_rfl) (fun _ _ _=>id) (by rfl) ?_ hS0 ?_;rotate_left
 ·intro W hW;go_simp;try with_reducible rfl
 simp only [Act.put,j1,j2,j3,j4,j5,j6];refine jk 1 (v:=?_) rfl (by kernel_rfl) (fun _ _ _=>id) (by rfl) ?_ hS0 ?_;rotate_left
 ·intro W hW;go_simp;try with_reducible rfl
 simp only [Act.put,j1,j2,j3,j4,j5,j6];refine jk 2 (v:=?_) rfl (by kernel_rfl) (fun _ _ _=>id) (by rfl) ?_ hS0 ?_;rotate_left
 ·intro W hW;go_simp;try with_reducible rfl
 simp only [Act.put,j1,j2,j3,j4,j5,j6];refine jk 3 (v:=?_) rfl (by kernel_rfl) (fun _ _ _=>id) (by rfl) ?_ hS0 ?_;rotate_left 1
 ·intro W hW;have c8 := hW.c 8 _ rfl;go_simp
  try with_reducible rfl
 simp only [Act.put,j1,j2,j3,j4,j5,j6];refine jk 4 (v:=?_) rfl (by kernel_rfl) (fun _ _ _=>id) (by rfl) ?_ hS0 ?_;rotate_left
 ·intro W hW;go_simp;try with_reducible rfl
 simp only [Act.put,j1,j2,j3,j4,j5,j6];refine wpAnyH_ready (rs := [5]) (by kernel_rfl) (by simp) (AllReadyH.cons rfl (fun KK hKK => ?_) AllReadyH.nil);go_simp;refine (bit_any x hx0 hx1 w4).mono ?_;rintro e wz ⟨rfl, hwz⟩;rw [hwz];clear hwz;refine hKK _ _ hS0 ?_;intro _;clear hKK KK
 try simp only [Act.put,j1,j2,j3,j4,j5,j6]
 refine wpAnyH_ready (rs := [6]) (by kernel_rfl) (by simp) (AllReadyH.cons rfl (fun KK hKK => ?_) AllReadyH.nil);go_simp;refine (HS.out w4 HG4.out).mono ?_;rintro e w5 ⟨rfl, hG, hk⟩;have HG5 := jh hG;have HK5 := jh (HK4.out.trans hk)
 replace hS0 : (fun W => Vl W q (gpc t lab g p)) w5 := HG5.out.gb
 clear hG hk HG4 HK4;refine hKK _ _ hS0 ?_;intro _;clear hKK KK
 try simp only [Act.put,j1,j2,j3,j4,j5,j6]
 refine jk 7 (v:=?_) rfl (by kernel_rfl) (fun _ _ _=>id) (by rfl) ?_ hS0 ?_;rotate_left
 ·intro W hW;go_simp;try with_reducible rfl
 simp only [Act.put,j1,j2,j3,j4,j5,j6];refine wpAnyH_done (by kernel_rfl) ?_ _;clear hS0
 go_wp2_with fail
 go_ret
 exact ⟨rfl, HG5.out, HK5.out⟩
end Go.Proofs.YtgdapkbenmlabaaGreatDoor
namespace Go.Proofs.YtgdapkbenmlabaaGreatDoor
open Go.RowKit Go.Maps
variable {ln : Lm}
theorem layF_le (rs : List Cf.Rg) (hs : ∀ r ∈ rs, Cf.Small r) (i : Nat) : ∀ j, i ≤ j → j ≤ rs.length → (Cf.layF (rs.take i)).2 ≤ (Cf.layF (rs.take j)).2
 | 0, h, _ => by
  obtain rfl : i = 0 := by omega
  exact Int.le_refl _
 | j + 1, h, h' => by
  by_cases e : i = j + 1
  ·rw [e]; exact Int.le_refl _
  ·have h1 := layF_le rs hs i j (by omega) (by omega);obtain ⟨s1, s2, s3, s4⟩ := hs rs[j] (List.getElem_mem _);rw [Cf.layF_take rs j (by omega), Cf.layStep];simp only [Cf.geoAt, Cf.Ge.fin];omega
theorem Tryz.zero53 : (Tryz.prog.info? 175).map (fun i => i.zero) = some (some (.agg [.int .i64 0, .int .i64 0, .int .i64 0, .int .i64 0, .int .i64 0, .int .i64 0].toArray)) := by kernel_rfl
theorem geo_one (g : Cf.Ge) : ∀ v ∈ g.cells, v.oneCell' = true := by
 intro v hv
 simp [Cf.Ge.cells] at hv
 rcases hv with rfl | rfl | rfl | rfl | rfl | rfl <;> rfl
theorem wpList_store_list {P : Program} {ops : Array Oper} {rest : List Oper} {op : Oper} {a : Act} {w : World} {Q : Exit → Act → World → Prop} (hgd : op.guard = none) (ty : TypeId) (x y : Operand) (ho : op.op = .store ty x y) (g : Nat) (cs ds : List Value)
  (hx : a.eval x = .pointer (some ⟨g, 0, none⟩)) (hy : a.eval y = .agg ds.toArray) (hV : Vl w g cs) (hl : ds.length = cs.length) (hi : (P.info? ty).map (·.size) = some ds.length) (h1 : ∀ v ∈ ds, v.oneCell' = true)
  (h : ∀ w', Hid (Vl w' g ds) → Hid (Kp w w' g g) → wpList P ops Q rest (a.put op.dst undef) w') : wpList P ops Q (op :: rest) a w := by
 refine wpList_store_mid hgd ty x y ho g 0 ds.toArray hx hy (hV.there0 _ (by simp [hl])) (by simpa using hi) (all_oneCell_toArray h1) ?_;exact h _ (hV.stored ds hl) ((Kp.refl w g g).setCells g 0 (.inl rfl) _)
theorem geo_gg (rs : List Cf.Rg) (hs : ∀ r ∈ rs, Cf.Small r) (h64 : rs.length ≤ 64) (N : Nat) (hN : (Cf.layF rs).2 = N) (i : Nat) (hi : i < rs.length) (g : Cf.Ge) (hg : (Cf.layF rs).1[i]'(by rw [Cf.lay_len]; exact hi) = g) :
  ∃ B0 P0 M DA NB : Nat, GG g B0 P0 M DA NB N ∧ rs[i].bl = NB ∧ rs[i].nd = M := by
 have h1 := Cf.lay_nth rs i hi;have h2 := Cf.lay_fin rs i hi;rw [hg] at h1 h2;have h3 := layF_le rs hs (i + 1) rs.length (by omega) (Nat.le_refl _);rw [List.take_length, ← h2] at h3;obtain ⟨s1, s2, s3, s4⟩ := hs rs[i] (List.getElem_mem _);obtain ⟨r1, r2⟩ := Cf.layF_range rs hs i (by omega)
 obtain ⟨b, hb⟩ : ∃ b, (Cf.layF (rs.take i)).2 = b := ⟨_, rfl⟩
 obtain ⟨bl, hbl⟩ : ∃ b, rs[i].bl = b := ⟨_, rfl⟩
 obtain ⟨nd, hnd⟩ : ∃ b, rs[i].nd = b := ⟨_, rfl⟩
 unfold Cf.geoAt at h1;rw [hb] at h1 r1 r2;rw [hbl, hnd] at h1;rw [hbl] at s1 s2 ⊢;rw [hnd] at s3 s4 ⊢;subst h1
 have e1 : ((bl + 7) / 8 + 63) / 64 = 1 := by omega
 rw [e1] at h3 ⊢;simp only [Cf.Ge.fin] at h3;rw [hN] at h3;clear h2 hg hb hbl hnd hN hs e1;obtain ⟨NB, rfl⟩ := Int.eq_ofNat_of_zero_le (show 0 ≤ bl by omega);obtain ⟨M, rfl⟩ := Int.eq_ofNat_of_zero_le (show 0 ≤ nd by omega);obtain ⟨B0, rfl⟩ := Int.eq_ofNat_of_zero_le (show 0 ≤ b by omega);refine ⟨B0, B0 + 1, M, B0 + 1 + (M * 32 + 63) / 64, NB, ⟨rfl, by show (B0 : Int) + 1 = _; omega, by show (0 : Int) ≤ 1; decide, by show (B0 : Int) + 1 + _ = _; omega, rfl, rfl, by omega, by omega, by omega, by omega, by omega, by omega, by omega, by omega⟩, rfl, rfl⟩
theorem wpList_bld4 {P : Program} {ops : Array Oper} {rest : List Oper} {op : Oper} {a : Act} {w : World} {Q : Exit → Act → World → Prop} (hgd : op.guard = none) (ty : TypeId) (i0 i1 i2 i3 : Nat) (x0 x1 x2 x3 : Operand) (ho : op.op = .build ty #[(i0, x0), (i1, x1), (i2, x2), (i3, x3)]) (v0 v1 v2 v3 : Value) (h0 : a.eval x0 = v0) (h1 : a.eval x1 = v1) (h2 : a.eval x2 = v2) (h3 : a.eval x3 = v3) (v : Value)
  (hr : (Instr.build ty #[(i0, v0), (i1, v1), (i2, v2), (i3, v3)]).run P w = .ok v w) (h : wpList P ops Q rest (a.put op.dst v) w) : wpList P ops Q (op :: rest) a w := by
 refine wpList_plain hgd fun K' hK' => ?_;unfold Oper.wp
 simp [execOp, ho, h0, h1, h2, h3, hr, Result.andThen]
 exact hK' _ _ h
theorem Tryz.build107 (t : Nat) (lab : Int) (bs bm tb da bl nd : Int) (p : Nat) (w : World) : (Instr.build 195 #[(0, .pointer (some ⟨t, 0, none⟩)), (1, .int .i64 lab), (2, .agg #[.int .i64 bs, .int .i64 bm, .int .i64 tb, .int .i64 da, .int .i64 bl, .int .i64 nd]), (3, .pointer (some ⟨p, 0, none⟩))]).run Tryz.prog w = .ok (.agg #[.pointer (some ⟨t, 0, none⟩), .int .i64 lab, .int .i64 bs, .int .i64 bm, .int .i64 tb, .int .i64 da, .int .i64 bl, .int .i64 nd, .pointer (some ⟨p, 0, none⟩)]) w := by kernel_rfl
theorem build107g (t : Nat) (lab : Int) (g : Cf.Ge) (p : Nat) (w : World) : (Instr.build 195 #[(0, .pointer (some ⟨t, 0, none⟩)), (1, .int .i64 lab), (2, .agg g.cells.toArray), (3, .pointer (some ⟨p, 0, none⟩))]).run Tryz.prog w = .ok (.agg (gpc t lab g p).toArray) w := Tryz.build107 t lab g.base g.bm g.tb g.da g.bl g.nd p w
theorem gopen_in (t m d gg n B0 P0 M DA NB N K : Nat) (Y : Nat → Nat → Int) (vr vm vg : Value) (rs : List Cf.Rg) (ms : List (Int × Int)) (i : Nat) (hi : i < rs.length) (g : Cf.Ge) (hgi : (Cf.layF rs).1[i]'(by rw [Cf.lay_len]; exact hi) = g) (hg : GG g B0 P0 M DA NB N) (w : World) (h : Cf.CF n w vr vm vg rs ms) (hr : Rd w t m d gg N ln Y K) :
  Calls Tryz.prog 16 #[.pointer (some ⟨t, 0, none⟩), .pointer (some ⟨n + 3, 0, none⟩), .int .i64 i] w fun e w' => ∃ q p, e = .returned (.tuple #[.pointer (some ⟨q, 0, none⟩), .int .i64 0]) ∧ w.heap.size ≤ q ∧ w.heap.size ≤ p ∧ Gr w' q p t m d gg i g B0 NB N ln Y K ∧ Below w.heap.size w w' := by
 have HGe := jh (Cf.geo_in n vr vm vg rs ms i hi w h);rw [hgi] at HGe;have HR := jh hr;obtain ⟨d53, hu53, hd53⟩ := Tryz.desc53;have HU53 := jh hu53;have HD53 := jh hd53;have HB := jh (build107g t i g)
 have HNew : Hid (∀ (x y : Int), x = B0 → y = NB → ∀ W : World, Calls Tryz.prog 78 #[.pointer (some ⟨t, 0, none⟩), .int .i64 x, .int .i64 y] W fun e w' => ∃ p, e = .returned (.tuple #[.pointer (some ⟨p, 0, none⟩), .int .i64 0]) ∧ W.heap.size ≤ p ∧ Mb w' p t B0 NB ∧ Below W.heap.size W w') := fun x y hx hy W => by
  subst hx hy;have hN := hr.hN;have h1 := hg.dn;have h2 := hg.pd;have h3 := hg.bp;have h4 := hg.n512;exact new5 t B0 NB (by omega) (by omega) hg.b32 W
 have HG0 := jh (show g.cells[0]? = some (.int .i64 g.base) from rfl);have HG4 := jh (show g.cells[4]? = some (.int .i64 g.bl) from rfl);have HGl := jh (show g.cells.length = 6 from rfl);have HGO := jh (geo_one g);have HS53 := jh (size53 g);have HGB := jh hg.base;have HGL := jh hg.bl;have hval : g.val = .agg g.cells.toArray := rfl;have hGp := jh (show ∀ p, gpc t i g p = [.pointer (some ⟨t, 0, none⟩), .int .i64 i] ++ (g.cells ++ [.pointer (some ⟨p, 0, none⟩)]) from fun _ => rfl)
 have HPO : Hid (∀ p, ∀ v ∈ gpc t i g p, v.oneCell' = true) := fun p v hv => by
  simp [gpc] at hv
  rcases hv with rfl | rfl | rfl | rfl | rfl | rfl | rfl | rfl | rfl <;> rfl
 rw [hval] at HGe;clear hval hu53 hd53 h hr hgi hg
 obtain ⟨gs, hgs⟩ : ∃ gs, g.cells = gs := ⟨_, rfl⟩
 rw [hgs] at HGe HB HG0 HG4 HGl HGO HS53;clear hgs
 go_enter Tryz.func16, Tryz.ntmps16
 go_wp2_with fail
 refine HGe.out.mono ?_;rintro e w4 ⟨rfl, hb4⟩;have HR4 := jh (HR.out.keep hb4);have HB4 := jh hb4;clear hb4 HR HGe
 go_upto_region 6 with (first | (refine wpList_alloc_list (w := w4) rfl 175 rfl _ Tryz.zero53 ?_; intro w5 F5 hb5 hz5; simp only [Act.put,j1,j2,j3,j4,j5,j6]; refine wpList_store_list rfl 175 (.tmp 8) (.tmp 22) rfl w4.heap.size _ gs rfl rfl F5.out (by rw [HGl.out]; rfl) HS53.out HGO.out ?_; intro w6 HG6 HK6; have HB5 := jh hb5; clear hb5 F5))
 obtain ⟨b5, hb5⟩ : ∃ b, w4.heap.size = b := ⟨_, rfl⟩
 have hlt4 := HR4.out.lts
 have hbw : w.heap.size ≤ b5 := by rw [← hb5]; exact HB4.out.size
 rw [hb5] at hlt4;have R5 := jh (HR4.out.keep HB5.out);have B5 := jh (HB4.out.trans (HB5.out.mono HB4.out.size));rw [hb5] at HG6 HK6
 try rw [hb5]
 clear hb5 hz5 HR4 HB4 HB5;have N5 := jh (nin4 hlt4.1 hlt4.2.1 hlt4.2.2.1 hlt4.2.2.2 (b := b5) (Nat.le_refl _));have HR6 := jh (R5.out.kp HK6.out N5.out N5.out);have HB6 := jh (B5.out.trans (HK6.out.below hbw hbw B5.out.size));have hs6 := HG6.out.lt;clear R5 B5 HK6;have e0 := HG6.out.c 0 _ HG0.out;have e4 := HG6.out.c 4 _ HG4.out
 go_wp2_with fail
 refine (HNew.out g.base g.bl HGB.out HGL.out w6).mono ?_;rintro e w7 ⟨p, rfl, hp, hM, hb⟩;have HM7 := jh hM;have HR7 := jh (HR6.out.keep hb);have HG7 := jh (HG6.out.keep hb);have HB7 := jh (HB6.out.trans (hb.mono HB6.out.size));have hp7 : w.heap.size ≤ p := Nat.le_trans HB6.out.size hp;have hpl := HM7.out.lt;have hp4 := jh (HR6.out.notin hp);clear hM hb HR6 HG6 HB6 e0 e4 HNew
 go_wp2_with (first | (refine wpList_load_mid rfl 175 _ rfl b5 0 rfl gs d53 HG7.out.range0 HU53.out HD53.out HS53.out ?_) | (refine wpList_bld4 rfl 195 0 1 2 3 (.tmp 38) (.tmp 39) (.tmp 40) (.tmp 41) rfl (.pointer (some ⟨t, 0, none⟩)) (.int .i64 i) (.agg gs.toArray) (.pointer (some ⟨p, 0, none⟩)) rfl rfl rfl rfl (.agg (gpc t i g p).toArray) (HB.out p _) ?_) | (refine wpList_box_list (w := w7) rfl 195 _ rfl (gpc t i g p) rfl ?_; intro w8 F8 hb8 hz8; have HB8 := jh hb8; clear hb8 hz8))
 have hR8 := HR7.out.keep HB8.out;have hq4 := HR7.out.notin (Nat.le_refl w7.heap.size);exact bodyPost_ret (v := .tuple #[.pointer (some ⟨w7.heap.size, 0, none⟩), .int .i64 0]) (by simp [results, Tryz.results16, go_sem]) rfl ⟨w7.heap.size, p, rfl, HB7.out.size, hp7, ⟨F8.out, HM7.out.keep HB8.out, hR8, hq4, hp4.out⟩, HB7.out.trans (HB8.out.mono HB7.out.size)⟩
theorem bt_put (fi : Nat) (f : Nat → Int) (Y : Nat → Nat → Int) (x j : Nat) (h : x ≠ fi + j / 512) : bt (vput x f Y) fi j = bt Y fi j := by
 unfold bt;rw [vput_ne _ _ h]
theorem bt_on {Y : Nat → Nat → Int} (hv : ∀ x, Byt (Y x)) (B0 i j : Nat) (on : Bool) (hi : i < 512) : bt (setV Y B0 i on) B0 j = if i = j then on else bt Y B0 j := by
 have := bt_set hv B0 i j on
 rwa [show B0 + i / 512 = B0 by omega] at this
theorem bt_take {Y : Nat → Nat → Int} (hv : ∀ x, Byt (Y x)) (B0 DA i j : Nat) (f : Nat → Int) (hD : B0 < DA) (hi : i < 512) (hj : j < 512) : bt (vput (DA + i) f (setV Y B0 i true)) B0 j = if i = j then true else bt Y B0 j := by
 rw [bt_put _ _ _ _ _ (by omega), bt_on hv B0 i j true hi]
theorem gtake7 (q p t m d gg lab B0 P0 M DA NB N K : Nat) (g : Cf.Ge) (Y : Nat → Nat → Int) (i : Nat) (x : Int) (hx : x = i + 1) (hi : i < NB) (hF : Fr (bt Y B0) NB i) (hT : Has ln B0) (hT2 : Has ln (DA + i)) (hK : K < 600000000) (hg : GG g B0 P0 M DA NB N) (w : World) (h : Gr w q p t m d gg lab g B0 NB N ln Y K) :
  Calls Tryz.prog 68 #[.pointer (some ⟨q, 0, none⟩)] w fun e w' => e = .returned (.tuple #[.int .u16 x, .int .i64 0]) ∧ Gr w' q p t m d gg lab g B0 NB N ln (vput (DA + i) (fun _ => 0) (setV Y B0 i true)) (K + 201) ∧ Kf w w' [t, m, d, gg] := by
 subst hx;exact gtake_some q p t m d gg lab B0 P0 M DA NB N K g Y i hi hF hT hT2 hK hg w h
end Go.Proofs.YtgdapkbenmlabaaGreatDoor
namespace Go.Proofs.YtgdapkbenmlabaaGreatDoor
open Go.RowKit Go.Maps
variable {ln : Lm}
theorem Kf.join {w w1 w2 : World} {L L' : List Nat} (h : Kf w w1 L) (k : Kf w1 w2 L') (hL : ∀ a ∈ L', a ∈ L ∨ w.heap.size ≤ a) : Kf w w2 L :=
 ⟨k.os.trans h.os, k.tape.trans h.tape, k.output.trans h.output, Nat.le_trans h.size k.size, fun i hi hn => (k.block i (Nat.lt_of_lt_of_le hi h.size) (fun hm => by rcases hL i hm with h' | h'; exact hn h'; omega)).trans (h.block i hi hn)⟩
theorem Kf.more {w w1 w2 : World} {L : List Nat} (h : Kf w w1 L) (hb : Below w1.heap.size w1 w2) : Kf w w2 L := h.low hb h.size
theorem Kf.tx {w w1 w2 : World} {t m d g : Nat} (h : Kf w w1 [d, g]) (k : Kf w1 w2 [t, m, d, g]) (ht : w.heap.size ≤ t) (hm : w.heap.size ≤ m) : Kf w w2 [d, g] :=
 h.join k fun a ha => by
  simp only [List.mem_cons, List.not_mem_nil, or_false] at ha ⊢;rcases ha with rfl | rfl | rfl | rfl
  ·exact .inr ht
  ·exact .inr hm
  ·exact .inl (.inl rfl)
  ·exact .inl (.inr rfl)
theorem Kf.new {w w1 w2 : World} {L : List Nat} {b : Nat} (h : Kf w w1 L) (k : Kp w1 w2 b b) (hb : w.heap.size ≤ b) : Kf w w2 L := h.fresh k hb
theorem Lg.kf {w w' : World} {l d fi : Nat} {L : List Nat} (h : Lg w l d fi) (hk : Kf w w' L) (hl : l ∉ L) : Lg w' l d fi :=
 ⟨Nat.lt_of_lt_of_le h.lt hk.size, (hk.cell (p := ⟨l, 0, none⟩) h.lt hl).trans h.c0, (hk.cell (p := ⟨l, 1, none⟩) h.lt hl).trans h.c1⟩
theorem Kf.bel {w w' : World} {B d g : Nat} (h : Kf w w' [d, g]) (hd : B ≤ d) (hg : B ≤ g) (hB : B ≤ w.heap.size) : Below B w w' :=
 h.below (fun a ha => by simp only [List.mem_cons, List.not_mem_nil, or_false] at ha; omega) hB
theorem Tryz.zeroReg : (Tryz.prog.info? 40).map (fun i => i.zero) = some (some (.agg Cf.zeroRg.cells.toArray)) := by kernel_rfl
theorem Tryz.isizeReg : (Tryz.prog.info? 40).map (·.size) = some 9 := by kernel_rfl
theorem sizeReg (r : Cf.Rg) : (Tryz.prog.info? 40).map (·.size) = some r.cells.length := Tryz.isizeReg
theorem reg_one (r : Cf.Rg) : ∀ v ∈ r.cells, v.oneCell' = true := by
 intro v hv
 simp [Cf.Rg.cells] at hv
 rcases hv with rfl | rfl | rfl | rfl | rfl | rfl | rfl | rfl | rfl <;> rfl
theorem creg_in (n : Nat) (vr vm vg : Value) (rs : List Cf.Rg) (ms : List (Int × Int)) (i : Nat) (hi : i < rs.length) (w : World) (h : Cf.CF n w vr vm vg rs ms) :
  Calls Tryz.prog 13 #[.pointer (some ⟨n + 3, 0, none⟩), .int .i64 i] w fun e w' => e = .returned (.tuple #[.agg rs[i].cells.toArray, .bool true]) ∧ Below w.heap.size w w' :=
 Cf.reg_in (n + 3) vr rs i hi w (by have := h.cb.lt; omega) h.cb.c0 (Cf.regs_of_row h.row)
end Go.Proofs.YtgdapkbenmlabaaGreatDoor
namespace Go.Proofs.YtgdapkbenmlabaaGreatDoor
open Go.RowKit Go.Maps
variable {ln : Lm}
end Go.Proofs.YtgdapkbenmlabaaGreatDoor
namespace Go.Proofs.YtgdapkbenmlabaaGreatDoor
open Go.RowKit Go.Maps
variable {ln : Lm}
theorem Vl.geo {w : World} {q t p : Nat} {lab : Int} {g : Cf.Ge} (h : Vl w q (gpc t lab g p)) : w.rangeAt q 2 g.cells := fun j v hj => h.c (2 + j) v (by
 match j, hj with
 | 0, hj => exact hj
 | 1, hj => exact hj
 | 2, hj => exact hj
 | 3, hj => exact hj
 | 4, hj => exact hj
 | 5, hj => exact hj
 | _ + 6, hj => cases hj)
theorem gread (q p t m d gg lab B0 P0 M DA NB N K : Nat) (g : Cf.Ge) (Y : Nat → Nat → Int) (V : Nat → Nat → Int) (n : Nat) (h1 : 1 ≤ n) (h2 : n ≤ M) (hK : K < 600000000) (hI : Tab P0 M Y V) (hg : GG g B0 P0 M DA NB N) (w : World) (h : Gr w q p t m d gg lab g B0 NB N ln Y K) :
  Calls Tryz.prog 93 #[.pointer (some ⟨t, 0, none⟩), .agg g.cells.toArray, .int .i64 n] w fun e w' => e = .returned (.tuple #[.agg (ndc (V n)).toArray, .int .i64 0]) ∧ Gr w' q p t m d gg lab g B0 NB N ln Y (K + 1) ∧ Kf w w' [t, m, d, gg] := by
 have hN := h.rd.hN;obtain ⟨g1, g2, g3, g4, g5, g6, g7, g8, g9, g10, g11, g12, g13, g14⟩ := hg;refine (read_any6 g n t m d gg N K P0 M Y V h1 h2 g6 g2 (by omega) (by omega) g3 (by omega) (by omega) (by omega) (by omega) hK hI w h.rd).mono ?_;rintro e w' ⟨he, hR, hk⟩;exact ⟨he, h.call hR hk, hk⟩
theorem gwrite (q p t m d gg lab B0 P0 M DA NB N K : Nat) (g : Cf.Ge) (Y : Nat → Nat → Int) (f : Nat → Int) (hf : NdOk f) (hc : codeN f = 0) (n : Nat) (h1 : 1 ≤ n) (h2 : n ≤ M) (hT : Has ln (P0 + (n - 1) / 2)) (hK : K < 600000000) (hg : GG g B0 P0 M DA NB N) (w : World) (h : Gr w q p t m d gg lab g B0 NB N ln Y K) :
  Calls Tryz.prog 77 #[.pointer (some ⟨t, 0, none⟩), .agg g.cells.toArray, .int .i64 n, .agg (ndc f).toArray] w fun e w' => e = .returned (.int .i64 0) ∧ Gr w' q p t m d gg lab g B0 NB N ln (tabW P0 n f Y) (K + 1) ∧ Kf w w' [t, m, d, gg] := by
 have hN := h.rd.hN;obtain ⟨g1, g2, g3, g4, g5, g6, g7, g8, g9, g10, g11, g12, g13, g14⟩ := hg;refine (write_any6 g n t m d gg N K P0 M Y f hf hc h1 h2 g6 g2 (by omega) (by omega) g3 (by omega) (by omega) (by omega) (by omega) hT hK w h.rd).mono ?_;rintro e w' ⟨he, hR, hk⟩;exact ⟨he, h.call hR hk, hk⟩
theorem gnode_in (q p t m d gg lab B0 P0 M DA NB N K : Nat) (g : Cf.Ge) (Y : Nat → Nat → Int) (V : Nat → Nat → Int) (n : Nat) (h1 : 1 ≤ n) (h2 : n ≤ M) (hK : K < 600000000) (hI : Tab P0 M Y V) (hg : GG g B0 P0 M DA NB N) (w : World) (h : Gr w q p t m d gg lab g B0 NB N ln Y K) :
  Calls Tryz.prog 30 #[.pointer (some ⟨q, 0, none⟩), .int .i64 n] w fun e w' => e = .returned (.tuple #[.agg (ndc (V n)).toArray, .int .i64 0]) ∧ Gr w' q p t m d gg lab g B0 NB N ln Y (K + 1) ∧ Kf w w' [t, m, d, gg] := by
 obtain ⟨d53, hu53, hd53⟩ := Tryz.desc53;have HU53 := jh hu53;have HD53 := jh hd53;obtain ⟨d27, hu27, hd27⟩ := Tryz.desc27;have HU27 := jh hu27;have HD27 := jh hd27;have HS53 := jh (size53 g);clear hu53 hd53 hu27 hd27;have HRd := jh (fun W hW => gread (ln := ln) q p t m d gg lab B0 P0 M DA NB N K g Y V n h1 h2 hK hI hg W hW);have HG := jh h;have lts := jh h.lts
 obtain ⟨f, hf⟩ : ∃ f, V n = f := ⟨_, rfl⟩
 rw [hf] at HRd ⊢;have hq0 := h.lts.1;clear hf hI h hg h1 h2 hK
 go_enter Tryz.func30, Tryz.ntmps30
 go_upto_region 3 with (first | (refine wpList_alloc_list (w := w) rfl 77 rfl (ndc zpt) Tryz.zero27 ?_; intro w1 F1 hb1 hz1; have HB1 := jh hb1; have HG1 := jh (HG.out.keep hb1); clear hb1 hz1))
 obtain ⟨b, hb⟩ : ∃ b, w.heap.size = b := ⟨_, rfl⟩
 have NB6 := jh (nin6 lts.out.1 lts.out.2.1 lts.out.2.2.1 lts.out.2.2.2.1 lts.out.2.2.2.2.1 lts.out.2.2.2.2.2 (Nat.le_of_eq hb));have HK1 := jh (Kf.of_below HB1.out [t, m, d, gg]);have HWb := jh (Nat.le_of_eq hb);rw [hb] at F1 hq0
 try rw [hb]
 clear hb lts HB1 HG;refine wp_region_held (S := fun W => Vl W q (gpc t lab g p)) (by kernel_rfl) ?_;change wpAnyH _ _ _ _ _ _ _ _ (World.drew _);have hS0 : (fun W => Vl W q (gpc t lab g p)) w1.drew := HG1.out.gb.keep (Below.refl _ _).drew;have HG2 := jh (HG1.out.keep (Below.refl w1.heap.size w1).drew);have HK2 := jh (HK1.out.trans (Kf.of_below (Below.refl w1.heap.size w1).drew _));have F2 := jh (F1.out.keep (Below.refl w1.heap.size w1).drew)
 obtain ⟨w2, hw2⟩ : ∃ x, World.drew w1 = x := ⟨_, rfl⟩
 rw [hw2] at hS0 HG2 HK2 F2 ⊢;clear hw2;clear HG1 HK1 F1;refine jk 0 (v:=?_) rfl (by kernel_rfl) (fun _ _ _=>id) (by rfl) ?_ hS0 ?_;rotate_left
 ·intro W hW;go_simp;try with_reducible rfl
 simp only [Act.put,j1,j2,j3,j4,j5,j6];refine jk 1 (v:=?_) rfl (by kernel_rfl) (fun _ _ _=>id) (by rfl) ?_ hS0 ?_;rotate_left
 ·intro W hW;go_simp;try with_reducible rfl
 simp only [Act.put,j1,j2,j3,j4,j5,j6];refine jk 2 (v:=?_) rfl (by kernel_rfl) (fun _ _ _=>id) (by rfl) ?_ hS0 ?_;rotate_left
 ·intro W hW;go_simp;try with_reducible rfl
 simp only [Act.put,j1,j2,j3,j4,j5,j6];refine jk 3 (v:=?_) rfl (by kernel_rfl) (fun _ _ _=>id) (by rfl) ?_ hS0 ?_;rotate_left 1
 ·intro W hW;have c0 := hW.c 0 _ rfl;go_simp
  try with_reducible rfl
 simp only [Act.put,j1,j2,j3,j4,j5,j6];refine jk 4 (v:=?_) rfl (by kernel_rfl) (fun _ _ _=>id) (by rfl) ?_ hS0 ?_;rotate_left
 ·intro W hW;go_simp;try with_reducible rfl
 simp only [Act.put,j1,j2,j3,j4,j5,j6];refine jk 5 (v:=?_) rfl (by kernel_rfl) (fun _ _ _=>id) (by rfl) ?_ hS0 ?_;rotate_left
 ·intro W hW;go_simp;try with_reducible rfl
 simp only [Act.put,j1,j2,j3,j4,j5,j6];refine jk 6 (v:=?_) rfl (by kernel_rfl) (fun _ _ _=>id) (by rfl) ?_ hS0 ?_;rotate_left
 ·intro W hW;go_simp;try with_reducible rfl
 simp only [Act.put,j1,j2,j3,j4,j5,j6];refine jx 7 (v := .agg g.cells.toArray) rfl (by kernel_rfl) (fun _ _ _=>id) ?_ hS0 ?_
 ·exact yieldsIf_load_mid (by rfl) 175 _ rfl q 2 rfl g.cells d53 (fun _ h => h.geo) HU53.out HD53.out HS53.out
 simp only [Act.put,j1,j2,j3,j4,j5,j6];refine jk 8 (v:=?_) rfl (by kernel_rfl) (fun _ _ _=>id) (by rfl) ?_ hS0 ?_;rotate_left
 ·intro W hW;go_simp;try with_reducible rfl
 simp only [Act.put,j1,j2,j3,j4,j5,j6];refine wpAnyH_ready (rs := [9]) (by kernel_rfl) (by simp) (AllReadyH.cons rfl (fun KK hKK => ?_) AllReadyH.nil);go_simp;refine (HRd.out w2 HG2.out).mono ?_;rintro e w3 ⟨rfl, hG, hk⟩;have HG3 := jh hG;have HK3 := jh (HK2.out.trans hk)
 have nb4 : b ∉ [t, m, d, gg] := by have := NB6.out; simp at this ⊢; omega
 have F3 := jh (F2.out.kf hk nb4)
 replace hS0 : (fun W => Vl W q (gpc t lab g p)) w3 := HG3.out.gb
 clear hG hk HG2 HK2 F2 nb4;refine hKK _ _ hS0 ?_;intro _;clear hKK KK
 try simp only [Act.put,j1,j2,j3,j4,j5,j6]
 refine jk 10 (v:=?_) rfl (by kernel_rfl) (fun _ _ _=>id) (by rfl) ?_ hS0 ?_;rotate_left
 ·intro W hW;go_simp;try with_reducible rfl
 simp only [Act.put,j1,j2,j3,j4,j5,j6];refine jk 11 (v:=?_) rfl (by kernel_rfl) (fun _ _ _=>id) (by rfl) ?_ hS0 ?_;rotate_left
 ·intro W hW;go_simp;try with_reducible rfl
 simp only [Act.put,j1,j2,j3,j4,j5,j6];refine wpAnyH_ready (rs := [12]) (by kernel_rfl) (by simp) (AllReadyH.cons rfl (fun KK hKK => ?_) AllReadyH.nil);refine step_store_mid rfl 77 _ _ rfl b 0 (ndc f).toArray rfl rfl (F3.out.there0 12 rfl) (size27' _) (all_oneCell_toArray (ndc_one _)) ?_;rw [List.toList_toArray];have F5 := jh (F3.out.stored (ndc f) rfl);have hk5 : Kp w3 (w3.setCells b 0 (ndc f)) b b := (Kp.refl _ _ _).setCells b 0 (.inl rfl) _;have HG5 := jh (HG3.out.kp hk5 NB6.out);have HK5 := jh (HK3.out.fresh hk5 HWb.out)
 obtain ⟨w5, hw5⟩ : ∃ x, w3.setCells b 0 (ndc f) = x := ⟨_, rfl⟩
 rw [hw5] at F5 HG5 HK5 ⊢;clear hS0 hk5 hw5 F3 HG3 HK3;have hS0 : (fun W => Vl W q (gpc t lab g p)) w5 := HG5.out.gb;refine hKK _ _ hS0 ?_;intro _;clear hKK KK
 try simp only [Act.put,j1,j2,j3,j4,j5,j6]
 refine jk 13 (v:=?_) rfl (by kernel_rfl) (fun _ _ _=>id) (by rfl) ?_ hS0 ?_;rotate_left
 ·intro W hW;go_simp;try with_reducible rfl
 simp only [Act.put,j1,j2,j3,j4,j5,j6];refine wpAnyH_done (by kernel_rfl) ?_ _;clear hS0
 go_wp2_with fail
 exact bodyPost_ret_by (results_mid_tmp rfl _ _ b (ndc f) d27 rfl F5.out.range0 HU27.out HD27.out (size27 _)) rfl ⟨rfl, HG5.out, HK5.out⟩
theorem gset_in (q p t m d gg lab B0 P0 M DA NB N K : Nat) (g : Cf.Ge) (Y : Nat → Nat → Int) (f : Nat → Int) (hf : NdOk f) (hc : codeN f = 0) (n : Nat) (h1 : 1 ≤ n) (h2 : n ≤ M) (hT : Has ln (P0 + (n - 1) / 2)) (hK : K < 600000000) (hg : GG g B0 P0 M DA NB N) (w : World) (h : Gr w q p t m d gg lab g B0 NB N ln Y K) :
  Calls Tryz.prog 94 #[.pointer (some ⟨q, 0, none⟩), .int .i64 n, .agg (ndc f).toArray] w fun e w' => e = .returned (.int .i64 0) ∧ Gr w' q p t m d gg lab g B0 NB N ln (tabW P0 n f Y) (K + 1) ∧ Kf w w' [t, m, d, gg] := by
 obtain ⟨d53, hu53, hd53⟩ := Tryz.desc53;have HU53 := jh hu53;have HD53 := jh hd53;obtain ⟨d27, hu27, hd27⟩ := Tryz.desc27;have HU27 := jh hu27;have HD27 := jh hd27;have HS53 := jh (size53 g);clear hu53 hd53 hu27 hd27;have HWr := jh (fun W hW => gwrite (ln := ln) q p t m d gg lab B0 P0 M DA NB N K g Y f hf hc n h1 h2 hT hK hg W hW);have HG := jh h;have lts := jh h.lts
 obtain ⟨Z, hZ⟩ : ∃ Z, tabW P0 n f Y = Z := ⟨_, rfl⟩
 rw [hZ] at HWr ⊢;have hq0 := h.lts.1;clear hZ hf hc h hg h1 h2 hK hT
 go_enter Tryz.func94, Tryz.ntmps94
 go_upto_region 3 with (first | (refine wpList_box_list (w := w) rfl 77 _ rfl (ndc f) rfl ?_; intro w1 F1 hb1 hz1; have HB1 := jh hb1; have HG1 := jh (HG.out.keep hb1); clear hb1 hz1))
 obtain ⟨b, hb⟩ : ∃ b, w.heap.size = b := ⟨_, rfl⟩
 have NB6 := jh (nin6 lts.out.1 lts.out.2.1 lts.out.2.2.1 lts.out.2.2.2.1 lts.out.2.2.2.2.1 lts.out.2.2.2.2.2 (Nat.le_of_eq hb));have HK1 := jh (Kf.of_below HB1.out [t, m, d, gg]);rw [hb] at F1 hq0
 try rw [hb]
 clear hb lts HB1 HG;refine wp_region_held (S := fun W => Vl W q (gpc t lab g p) ∧ Vl W b (ndc f)) (by kernel_rfl) ?_;change wpAnyH _ _ _ _ _ _ _ _ (World.drew _)
 have hS0 : (fun W => Vl W q (gpc t lab g p) ∧ Vl W b (ndc f)) w1.drew := ⟨HG1.out.gb.keep (Below.refl _ _).drew, F1.out.keep (Below.refl _ _).drew⟩
 have HG2 := jh (HG1.out.keep (Below.refl w1.heap.size w1).drew);have HK2 := jh (HK1.out.trans (Kf.of_below (Below.refl w1.heap.size w1).drew _))
 obtain ⟨w2, hw2⟩ : ∃ x, World.drew w1 = x := ⟨_, rfl⟩
 rw [hw2] at hS0 HG2 HK2 ⊢;clear hw2;clear HG1 HK1 F1;refine jk 0 (v:=?_) rfl (by kernel_rfl) (fun _ _ _=>id) (by rfl) ?_ hS0 ?_;rotate_left
 ·intro W hW;go_simp;try with_reducible rfl
 simp only [Act.put,j1,j2,j3,j4,j5,j6];refine jk 1 (v:=?_) rfl (by kernel_rfl) (fun _ _ _=>id) (by rfl) ?_ hS0 ?_;rotate_left
 ·intro W hW;go_simp;try with_reducible rfl
 simp only [Act.put,j1,j2,j3,j4,j5,j6];refine jk 2 (v:=?_) rfl (by kernel_rfl) (fun _ _ _=>id) (by rfl) ?_ hS0 ?_;rotate_left
 ·intro W hW;go_simp;try with_reducible rfl
 simp only [Act.put,j1,j2,j3,j4,j5,j6];refine jk 3 (v:=?_) rfl (by kernel_rfl) (fun _ _ _=>id) (by rfl) ?_ hS0 ?_;rotate_left 1
 ·intro W hW;have c0 := hW.1.c 0 _ rfl;go_simp
  try with_reducible rfl
 simp only [Act.put,j1,j2,j3,j4,j5,j6];refine jk 4 (v:=?_) rfl (by kernel_rfl) (fun _ _ _=>id) (by rfl) ?_ hS0 ?_;rotate_left
 ·intro W hW;go_simp;try with_reducible rfl
 simp only [Act.put,j1,j2,j3,j4,j5,j6];refine jk 5 (v:=?_) rfl (by kernel_rfl) (fun _ _ _=>id) (by rfl) ?_ hS0 ?_;rotate_left
 ·intro W hW;go_simp;try with_reducible rfl
 simp only [Act.put,j1,j2,j3,j4,j5,j6];refine jk 6 (v:=?_) rfl (by kernel_rfl) (fun _ _ _=>id) (by rfl) ?_ hS0 ?_;rotate_left
 ·intro W hW;go_simp;try with_reducible rfl
 simp only [Act.put,j1,j2,j3,j4,j5,j6];refine jx 7 (v := .agg g.cells.toArray) rfl (by kernel_rfl) (fun _ _ _=>id) ?_ hS0 ?_
 ·exact yieldsIf_load_mid (by rfl) 175 _ rfl q 2 rfl g.cells d53 (fun _ h => h.1.geo) HU53.out HD53.out HS53.out
 simp only [Act.put,j1,j2,j3,j4,j5,j6];refine jk 8 (v:=?_) rfl (by kernel_rfl) (fun _ _ _=>id) (by rfl) ?_ hS0 ?_;rotate_left
 ·intro W hW;go_simp;try with_reducible rfl
 simp only [Act.put,j1,j2,j3,j4,j5,j6];refine jx 9 (v := .agg (ndc f).toArray) rfl (by kernel_rfl) (fun _ _ _=>id) ?_ hS0 ?_
 ·exact yieldsIf_load_mid (by rfl) 77 _ rfl b 0 rfl (ndc f) d27 (fun _ h => h.2.range0) HU27.out HD27.out (size27 _)
 simp only [Act.put,j1,j2,j3,j4,j5,j6];refine wpAnyH_ready (rs := [10]) (by kernel_rfl) (by simp) (AllReadyH.cons rfl (fun KK hKK => ?_) AllReadyH.nil);go_simp;refine (HWr.out w2 HG2.out).mono ?_;rintro e w3 ⟨rfl, hG, hk⟩;have HG3 := jh hG;have HK3 := jh (HK2.out.trans hk)
 have nb4 : b ∉ [t, m, d, gg] := by have := NB6.out; simp at this ⊢; omega
 replace hS0 : (fun W => Vl W q (gpc t lab g p) ∧ Vl W b (ndc f)) w3 := ⟨HG3.out.gb, hS0.2.kf hk nb4⟩
 clear hG hk HG2 HK2 nb4;refine hKK _ _ hS0 ?_;intro _;clear hKK KK
 try simp only [Act.put,j1,j2,j3,j4,j5,j6]
 refine jk 11 (v:=?_) rfl (by kernel_rfl) (fun _ _ _=>id) (by rfl) ?_ hS0 ?_;rotate_left
 ·intro W hW;go_simp;try with_reducible rfl
 simp only [Act.put,j1,j2,j3,j4,j5,j6];refine wpAnyH_done (by kernel_rfl) ?_ _;clear hS0
 go_wp2_with fail
 go_ret
 exact ⟨rfl, HG3.out, HK3.out⟩
theorem code_of {f : Nat → Int} (h1 : 0 < f 1) (hm : mbl (f 0) (f 3) = true) : codeN f = 0 := by
 unfold codeN okN;rw [if_pos (by rw [hm, decide_eq_true h1]; simp)]
end Go.Proofs.YtgdapkbenmlabaaGreatDoor
