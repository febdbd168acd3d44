import Derived.Test.YtbnpgkclnebnmaaGreatF10
import Derived.Test.YtbnpgkclnebnmaaGreatQ9
import Derived.Test.YtbnpgkclnebnmaaGreatS1
/- Files: read, open. -/
namespace Go.Proofs.YtbnpgkclnebnmaaGreat
set_option linter.unusedSimpArgs false
set_option linter.unusedVariables false
open Go.RowKit Go.Maps

variable {ln : Lm}
theorem results_tmt {P : Program} {fn : Func} {a p u : Tmp} {ty : TypeId} (h : fn.results = #[.tmp a, .cell p ty, .tmp u]) (tmps : Array Value) (w : World) (b : Nat) (cs : List Value) (d : TypeDesc)
    (hp : tmps.getD p undef = .pointer (some ⟨b, 0, none⟩)) (hc : w.rangeAt b 0 cs) (hu : P.underlying ty = some d) (hd : d.isRow = true) (hi : (P.info? ty).map (·.size) = some cs.length) :
    (results fn tmps).run P w = .ok (.tuple #[tmps.getD a undef, .agg cs.toArray, tmps.getD u undef]) w := by
  simp only [results, h]
  have hp' := hp
  simp only [Array.getD_eq_getD_getElem?] at hp'
  simp [Sem.run_bind, Result.andThen, asAddr, hp', run_loadVar_mid w b 0 ty cs d hc hu hd hi]
set_option maxHeartbeats 20000000 in
set_option maxRecDepth 100000 in
theorem read_slot (b q p t m d gg lab B0 P0 M DA NB N K : Nat) (g : Cf.Ge) (Y : Nat → Nat → Int) (f : Nat → Int) (S : Nat → Bool) (B : Nat → Nat) (hF : Fi DA NB Y f S B) (o : Nat) (ho : o < 16384) (hS : S (o / 64) = true)
    (hK : K < 300000000) (hg : GG g B0 P0 M DA NB N) (w : World) (h : Bo w w b q p t m d gg lab g B0 NB N ln Y K f) :
    Calls Tryz.prog 72 #[.pointer (some ⟨b, 0, none⟩), .int .i64 o] w fun e w' => e = .returned (.tuple #[.int .u16 (B (o / 64)), .agg (byts 64 (Y (DA + (B (o / 64) - 1)))).toArray, .int .i64 0]) ∧ Bo w w' b q p t m d gg lab g B0 NB N ln Y (K + 3) f := by
  have hc : o / 64 < 256 := by omega
  have HWT := Lib.hid (fun x hx W => wayto_slot (o / 64) hc x hx W)
  have HAt := Lib.hid (fun W hW => at_slot (ln := ln) b q p t m d gg lab B0 P0 M DA NB N K g Y f S B hF (o / 64) ((okS_iff _).2 (by omega)) (by omega) hg W hW)
  have hv : vS S B (o / 64) = B (o / 64) := if_pos hS
  rw [hv] at HAt
  obtain ⟨hy1, hy2⟩ := hF.rng _ hS
  have HB := Lib.hid h
  have hN5 := hg.n512
  obtain ⟨y, hy⟩ : ∃ y, B (o / 64) = y := ⟨_, rfl⟩
  rw [hy] at HAt hy1 hy2 ⊢
  have HGt := Lib.hid (fun W hW => gget_in (ln := ln) q p t m d gg lab B0 P0 M DA NB N (K + 2) g Y y hy1 hy2 (by omega) hg W hW)
  obtain ⟨V, hV⟩ : ∃ V, Y (DA + (y - 1)) = V := ⟨_, rfl⟩
  rw [hV] at HGt ⊢
  obtain ⟨yi, hyi⟩ : ∃ z : Int, (y : Int) = z := ⟨_, rfl⟩
  rw [hyi] at HGt HAt ⊢
  obtain ⟨oi, hoi⟩ : ∃ z : Int, (o : Int) = z := ⟨_, rfl⟩
  have ho0 : 0 ≤ oi := by omega
  have ho1 : oi < 16384 := by omega
  have HQ : Hid (oi / 64 = ((o / 64 : Nat) : Int)) := Lib.hid (by omega)
  obtain ⟨va, vb, vc, hwv⟩ : ∃ x y z : Int, wyS (o / 64) = .agg (wyc x y z).toArray := ⟨_, _, _, rfl⟩
  rw [hwv] at HWT HAt
  rw [hoi]
  clear hc hF hS hv h hg hy hV hyi hoi hwv hy1 hy2
  go_enter Tryz.func72, Tryz.ntmps72
  go_upto_region 1 with (first | (refine wpList_alloc_byts (w := w) rfl 59 64 rfl Tryz.zero36 ?_; intro w0 F0 hb0 hz0; have HQ0 := Lib.hid hb0; clear hb0))
  obtain ⟨bR, hbR⟩ : ∃ x, w.heap.size = x := ⟨_, rfl⟩
  have hR0 : w.heap.size ≤ bR := by omega
  have HB0 := Lib.hid (HB.out.keep HQ0.out)
  rw [hbR] at F0
  try rw [hbR]
  clear hbR HQ0 HB hz0
  go_wp2_with fail
  refine (HWT.out _ HQ.out w0).mono ?_
  rintro e w1 ⟨rfl, hb⟩
  have HB1 := Lib.hid (HB0.out.keep hb)
  have F1 := Lib.hid (F0.out.below hb F0.out.lt)
  clear hb HWT HB0 F0
  go_wp2_with fail
  refine (HAt.out w1 HB1.out.self).mono ?_
  rintro e w2 ⟨rfl, hB2⟩
  have HB2 := Lib.hid (HB1.out.trans hB2)
  have F2 := Lib.hid (F1.out.kf hB2.kf (fun ha => by have := HB1.out.nin hR0; simp only [List.mem_cons, List.not_mem_nil, or_false, not_or] at this ha; omega))
  clear hB2 HAt HB1 F1
  have hqe := HB2.out.bd.c 0 _ rfl
  go_wp2_with fail
  refine (HGt.out w2 HB2.out.gr).mono ?_
  rintro e w3 ⟨rfl, hG, hkk⟩
  have HB3 := Lib.hid (HB2.out.call hG hkk)
  have F3 := Lib.hid (F2.out.kf hkk (fun ha => by have := HB2.out.nin hR0; simp only [List.mem_cons, List.not_mem_nil, or_false, not_or] at this ha; omega))
  have hs3 : w.heap.size ≤ w3.heap.size := HB3.out.kf.size
  clear hG hkk HGt HB2 hqe F2
  go_upto_region 5 with (first | (refine wpList_alloc_byts (w := w3) rfl 59 64 rfl Tryz.zero36 ?_; intro w5 F5 hb5 hz5; simp only [Act.put, List.getElem_toArray, List.getElem_cons_zero, List.getElem_cons_succ, List.setIfInBounds_toArray, List.set_cons_zero, List.set_cons_succ]; refine wpList_store_blk rfl (.tmp 9) (.tmp 29) rfl w3.heap.size 0 64 (fun _ => 0) V F5.out (by omega) rfl rfl ?_; intro w6 F6 HK6; have HB5 := Lib.hid hb5; clear hb5 F5))
  obtain ⟨bB, hbB⟩ : ∃ x, w3.heap.size = x := ⟨_, rfl⟩
  have hB0 : w.heap.size ≤ bB := by omega
  have hF3 := F3.out.lt
  have HB6 := Lib.hid ((HB3.out.keep HB5.out).new HK6.out (by omega))
  have G6 := Lib.hid ((F3.out.below HB5.out F3.out.lt).kp HK6.out (by omega) (by omega))
  have F6' := Lib.hid (F6.out.congr (fun j hj => upd_zero 64 V j hj _))
  rw [hbB] at F6' hF3
  try rw [hbB]
  clear F6 HK6 HB5 HB3 F3 hbB hz5 hs3
  refine wp_region_held (S := fun W => Fl W bB 64 V ∧ ∃ F, Fl W bR 64 F) (by kernel_rfl) ?_
  change wpAnyH _ _ _ _ _ _ _ _ (World.drew _)
  have hS0 : (fun W => Fl W bB 64 V ∧ ∃ F, Fl W bR 64 F) w6.drew := ⟨F6'.out.below (Below.refl _ _).drew F6'.out.lt, _, G6.out.below (Below.refl _ _).drew G6.out.lt⟩
  have HB7 := Lib.hid (HB6.out.keep (Below.refl _ _).drew)
  obtain ⟨w7, hw7⟩ : ∃ x, World.drew w6 = x := ⟨_, rfl⟩
  rw [hw7] at hS0 HB7 ⊢
  clear hw7
  refine wpAnyH_take (i := 0) (v := ?_) rfl (by kernel_rfl) (by kernel_rfl) (by kernel_rfl) (fun _ _ _ h => h) (Or.inl ⟨by rfl, ?_⟩) hS0 ?_
  rotate_left 1
  · intro W hW
    go_simp
    try with_reducible rfl
  simp only [Act.put, List.getElem_toArray, List.getElem_cons_zero, List.getElem_cons_succ, List.setIfInBounds_toArray, List.set_cons_zero, List.set_cons_succ]
  refine wpAnyH_take (i := 1) (v := .agg (byts 64 V).toArray) rfl (by kernel_rfl) (by kernel_rfl) (by kernel_rfl) (fun _ _ _ h => h) ?_ hS0 ?_
  · exact yieldsIf_load_mid (by rfl) 59 (.tmp 9) rfl bB 0 rfl (byts 64 V) (.array 64 5) (fun W hW => hW.1.range0) Tryz.arr36 rfl (size36 _)
  simp only [Act.put, List.getElem_toArray, List.getElem_cons_zero, List.getElem_cons_succ, List.setIfInBounds_toArray, List.set_cons_zero, List.set_cons_succ]
  refine wpAnyH_take (i := 2) (v := ?_) rfl (by kernel_rfl) (by kernel_rfl) (by kernel_rfl) (fun _ _ _ h => h) (Or.inl ⟨by rfl, ?_⟩) hS0 ?_
  rotate_left 1
  · intro W hW
    go_simp
    try with_reducible rfl
  simp only [Act.put, List.getElem_toArray, List.getElem_cons_zero, List.getElem_cons_succ, List.setIfInBounds_toArray, List.set_cons_zero, List.set_cons_succ]
  refine wpAnyH_take (i := 3) (v := ?_) rfl (by kernel_rfl) (by kernel_rfl) (by kernel_rfl) (fun _ _ _ h => h) (Or.inl ⟨by rfl, ?_⟩) hS0 ?_
  rotate_left 1
  · intro W hW
    go_simp
    try with_reducible rfl
  simp only [Act.put, List.getElem_toArray, List.getElem_cons_zero, List.getElem_cons_succ, List.setIfInBounds_toArray, List.set_cons_zero, List.set_cons_succ]
  obtain ⟨FF, hFF⟩ := hS0.2
  have PF := Lib.hid (hFF.stored V)
  refine wpAnyH_ready (rs := [4]) (by kernel_rfl) (by simp) (AllReadyH.cons rfl (fun KK hKK => ?_) AllReadyH.nil)
  refine step_store_mid rfl 59 _ _ rfl bR 0 (byts 64 V).toArray rfl rfl (by rw [byts_size]; exact hFF.there 0 64 (Nat.le_refl _)) (size36' _) (byts_all _ _) ?_
  have hk : Kp w7 (w7.setCells bR 0 (byts 64 V)) bR bR := (Kp.refl w7 bR bR).setCells bR 0 (.inl rfl) _
  have hS1 : (fun W => Fl W bB 64 V ∧ ∃ F, Fl W bR 64 F) (w7.setCells bR 0 (byts 64 V)) := ⟨hS0.1.kp hk (by omega) (by omega), _, PF.out⟩
  have HB8 := Lib.hid (HB7.out.new hk hR0)
  obtain ⟨w8, hw8⟩ : ∃ x, w7.setCells bR 0 (byts 64 V) = x := ⟨_, rfl⟩
  change KK _ (w7.setCells bR 0 (byts 64 V))
  rw [hw8] at hS1 PF HB8 ⊢
  clear hS0 hw8 hk hFF HB7
  refine hKK _ _ hS1 ?_
  intro _
  clear hKK KK
  have hS0 := hS1
  clear hS1
  try simp only [Act.put, List.getElem_toArray, List.getElem_cons_zero, List.getElem_cons_succ, List.setIfInBounds_toArray, List.set_cons_zero, List.set_cons_succ]
  refine wpAnyH_take (i := 5) (v := ?_) rfl (by kernel_rfl) (by kernel_rfl) (by kernel_rfl) (fun _ _ _ h => h) (Or.inl ⟨by rfl, ?_⟩) hS0 ?_
  rotate_left 1
  · intro W hW
    go_simp
    try with_reducible rfl
  simp only [Act.put, List.getElem_toArray, List.getElem_cons_zero, List.getElem_cons_succ, List.setIfInBounds_toArray, List.set_cons_zero, List.set_cons_succ]
  refine wpAnyH_done (by kernel_rfl) ?_ _
  clear hS0
  go_wp2_with fail
  exact bodyPost_ret_by (results_tmt rfl _ _ bR _ (.array 64 5) rfl PF.out.range0 Tryz.arr36 rfl (size36 _)) rfl ⟨rfl, HB8.out⟩
set_option maxRecDepth 100000 in
theorem Tryz.buildBody (q : Nat) (f : Nat → Int) (w : World) : (Instr.build 165 #[(0, .pointer (some ⟨q, 0, none⟩)), (1, .agg (ndc f).toArray)]).run Tryz.prog w = .ok (.agg (bdc q f).toArray) w := by kernel_rfl
theorem fopen_nil (x : Int) (w : World) : Calls Tryz.prog 67 #[.pointer none, .int .i64 x] w fun e w' => e = .returned (.tuple #[.pointer none, .int .i64 1]) ∧ Below w.heap.size w w' := by
  have HN := Lib.hid (gnode_nil x w)
  go_enter Tryz.func67, Tryz.ntmps67
  go_wp2_with fail
  refine HN.out.mono ?_
  rintro e w1 ⟨rfl, hb⟩
  have HB1 := Lib.hid hb
  clear hb HN
  go_wp2_with (first | (refine wpList_alloc_list (w := w1) rfl 68 rfl (ndc zpt) Tryz.zero27 ?_; intro w4 F4 hb4 hz4; simp only [Act.put, List.getElem_toArray, List.getElem_cons_zero, List.getElem_cons_succ, List.setIfInBounds_toArray, List.set_cons_zero, List.set_cons_succ]; refine wpList_store_list rfl 68 (.tmp 6) (.tmp 12) rfl w1.heap.size (ndc zpt) (ndc zpt) rfl rfl F4.out rfl (size27 _) (ndc_one _) ?_; intro w5 F5 HK5; have HB4 := Lib.hid (HB1.out.trans (hb4.mono HB1.out.size)); have HB5 := Lib.hid (HB4.out.trans (HK5.out.below HB1.out.size HB1.out.size HB4.out.size)); clear hb4 F4))
  go_ret2
  exact ⟨rfl, HB5.out⟩
theorem fopen_out (q p t m d gg lab B0 P0 M DA NB N K : Nat) (g : Cf.Ge) (Y : Nat → Nat → Int) (x : Int) (hx : ¬ (1 ≤ x ∧ x ≤ M)) (hg : GG g B0 P0 M DA NB N) (w : World) (h : Gr w q p t m d gg lab g B0 NB N ln Y K) :
    Calls Tryz.prog 67 #[.pointer (some ⟨q, 0, none⟩), .int .i64 x] w fun e w' => e = .returned (.tuple #[.pointer none, .int .i64 27]) ∧ Below w.heap.size w w' := by
  have HN := Lib.hid (gnode_out q p t m d gg lab B0 P0 M DA NB N K g Y x hx hg w h)
  clear h hg hx
  go_enter Tryz.func67, Tryz.ntmps67
  go_wp2_with fail
  refine HN.out.mono ?_
  rintro e w1 ⟨rfl, hb⟩
  have HB1 := Lib.hid hb
  clear hb HN
  go_wp2_with (first | (refine wpList_alloc_list (w := w1) rfl 68 rfl (ndc zpt) Tryz.zero27 ?_; intro w4 F4 hb4 hz4; simp only [Act.put, List.getElem_toArray, List.getElem_cons_zero, List.getElem_cons_succ, List.setIfInBounds_toArray, List.set_cons_zero, List.set_cons_succ]; refine wpList_store_list rfl 68 (.tmp 6) (.tmp 12) rfl w1.heap.size (ndc zpt) (ndc zpt) rfl rfl F4.out rfl (size27 _) (ndc_one _) ?_; intro w5 F5 HK5; have HB4 := Lib.hid (HB1.out.trans (hb4.mono HB1.out.size)); have HB5 := Lib.hid (HB4.out.trans (HK5.out.below HB1.out.size HB1.out.size HB4.out.size)); clear hb4 F4))
  go_ret2
  exact ⟨rfl, HB5.out⟩
set_option maxHeartbeats 8000000 in
set_option maxRecDepth 100000 in
theorem fopen_free (q p t m d gg lab B0 P0 M DA NB N K : Nat) (g : Cf.Ge) (Y V : Nat → Nat → Int) (x : Nat) (h1 : 1 ≤ x) (h2 : x ≤ M) (hz : V x 0 = 0) (hK : K < 500000000) (hI : Tab P0 M Y V) (hg : GG g B0 P0 M DA NB N) (w : World) (h : Gr w q p t m d gg lab g B0 NB N ln Y K) :
    Calls Tryz.prog 67 #[.pointer (some ⟨q, 0, none⟩), .int .i64 x] w fun e w' => e = .returned (.tuple #[.pointer none, .int .i64 14]) ∧ Gr w' q p t m d gg lab g B0 NB N ln Y (K + 1) ∧ Kf w w' [t, m, d, gg] := by
  have HN := Lib.hid (gnode_in (ln := ln) q p t m d gg lab B0 P0 M DA NB N K g Y V x h1 h2 (by omega) hI hg w h)
  obtain ⟨f, hf⟩ : ∃ f, V x = f := ⟨_, rfl⟩
  rw [hf] at hz HN
  have HZ := Lib.hid (show (ndc f)[0]? = some (.int .u8 0) from by rw [← hz]; rfl)
  clear h hg h1 h2 hf hz hI
  go_enter Tryz.func67, Tryz.ntmps67
  go_wp2_with fail
  refine HN.out.mono ?_
  rintro e w1 ⟨rfl, hG, hk⟩
  have HG1 := Lib.hid hG
  have HK1 := Lib.hid hk
  clear hG hk HN
  go_upto_region 2 with (first | (refine wpList_alloc_list (w := w1) rfl 68 rfl (ndc zpt) Tryz.zero27 ?_; intro w4 F4 hb4 hz4; simp only [Act.put, List.getElem_toArray, List.getElem_cons_zero, List.getElem_cons_succ, List.setIfInBounds_toArray, List.set_cons_zero, List.set_cons_succ]; refine wpList_store_list rfl 68 (.tmp 6) (.tmp 12) rfl w1.heap.size (ndc zpt) (ndc f) rfl rfl F4.out rfl (size27 _) (ndc_one _) ?_; intro w5 F5 HK5; have HQ4 := Lib.hid hb4; clear hb4 F4))
  have HG5 := Lib.hid ((HG1.out.keep HQ4.out).kp HK5.out (HG1.out.notin (Nat.le_refl _)))
  have HK6 := Lib.hid ((HK1.out.more HQ4.out).new HK5.out HK1.out.size)
  have c0 := F5.out.c 0 _ HZ.out
  go_wp2_with fail
  go_ret2
  exact ⟨rfl, HG5.out, HK6.out⟩
set_option maxHeartbeats 8000000 in
set_option maxRecDepth 100000 in
theorem fopen_in (q p t m d gg lab B0 P0 M DA NB N K : Nat) (g : Cf.Ge) (Y V : Nat → Nat → Int) (x : Nat) (h1 : 1 ≤ x) (h2 : x ≤ M) (hz : ¬ V x 0 = 0) (hK : K < 500000000) (hI : Tab P0 M Y V) (hg : GG g B0 P0 M DA NB N) (w : World) (h : Gr w q p t m d gg lab g B0 NB N ln Y K) :
    Calls Tryz.prog 67 #[.pointer (some ⟨q, 0, none⟩), .int .i64 x] w fun e w' => ∃ b, e = .returned (.tuple #[.pointer (some ⟨b, 0, none⟩), .int .i64 0]) ∧ w.heap.size ≤ b ∧ Gr w' q p t m d gg lab g B0 NB N ln Y (K + 1) ∧ Vl w' b (bdc q (V x)) ∧ Kf w w' [t, m, d, gg] := by
  obtain ⟨d27, hu, hd⟩ := Tryz.desc27
  have HU := Lib.hid hu
  have HD := Lib.hid hd
  have HN := Lib.hid (gnode_in (ln := ln) q p t m d gg lab B0 P0 M DA NB N K g Y V x h1 h2 (by omega) hI hg w h)
  obtain ⟨f, hf⟩ : ∃ f, V x = f := ⟨_, rfl⟩
  rw [hf] at hz HN ⊢
  have HZ := Lib.hid (show (ndc f)[0]? = some (.int .u8 (f 0)) from rfl)
  obtain ⟨kd0, hkd⟩ : ∃ z, f 0 = z := ⟨_, rfl⟩
  rw [hkd] at hz HZ
  clear h hg h1 h2 hf hI hu hd hkd
  go_enter Tryz.func67, Tryz.ntmps67
  go_wp2_with fail
  refine HN.out.mono ?_
  rintro e w1 ⟨rfl, hG, hk⟩
  have HG1 := Lib.hid hG
  have HK1 := Lib.hid hk
  clear hG hk HN
  go_upto_region 2 with (first | (refine wpList_alloc_list (w := w1) rfl 68 rfl (ndc zpt) Tryz.zero27 ?_; intro w4 F4 hb4 hz4; simp only [Act.put, List.getElem_toArray, List.getElem_cons_zero, List.getElem_cons_succ, List.setIfInBounds_toArray, List.set_cons_zero, List.set_cons_succ]; refine wpList_store_list rfl 68 (.tmp 6) (.tmp 12) rfl w1.heap.size (ndc zpt) (ndc f) rfl rfl F4.out rfl (size27 _) (ndc_one _) ?_; intro w5 F5 HK5; have HQ4 := Lib.hid hb4; clear hb4 F4))
  obtain ⟨bN, hbN⟩ : ∃ x, w1.heap.size = x := ⟨_, rfl⟩
  have HG5 := Lib.hid ((HG1.out.keep HQ4.out).kp HK5.out (HG1.out.notin (Nat.le_refl _)))
  have HK6 := Lib.hid ((HK1.out.more HQ4.out).new HK5.out HK1.out.size)
  rw [hbN] at F5
  try rw [hbN]
  clear HG1 HK1 HQ4 HK5 hbN hz4
  have c0 := F5.out.c 0 _ HZ.out
  have HR5 := Lib.hid F5.out.range0
  go_upto_region 6 with fail
  clear c0
  go_wp2_with (first | (refine wpList_load_mid rfl 68 _ rfl bN 0 rfl (ndc f) d27 HR5.out HU.out HD.out (size27 _) ?_) | (refine wpList_bld2 rfl 165 0 1 (.tmp 20) (.tmp 21) rfl (.pointer (some ⟨q, 0, none⟩)) (.agg (ndc f).toArray) rfl rfl _ (Tryz.buildBody q f _) ?_) | (refine wpList_box_list (w := w5) rfl 165 _ rfl (bdc q f) rfl ?_; intro w6 F6 hb6 hz6; have HQ6 := Lib.hid hb6; clear hb6))
  go_ret2
  exact ⟨_, rfl, HK6.out.size, HG5.out.keep HQ6.out, F6.out, HK6.out.more HQ6.out⟩
end Go.Proofs.YtbnpgkclnebnmaaGreat
