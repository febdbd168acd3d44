import Derived.Test.YtbnpgkclnebnmaaGreatZ18
import Derived.Test.YtbnpgkclnebnmaaGreatZ17
/- Files: read, open. -/
/- Files: what a write leaves (pure). -/
/- Files: Write. -/

namespace Go.Proofs.YtbnpgkclnebnmaaGreat
set_option linter.unusedSimpArgs false
set_option linter.unusedVariables false
open Go.RowKit Go.Maps

variable {ln : Lm}
theorem results_tmt {P : Program} {fn : Func} {a p u : Tmp} {ty : TypeId} (h : fn.results = #[.tmp a, .cell p ty, .tmp u]) (tmps : Array Value) (w : World) (b : Nat) (cs : List Value) (d : TypeDesc)
    (hp : tmps.getD p undef = .pointer (some ⟨b, 0, none⟩)) (hc : w.rangeAt b 0 cs) (hu : P.underlying ty = some d) (hd : d.isRow = true) (hi : (P.info? ty).map (·.size) = some cs.length) :
    (results fn tmps).run P w = .ok (.tuple #[tmps.getD a undef, .agg cs.toArray, tmps.getD u undef]) w := by
  simp only [results, h]
  have hp' := hp
  simp only [Array.getD_eq_getD_getElem?] at hp'
  simp [Sem.run_bind, Result.andThen, asAddr, hp', run_loadVar_mid w b 0 ty cs d hc hu hd hi]
set_option maxHeartbeats 20000000 in
set_option maxRecDepth 100000 in
theorem read_slot (b q p t m d gg lab B0 P0 M DA NB N K : Nat) (g : Cf.Ge) (Y : Nat → Nat → Int) (f : Nat → Int) (S : Nat → Bool) (B : Nat → Nat) (hF : Fi DA NB Y f S B) (o : Nat) (ho : o < 16384) (hS : S (o / 64) = true)
    (hK : K < 300000000) (hg : GG g B0 P0 M DA NB N) (w : World) (h : Bo w w b q p t m d gg lab g B0 NB N ln Y K f) :
    Calls Tryz.prog 72 #[.pointer (some ⟨b, 0, none⟩), .int .i64 o] w fun e w' => e = .returned (.tuple #[.int .u16 (B (o / 64)), .agg (byts 64 (Y (DA + (B (o / 64) - 1)))).toArray, .int .i64 0]) ∧ Bo w w' b q p t m d gg lab g B0 NB N ln Y (K + 3) f := by
  have hc : o / 64 < 256 := by omega
  have HWT := Lib.hid (fun x hx W => wayto_slot (o / 64) hc x hx W)
  have HAt := Lib.hid (fun W hW => at_slot (ln := ln) b q p t m d gg lab B0 P0 M DA NB N K g Y f S B hF (o / 64) ((okS_iff _).2 (by omega)) (by omega) hg W hW)
  have hv : vS S B (o / 64) = B (o / 64) := if_pos hS
  rw [hv] at HAt
  obtain ⟨hy1, hy2⟩ := hF.rng _ hS
  have HB := Lib.hid h
  have hN5 := hg.n512
  obtain ⟨y, hy⟩ : ∃ y, B (o / 64) = y := ⟨_, rfl⟩
  rw [hy] at HAt hy1 hy2 ⊢
  have HGt := Lib.hid (fun W hW => gget_in (ln := ln) q p t m d gg lab B0 P0 M DA NB N (K + 2) g Y y hy1 hy2 (by omega) hg W hW)
  obtain ⟨V, hV⟩ : ∃ V, Y (DA + (y - 1)) = V := ⟨_, rfl⟩
  rw [hV] at HGt ⊢
  obtain ⟨yi, hyi⟩ : ∃ z : Int, (y : Int) = z := ⟨_, rfl⟩
  rw [hyi] at HGt HAt ⊢
  obtain ⟨oi, hoi⟩ : ∃ z : Int, (o : Int) = z := ⟨_, rfl⟩
  have ho0 : 0 ≤ oi := by omega
  have ho1 : oi < 16384 := by omega
  have HQ : Hid (oi / 64 = ((o / 64 : Nat) : Int)) := Lib.hid (by omega)
  obtain ⟨va, vb, vc, hwv⟩ : ∃ x y z : Int, wyS (o / 64) = .agg (wyc x y z).toArray := ⟨_, _, _, rfl⟩
  rw [hwv] at HWT HAt
  rw [hoi]
  clear hc hF hS hv h hg hy hV hyi hoi hwv hy1 hy2
  go_enter Tryz.func72, Tryz.ntmps72
  go_upto_region 1 with (first | (refine wpList_alloc_byts (w := w) rfl 59 64 rfl Tryz.zero36 ?_; intro w0 F0 hb0 hz0; have HQ0 := Lib.hid hb0; clear hb0))
  obtain ⟨bR, hbR⟩ : ∃ x, w.heap.size = x := ⟨_, rfl⟩
  have hR0 : w.heap.size ≤ bR := by omega
  have HB0 := Lib.hid (HB.out.keep HQ0.out)
  rw [hbR] at F0
  try rw [hbR]
  clear hbR HQ0 HB hz0
  go_wp2_with fail
  refine (HWT.out _ HQ.out w0).mono ?_
  rintro e w1 ⟨rfl, hb⟩
  have HB1 := Lib.hid (HB0.out.keep hb)
  have F1 := Lib.hid (F0.out.below hb F0.out.lt)
  clear hb HWT HB0 F0
  go_wp2_with fail
  refine (HAt.out w1 HB1.out.self).mono ?_
  rintro e w2 ⟨rfl, hB2⟩
  have HB2 := Lib.hid (HB1.out.trans hB2)
  have F2 := Lib.hid (F1.out.kf hB2.kf (fun ha => by have := HB1.out.nin hR0; simp only [List.mem_cons, List.not_mem_nil, or_false, not_or] at this ha; omega))
  clear hB2 HAt HB1 F1
  have hqe := HB2.out.bd.c 0 _ rfl
  go_wp2_with fail
  refine (HGt.out w2 HB2.out.gr).mono ?_
  rintro e w3 ⟨rfl, hG, hkk⟩
  have HB3 := Lib.hid (HB2.out.call hG hkk)
  have F3 := Lib.hid (F2.out.kf hkk (fun ha => by have := HB2.out.nin hR0; simp only [List.mem_cons, List.not_mem_nil, or_false, not_or] at this ha; omega))
  have hs3 : w.heap.size ≤ w3.heap.size := HB3.out.kf.size
  clear hG hkk HGt HB2 hqe F2
  go_upto_region 5 with (first | (refine wpList_alloc_byts (w := w3) rfl 59 64 rfl Tryz.zero36 ?_; intro w5 F5 hb5 hz5; simp only [Act.put, List.getElem_toArray, List.getElem_cons_zero, List.getElem_cons_succ, List.setIfInBounds_toArray, List.set_cons_zero, List.set_cons_succ]; refine wpList_store_blk rfl (.tmp 9) (.tmp 29) rfl w3.heap.size 0 64 (fun _ => 0) V F5.out (by omega) rfl rfl ?_; intro w6 F6 HK6; have HB5 := Lib.hid hb5; clear hb5 F5))
  obtain ⟨bB, hbB⟩ : ∃ x, w3.heap.size = x := ⟨_, rfl⟩
  have hB0 : w.heap.size ≤ bB := by omega
  have hF3 := F3.out.lt
  have HB6 := Lib.hid ((HB3.out.keep HB5.out).new HK6.out (by omega))
  have G6 := Lib.hid ((F3.out.below HB5.out F3.out.lt).kp HK6.out (by omega) (by omega))
  have F6' := Lib.hid (F6.out.congr (fun j hj => upd_zero 64 V j hj _))
  rw [hbB] at F6' hF3
  try rw [hbB]
  clear F6 HK6 HB5 HB3 F3 hbB hz5 hs3
  refine wp_region_held (S := fun W => Fl W bB 64 V ∧ ∃ F, Fl W bR 64 F) (by kernel_rfl) ?_
  change wpAnyH _ _ _ _ _ _ _ _ (World.drew _)
  have hS0 : (fun W => Fl W bB 64 V ∧ ∃ F, Fl W bR 64 F) w6.drew := ⟨F6'.out.below (Below.refl _ _).drew F6'.out.lt, _, G6.out.below (Below.refl _ _).drew G6.out.lt⟩
  have HB7 := Lib.hid (HB6.out.keep (Below.refl _ _).drew)
  obtain ⟨w7, hw7⟩ : ∃ x, World.drew w6 = x := ⟨_, rfl⟩
  rw [hw7] at hS0 HB7 ⊢
  clear hw7
  refine wpAnyH_take (i := 0) (v := ?_) rfl (by kernel_rfl) (by kernel_rfl) (by kernel_rfl) (fun _ _ _ h => h) (Or.inl ⟨by rfl, ?_⟩) hS0 ?_
  rotate_left 1
  · intro W hW
    go_simp
    try with_reducible rfl
  simp only [Act.put, List.getElem_toArray, List.getElem_cons_zero, List.getElem_cons_succ, List.setIfInBounds_toArray, List.set_cons_zero, List.set_cons_succ]
  refine wpAnyH_take (i := 1) (v := .agg (byts 64 V).toArray) rfl (by kernel_rfl) (by kernel_rfl) (by kernel_rfl) (fun _ _ _ h => h) ?_ hS0 ?_
  · exact yieldsIf_load_mid (by rfl) 59 (.tmp 9) rfl bB 0 rfl (byts 64 V) (.array 64 5) (fun W hW => hW.1.range0) Tryz.arr36 rfl (size36 _)
  simp only [Act.put, List.getElem_toArray, List.getElem_cons_zero, List.getElem_cons_succ, List.setIfInBounds_toArray, List.set_cons_zero, List.set_cons_succ]
  refine wpAnyH_take (i := 2) (v := ?_) rfl (by kernel_rfl) (by kernel_rfl) (by kernel_rfl) (fun _ _ _ h => h) (Or.inl ⟨by rfl, ?_⟩) hS0 ?_
  rotate_left 1
  · intro W hW
    go_simp
    try with_reducible rfl
  simp only [Act.put, List.getElem_toArray, List.getElem_cons_zero, List.getElem_cons_succ, List.setIfInBounds_toArray, List.set_cons_zero, List.set_cons_succ]
  refine wpAnyH_take (i := 3) (v := ?_) rfl (by kernel_rfl) (by kernel_rfl) (by kernel_rfl) (fun _ _ _ h => h) (Or.inl ⟨by rfl, ?_⟩) hS0 ?_
  rotate_left 1
  · intro W hW
    go_simp
    try with_reducible rfl
  simp only [Act.put, List.getElem_toArray, List.getElem_cons_zero, List.getElem_cons_succ, List.setIfInBounds_toArray, List.set_cons_zero, List.set_cons_succ]
  obtain ⟨FF, hFF⟩ := hS0.2
  have PF := Lib.hid (hFF.stored V)
  refine wpAnyH_ready (rs := [4]) (by kernel_rfl) (by simp) (AllReadyH.cons rfl (fun KK hKK => ?_) AllReadyH.nil)
  refine step_store_mid rfl 59 _ _ rfl bR 0 (byts 64 V).toArray rfl rfl (by rw [byts_size]; exact hFF.there 0 64 (Nat.le_refl _)) (size36' _) (byts_all _ _) ?_
  have hk : Kp w7 (w7.setCells bR 0 (byts 64 V)) bR bR := (Kp.refl w7 bR bR).setCells bR 0 (.inl rfl) _
  have hS1 : (fun W => Fl W bB 64 V ∧ ∃ F, Fl W bR 64 F) (w7.setCells bR 0 (byts 64 V)) := ⟨hS0.1.kp hk (by omega) (by omega), _, PF.out⟩
  have HB8 := Lib.hid (HB7.out.new hk hR0)
  obtain ⟨w8, hw8⟩ : ∃ x, w7.setCells bR 0 (byts 64 V) = x := ⟨_, rfl⟩
  change KK _ (w7.setCells bR 0 (byts 64 V))
  rw [hw8] at hS1 PF HB8 ⊢
  clear hS0 hw8 hk hFF HB7
  refine hKK _ _ hS1 ?_
  intro _
  clear hKK KK
  have hS0 := hS1
  clear hS1
  try simp only [Act.put, List.getElem_toArray, List.getElem_cons_zero, List.getElem_cons_succ, List.setIfInBounds_toArray, List.set_cons_zero, List.set_cons_succ]
  refine wpAnyH_take (i := 5) (v := ?_) rfl (by kernel_rfl) (by kernel_rfl) (by kernel_rfl) (fun _ _ _ h => h) (Or.inl ⟨by rfl, ?_⟩) hS0 ?_
  rotate_left 1
  · intro W hW
    go_simp
    try with_reducible rfl
  simp only [Act.put, List.getElem_toArray, List.getElem_cons_zero, List.getElem_cons_succ, List.setIfInBounds_toArray, List.set_cons_zero, List.set_cons_succ]
  refine wpAnyH_done (by kernel_rfl) ?_ _
  clear hS0
  go_wp2_with fail
  exact bodyPost_ret_by (results_tmt rfl _ _ bR _ (.array 64 5) rfl PF.out.range0 Tryz.arr36 rfl (size36 _)) rfl ⟨rfl, HB8.out⟩
set_option maxRecDepth 100000 in
theorem Tryz.buildBody (q : Nat) (f : Nat → Int) (w : World) : (Instr.build 165 #[(0, .pointer (some ⟨q, 0, none⟩)), (1, .agg (ndc f).toArray)]).run Tryz.prog w = .ok (.agg (bdc q f).toArray) w := by kernel_rfl
set_option maxHeartbeats 8000000 in
set_option maxRecDepth 100000 in
theorem fopen_in (q p t m d gg lab B0 P0 M DA NB N K : Nat) (g : Cf.Ge) (Y V : Nat → Nat → Int) (x : Nat) (h1 : 1 ≤ x) (h2 : x ≤ M) (hz : ¬ V x 0 = 0) (hK : K < 500000000) (hI : Tab P0 M Y V) (hg : GG g B0 P0 M DA NB N) (w : World) (h : Gr w q p t m d gg lab g B0 NB N ln Y K) :
    Calls Tryz.prog 67 #[.pointer (some ⟨q, 0, none⟩), .int .i64 x] w fun e w' => ∃ b, e = .returned (.tuple #[.pointer (some ⟨b, 0, none⟩), .int .i64 0]) ∧ w.heap.size ≤ b ∧ Gr w' q p t m d gg lab g B0 NB N ln Y (K + 1) ∧ Vl w' b (bdc q (V x)) ∧ Kf w w' [t, m, d, gg] := by
  obtain ⟨d27, hu, hd⟩ := Tryz.desc27
  have HU := Lib.hid hu
  have HD := Lib.hid hd
  have HN := Lib.hid (gnode_in (ln := ln) q p t m d gg lab B0 P0 M DA NB N K g Y V x h1 h2 (by omega) hI hg w h)
  obtain ⟨f, hf⟩ : ∃ f, V x = f := ⟨_, rfl⟩
  rw [hf] at hz HN ⊢
  have HZ := Lib.hid (show (ndc f)[0]? = some (.int .u8 (f 0)) from rfl)
  obtain ⟨kd0, hkd⟩ : ∃ z, f 0 = z := ⟨_, rfl⟩
  rw [hkd] at hz HZ
  clear h hg h1 h2 hf hI hu hd hkd
  go_enter Tryz.func67, Tryz.ntmps67
  go_wp2_with fail
  refine HN.out.mono ?_
  rintro e w1 ⟨rfl, hG, hk⟩
  have HG1 := Lib.hid hG
  have HK1 := Lib.hid hk
  clear hG hk HN
  go_upto_region 2 with (first | (refine wpList_alloc_list (w := w1) rfl 68 rfl (ndc zpt) Tryz.zero27 ?_; intro w4 F4 hb4 hz4; simp only [Act.put, List.getElem_toArray, List.getElem_cons_zero, List.getElem_cons_succ, List.setIfInBounds_toArray, List.set_cons_zero, List.set_cons_succ]; refine wpList_store_list rfl 68 (.tmp 6) (.tmp 12) rfl w1.heap.size (ndc zpt) (ndc f) rfl rfl F4.out rfl (size27 _) (ndc_one _) ?_; intro w5 F5 HK5; have HQ4 := Lib.hid hb4; clear hb4 F4))
  obtain ⟨bN, hbN⟩ : ∃ x, w1.heap.size = x := ⟨_, rfl⟩
  have HG5 := Lib.hid ((HG1.out.keep HQ4.out).kp HK5.out (HG1.out.notin (Nat.le_refl _)))
  have HK6 := Lib.hid ((HK1.out.more HQ4.out).new HK5.out HK1.out.size)
  rw [hbN] at F5
  try rw [hbN]
  clear HG1 HK1 HQ4 HK5 hbN hz4
  have c0 := F5.out.c 0 _ HZ.out
  have HR5 := Lib.hid F5.out.range0
  go_upto_region 6 with fail
  clear c0
  go_wp2_with (first | (refine wpList_load_mid rfl 68 _ rfl bN 0 rfl (ndc f) d27 HR5.out HU.out HD.out (size27 _) ?_) | (refine wpList_bld2 rfl 165 0 1 (.tmp 20) (.tmp 21) rfl (.pointer (some ⟨q, 0, none⟩)) (.agg (ndc f).toArray) rfl rfl _ (Tryz.buildBody q f _) ?_) | (refine wpList_box_list (w := w5) rfl 165 _ rfl (bdc q f) rfl ?_; intro w6 F6 hb6 hz6; have HQ6 := Lib.hid hb6; clear hb6))
  go_ret2
  exact ⟨_, rfl, HK6.out.size, HG5.out.keep HQ6.out, F6.out, HK6.out.more HQ6.out⟩
end Go.Proofs.YtbnpgkclnebnmaaGreat

namespace Go.Proofs.YtbnpgkclnebnmaaGreat
set_option linter.unusedSimpArgs false
set_option linter.unusedVariables false
open Go.RowKit Go.Maps

/-- the slots of a file of n data blocks -/
def ndS (n c : Nat) : Bool := if c < 2000 then decide (c < n) else if c = 2000 then decide (6 < n) else if c = 2001 then decide (38 < n) else decide (38 + 32 * (c - 2002) < n)
theorem ndS_iff (n c : Nat) : ndS n c = true ↔ (c < 2000 ∧ c < n) ∨ (c = 2000 ∧ 6 < n) ∨ (c = 2001 ∧ 38 < n) ∨ (2002 ≤ c ∧ 38 + 32 * (c - 2002) < n) := by
  unfold ndS
  split
  · simp
    omega
  · split
    · simp
      omega
    · split
      · simp
        omega
      · simp
        omega
theorem ndS_no (n c : Nat) : ndS n c = false ↔ ¬ ((c < 2000 ∧ c < n) ∨ (c = 2000 ∧ 6 < n) ∨ (c = 2001 ∧ 38 < n) ∨ (2002 ≤ c ∧ 38 + 32 * (c - 2002) < n)) := by
  rw [← ndS_iff]
  simp
theorem chS_cases (c : Nat) (hc : c < 256) (c' : Nat) : (∃ i, i ≤ lenC c ∧ c' = chS c i) ↔ c' = c ∨ (6 ≤ c ∧ c < 38 ∧ c' = 2000) ∨ (38 ≤ c ∧ (c' = 2001 ∨ c' = 2002 + (c - 38) / 32)) := by
  have hl : c < 6 ∧ lenC c = 0 ∨ 6 ≤ c ∧ c < 38 ∧ lenC c = 1 ∨ 38 ≤ c ∧ lenC c = 2 := by
    unfold lenC
    split
    · omega
    · split <;> omega
  rcases hl with ⟨h, e⟩ | ⟨h, h', e⟩ | ⟨h, e⟩
  · have h0 : chS c 0 = c := by unfold chS; rw [e, if_pos rfl]
    rw [e]
    constructor
    · rintro ⟨i, hi, rfl⟩
      obtain rfl : i = 0 := by omega
      exact .inl h0
    · rintro (rfl | h | h)
      · exact ⟨0, Nat.le_refl _, h0.symm⟩
      · omega
      · omega
  · have hp : parS c = 2000 := by unfold parS; rw [if_pos h']
    have h1 : chS c 1 = c := by unfold chS; rw [e, if_pos rfl]
    have h0 : chS c 0 = 2000 := by unfold chS; rw [e, if_neg (by decide), if_pos rfl, hp]
    rw [e]
    constructor
    · rintro ⟨i, hi, rfl⟩
      have hi2 : i = 0 ∨ i = 1 := by omega
      rcases hi2 with rfl | rfl
      · exact .inr (.inl ⟨h, h', h0⟩)
      · exact .inl h1
    · rintro (rfl | ⟨-, -, rfl⟩ | h)
      · exact ⟨1, Nat.le_refl _, h1.symm⟩
      · exact ⟨0, by decide, h0.symm⟩
      · omega
  · have hp : parS c = 2002 + (c - 38) / 32 := by unfold parS; rw [if_neg (by omega), if_pos (by omega)]
    have h2 : chS c 2 = c := by unfold chS; rw [e, if_pos rfl]
    have h1 : chS c 1 = 2002 + (c - 38) / 32 := by unfold chS; rw [e, if_neg (by decide), if_pos rfl, hp]
    have h0 : chS c 0 = 2001 := by unfold chS; rw [e, if_neg (by decide), if_neg (by decide)]
    rw [e]
    constructor
    · rintro ⟨i, hi, rfl⟩
      have hi2 : i = 0 ∨ i = 1 ∨ i = 2 := by omega
      rcases hi2 with rfl | rfl | rfl
      · exact .inr (.inr ⟨h, .inl h0⟩)
      · exact .inr (.inr ⟨h, .inr h1⟩)
      · exact .inl h2
    · rintro (rfl | h | ⟨-, rfl | rfl⟩)
      · exact ⟨2, Nat.le_refl _, h2.symm⟩
      · omega
      · exact ⟨0, by decide, h0.symm⟩
      · exact ⟨1, by decide, h1.symm⟩
/-- one block more, or one that is there -/
theorem ndS_grow (n c : Nat) (hc : c < 256) (hn : c ≤ n) (S : Nat → Bool) (hS : ∀ c', S c' = true ↔ ndS n c' = true ∨ ∃ i, i ≤ lenC c ∧ c' = chS c i) : S = ndS (max n (c + 1)) := by
  funext c'
  rw [Bool.eq_iff_iff, hS, chS_cases c hc, ndS_iff, ndS_iff]
  omega
/-- a byte of a file -/
def ctF (DA : Nat) (Y : Nat → Nat → Int) (b : Nat → Nat) (i : Nat) : Int := Y (DA + (b (i / 64) - 1)) (i % 64)
/-- from the state before a write to one within, or behind it -/
structure Wx (B0 DA NB : Nat) (Y : Nat → Nat → Int) (S : Nat → Bool) (b : Nat → Nat) (Y' : Nat → Nat → Int) (S' : Nat → Bool) (b' : Nat → Nat) : Prop where
  n : ∀ c, S c = true → S' c = true
  b : ∀ c, S c = true → b' c = b c
  y : ∀ z, z ≠ B0 → (∀ c, S' c = true → z ≠ DA + (b' c - 1)) → Y' z = Y z
  u : ∀ j, j < NB → (bt Y' B0 j = true ↔ bt Y B0 j = true ∨ ∃ c, S' c = true ∧ S c = false ∧ b' c = j + 1)
  fr : ∀ c, S' c = true → S c = false → bt Y B0 (b' c - 1) = false
theorem Wx.refl (B0 DA NB : Nat) (Y : Nat → Nat → Int) (S : Nat → Bool) (b : Nat → Nat) : Wx B0 DA NB Y S b Y S b :=
  ⟨fun _ h => h, fun _ _ => rfl, fun _ _ _ => rfl, (Ex.refl B0 DA NB Y S b).u, (Ex.refl B0 DA NB Y S b).fr⟩
/-- lay, then a data block's bytes -/
theorem Wx.step {B0 DA NB : Nat} {Y0 Y Y1 : Nat → Nat → Int} {S0 S S1 : Nat → Bool} {b0 b b1 : Nat → Nat} {f1 : Nat → Int} (hB : B0 < DA) (hNB : NB ≤ 512) (h : Wx B0 DA NB Y0 S0 b0 Y S b) (k : Ex B0 DA NB Y S b Y1 S1 b1) (hFu : Fu B0 DA NB Y1 f1 S1 b1) (c : Nat) (hc : S1 c = true) (hcd : c < 2000) (F : Nat → Int) :
    Wx B0 DA NB Y0 S0 b0 (vput (DA + (b1 c - 1)) F Y1) S1 b1 ∧ Fu B0 DA NB (vput (DA + (b1 c - 1)) F Y1) f1 S1 b1 := by
  have hbt : ∀ j, j < NB → bt (vput (DA + (b1 c - 1)) F Y1) B0 j = bt Y1 B0 j := fun j hj => bt_put _ _ _ _ _ (by omega)
  refine ⟨⟨fun c' hc' => k.n c' (h.n c' hc'), fun c' hc' => (k.b c' (h.n c' hc')).trans (h.b c' hc'), fun z hz hf => ?_, fun j hj => ?_, fun c' hc' hn => ?_⟩, ⟨hFu.fi.congr fun c' hc' h2 => ?_, fun c' hc' => ?_⟩⟩
  · rw [vput_ne _ _ (fun e => hf c hc e.symm), k.y z hz fun c' hc' _ => hf c' hc']
    refine h.y z hz fun c' hc' => ?_
    have := hf c' (k.n c' hc')
    rwa [k.b c' hc'] at this
  · rw [hbt j hj, k.u j hj, h.u j hj]
    constructor
    · rintro ((h1 | ⟨c', h1, h2, h3⟩) | ⟨c', h1, h2, h3⟩)
      · exact .inl h1
      · exact .inr ⟨c', k.n c' h1, h2, (k.b c' h1).trans h3⟩
      · refine .inr ⟨c', h1, ?_, h3⟩
        cases hh : S0 c'
        · rfl
        · rw [h.n c' hh] at h2
          cases h2
    · rintro (h1 | ⟨c', h1, h2, h3⟩)
      · exact .inl (.inl h1)
      · cases hh : S c'
        · exact .inr ⟨c', h1, hh, h3⟩
        · exact .inl (.inr ⟨c', hh, h2, (k.b c' hh).symm.trans h3⟩)
  · cases h1 : S c'
    · have hf := k.fr c' hc' h1
      have r := hFu.fi.rng c' hc'
      cases hh : bt Y0 B0 (b1 c' - 1)
      · rfl
      · rw [(h.u (b1 c' - 1) (by omega)).2 (.inl hh)] at hf
        cases hf
    · rw [k.b c' h1]
      exact h.fr c' h1 hn
  · refine vput_ne _ _ fun he => ?_
    have r1 := hFu.fi.rng c hc
    have r2 := hFu.fi.rng c' hc'
    have := hFu.fi.inj c c' hc hc' (by omega)
    omega
  · have r := hFu.fi.rng c' hc'
    rw [hbt _ (by omega)]
    exact hFu.us c' hc'
/-- a data block that was there is as it was behind lay -/
theorem Ex.data {B0 DA NB : Nat} {Y Y1 : Nat → Nat → Int} {S S1 : Nat → Bool} {b b1 : Nat → Nat} (hB : B0 < DA) (k : Ex B0 DA NB Y S b Y1 S1 b1) (rng : ∀ c, S1 c = true → 1 ≤ b1 c ∧ b1 c ≤ NB) (inj : ∀ c c', S1 c = true → S1 c' = true → b1 c = b1 c' → c = c')
    (c : Nat) (hc : S c = true) (hcd : c < 2000) : Y1 (DA + (b1 c - 1)) = Y (DA + (b c - 1)) := by
  rw [k.y _ (by omega) fun c' hc' ho he => ?_, k.b c hc]
  have r1 := rng c (k.n c hc)
  have r2 := rng c' hc'
  obtain rfl := inj c c' (k.n c hc) hc' (by omega)
  rcases ho with ho | ho
  · omega
  · rw [hc] at ho
    cases ho
/-- the bytes behind one step of a write -/
theorem ct_step {B0 DA NB : Nat} {Y Y1 : Nat → Nat → Int} {S1 : Nat → Bool} {b b1 : Nat → Nat} {f1 : Nat → Int} (hB : B0 < DA) (n : Nat) (k : Ex B0 DA NB Y (ndS n) b Y1 S1 b1) (hFu : Fu B0 DA NB Y1 f1 S1 b1) (off j mn : Nat) (s : Nat → Int) (hc : (off + j) / 64 < 256) (hS1 : S1 = ndS (max n ((off + j) / 64 + 1))) (ho : off + j ≤ 64 * n) (hmn : (off + j) % 64 + mn ≤ 64)
    (C : Nat → Int) (hC : ∀ i, 64 * n ≤ i → C i = 0) (hct : ∀ i, i < 64 * n → i < 16384 → ctF DA Y b i = if off ≤ i ∧ i < off + j then s (i - off) else C i) :
    ∀ i, i < 64 * (max n ((off + j) / 64 + 1)) → i < 16384 → ctF DA (vput (DA + (b1 ((off + j) / 64) - 1)) (upd (Y1 (DA + (b1 ((off + j) / 64) - 1))) ((off + j) % 64) mn (fun i => s (j + i))) Y1) b1 i = if off ≤ i ∧ i < off + (j + mn) then s (i - off) else C i := by
  intro i hi hi2
  have hi1 : S1 (i / 64) = true := by
    rw [hS1, ndS_iff]
    omega
  have hc1 : S1 ((off + j) / 64) = true := by
    rw [hS1, ndS_iff]
    omega
  have hold : ∀ i, i < 64 * n → i < 16384 → Y1 (DA + (b1 (i / 64) - 1)) (i % 64) = if off ≤ i ∧ i < off + j then s (i - off) else C i := fun i h1 h2 => by
    rw [k.data hB hFu.fi.rng hFu.fi.inj (i / 64) ((ndS_iff _ _).2 (by omega)) (by omega)]
    exact hct i h1 h2
  have hnew : 64 * n ≤ i → Y1 (DA + (b1 (i / 64) - 1)) (i % 64) = 0 := fun h1 => by
    rw [k.z (i / 64) hi1 ((ndS_no _ _).2 (by omega)) (by omega)]
  unfold ctF
  by_cases e : i / 64 = (off + j) / 64
  · rw [e, vput_at]
    unfold upd
    by_cases h1 : (off + j) % 64 ≤ i % 64 ∧ i % 64 < (off + j) % 64 + mn
    · rw [if_pos h1, if_pos (by omega)]
      show s (j + (i % 64 - (off + j) % 64)) = s (i - off)
      congr 1
      omega
    · rw [if_neg h1, ← e]
      by_cases h2 : i < 64 * n
      · rw [hold i h2 hi2]
        by_cases h3 : off ≤ i ∧ i < off + j
        · rw [if_pos h3, if_pos (by omega)]
        · rw [if_neg h3, if_neg (by omega)]
      · rw [hnew (by omega), if_neg (by omega), hC i (by omega)]
  · have hz : DA + (b1 ((off + j) / 64) - 1) ≠ DA + (b1 (i / 64) - 1) := fun he => by
      have r1 := hFu.fi.rng _ hi1
      have r2 := hFu.fi.rng _ hc1
      exact e (hFu.fi.inj _ _ hi1 hc1 (by omega))
    rw [vput_ne _ _ hz]
    have h2 : i < 64 * n := by omega
    rw [hold i h2 hi2]
    by_cases h3 : off ≤ i ∧ i < off + j
    · rw [if_pos h3, if_pos (by omega)]
    · rw [if_neg h3, if_neg (by omega)]
end Go.Proofs.YtbnpgkclnebnmaaGreat

namespace Go.Proofs.YtbnpgkclnebnmaaGreat
set_option linter.unusedSimpArgs false
set_option linter.unusedVariables false
open Go.RowKit Go.Maps

/-- a node's length -/
def setZ (f : Nat → Int) (z : Int) : Nat → Int := fun i => if i = 3 then z else f i
theorem setZ_ok {f : Nat → Int} (h : NdOk f) {z : Int} (h0 : 0 ≤ z) (h1 : z < 4294967296) : NdOk (setZ f z) :=
  ⟨h.k, h.l, h.g, ⟨h0, h1⟩, fun i hi hi2 => by
    unfold setZ
    rw [if_neg (by omega)]
    exact h.p i hi hi2⟩
theorem bdc_setZ (q : Nat) (f : Nat → Int) (z : Int) : (bdc q f).set (1 + 3) (.int .u32 z) = bdc q (setZ f z) := rfl
/-- a node that ends up the same is in the table -/
theorem Tab.same {P0 M : Nat} {Y V : Nat → Nat → Int} (h : Tab P0 M Y V) (n : Nat) (f : Nat → Int) (hf : NdOk f) (he : ∀ i, i < 12 → V n i = f i) : Tab P0 M Y (vput n f V) := fun k k1 k2 => by
  obtain ⟨g1, g2, g3⟩ := h k k1 k2
  by_cases e : n = k
  · subst e
    rw [vput_at]
    refine ⟨fun j hj => ?_, hf, by rw [← code_congr he]; exact g3⟩
    rw [g1 j hj]
    unfold encF
    have hz := fun i hi => he i hi
    by_cases a0 : j = 0
    · rw [if_pos a0, if_pos a0]; exact he 0 (by omega)
    · rw [if_neg a0, if_neg a0]
      by_cases a1 : j = 1
      · rw [if_pos a1, if_pos a1]; exact he 1 (by omega)
      · rw [if_neg a1, if_neg a1]
        by_cases a2 : j < 4
        · rw [if_pos a2, if_pos a2, he 2 (by omega)]
        · rw [if_neg a2, if_neg a2]
          by_cases a3 : j < 8
          · rw [if_pos a3, if_pos a3, he 3 (by omega)]
          · rw [if_neg a3, if_neg a3]
            by_cases a4 : j < 24
            · rw [if_pos a4, if_pos a4, he _ (by omega)]
            · rw [if_neg a4, if_neg a4]
  · rw [vput_ne _ _ e]
    exact ⟨g1, g2, g3⟩
/-- what is asked of a source of bytes -/
def Src (w : World) (v : Value) (n : Nat) (s : Nat → Int) (L : List Nat) : Prop := ∃ p cap, v = .slice p n cap ∧ n ≤ cap ∧ cap ≤ maxLen ∧ (0 < n → ∃ sb so, p = some ⟨sb, so, none⟩ ∧ Sb w sb so n s ∧ sb ∉ L)
theorem Vl.node {w : World} {b q : Nat} {f : Nat → Int} (h : Vl w b (bdc q f)) : w.rangeAt b 1 (ndc f) := fun j v hj => by
  rw [Nat.add_comm 1 j]
  exact h.c (j + 1) v hj
theorem Bo.start {w0 w : World} {b q p t m d gg lab B0 NB N K : Nat} {ln : Lm} {g : Cf.Ge} {Y : Nat → Nat → Int} {f : Nat → Int} (h0 : ∀ a ∈ [q, p, t, m, d, gg], a < w0.heap.size) (hb : w0.heap.size ≤ b) (hG : Gr w q p t m d gg lab g B0 NB N ln Y K) (hV : Vl w b (bdc q f)) : Bo w w b q p t m d gg lab g B0 NB N ln Y K f := by
  refine ⟨hG, hV, fun ha => ?_, Kf.refl _ _, fun a ha => ?_⟩
  · have := h0 b ha
    omega
  · obtain ⟨l1, l2, l3, l4, l5, l6⟩ := hG.lts
    have l7 := hV.lt
    simp only [List.mem_cons, List.not_mem_nil, or_false] at ha
    rcases ha with rfl | rfl | rfl | rfl | rfl | rfl | rfl <;> assumption
theorem Src.keep {w w' : World} {v : Value} {n : Nat} {s : Nat → Int} {L : List Nat} (h : Src w v n s L) (hb : Below w.heap.size w w') : Src w' v n s L := by
  obtain ⟨p, cap, h1, h2, h3, h4⟩ := h
  exact ⟨p, cap, h1, h2, h3, fun hn => by
    obtain ⟨sb, so, e, hs, hl⟩ := h4 hn
    exact ⟨sb, so, e, hs.keep hb, hl⟩⟩
theorem Src.kf {w w' : World} {v : Value} {n : Nat} {s : Nat → Int} {L L' : List Nat} (h : Src w v n s L) (hk : Kf w w' L') (hl' : ∀ a ∈ L', a ∈ L ∨ w.heap.size ≤ a) : Src w' v n s L := by
  obtain ⟨p, cap, h1, h2, h3, h4⟩ := h
  exact ⟨p, cap, h1, h2, h3, fun hn => by
    obtain ⟨sb, so, e, hs, hl⟩ := h4 hn
    exact ⟨sb, so, e, hs.kf hk fun ha => (hl' sb ha).elim hl (fun hh => by have := hs.lt; omega), hl⟩⟩
theorem Wx.lay {B0 DA NB : Nat} {Y0 Y Y1 : Nat → Nat → Int} {S0 S S1 : Nat → Bool} {b0 b b1 : Nat → Nat} (h : Wx B0 DA NB Y0 S0 b0 Y S b) (k : Ex B0 DA NB Y S b Y1 S1 b1) (rng : ∀ c, S1 c = true → 1 ≤ b1 c ∧ b1 c ≤ NB) : Wx B0 DA NB Y0 S0 b0 Y1 S1 b1 := by
  refine ⟨fun c' hc' => k.n c' (h.n c' hc'), fun c' hc' => (k.b c' (h.n c' hc')).trans (h.b c' hc'), fun z hz hf => ?_, fun j hj => ?_, fun c' hc' hn => ?_⟩
  · rw [k.y z hz fun c' hc' _ => hf c' hc']
    refine h.y z hz fun c' hc' => ?_
    have := hf c' (k.n c' hc')
    rwa [k.b c' hc'] at this
  · rw [k.u j hj, h.u j hj]
    constructor
    · rintro ((h1 | ⟨c', h1, h2, h3⟩) | ⟨c', h1, h2, h3⟩)
      · exact .inl h1
      · exact .inr ⟨c', k.n c' h1, h2, (k.b c' h1).trans h3⟩
      · refine .inr ⟨c', h1, ?_, h3⟩
        cases hh : S0 c'
        · rfl
        · rw [h.n c' hh] at h2
          cases h2
    · rintro (h1 | ⟨c', h1, h2, h3⟩)
      · exact .inl (.inl h1)
      · cases hh : S c'
        · exact .inr ⟨c', h1, hh, h3⟩
        · exact .inl (.inr ⟨c', hh, h2, (k.b c' hh).symm.trans h3⟩)
  · cases h1 : S c'
    · have hf := k.fr c' hc' h1
      have r := rng c' hc'
      cases hh : bt Y0 B0 (b1 c' - 1)
      · rfl
      · rw [(h.u (b1 c' - 1) (by omega)).2 (.inl hh)] at hf
        cases hf
    · rw [k.b c' h1]
      exact h.fr c' h1 hn
theorem Fi.ptr {DA NB : Nat} {Y : Nat → Nat → Int} {f : Nat → Int} {S : Nat → Bool} {b : Nat → Nat} (h : Fi DA NB Y f S b) (hN : NB ≤ 512) (i : Nat) (h4 : 4 ≤ i) (h12 : i < 12) : 0 ≤ f i ∧ f i < 65536 := by
  obtain ⟨c, hc, rfl⟩ : ∃ c, isR c = true ∧ rtI c = i := by
    by_cases e : i < 10
    · refine ⟨i - 4, (isR_iff _).2 (by omega), ?_⟩
      unfold rtI
      rw [if_neg (by omega), if_neg (by omega)]
      omega
    · by_cases e2 : i = 10
      · exact ⟨2000, rfl, by rw [e2]; rfl⟩
      · have e3 : i = 11 := by omega
        exact ⟨2001, rfl, by rw [e3]; rfl⟩
  rw [h.root c hc]
  by_cases hs : b c = b c ∧ S c = true
  · rw [if_pos hs.2]
    have := h.rng c hs.2
    omega
  · rw [if_neg (fun h => hs ⟨rfl, h⟩)]
    omega
theorem ndS_mono {n n' : Nat} (h : n ≤ n') (c : Nat) (hc : ndS n c = true) : ndS n' c = true := by
  rw [ndS_iff] at hc ⊢
  omega
set_option maxHeartbeats 80000000 in
set_option maxRecDepth 200000 in
theorem fwrite_in (q p t m d gg lab B0 P0 M DA NB N K TB : Nat) (g : Cf.Ge) (Y0 V : Nat → Nat → Int) (b0 : Nat → Nat) (L : List Nat) (D : Nat → Nat → Int) (hL : L.length ≤ 28) (num : Nat) (hTB : TB = P0 + (num - 1) / 2) (h1 : 1 ≤ num) (h2 : num ≤ M) (hkd : ¬ V num 0 = 0) (hlk : 0 < V num 1) (sz : Nat) (hsz : V num 3 = sz)
    (hFu : Fu B0 DA NB Y0 (V num) (ndS ((sz + 63) / 64)) b0) (hI : Tab P0 M Y0 V) (hK : K < 260000000) (hg : GG g B0 P0 M DA NB N) (w : World) (h : Gr w q p t m d gg lab g B0 NB N ⟨dl B0 TB DA b0 (ndS ((sz + 63) / 64)) L, D⟩ Y0 K)
    (off len : Nat) (ho : off ≤ sz) (hl : len ≤ 1300) (hol : off + len ≤ 16384) (hsz2 : sz ≤ 16384) (hmb : mbl (V num 0) (max sz (off + len) : Nat) = true) (hcL : ∀ c, off / 64 ≤ c → 64 * c < off + len → ∀ i, i ≤ lenC c → chS c i ∈ L)
    (v : Value) (s : Nat → Int) (hs : ∀ j, j < len → 0 ≤ s j ∧ s j < 256) (hv : Src w v len s [t, m, d, gg]) :
    Calls Tryz.prog 35 #[.pointer (some ⟨q, 0, none⟩), .int .i64 num, .int .i64 off, v] w fun e w' =>
      (∃ (Y : Nat → Nat → Int) (f : Nat → Int) (B : Nat → Nat), e = .returned (.int .i64 0) ∧ Gr w' q p t m d gg lab g B0 NB N ⟨dl B0 TB DA B (ndS ((max sz (off + len) + 63) / 64)) L, D⟩ Y (K + 25000) ∧ Kf w w' [t, m, d, gg] ∧ Tab P0 M Y (vput num f V) ∧ Fu B0 DA NB Y f (ndS ((max sz (off + len) + 63) / 64)) B ∧ f 0 = V num 0 ∧ f 1 = V num 1 ∧ f 2 = V num 2 ∧ f 3 = (max sz (off + len) : Nat)
        ∧ (∀ c, ndS ((sz + 63) / 64) c = true → B c = b0 c) ∧ (∀ z, z ≠ B0 → z ≠ TB → (∀ c, ndS ((max sz (off + len) + 63) / 64) c = true → z ≠ DA + (B c - 1)) → Y z = Y0 z)
        ∧ (∀ j, j < NB → (bt Y B0 j = true ↔ bt Y0 B0 j = true ∨ ∃ c, ndS ((max sz (off + len) + 63) / 64) c = true ∧ ndS ((sz + 63) / 64) c = false ∧ B c = j + 1))
        ∧ (∀ c, ndS ((max sz (off + len) + 63) / 64) c = true → ndS ((sz + 63) / 64) c = false → bt Y0 B0 (B c - 1) = false)
        ∧ (∀ i, i < 64 * ((max sz (off + len) + 63) / 64) → ctF DA Y B i = if off ≤ i ∧ i < off + len then s (i - off) else if i < 64 * ((sz + 63) / 64) then ctF DA Y0 b0 i else 0)) ∨
      (∃ (Y : Nat → Nat → Int) (ln : Lm) (B : Nat → Nat) (n : Nat → Bool), e = .returned (.int .i64 10) ∧ ln.D = D ∧ Gr w' q p t m d gg lab g B0 NB N ln Y (K + 25000) ∧ Kf w w' [t, m, d, gg] ∧ (∀ j, j < NB → bt Y B0 j = true) ∧ (∀ c, n c = true → ndS ((max sz (off + len) + 63) / 64) c = true) ∧ (∃ c, n c = false ∧ ndS ((max sz (off + len) + 63) / 64) c = true)
        ∧ (∀ c, ndS ((sz + 63) / 64) c = true → n c = true ∧ B c = b0 c) ∧ (∀ c c', n c = true → n c' = true → B c = B c' → c = c') ∧ (∀ c, n c = true → 1 ≤ B c ∧ B c ≤ NB)
        ∧ (∀ j, j < NB → (bt Y B0 j = true ↔ bt Y0 B0 j = true ∨ ∃ c, n c = true ∧ ndS ((sz + 63) / 64) c = false ∧ B c = j + 1)) ∧ (∀ c, n c = true → ndS ((sz + 63) / 64) c = false → bt Y0 B0 (B c - 1) = false)) := by
  obtain ⟨n0, hn0⟩ : ∃ n0, (sz + 63) / 64 = n0 := ⟨_, rfl⟩
  obtain ⟨n1, hn1⟩ : ∃ n1, (max sz (off + len) + 63) / 64 = n1 := ⟨_, rfl⟩
  have hn01 : n0 ≤ 256 ∧ sz ≤ 64 * n0 ∧ n0 ≤ n1 ∧ n1 ≤ 256 := by omega
  have HN1 : Hid (max n0 ((off + len + 63) / 64) = n1) := Lib.hid (by omega)
  rw [hn0] at h hFu
  rw [hn0, hn1]
  have HN0 := Lib.hid hn0
  clear hn0 hn1
  obtain ⟨d27, hu, hd⟩ := Tryz.desc27
  have HU := Lib.hid hu
  have HD := Lib.hid hd
  have HO := Lib.hid (fopen_in (ln := ⟨dl B0 TB DA b0 (ndS n0) L, D⟩) q p t m d gg lab B0 P0 M DA NB N K g Y0 V num h1 h2 hkd (by omega) hI hg w h)
  obtain ⟨f0, hf⟩ : ∃ f, V num = f := ⟨_, rfl⟩
  rw [hf] at HO hsz hFu hmb hlk hkd ⊢
  have hNd : NdOk f0 := by rw [← hf]; exact (hI num h1 h2).2.1
  have HSz := Lib.hid (fun b q W hW => size_any b q f0 (by omega) (by omega) W hW)
  rw [hsz] at HSz
  have HPUT := Lib.hid (fun b K' Y f S B hFu' o ho' hcL' sb so n' cap' s' hs' hn hn2 hK' W hW hsb hsn => put_any8 b q p t m d gg lab B0 P0 M DA NB N K' TB g Y f S B L D hL hFu' o ho' hcL' sb so n' cap' s' hs' hn hn2 hK' hg W hW hsb hsn)
  have HSET := Lib.hid (fun ln K' Y f hf' hc hT hK' W hW => gset_in (ln := ln) q p t m d gg lab B0 P0 M DA NB N K' g Y f hf' hc num h1 h2 hT hK' hg W hW)
  have HEQ := Lib.hid (fun f' hf' W => eq27 f' f0 hf' hNd W)
  have hD : B0 < DA := by have := hg.bp; have := hg.pd; omega
  have hTBl : P0 ≤ TB ∧ TB < DA := by have := hg.pd; omega
  have hB0P : B0 < P0 := hg.bp
  have hN5 := hg.n512
  have HI := Lib.hid hI
  have HFu := Lib.hid hFu
  have HMb := Lib.hid hmb
  have Hlk := Lib.hid hlk
  have HCL := Lib.hid hcL
  have Hs := Lib.hid hs
  have HV0 := Lib.hid hv
  have HNd := Lib.hid hNd
  have HF := Lib.hid hf
  have HSZ := Lib.hid hsz
  have HTB := Lib.hid hTB
  have HNUM : Hid (1 ≤ num ∧ num ≤ M) := Lib.hid ⟨h1, h2⟩
  have HG14 : Hid (P0 + (M + 1) / 2 ≤ DA) := Lib.hid hg.pd
  have h0lt : ∀ a ∈ [q, p, t, m, d, gg], a < w.heap.size := fun a ha => by
    obtain ⟨l1, l2, l3, l4, l5, l6⟩ := h.lts
    simp only [List.mem_cons, List.not_mem_nil, or_false] at ha
    rcases ha with rfl | rfl | rfl | rfl | rfl | rfl <;> assumption
  have H0 := Lib.hid h0lt
  have hs0 : (0 : Int) ≤ sz := by omega
  have hs1 : (sz : Int) ≤ 16384 := by omega
  obtain ⟨zi, hzi⟩ : ∃ z : Int, (sz : Int) = z := ⟨_, rfl⟩
  rw [hzi] at HSz
  have HZI := Lib.hid hzi
  have hz0 : 0 ≤ zi := by omega
  have hz1 : zi ≤ 16384 := by omega
  have ho0 : (0 : Int) ≤ off := by omega
  have hoz : (off : Int) ≤ zi := by omega
  have hll : (len : Int) ≤ 16384 - off := by omega
  have hl0 : (0 : Int) ≤ len := by omega
  have hl1 : (len : Int) ≤ 1300 := by omega
  have hmaxz : Hid (max sz (off + len) ≤ 16384) := Lib.hid (by omega)
  obtain ⟨pv, cap, rfl, hcap, hcm, -⟩ := hv
  clear hu hd h1 h2 hkd hlk hsz hFu hI hg h hmb hcL hs hf hTB h0lt hNd hzi hs0 hs1
  unfold maxLen at hcm
  go_enter Tryz.func35, Tryz.ntmps35
  go_wp2_with fail
  refine HO.out.mono ?_
  rintro e w1 ⟨b, rfl, hb, hG, hVb, hk⟩
  have HB1 := Lib.hid (Bo.start H0.out hb hG hVb)
  have HK1 := Lib.hid hk
  have HV1 := Lib.hid (HV0.out.kf hk (fun a ha => .inl ha))
  have HSl : Hid (0 < len → ∃ sb so, pv = some ⟨sb, so, none⟩ ∧ sb < w.heap.size) := Lib.hid (fun hn => by
    obtain ⟨p', cap', e, -, -, h4⟩ := HV0.out
    obtain ⟨sb, so, e2, hs2, hl2⟩ := h4 hn
    injection e with e3 e4 e5
    exact ⟨sb, so, e3.trans e2, hs2.lt⟩)
  have HS1 := Lib.hid (HSz.out b q w1 hVb)
  have hbw := hVb.lt
  clear hG hVb hk HO HSz HV0
  have h0' : decide ((off : Int) < 0) = false := decide_eq_false (by omega)
  have h0d : decide (zi < (off : Int)) = false := decide_eq_false (by omega)
  have h0e : decide (16384 - (off : Int) < (len : Int)) = false := decide_eq_false (by omega)
  go_wp2_with fail
  refine HS1.out.mono ?_
  rintro e wz ⟨rfl, hwz⟩
  rw [hwz]
  clear hwz HS1
  have HR1 := Lib.hid HB1.out.bd.node
  go_upto_region 9 with (first | (refine wpList_load_mid rfl 68 _ rfl b 1 rfl (ndc f0) d27 HR1.out HU.out HD.out (size27 _) ?_) | (refine wpList_alloc_list (w := w1) rfl 68 rfl (ndc zpt) Tryz.zero27 ?_; intro w4 F4 hb4 hz4; simp only [Act.put, List.getElem_toArray, List.getElem_cons_zero, List.getElem_cons_succ, List.setIfInBounds_toArray, List.set_cons_zero, List.set_cons_succ]; refine wpList_store_list rfl 68 (.tmp 11) (.tmp 39) rfl w1.heap.size (ndc zpt) (ndc f0) rfl rfl F4.out rfl (size27 _) (ndc_one _) ?_; intro w5 F5 HK5; have HQ4 := Lib.hid hb4; clear hb4 F4))
  obtain ⟨bW, hbW⟩ : ∃ x, w1.heap.size = x := ⟨_, rfl⟩
  have hW0 : w1.heap.size ≤ bW := Nat.le_of_eq hbW
  have HB5 := Lib.hid ((HB1.out.keep HQ4.out).new HK5.out (Nat.le_refl _))
  have HV5 : Hid (0 < len → ∃ sb so, pv = some ⟨sb, so, none⟩ ∧ Sb w5 sb so len s ∧ sb ∉ [t, m, d, gg, b]) := Lib.hid (fun hn => by
    obtain ⟨p', cap', e, -, -, h4⟩ := HV1.out
    obtain ⟨sb, so, e2, hs2, hl2⟩ := h4 hn
    injection e with e3 e4 e5
    refine ⟨sb, so, e3.trans e2, (hs2.keep HQ4.out).kp HK5.out (by have := hs2.lt; omega), fun ha => ?_⟩
    simp only [List.mem_cons, List.not_mem_nil, or_false] at ha hl2
    obtain ⟨sb', so', e6, hsl⟩ := HSl.out hn
    have e7 := e6.symm.trans (e3.trans e2)
    injection e7 with e8
    injection e8 with e9 e10
    omega)
  rw [hbW] at F5
  try rw [hbW]
  clear HK5 HQ4 HB1 hbW hz4 HR1 HV1
  simp only [Act.put]
  go_loopw [2, 3, 12, 13] (fun x2 x3 _ _ wr => ∃ j o : Nat, j ≤ len ∧ Hid (off + j = o) ∧ x2 = .int .i64 o ∧ (∃ lj pj cj, Hid (len - j = lj) ∧ x3 = .slice pj lj cj ∧ lj ≤ cj ∧ cj ≤ 9223372036854775807 ∧ (0 < lj → ∃ sb so, pj = some ⟨sb, so, none⟩ ∧ Sb wr sb so lj (fun i => s (j + i)) ∧ sb ∉ [t, m, d, gg, b])) ∧ (∃ Y f B n k, Bo w1 wr b q p t m d gg lab g B0 NB N ⟨dl B0 TB DA B (ndS n) L, D⟩ Y (K + 1 + 1001 * k) f ∧ Fu B0 DA NB Y f (ndS n) B ∧ Wx B0 DA NB Y0 (ndS n0) b0 Y (ndS n) B ∧ (∀ i, i < 64 * n → i < 16384 → ctF DA Y B i = if off ≤ i ∧ i < off + j then s (i - off) else if i < 64 * n0 then ctF DA Y0 b0 i else 0) ∧ (∀ i, i < 4 → f i = f0 i) ∧ n = max n0 ((off + j + 63) / 64) ∧ k ≤ (off + j + 63) / 64 - off / 64 ∧ (j = 0 ∧ k = 0 ∨ (off + j) % 64 = 0 ∨ j = len)) ∧ Vl wr bW (ndc f0)) (fun x2 _ _ _ _ => off + len - (Go.RowKit.intOf x2).toNat)
  case atStart =>
    refine ⟨0, off, Nat.zero_le _, Lib.hid rfl, rfl, ⟨len, pv, cap, Lib.hid rfl, rfl, hcap, by omega, fun hn => ?_⟩, ⟨Y0, f0, b0, n0, 0, HB5.out, HFu.out, Wx.refl _ _ _ _ _ _, fun i h1 h2 => by rw [if_neg (by omega), if_pos h1], fun _ _ => rfl, by omega, Nat.zero_le _, .inl ⟨rfl, rfl⟩⟩, F5.out⟩
    obtain ⟨sb, so, e1, e2, e3⟩ := HV5.out hn
    refine ⟨sb, so, e1, ?_, e3⟩
    simpa using e2
  case round =>
    obtain ⟨j, o, hj, HOj, rfl, ⟨lj, pj, cj, HLj, rfl, hlc, hcj, hsrc⟩, ⟨Y, f, B, n, k, hB, hFu', hWx, hct, hf4, hn, hk, hj3⟩, hFw⟩ := hrel
    have HSr := Lib.hid hsrc
    have HBr := Lib.hid hB
    have HFr := Lib.hid hFu'
    have HWr := Lib.hid hWx
    have HCr := Lib.hid hct
    have Hf4 := Lib.hid hf4
    have HFw := Lib.hid hFw
    have hoj := HOj.out
    have hlj := HLj.out
    have HNn := Lib.hid hn
    have hnb : n ≤ 256 ∧ o ≤ 64 * n := by omega
    have hk20 : k ≤ 22 := by omega
    clear hsrc hB hFu' hWx hct hf4 hFw hn HV5 HB5 F5
    by_cases hlt : 0 < lj
    · obtain ⟨sb, so, rfl, hsb, hsn⟩ := HSr.out hlt
      have hjl : j < len := by omega
      have hPu := HPUT.out b (K + 1 + 1001 * k) Y f (ndS n) B HFr.out o (by omega) (HCL.out (o / 64) (by omega) (by omega)) sb so lj cj (fun i => s (j + i)) (fun i hi => Hs.out _ (by omega)) hlt (by omega) (by omega) wr HBr.out.self hsb hsn
      have HSc1 := Lib.hid (ndS_grow n (o / 64) (by omega) (by omega))
      have hr : o % 64 < 64 := Nat.mod_lt _ (by decide)
      obtain ⟨mn, hmn⟩ : ∃ mn, Nat.min lj (64 - o % 64) = mn := ⟨_, rfl⟩
      have hmn1 : mn ≤ lj ∧ mn ≤ 64 - o % 64 ∧ 0 < mn ∧ (mn = lj ∨ mn = 64 - o % 64) := by
        have : Nat.min lj (64 - o % 64) = min lj (64 - o % 64) := rfl
        omega
      rw [hmn] at hPu
      have HPu := Lib.hid hPu
      have HSb := Lib.hid hsb
      have HSn := Lib.hid hsn
      have hl0' : (0 : Int) < lj := by omega
      have hm0 : (0 : Int) ≤ mn := by omega
      have hm1 : (mn : Int) ≤ lj := by omega
      have hm2 : (mn : Int) ≤ 64 := by omega
      have hoi0 : (0 : Int) ≤ o := by omega
      have hoi1 : (o : Int) ≤ 16384 := by omega
      clear hPu hsb hsn hmn hoj hlj
      go_wp2_with fail
      refine HPu.out.mono ?_
      rintro e w6 (⟨Y1, f1, S1, B1, rfl, hB6, hLy, hSc, hf41⟩ | ⟨Y1, f1, S1, B1, rfl, hB6, hLy, hSc, hall, hno⟩)
      · have HB6 := Lib.hid (HBr.out.trans hB6)
        have HLy := Lib.hid hLy
        have HSc := Lib.hid hSc
        have Hf41 := Lib.hid hf41
        have hwn : bW ∉ [t, m, d, gg, b] := fun ha => by
          have := HBr.out.nin hW0
          simp only [List.mem_cons, List.not_mem_nil, or_false, not_or] at this ha
          omega
        have HSb6 := Lib.hid (HSb.out.kf hB6.kf HSn.out)
        have HFw6 := Lib.hid (HFw.out.kf hB6.kf hwn)
        clear hB6 hLy hSc hf41 hwn HPu HBr HFw
        have HSt : Hid (∃ Y f B n k, Bo w1 w6 b q p t m d gg lab g B0 NB N ⟨dl B0 TB DA B (ndS n) L, D⟩ Y (K + 1 + 1001 * k) f ∧ Fu B0 DA NB Y f (ndS n) B ∧ Wx B0 DA NB Y0 (ndS n0) b0 Y (ndS n) B ∧ (∀ i, i < 64 * n → i < 16384 → ctF DA Y B i = if off ≤ i ∧ i < off + (j + mn) then s (i - off) else if i < 64 * n0 then ctF DA Y0 b0 i else 0) ∧ (∀ i, i < 4 → f i = f0 i) ∧ n = max n0 ((off + (j + mn) + 63) / 64) ∧ k ≤ (off + (j + mn) + 63) / 64 - off / 64 ∧ (j + mn = 0 ∧ k = 0 ∨ (off + (j + mn)) % 64 = 0 ∨ j + mn = len)) := by
          have hoj := HOj.out
          have hnn2 := HNn.out
          have hS1 : S1 = ndS (max n (o / 64 + 1)) := HSc1.out S1 HSc.out
          have hcS : S1 (o / 64) = true := by
            rw [hS1, ndS_iff]
            omega
          have hst := Wx.step hD hN5 HWr.out HLy.out.ex HLy.out.fu (o / 64) hcS (by omega) (upd (Y1 (DA + (B1 (o / 64) - 1))) (o % 64) mn (fun i => s (j + i)))
          have hcc := ct_step hD n HLy.out.ex HLy.out.fu off j mn s (by omega) (by rw [hoj]; exact hS1) (by omega) (by omega) (fun i => if i < 64 * n0 then ctF DA Y0 b0 i else 0) (fun i hi => if_neg (by omega)) HCr.out
          rw [hoj] at hcc
          have hB := HB6.out
          rw [hS1] at hst hB
          have hlj := HLj.out
          refine Lib.hid ⟨_, f1, B1, max n (o / 64 + 1), k + 1, hB.mono (Lm.le_refl _) (by omega), hst.2, hst.1, hcc, fun i hi => (Hf41.out i hi).trans (Hf4.out i hi), ?_, ?_, ?_⟩
          · have := HNn.out
            omega
          · omega
          · omega
        have hlj := HLj.out
        have hoj := HOj.out
        by_cases hcc : cj = mn
        · have HCC := Lib.hid hcc
          go_wp2_with fail
          go_roundw
          case rel =>
            refine ⟨j + mn, o + mn, by omega, Lib.hid (by omega), by go_num, ⟨lj - mn, _, _, Lib.hid (by omega), rfl, by omega, by omega, fun hh => by omega⟩, HSt.out, HFw6.out⟩
          case measure => simp [Go.RowKit.intOf]; omega
        · go_wp2_with fail
          go_roundw
          case rel =>
            refine ⟨j + mn, o + mn, by omega, Lib.hid (by omega), by go_num, ⟨lj - mn, _, _, Lib.hid (by omega), rfl, by omega, by omega, fun hh => ⟨sb, so + mn, rfl, ?_, HSn.out⟩⟩, HSt.out, HFw6.out⟩
            have := HSb6.out.drop mn
            simpa [Nat.add_assoc] using this
          case measure => simp [Go.RowKit.intOf]; omega
      · have hB7 := HBr.out.trans hB6
        have hj2 := HOj.out
        have hlj := HLj.out
        have hn2 := HNn.out
        have hle : n ≤ n1 ∧ o / 64 + 1 ≤ n1 := by
          have := HN1.out
          omega
        have hWx := HWr.out.lay hLy.ex hLy.fu.fi.rng
        have hch : ∀ i, i ≤ lenC (o / 64) → ndS n1 (chS (o / 64) i) = true := fun i hi => by
          have := (chS_cases (o / 64) (by omega) (chS (o / 64) i)).1 ⟨i, hi, rfl⟩
          rw [ndS_iff]
          omega
        have HE : Hid (Gr w6 q p t m d gg lab g B0 NB N ⟨dl B0 TB DA B1 S1 L, D⟩ Y1 (K + 25000) ∧ Kf w w6 [t, m, d, gg] ∧ (∀ j, j < NB → bt Y1 B0 j = true) ∧ (∀ c, S1 c = true → ndS n1 c = true) ∧ (∃ c, S1 c = false ∧ ndS n1 c = true)
            ∧ (∀ c, ndS n0 c = true → S1 c = true ∧ B1 c = b0 c) ∧ (∀ c c', S1 c = true → S1 c' = true → B1 c = B1 c' → c = c') ∧ (∀ c, S1 c = true → 1 ≤ B1 c ∧ B1 c ≤ NB)
            ∧ (∀ j, j < NB → (bt Y1 B0 j = true ↔ bt Y0 B0 j = true ∨ ∃ c, S1 c = true ∧ ndS n0 c = false ∧ B1 c = j + 1)) ∧ (∀ c, S1 c = true → ndS n0 c = false → bt Y0 B0 (B1 c - 1) = false)) := by
          obtain ⟨i, hi, hno'⟩ := hno
          refine Lib.hid ⟨hB7.gr.mono (Lm.le_refl _) (by omega), HK1.out.join hB7.kf (fun a ha => ?_), hall, fun c hc => ?_, ⟨_, hno', hch i hi⟩, fun c hc => ⟨hWx.n c hc, hWx.b c hc⟩, hLy.fu.fi.inj, hLy.fu.fi.rng, hWx.u, hWx.fr⟩
          · simp only [List.mem_cons, List.not_mem_nil, or_false] at ha ⊢
            omega
          · rcases hSc c hc with h | ⟨i, hi, rfl⟩
            · exact ndS_mono hle.1 c h
            · exact hch i hi
        clear hB7 hWx hch hle hno hall hSc hLy hB6 hj2 hlj hn2 HPu HBr
        go_wp2_with fail
        go_ret
        exact .inr ⟨Y1, _, B1, S1, rfl, rfl, HE.out⟩
    · obtain rfl : lj = 0 := by omega
      have c4 := HBr.out.bd.c 4 _ rfl
      have z4 := HBr.out.bd.z 4 (by show 4 < 13; decide)
      have hf3 : f 3 = zi := by rw [Hf4.out 3 (by decide), HSZ.out]; exact HZI.out
      rw [hf3] at c4
      have hoi0 : (0 : Int) ≤ o := by omega
      have hoi1 : (o : Int) ≤ 16384 := by omega
      obtain ⟨oi, hoi⟩ : ∃ z : Int, (o : Int) = z := ⟨_, rfl⟩
      rw [hoi] at hoi0 hoi1 ⊢
      have HOI := Lib.hid hoi
      have HF3 := Lib.hid hf3
      clear hf3 hoi hoj hlj hj3 hnb hk20
      obtain ⟨mx, hmx⟩ : ∃ z, max zi oi = z := ⟨_, rfl⟩
      have hmx0 : 0 ≤ mx ∧ mx ≤ 16384 := by omega
      go_upto_region 16 with fail
      try rw [hmx]
      have HB6 := Lib.hid (HBr.out.set 3 (by decide) (.int .u32 mx) (setZ f mx) (bdc_setZ q f mx))
      have hk6 : Kp wr (wr.setCell ⟨b, 1 + 3, none⟩ (.int .u32 mx)) b b := (Kp.refl wr b b).setA (1 + 3) _
      have hne : bW ≠ b := fun e => by
        have := HBr.out.nin hW0
        simp only [List.mem_cons, List.not_mem_nil, or_false, not_or] at this
        omega
      have HFw6 := Lib.hid (HFw.out.kp hk6 hne hne)
      obtain ⟨w6, hw6⟩ : ∃ x, wr.setCell ⟨b, 1 + 3, none⟩ (.int .u32 mx) = x := ⟨_, rfl⟩
      have hw6' : wr.setCell ⟨b, 4, none⟩ (.int .u32 mx) = w6 := hw6
      rw [hw6] at HB6 HFw6
      try rw [hw6']
      clear hw6 hw6' hk6 HBr HFw c4 z4 hne
      have HMX := Lib.hid hmx
      obtain ⟨f6, hf6⟩ : ∃ f', setZ f mx = f' := ⟨_, rfl⟩
      have HF6 : Hid (f6 0 = f0 0 ∧ f6 1 = f0 1 ∧ f6 2 = f0 2 ∧ f6 3 = mx ∧ ∀ i, 4 ≤ i → f6 i = f i) := Lib.hid (by
        rw [← hf6]
        refine ⟨Hf4.out 0 (by decide), Hf4.out 1 (by decide), Hf4.out 2 (by decide), rfl, fun i hi => ?_⟩
        show (if i = 3 then mx else f i) = f i
        rw [if_neg (by omega)])
      rw [hf6] at HB6
      clear hf6 hmx
      have hNd6 : NdOk f6 := by
        obtain ⟨e0, e1, e2, e3, e4⟩ := HF6.out
        refine ⟨by rw [e0]; exact HNd.out.k, by rw [e1]; exact HNd.out.l, by rw [e2]; exact HNd.out.g, by rw [e3]; omega, fun i hi hi2 => ?_⟩
        rw [e4 i hi]
        exact HFr.out.fi.ptr hN5 i hi hi2
      have HNd6 := Lib.hid hNd6
      have hEq := HEQ.out f6 hNd6
      obtain ⟨eb, heb⟩ : ∃ b, eqb 12 f6 f0 = b := ⟨_, rfl⟩
      rw [heb] at hEq
      have HEb := Lib.hid heb
      have HEq := Lib.hid hEq
      clear hNd6 hEq heb HEQ
      have HRn := Lib.hid HB6.out.bd.node
      refine wp_region_held (S := fun W => W.rangeAt b 1 (ndc f6) ∧ W.rangeAt bW 0 (ndc f0)) (by kernel_rfl) ?_
      change wpAnyH _ _ _ _ _ _ _ _ (World.drew _)
      have hS0 : (fun W => W.rangeAt b 1 (ndc f6) ∧ W.rangeAt bW 0 (ndc f0)) w6.drew := ⟨(HB6.out.keep (Below.refl _ _).drew).bd.node, (HFw6.out.keep (Below.refl _ _).drew).range0⟩
      have HB7 := Lib.hid (HB6.out.keep (Below.refl _ _).drew)
      obtain ⟨w7, hw7⟩ : ∃ x, World.drew w6 = x := ⟨_, rfl⟩
      rw [hw7] at hS0 HB7 ⊢
      clear hw7
      refine wpAnyH_take (i := 0) (v := ?_) rfl (by kernel_rfl) (by kernel_rfl) (by kernel_rfl) (fun _ _ _ h => h) (Or.inl ⟨by rfl, ?_⟩) hS0 ?_
      rotate_left 1
      · intro W hW
        go_simp
        try with_reducible rfl
      simp only [Act.put, List.getElem_toArray, List.getElem_cons_zero, List.getElem_cons_succ, List.setIfInBounds_toArray, List.set_cons_zero, List.set_cons_succ]
      refine wpAnyH_take (i := 1) (v := ?_) rfl (by kernel_rfl) (by kernel_rfl) (by kernel_rfl) (fun _ _ _ h => h) (Or.inl ⟨by rfl, ?_⟩) hS0 ?_
      rotate_left 1
      · intro W hW
        go_simp
        try with_reducible rfl
      simp only [Act.put, List.getElem_toArray, List.getElem_cons_zero, List.getElem_cons_succ, List.setIfInBounds_toArray, List.set_cons_zero, List.set_cons_succ]
      refine wpAnyH_take (i := 2) (v := ?_) rfl (by kernel_rfl) (by kernel_rfl) (by kernel_rfl) (fun _ _ _ h => h) (Or.inl ⟨by rfl, ?_⟩) hS0 ?_
      rotate_left 1
      · intro W hW
        go_simp
        try with_reducible rfl
      simp only [Act.put, List.getElem_toArray, List.getElem_cons_zero, List.getElem_cons_succ, List.setIfInBounds_toArray, List.set_cons_zero, List.set_cons_succ]
      refine wpAnyH_take (i := 3) (v := .agg (ndc f6).toArray) rfl (by kernel_rfl) (by kernel_rfl) (by kernel_rfl) (fun _ _ _ h => h) ?_ hS0 ?_
      · exact yieldsIf_load_mid (by rfl) 68 (.tmp 73) rfl b 1 rfl (ndc f6) d27 (fun W hW => hW.1) HU.out HD.out (size27 _)
      simp only [Act.put, List.getElem_toArray, List.getElem_cons_zero, List.getElem_cons_succ, List.setIfInBounds_toArray, List.set_cons_zero, List.set_cons_succ]
      refine wpAnyH_take (i := 4) (v := .agg (ndc f0).toArray) rfl (by kernel_rfl) (by kernel_rfl) (by kernel_rfl) (fun _ _ _ h => h) ?_ hS0 ?_
      · exact yieldsIf_load_mid (by rfl) 68 (.tmp 11) rfl bW 0 rfl (ndc f0) d27 (fun W hW => hW.2) HU.out HD.out (size27 _)
      simp only [Act.put, List.getElem_toArray, List.getElem_cons_zero, List.getElem_cons_succ, List.setIfInBounds_toArray, List.set_cons_zero, List.set_cons_succ]
      refine wpAnyH_take (i := 5) (v := .bool eb) rfl (by kernel_rfl) (by kernel_rfl) (by kernel_rfl) (fun _ _ _ h => h) ?_ hS0 ?_
      · exact yields_eql (by rfl) 68 68 (.tmp 74) (.tmp 75) rfl (ndc f6).toArray (ndc f0).toArray rfl rfl eb Tryz.guard27 (fun W _ => HEq.out W)
      simp only [Act.put, List.getElem_toArray, List.getElem_cons_zero, List.getElem_cons_succ, List.setIfInBounds_toArray, List.set_cons_zero, List.set_cons_succ]
      refine wpAnyH_done (by kernel_rfl) ?_ _
      clear hS0 HRn
      have hoj := HOj.out
      have hlj := HLj.out
      have hjj : j = len := by omega
      have hnn : n = n1 := by rw [HNn.out, hjj]; exact HN1.out
      have hn7 : k ≤ 22 := by
        subst hjj
        omega
      have hB7 := HB7.out
      have hFr := HFr.out
      have hWr := HWr.out
      have hCr := HCr.out
      rw [hnn] at hB7 hFr hWr hCr
      rw [hjj] at hCr
      have HB8 := Lib.hid hB7
      have HCr8 := Lib.hid hCr
      have HWr8 := Lib.hid hWr
      have hFi8 : Fi DA NB Y f6 (ndS n1) B := by
        obtain ⟨-, -, -, -, e4⟩ := HF6.out
        refine ⟨hFr.fi.ok, fun c hc => ?_, hFr.fi.wrd, hFr.fi.cl, hFr.fi.rng, hFr.fi.inj⟩
        rw [e4 _ (rtI_lt c hc).1]
        exact hFr.fi.root c hc
      have HFu8 : Hid (Fu B0 DA NB Y f6 (ndS n1) B) := Lib.hid ⟨hFi8, hFr.us⟩
      have HKf : ∀ W, Kf w1 W [t, m, d, gg, b] → Kf w W [t, m, d, gg] := fun W hk => HK1.out.join hk (fun a ha => by
        simp only [List.mem_cons, List.not_mem_nil, or_false] at ha ⊢
        omega)
      have HKf := Lib.hid HKf
      have hmx3 : Hid (mx = ((max sz (off + len) : Nat) : Int)) := Lib.hid (by
        have := HMX.out
        have := HOI.out
        have := HZI.out
        rw [hjj] at hoj
        omega)
      have hTab : Tab P0 M Y V := HI.out.congr fun x hx1 hx2 => hWr.y x (by omega) fun c hc => by
        have := hFr.fi.rng c hc
        have := HG14.out
        omega
      have HTab := Lib.hid hTab
      have hcode : codeN f6 = 0 := by
        obtain ⟨e0, e1, -, e3, -⟩ := HF6.out
        refine code_of (by rw [e1]; exact Hlk.out) ?_
        rw [e0, e3, hmx3.out]
        exact HMb.out
      have HCode := Lib.hid hcode
      have HTl : Hid (∀ z, z ≠ B0 → (∀ c, ndS n1 c = true → z ≠ DA + (B c - 1)) → Y z = Y0 z) := Lib.hid hWr.y
      have HLast : Hid (f6 0 = f0 0 ∧ f6 1 = f0 1 ∧ f6 2 = f0 2 ∧ f6 3 = ((max sz (off + len) : Nat) : Int)) := Lib.hid (by
        obtain ⟨e0, e1, e2, e3, -⟩ := HF6.out
        exact ⟨e0, e1, e2, e3.trans hmx3.out⟩)
      have HCt : Hid (∀ i, i < 64 * n1 → ctF DA Y B i = if off ≤ i ∧ i < off + len then s (i - off) else if i < 64 * n0 then ctF DA Y0 b0 i else 0) := Lib.hid (fun i hi => hCr i hi (by omega))
      clear hoj hlj hjj hnn hB7 hFr hWr hCr hFi8 hTab hcode HFr HWr HCr HB6 HB7 HFw6 HNn HEq
      cases eb
      · have HRn := Lib.hid HB8.out.bd.node
        have HSe := Lib.hid (HSET.out ⟨dl B0 TB DA B (ndS n1) L, D⟩ (K + 1 + 1001 * k) Y f6 HNd6.out HCode.out ⟨by rw [← HTB.out]; exact List.mem_cons_of_mem _ (List.mem_cons_self ..), Ly.len L hL B0 TB DA B (ndS n1)⟩ (by omega) w7 HB8.out.gr)
        go_wp2_with (refine wpList_load_mid rfl 68 _ rfl b 1 rfl (ndc f6) d27 HRn.out HU.out HD.out (size27 _) ?_)
        refine HSe.out.mono ?_
        rintro e w8 ⟨rfl, hG, hkk⟩
        have HG8 := Lib.hid hG
        have HK8 := Lib.hid ((HKf.out w7 HB8.out.kf).trans hkk)
        clear hG hkk HSe
        go_wp2_with fail
        go_ret
        have hTz : ∀ z, z ≠ TB → tabW P0 num f6 Y z = Y z := fun z hz => tabW_ne P0 num f6 Y z (by rw [← HTB.out]; exact hz)
        have hbt : ∀ j, j < NB → bt (tabW P0 num f6 Y) B0 j = bt Y B0 j := fun j hj => by
          unfold bt
          rw [hTz _ (by omega)]
        have hdt : ∀ c, ndS n1 c = true → tabW P0 num f6 Y (DA + (B c - 1)) = Y (DA + (B c - 1)) := fun c hc => hTz _ (by omega)
        refine .inl ⟨_, f6, B, rfl, HG8.out.mono (Lm.le_refl _) (by omega), HK8.out, ?_, ⟨HFu8.out.fi.congr fun c hc _ => hdt c hc, fun c hc => ?_⟩, HLast.out.1, HLast.out.2.1, HLast.out.2.2.1, HLast.out.2.2.2, fun c hc => HWr8.out.b c hc, fun z hz hz2 hz3 => ?_, fun j hj => ?_, HWr8.out.fr, fun i hi => ?_⟩
        · have := HTab.out.wr num HNUM.out.1 HNUM.out.2 f6 HNd6.out HCode.out
          exact this
        · have := HFu8.out.fi.rng c hc
          rw [hbt _ (by omega)]
          exact HFu8.out.us c hc
        · rw [hTz z hz2]
          exact HTl.out z hz hz3
        · rw [hbt j hj]
          exact HWr8.out.u j hj
        · rw [← HCt.out i hi]
          unfold ctF
          rw [hdt _ ((ndS_iff _ _).2 (by omega))]
      · go_wp2_with fail
        go_ret
        refine .inl ⟨Y, f6, B, rfl, HB8.out.gr.mono (Lm.le_refl _) (by omega), HKf.out w7 HB8.out.kf, ?_, HFu8.out, HLast.out.1, HLast.out.2.1, HLast.out.2.2.1, HLast.out.2.2.2, fun c hc => HWr8.out.b c hc, fun z hz _ hz3 => HTl.out z hz hz3, HWr8.out.u, HWr8.out.fr, HCt.out⟩
        refine HTab.out.same num f6 HNd6.out fun i hi => ?_
        rw [HF.out]
        exact ((eqb_iff 12 f6 f0).1 HEb.out i hi).symm
end Go.Proofs.YtbnpgkclnebnmaaGreat
