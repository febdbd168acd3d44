import Derived.Test.YtnfadmifdncjoaaGreatQ6
/- A group: Make; Usage; a disk as an image. -/
namespace Go.Proofs.YtnfadmifdncjoaaGreat
set_option linter.unusedSimpArgs false
set_option linter.unusedVariables false
open Go.RowKit Go.Maps

variable {ln : Lm}
theorem wpList_bld2 {P : Program} {ops : Array Oper} {rest : List Oper} {op : Oper} {a : Act} {w : World} {Q : Exit → Act → World → Prop} (hgd : op.guard = none) (ty : TypeId) (i0 i1 : Nat) (x0 x1 : Operand) (ho : op.op = .build ty #[(i0, x0), (i1, x1)]) (v0 v1 : Value) (h0 : a.eval x0 = v0) (h1 : a.eval x1 = v1) (v : Value)
    (hr : (Instr.build ty #[(i0, v0), (i1, v1)]).run P w = .ok v w) (h : wpList P ops Q rest (a.put op.dst v) w) : wpList P ops Q (op :: rest) a w := by
  refine wpList_plain hgd fun K' hK' => ?_
  unfold Oper.wp
  simp [execOp, ho, h0, h1, hr, Result.andThen]
  exact hK' _ _ h
/-! ### Make -/
def kOk (k : Int) : Bool := decide (k = 1) || decide (k = 2) || decide (k = 3) || decide (k = 5)
theorem begins_any (k : Int) (w : World) : Calls Tryz.prog 55 #[.int .u8 k] w fun e w' => e = .returned (.bool (kOk k)) ∧ w' = w := by
  by_cases h1 : k = 1
  · subst h1
    go_enter Tryz.func55, Tryz.ntmps55
    go_wp2
    go_ret
    exact ⟨rfl, rfl⟩
  · by_cases h2 : k = 2
    · subst h2
      go_enter Tryz.func55, Tryz.ntmps55
      go_wp2
      go_ret
      exact ⟨rfl, rfl⟩
    · by_cases h3 : k = 3
      · subst h3
        go_enter Tryz.func55, Tryz.ntmps55
        go_wp2
        go_ret
        exact ⟨rfl, rfl⟩
      · by_cases h5 : k = 5
        · subst h5
          go_enter Tryz.func55, Tryz.ntmps55
          go_wp2
          go_ret
          exact ⟨rfl, rfl⟩
        · have hk : kOk k = false := by simp [kOk, h1, h2, h3, h5]
          rw [hk]
          clear hk
          go_enter Tryz.func55, Tryz.ntmps55
          go_wp2
          go_ret
          exact ⟨rfl, rfl⟩
/-- a node as Make makes it -/
def mkN (k : Int) : Nat → Int := fun i => if i = 0 then k else if i = 1 then 1 else 0
theorem Tryz.build27_mk (k : Int) (w : World) : (Instr.build 68 #[(0, .int .u8 k), (1, .int .u8 1)]).run Tryz.prog w = .ok (.agg (ndc (mkN k)).toArray) w := by kernel_rfl
theorem mkN_ok (k : Int) (k0 : 0 ≤ k) (k1 : k < 256) : NdOk (mkN k) := ⟨⟨k0, k1⟩, (by show (0 : Int) ≤ 1 ∧ (1 : Int) < 256; decide), (by show (0 : Int) ≤ 0 ∧ (0 : Int) < 65536; decide), (by show (0 : Int) ≤ 0 ∧ (0 : Int) < 4294967296; decide), fun i h2 h3 => by
  unfold mkN
  rw [if_neg (by omega), if_neg (by omega)]
  exact ⟨Int.le_refl _, by decide⟩⟩
theorem mkN_mbl (k : Int) (h : kOk k = true) : mbl (mkN k 0) (mkN k 3) = true := by
  show mbl k 0 = true
  simp only [kOk, Bool.or_eq_true, decide_eq_true_eq] at h
  rcases h with ((rfl | rfl) | rfl) | rfl <;> decide
theorem gmake_bad (q : Nat) (k : Int) (hk : kOk k = false) (w : World) : Calls Tryz.prog 16 #[.pointer (some ⟨q, 0, none⟩), .int .u8 k] w fun e w' => e = .returned (.tuple #[.int .i64 0, .int .i64 27]) ∧ w' = w := by
  have HB := Lib.hid (begins_any k w)
  rw [hk] at HB
  clear hk
  go_enter Tryz.func16, Tryz.ntmps16
  go_wp2_with fail
  refine HB.out.mono ?_
  rintro e w' ⟨rfl, hww⟩
  rw [hww]
  clear hww
  go_wp2_with fail
  exact bodyPost_ret (v := .tuple #[.int .i64 0, .int .i64 27]) (by simp [results, Tryz.results16, go_sem]) rfl ⟨rfl, rfl⟩
set_option maxHeartbeats 20000000 in
set_option maxRecDepth 100000 in
theorem gmake_in (q p t m d gg lab B0 P0 M DA NB N K : Nat) (g : Cf.Ge) (Y : Nat → Nat → Int) (V : Nat → Nat → Int) (k : Int) (kk0 : 0 ≤ k) (kk1 : k < 256) (hk : kOk k = true) (n0 : Nat) (k1 : 1 ≤ n0) (k2 : n0 ≤ M) (hz : V n0 0 = 0) (hnz : ∀ j, 1 ≤ j → j < n0 → V j 0 ≠ 0) (x : Int) (hx : IntKind.u16.wrap (V n0 2 + 1) = x) (x0 : 0 ≤ x) (x1 : x < 65536) (hT : Has ln (P0 + (n0 - 1) / 2)) (hK : K < 500000000) (hI : Tab P0 M Y V) (hg : GG g B0 P0 M DA NB N) (w : World) (h : Gr w q p t m d gg lab g B0 NB N ln Y K) :
    Calls Tryz.prog 16 #[.pointer (some ⟨q, 0, none⟩), .int .u8 k] w fun e w' => e = .returned (.tuple #[.int .i64 n0, .int .i64 0]) ∧ Gr w' q p t m d gg lab g B0 NB N ln (tabW P0 n0 (setG (mkN k) x) Y) (K + 200) ∧ Kf w w' [t, m, d, gg] := by
  have HBg := Lib.hid (begins_any k w)
  rw [hk] at HBg
  have HAd := Lib.hid (fun W hW => gadd_in (ln := ln) q p t m d gg lab B0 P0 M DA NB N K g Y V (mkN k) (mkN_ok k kk0 kk1) n0 k1 k2 hz hnz x hx x0 x1 (show (0 : Int) < 1 by decide) (mkN_mbl k hk) hT hK hI hg W hW)
  obtain ⟨Z, hZ⟩ : ∃ Z, tabW P0 n0 (setG (mkN k) x) Y = Z := ⟨_, rfl⟩
  rw [hZ] at HAd ⊢
  clear hZ hz hx
  have HG := Lib.hid h
  clear hnz hk hI hg h
  go_enter Tryz.func16, Tryz.ntmps16
  go_wp2_with fail
  refine HBg.out.mono ?_
  rintro e w' ⟨rfl, hww⟩
  rw [hww]
  clear hww HBg
  go_wp2_with (first | (refine wpList_bld2 rfl 68 0 1 (.tmp 12) _ rfl (.int .u8 k) (.int .u8 1) rfl rfl (.agg (ndc (mkN k)).toArray) (Tryz.build27_mk k _) ?_))
  refine (HAd.out w HG.out).mono ?_
  rintro e w5 ⟨rfl, hG, hk'⟩
  have HG5 := Lib.hid hG
  have HK5 := Lib.hid hk'
  clear hG hk' HAd HG
  go_wp2_with fail
  exact bodyPost_ret (v := .tuple #[.int .i64 n0, .int .i64 0]) (by simp [results, Tryz.results16, go_sem]) rfl ⟨rfl, HG5.out, HK5.out⟩
set_option maxHeartbeats 20000000 in
set_option maxRecDepth 100000 in
theorem gmake_full (q p t m d gg lab B0 P0 M DA NB N K : Nat) (g : Cf.Ge) (Y : Nat → Nat → Int) (V : Nat → Nat → Int) (k : Int) (kk0 : 0 ≤ k) (kk1 : k < 256) (hk : kOk k = true) (hnz : ∀ j, 1 ≤ j → j < M + 1 → V j 0 ≠ 0) (hK : K < 500000000) (hI : Tab P0 M Y V) (hg : GG g B0 P0 M DA NB N) (w : World) (h : Gr w q p t m d gg lab g B0 NB N ln Y K) :
    Calls Tryz.prog 16 #[.pointer (some ⟨q, 0, none⟩), .int .u8 k] w fun e w' => e = .returned (.tuple #[.int .i64 0, .int .i64 10]) ∧ Gr w' q p t m d gg lab g B0 NB N ln Y (K + 200) ∧ Kf w w' [t, m, d, gg] := by
  have HBg := Lib.hid (begins_any k w)
  rw [hk] at HBg
  have HAd := Lib.hid (fun W hW => gadd_full (ln := ln) q p t m d gg lab B0 P0 M DA NB N K g Y V (mkN k) (mkN_ok k kk0 kk1) hnz hK hI hg W hW)
  have HG := Lib.hid h
  clear hnz hk hI hg h
  go_enter Tryz.func16, Tryz.ntmps16
  go_wp2_with fail
  refine HBg.out.mono ?_
  rintro e w' ⟨rfl, hww⟩
  rw [hww]
  clear hww HBg
  go_wp2_with (first | (refine wpList_bld2 rfl 68 0 1 (.tmp 12) _ rfl (.int .u8 k) (.int .u8 1) rfl rfl (.agg (ndc (mkN k)).toArray) (Tryz.build27_mk k _) ?_))
  refine (HAd.out w HG.out).mono ?_
  rintro e w5 ⟨rfl, hG, hk'⟩
  have HG5 := Lib.hid hG
  have HK5 := Lib.hid hk'
  clear hG hk' HAd HG
  go_wp2_with fail
  exact bodyPost_ret (v := .tuple #[.int .i64 0, .int .i64 10]) (by simp [results, Tryz.results16, go_sem]) rfl ⟨rfl, HG5.out, HK5.out⟩
/-! ### how many nodes aren't free -/
def cN (V : Nat → Nat → Int) : Nat → Nat
  | 0 => 0
  | k + 1 => cN V k + if V (k + 1) 0 = 0 then 0 else 1
theorem cN_le (V : Nat → Nat → Int) : ∀ k, cN V k ≤ k
  | 0 => Nat.le_refl _
  | k + 1 => by
    have := cN_le V k
    unfold cN
    split <;> omega
set_option maxHeartbeats 20000000 in
set_option maxRecDepth 100000 in
theorem gcountn (q p t m d gg lab B0 P0 M DA NB N K : Nat) (g : Cf.Ge) (Y : Nat → Nat → Int) (V : Nat → Nat → Int) (hK : K < 500000000) (hI : Tab P0 M Y V) (hg : GG g B0 P0 M DA NB N) (w : World) (h : Gr w q p t m d gg lab g B0 NB N ln Y K) :
    Calls Tryz.prog 82 #[.pointer (some ⟨q, 0, none⟩)] w fun e w' => e = .returned (.tuple #[.int .i64 (cN V M : Nat), .int .i64 0]) ∧ Gr w' q p t m d gg lab g B0 NB N ln Y (K + 200) ∧ Kf w w' [t, m, d, gg] := by
  have HG := Lib.hid h
  have HI := Lib.hid hI
  have hM8 := hg.m128
  have HGG := Lib.hid hg
  have HNd := Lib.hid hg.nd
  have hM := Lib.hid (cN_le V)
  have c7 := h.gb.c 7 _ rfl
  rw [HNd.out] at c7
  clear h hI hg
  go_enter Tryz.func82, Tryz.ntmps82
  go_wp2_with fail
  clear c7
  go_loopw [4, 13] (fun x y wr => ∃ k : Nat, k ≤ M ∧ y = .int .i64 k ∧ x = .int .i64 (cN V k : Nat) ∧ Gr wr q p t m d gg lab g B0 NB N ln Y (K + k) ∧ Kf w wr [t, m, d, gg]) (fun _ y _ => M - (Go.RowKit.intOf y).toNat)
  case atStart => exact ⟨0, Nat.zero_le _, rfl, rfl, HG.out, Kf.refl _ _⟩
  case round =>
    obtain ⟨k, hk, rfl, rfl, hGr, hkf⟩ := hrel
    have HGr := Lib.hid hGr
    have HKf := Lib.hid hkf
    clear hGr hkf HG
    by_cases hlt : k < M
    · have HNo : Hid (Calls Tryz.prog 57 #[.pointer (some ⟨q, 0, none⟩), .int .i64 ((k : Int) + 1)] wr fun e w' => e = .returned (.tuple #[.agg (ndc (V (k + 1))).toArray, .int .i64 0]) ∧ Gr w' q p t m d gg lab g B0 NB N ln Y (K + k + 1) ∧ Kf wr w' [t, m, d, gg]) := by
        have := gnode_in (ln := ln) q p t m d gg lab B0 P0 M DA NB N (K + k) g Y V (k + 1) (by omega) (by omega) (by omega) HI.out HGG.out wr HGr.out
        rwa [show ((k + 1 : Nat) : Int) = (k : Int) + 1 by omega] at this
      have hcl := hM.out k
      have hsu : Hid (cN V (k + 1) = cN V k + if V (k + 1) 0 = 0 then 0 else 1) := rfl
      obtain ⟨cc, hcc⟩ : ∃ c, cN V k = c := ⟨_, rfl⟩
      rw [hcc] at hcl hsu ⊢
      obtain ⟨v, hv⟩ : ∃ v, V (k + 1) = v := ⟨_, rfl⟩
      rw [hv] at HNo hsu
      have hk0 : (0 : Int) ≤ k := by omega
      have hk1 : (k : Int) < M := by omega
      have hc0 : (0 : Int) ≤ cc := by omega
      have hc1 : (cc : Int) ≤ 200 := by omega
      have hM2 : (M : Int) ≤ 128 := by omega
      clear hcc hv
      go_wp2_with fail
      refine HNo.out.mono ?_
      rintro e u1 ⟨rfl, hGr, hkk⟩
      have HG2 := Lib.hid hGr
      have HK2 := Lib.hid (HKf.out.trans hkk)
      clear hGr hkk HNo HGr HKf
      go_upto_region 6 with (first | (refine wpList_alloc_list (w := u1) rfl 68 rfl (ndc zpt) Tryz.zero27 ?_; intro u2 G2 hb2 hz2; simp only [Act.put, List.getElem_toArray, List.getElem_cons_zero, List.getElem_cons_succ, List.setIfInBounds_toArray, List.set_cons_zero, List.set_cons_succ]; refine wpList_store_list rfl 68 (.tmp 6) (.tmp 21) rfl u1.heap.size (ndc zpt) (ndc v) rfl rfl G2.out rfl (size27 _) (ndc_one _) ?_; intro u3 F3 HP3; have HQ2 := Lib.hid hb2; clear hb2 hz2 G2))
      obtain ⟨c, hc⟩ : ∃ c, u1.heap.size = c := ⟨_, rfl⟩
      have HK3 := Lib.hid ((HK2.out.more HQ2.out).new HP3.out HK2.out.size)
      have HG3 := Lib.hid ((HG2.out.keep HQ2.out).kp HP3.out (HG2.out.notin (Nat.le_refl _)))
      rw [hc] at F3
      try rw [hc]
      clear hc HQ2 HP3 HK2 HG2
      have e0 := F3.out.c 0 _ rfl
      by_cases hz : v 0 = 0
      · rw [hz] at e0
        go_wp2_with fail
        go_roundw
        case rel => exact ⟨k + 1, by omega, by go_num, by rw [hsu.out, if_pos hz]; rfl, HG3.out.mono (Lm.le_refl _) (by omega), HK3.out⟩
        case measure => simp [Go.RowKit.intOf]; omega
      · go_wp2_with fail
        go_roundw
        case rel => exact ⟨k + 1, by omega, by go_num, by rw [hsu.out, if_neg hz]; go_num, HG3.out.mono (Lm.le_refl _) (by omega), HK3.out⟩
        case measure => simp [Go.RowKit.intOf]; omega
    · obtain rfl : k = M := by omega
      go_wp2_with fail
      exact bodyPost_ret (v := .tuple #[.int .i64 (cN V k : Nat), .int .i64 0]) (by simp [results, Tryz.results82, go_sem]) rfl ⟨rfl, HGr.out.mono (Lm.le_refl _) (by omega), HKf.out⟩
theorem gcount (q p t m d gg lab B0 P0 M DA NB N K : Nat) (g : Cf.Ge) (Y : Nat → Nat → Int) (hK : K < 600000000) (hg : GG g B0 P0 M DA NB N) (w : World) (h : Gr w q p t m d gg lab g B0 NB N ln Y K) :
    Calls Tryz.prog 81 #[.pointer (some ⟨p, 0, none⟩)] w fun e w' => e = .returned (.tuple #[.int .i64 (setL (bt Y B0) NB).length, .int .i64 0]) ∧ Gr w' q p t m d gg lab g B0 NB N ln Y (K + 200) ∧ Kf w w' [t, m, d, gg] := by
  have hN := h.rd.hN
  have h1 := hg.dn
  have h2 := hg.pd
  have h3 := hg.bp
  have h4 := hg.n512
  refine (count_any p t m d gg B0 NB K Y (by omega) (by omega) (fun i hi => by omega) hK w h.mb h.rd h.np).mono ?_
  rintro e w' ⟨he, hR, hk⟩
  exact ⟨he, h.call hR hk, hk⟩
set_option maxHeartbeats 20000000 in
set_option maxRecDepth 100000 in
theorem gusage (q p t m d gg lab B0 P0 M DA NB N K : Nat) (g : Cf.Ge) (Y : Nat → Nat → Int) (V : Nat → Nat → Int) (cb : Nat) (hcb : (setL (bt Y B0) NB).length = cb) (cn : Nat) (hcn : cN V M = cn) (hK : K < 400000000) (hI : Tab P0 M Y V) (hg : GG g B0 P0 M DA NB N) (w : World) (h : Gr w q p t m d gg lab g B0 NB N ln Y K) :
    Calls Tryz.prog 39 #[.pointer (some ⟨q, 0, none⟩)] w fun e w' => e = .returned (.tuple #[.int .i64 cb, .int .i64 cn, .int .i64 0]) ∧ Gr w' q p t m d gg lab g B0 NB N ln Y (K + 400) ∧ Kf w w' [t, m, d, gg] := by
  have HC := Lib.hid (gcount q p t m d gg lab B0 P0 M DA NB N K g Y (by omega) hg w h)
  rw [hcb] at HC
  have HN := Lib.hid (fun W hW => gcountn (ln := ln) q p t m d gg lab B0 P0 M DA NB N (K + 200) g Y V (by omega) hI hg W hW)
  rw [hcn] at HN
  have c8 := h.gb.c 8 _ rfl
  clear hcb hcn hI hg h
  go_enter Tryz.func39, Tryz.ntmps39
  go_wp2_with fail
  refine HC.out.mono ?_
  rintro e u1 ⟨rfl, hG, hk⟩
  have HG1 := Lib.hid hG
  have HK1 := Lib.hid hk
  clear hG hk HC c8
  go_wp2_with fail
  refine (HN.out u1 HG1.out).mono ?_
  rintro e u2 ⟨rfl, hG, hk⟩
  have HG2 := Lib.hid hG
  have HK2 := Lib.hid (HK1.out.trans hk)
  clear hG hk HN HG1 HK1
  go_wp2_with fail
  exact bodyPost_ret (v := .tuple #[.int .i64 cb, .int .i64 cn, .int .i64 0]) (by simp [results, Tryz.results39, go_sem]) rfl ⟨rfl, HG2.out.mono (Lm.le_refl _) (by omega), HK2.out⟩
/-! ### a disk as an image -/
/-- a slice of N blocks in block b, those behind the log as Y says -/
def Img (w : World) (b N : Nat) (Y : Nat → Nat → Int) : Prop := ∃ F, Fl w b (N * 64) F ∧ ∀ x, 32 ≤ x → x < N → ∀ j, j < 64 → F (x * 64 + j) = Y x j
theorem Img.kf {w w' : World} {b N : Nat} {Y : Nat → Nat → Int} {L : List Nat} (h : Img w b N Y) (hk : Kf w w' L) (hb : b ∉ L) : Img w' b N Y := by
  obtain ⟨F, h1, h2⟩ := h
  exact ⟨F, h1.kf hk hb, h2⟩
theorem Img.lt {w : World} {b N : Nat} {Y : Nat → Nat → Int} (h : Img w b N Y) : b < w.heap.size := by
  obtain ⟨F, h1, h2⟩ := h
  exact h1.lt
end Go.Proofs.YtnfadmifdncjoaaGreat
