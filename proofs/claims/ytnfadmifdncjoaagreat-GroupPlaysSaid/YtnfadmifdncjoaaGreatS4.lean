import Derived.Test.YtnfadmifdncjoaaGreatS3
/- The law's model is what the group holds. -/
namespace Go.Proofs.YtnfadmifdncjoaaGreat
set_option linter.unusedSimpArgs false
set_option linter.unusedVariables false
open Go.RowKit Go.Maps

variable {ln : Lm}
def inl (a b c : Int) : List Lit := [.int .u8 a, .int .u16 b, .int .u16 c]
theorem Tryz.clIno : Tryz.prog.cellsOf 157 = 3 := by kernel_rfl
theorem Tryz.keyIno : Tryz.prog.keyTypeAt 3 157 = true := by kernel_rfl
theorem inl_is (a b c : Int) (ha : 0 ≤ a ∧ a < 256) (hb : 0 ≤ b ∧ b < 65536) (hc : 0 ≤ c ∧ c < 65536) : Tryz.prog.keyLits 4 157 (inc a b c) = some (inl a b c) := by
  have w0 := wf8 _ ha
  have w1 := wf16 _ hb
  have w2 := wf16 _ hc
  simp [inc, inl, Program.keyLits, Tryz.underlying157, Tryz.underlying5, Tryz.underlying37, Tryz.clIno, Tryz.cl5, Tryz.cl23, w0, w1, w2]
theorem inc_formed (a b c : Int) : (Value.agg (inc a b c).toArray).formed Tryz.prog 157 = true := by simp [Value.formed, Tryz.underlying157, Tryz.clIno, inc]
theorem eqIno (a b c : Int) (ha : 0 ≤ a ∧ a < 256) (hb : 0 ≤ b ∧ b < 65536) (hc : 0 ≤ c ∧ c < 65536) (w : World) : (Op.equalIn 10000 157 (.agg (inc a b c).toArray) (.agg (inc a b c).toArray)).run Tryz.prog w = .ok true w := by
  obtain ⟨r, hr, hiff⟩ := run_equalIn_deep (P := Tryz.prog) 9997 3 157 Tryz.keyIno w 4 4 _ _ _ _ (inc_formed a b c) (inc_formed a b c) (inl_is a b c ha hb hc) (inl_is a b c ha hb hc)
  rw [show 9997 + 3 = 10000 from rfl] at hr
  rw [hr, hiff.2 rfl]
theorem setL_le (b : Nat → Bool) (n : Nat) : (setL b n).length ≤ n := by
  unfold setL
  exact Nat.le_trans (List.length_filter_le _ _) (by simp)
theorem cN_succ (V : Nat → Nat → Int) (k : Nat) : cN V (k + 1) = cN V k + if V (k + 1) 0 = 0 then 0 else 1 := rfl
theorem Mo.kp {w w' : World} {b mm tk yb nd L LM : Nat} {T : Nat → Bool} {X V : Nat → Nat → Int} (h : Mo w mm tk yb nd L LM T X V) (hb : Kp w w' b b) (h1 : mm ≠ b) (h2 : tk ≠ b) (h3 : yb ≠ b) (h4 : nd ≠ b) : Mo w' mm tk yb nd L LM T X V :=
  h.kf (S := [b]) ⟨hb.os, hb.tape, hb.output, hb.size, fun k hk hn => hb.block k hk (fun e => hn (by simp [e])) (fun e => hn (by simp [e]))⟩ (fun a ha => by simp at ha; subst ha; exact ⟨Ne.symm h1, Ne.symm h2, Ne.symm h3, Ne.symm h4⟩)
set_option maxHeartbeats 80000000 in
set_option maxRecDepth 200000 in
theorem is_any (mm tk yb nd t m d gg n B0 P0 M DA NB N K : Nat) (Y : Nat → Nat → Int) (T : Nat → Bool) (X V : Nat → Nat → Int) (vr vm vg : Value) (R : List Cf.Rg) (MS : List (Int × Int)) (i : Nat) (hi : i < R.length) (h64 : R.length ≤ 64) (g : Cf.Ge) (hgi : (Cf.layF R).1[i]'(by rw [Cf.lay_len]; exact hi) = g) (hg : GG g B0 P0 M DA NB N) (w : World) (hCF : Cf.CF n w vr vm vg R MS) (hRd : Rd w t m d gg N ln Y K)
    (L LM : Nat) (hL : L = NB + 1) (hLM : LM = M + 1) (hM : Mo w mm tk yb nd L LM T X V) (hTb : ∀ j, j < NB → T (j + 1) = bt Y B0 j) (hI : Tab P0 M Y V) (hK : K < 300000000) (hne : ∀ a ∈ [t, m, d, gg], a ≠ mm ∧ a ≠ tk ∧ a ≠ yb ∧ a ≠ nd) :
    Calls Tryz.prog 23 #[.pointer (some ⟨mm, 0, none⟩), .pointer (some ⟨t, 0, none⟩), .pointer (some ⟨n + 3, 0, none⟩), .int .i64 i] w fun e w' => e = .returned (.bool true) ∧ Kf w w' [t, m, d, gg] := by
  obtain ⟨dI, huI, hdI⟩ := Tryz.descIno
  have HUI := Lib.hid huI
  have HDI := Lib.hid hdI
  obtain ⟨d27, hu27, hd27⟩ := Tryz.desc27
  have HU27 := Lib.hid hu27
  have HD27 := Lib.hid hd27
  have HOp := Lib.hid (gopen_in (ln := ln) t m d gg n B0 P0 M DA NB N K Y vr vm vg R MS i hi g hgi hg w hCF hRd)
  have HI := Lib.hid hI
  have HNE := Lib.hid hne
  have HM := Lib.hid hM
  have HTB := Lib.hid hTb
  have HG := Lib.hid hg
  have hNB := hg.n512
  have hMM := hg.m128
  have hNB4 := hg.n4
  have hM4 := hg.m4
  have HLL := Lib.hid hL
  have HLM := Lib.hid hLM
  have hL1 : 1 ≤ L := by omega
  have hL2 : L ≤ 513 := by omega
  have hLM1 : LM ≤ 129 := by omega
  have hi64 : i < 64 := by omega
  have hL3 : ¬ L = 1 := by omega
  obtain ⟨cb, hcb⟩ : ∃ cb, (setL (bt Y B0) NB).length = cb := ⟨_, rfl⟩
  obtain ⟨cn, hcn⟩ : ∃ cn, cN V M = cn := ⟨_, rfl⟩
  have HCB := Lib.hid hcb
  have HCN := Lib.hid hcn
  have hcn1 : cn ≤ M := by rw [← hcn]; exact cN_le V M
  have hcb1 : cb ≤ NB := by rw [← hcb]; exact setL_le _ _
  clear hcb hcn hCF hRd hI hne hM hTb hg hL hLM hgi hi h64 huI hdI hu27 hd27
  go_enter Tryz.func23, Tryz.ntmps23
  go_wp2_with fail
  refine HOp.out.mono ?_
  rintro e w1 ⟨q, p, rfl, hq, hp, hGr, hb⟩
  have HG1 := Lib.hid hGr
  have HK1 := Lib.hid (Kf.of_below hb [t, m, d, gg])
  have HM1 := Lib.hid (HM.out.keep hb)
  clear hGr hb HOp hq hp HM
  have HU := Lib.hid (gusage (ln := ln) q p t m d gg i B0 P0 M DA NB N K g Y V cb HCB.out cn HCN.out (by omega) HI.out HG.out w1 HG1.out)
  go_wp2_with fail
  refine HU.out.mono ?_
  rintro e w2 ⟨rfl, hG, hk⟩
  have HG2 := Lib.hid hG
  have HK2 := Lib.hid (HK1.out.trans hk)
  have HM2 := Lib.hid (HM1.out.kf hk HNE.out)
  clear hG hk HU HG1 HK1 HM1
  have c0 := HM2.out.m.c 0 _ rfl
  go_wp2_with fail
  go_loopw [11, 15, 40] (fun a _ y wr => ∃ k : Nat, k ≤ NB ∧ y = .int .i64 k ∧ (∃ c : Int, c = cb - ((setL (bt Y B0) k).length : Int) ∧ a = .int .i64 c) ∧ wr = w2) (fun _ _ y _ => NB - (Go.RowKit.intOf y).toNat)
  case atStart => exact ⟨0, Nat.zero_le _, rfl, ⟨cb, by simp [setL], rfl⟩, rfl⟩
  case round =>
    obtain ⟨k, hk, rfl, ⟨c, hc, rfl⟩, rfl⟩ := hrel
    have HC := Lib.hid hc
    have hsl := setL_le (bt Y B0) k
    have hcA : -513 ≤ c := by omega
    have hcB : c ≤ 513 := by omega
    clear hsl hc
    by_cases hlt : k < NB
    · have hlt1 : (k : Int) < ((L - 1 : Nat) : Int) := by have := HLL.out; omega
      have hk0 : (0 : Int) ≤ k := by omega
      have c9 : wr.cell? ⟨tk, 1 + k, none⟩ = some (.bool (bt Y B0 k)) := by
        have := HM2.out.t.c (k + 1) (by have := HLL.out; omega)
        rw [HTB.out k hlt] at this
        rw [Nat.add_comm]; exact this
      have hss := setL_succ (bt Y B0) k
      cases hT : bt Y B0 k
      · rw [hT] at c9 hss
        have hss' : (setL (bt Y B0) (k + 1)).length = (setL (bt Y B0) k).length := by rw [hss, if_neg (by simp)]
        have HS := Lib.hid hss'
        clear hT hss hss'
        go_wp2_with fail
        go_roundw
        case rel => exact ⟨k + 1, by omega, by go_num, ⟨c, by rw [HS.out]; exact HC.out, rfl⟩, by first | trivial | rfl⟩
        case measure => simp [Go.RowKit.intOf]; omega
      · rw [hT] at c9 hss
        have hss' : (setL (bt Y B0) (k + 1)).length = (setL (bt Y B0) k).length + 1 := by rw [hss, if_pos rfl]; simp
        have HS := Lib.hid hss'
        clear hT hss hss'
        go_wp2_with fail
        go_roundw
        case rel => exact ⟨k + 1, by omega, by go_num, ⟨c - 1, by rw [HS.out]; have := HC.out; omega, by go_num⟩, by first | trivial | rfl⟩
        case measure => simp [Go.RowKit.intOf]; omega
    · have hlt1 : ¬ ((k : Int) < ((L - 1 : Nat) : Int)) := by have := HLL.out; omega
      obtain rfl : NB = k := by omega
      obtain rfl : c = 0 := by rw [HC.out, HCB.out]; omega
      clear HC hcA hcB hlt
      go_wp2_with fail
      obtain ⟨wY, rfl⟩ : ∃ x, x = wr := ⟨wr, rfl⟩
      go_loopw [12, 16, 17, 18, 19, 20] (fun a y _ _ _ _ wr => ∃ k : Nat, 1 ≤ k ∧ k ≤ LM ∧ y = .int .i64 k ∧ (∃ c : Int, c = cn - (cN V (k - 1) : Int) ∧ a = .int .i64 c) ∧ Gr wr q p t m d gg i g B0 NB N ln Y (K + 400 + 2 * k) ∧ Kf w wr [t, m, d, gg] ∧ Mo wr mm tk yb nd L LM T X V) (fun _ y _ _ _ _ _ => LM - (Go.RowKit.intOf y).toNat)
      case atStart => exact ⟨1, Nat.le_refl _, by have := HLM.out; omega, rfl, ⟨cn, by simp [cN], rfl⟩, HG2.out.mono (Lm.le_refl _) (by omega), HK2.out, HM2.out⟩
      case round =>
        obtain ⟨k, hk1, hk, rfl, ⟨c, hc, rfl⟩, hG, hK2, hM2⟩ := hrel
        have HC := Lib.hid hc
        have HG3 := Lib.hid hG
        have HK3 := Lib.hid hK2
        have HM3 := Lib.hid hM2
        have hsl := cN_le V (k - 1)
        have hcA : -513 ≤ c := by omega
        have hcB : c ≤ 513 := by omega
        obtain ⟨wX, rfl⟩ : ∃ x, x = wr := ⟨wr, rfl⟩
        clear hsl hc hG hK2 hM2 HG2 HK2 HM2 c0
        have c2 := HM3.out.m.c 2 _ rfl
        by_cases hlt : k < LM
        · have hlt1 : (k : Int) < LM := by omega
          have hk0 : (0 : Int) ≤ k := by omega
          have hkM : k ≤ M := by have := HLM.out; omega
          have HNd := Lib.hid (gnode_in (ln := ln) q p t m d gg i B0 P0 M DA _ N (K + 400 + 2 * k) g Y V k hk1 hkM (by omega) HI.out HG.out wX HG3.out)
          have hok := (HI.out k hk1 hkM).2.1
          have c13 := HM3.out.n.c k hlt 0 _ rfl
          obtain ⟨f, hf⟩ : ∃ f, V k = f := ⟨_, rfl⟩
          have HV := Lib.hid hf
          rw [hf] at HNd hok c13
          have HEQ := Lib.hid (fun W => eq27 f f hok hok W)
          rw [eqb_same (fun _ _ => rfl)] at HEQ
          have HOK := Lib.hid hok
          have hcs : cN V k = cN V (k - 1) + if f 0 = 0 then 0 else 1 := by
            obtain ⟨k', rfl⟩ : ∃ k', k = k' + 1 := ⟨k - 1, by omega⟩
            rw [cN_succ, hf, Nat.add_sub_cancel]
          have HCS0 := Lib.hid hcs
          clear hf hok hcs
          go_wp2_with fail
          refine HNd.out.mono ?_
          rintro e w3 ⟨rfl, hG, hk3⟩
          have HGa := Lib.hid hG
          have HKa := Lib.hid (HK3.out.trans hk3)
          have HMa := Lib.hid (HM3.out.kf hk3 HNE.out)
          have NB5 := Lib.hid (hG.notin (Nat.le_refl _))
          have hwa : w.heap.size ≤ w3.heap.size := HKa.out.size
          have hlta := HMa.out.lts
          clear hG hk3 HNd HG3 HK3 HM3 c2 c13
          go_upto_region 13 with (first | (refine wpList_alloc_list (w := w3) rfl 68 rfl (ndc zpt) Tryz.zero27 ?_; intro w4 F4 hb4 hz4; have HG4 := Lib.hid (HGa.out.keep hb4); have HK4 := Lib.hid (HKa.out.more hb4); have HM4 := Lib.hid (HMa.out.keep hb4); clear hb4 hz4) | (refine wpList_store_list rfl 68 (.tmp 17) (.tmp 61) rfl w3.heap.size (ndc zpt) (ndc f) rfl rfl F4.out rfl (size27 _) (ndc_one _) ?_; intro w5 F5 HKp5))
          obtain ⟨b1, hb1⟩ : ∃ b, w3.heap.size = b := ⟨_, rfl⟩
          rw [hb1] at F5 HKp5 NB5 hwa hlta
          try rw [hb1]
          have HG5 := Lib.hid (HG4.out.kp HKp5.out NB5.out)
          have HK5 := Lib.hid (HK4.out.fresh HKp5.out hwa)
          have HM5 := Lib.hid (HM4.out.kp HKp5.out (by omega) (by omega) (by omega) (by omega))
          clear hb1 HGa HG4 HKa HK4 HMa HM4 HKp5 F4
          have c2 := HM5.out.m.c 2 _ rfl
          have c13 : w5.cell? ⟨nd, k * 12, none⟩ = some (.int .u8 (f 0)) := by
            have := HM5.out.n.c k hlt 0 _ rfl
            rw [HV.out] at this
            exact this
          by_cases hz : f 0 = 0
          · have hcs := HCS0.out
            rw [if_pos hz] at hcs
            have HCS := Lib.hid hcs
            clear hcs HCS0
            have HIn := Lib.hid (gino_free (ln := ln) q p t m d gg i B0 P0 M DA NB N (K + 400 + 2 * k + 1) g Y V k hk1 (by omega) (by rw [HV.out]; exact hz) (by omega) HI.out HG.out w5 HG5.out)
            try rw [HV.out] at HIn
            go_wp2_with fail
            refine HIn.out.mono ?_
            rintro e w6 ⟨rfl, hG, hk6⟩
            have nb1 : b1 ∉ [t, m, d, gg] := fun hh => NB5.out (by simp only [List.mem_cons, List.not_mem_nil, or_false] at hh ⊢; omega)
            have HG6 := Lib.hid hG
            have HK6 := Lib.hid (HK5.out.trans hk6)
            have HM6 := Lib.hid (HM5.out.kf hk6 HNE.out)
            have F6 := Lib.hid (F5.out.kf hk6 nb1)
            have NB8 := Lib.hid (hG.notin (Nat.le_refl _))
            have hw6 : w.heap.size ≤ w6.heap.size := HK6.out.size
            have hlt6 := HM6.out.lts
            have hbl6 : b1 < w6.heap.size := F6.out.lt
            clear hG hk6 HIn HG5 HK5 HM5 F5 nb1
            go_upto_region 16 with (first | (refine wpList_alloc_list (w := w6) rfl 157 rfl (inc 0 0 0) Tryz.zeroIno ?_; intro w7 I7 hb7 hz7; have HG7 := Lib.hid (HG6.out.keep hb7); have HK7 := Lib.hid (HK6.out.more hb7); have HM7 := Lib.hid (HM6.out.keep hb7); have F7 := Lib.hid (F6.out.keep hb7); clear hb7 hz7) | (refine wpList_store_list rfl 157 (.tmp 19) (.tmp 78) rfl w6.heap.size (inc 0 0 0) (inc 0 0 0) rfl rfl I7.out rfl (sizeIno _ _ _) (inc_one _ _ _) ?_; intro w8 I8 HKp8))
            obtain ⟨b2, hb2⟩ : ∃ b, w6.heap.size = b := ⟨_, rfl⟩
            rw [hb2] at I8 HKp8 NB8 hbl6 hw6 hlt6
            try rw [hb2]
            have HG8 := Lib.hid (HG7.out.kp HKp8.out NB8.out)
            have HK8 := Lib.hid (HK7.out.fresh HKp8.out hw6)
            have HM8 := Lib.hid (HM7.out.kp HKp8.out (by omega) (by omega) (by omega) (by omega))
            have F8 := Lib.hid (F7.out.kp HKp8.out (by omega) (by omega))
            clear hb2 HG6 HG7 HK6 HK7 HM6 HM7 F6 F7 I7 HKp8 c13
            go_upto_region 16 with fail
            refine wp_region_held (S := fun W => Vl W b1 (ndc f) ∧ Vl W b2 (inc 0 0 0) ∧ Mo W mm tk yb nd L LM T X V) (by kernel_rfl) ?_
            change wpAnyH _ _ _ _ _ _ _ _ (World.drew _)
            have hS0 : (fun W => Vl W b1 (ndc f) ∧ Vl W b2 (inc 0 0 0) ∧ Mo W mm tk yb nd L LM T X V) w8.drew := ⟨F8.out.keep (Below.refl _ _).drew, I8.out.keep (Below.refl _ _).drew, HM8.out.keep (Below.refl _ _).drew⟩
            have HG9 := Lib.hid (HG8.out.keep (Below.refl w8.heap.size w8).drew)
            have HK9 := Lib.hid (HK8.out.more (Below.refl w8.heap.size w8).drew)
            have HM9 := Lib.hid (HM8.out.keep (Below.refl w8.heap.size w8).drew)
            obtain ⟨w9, hw9⟩ : ∃ x, World.drew w8 = x := ⟨_, rfl⟩
            rw [hw9] at hS0 HG9 HK9 HM9 ⊢
            clear hw9
            clear HG8 HK8 HM8 F8 I8
            refine wpAnyH_take (i := 0) (v := ?_) rfl (by kernel_rfl) (by kernel_rfl) (by kernel_rfl) (fun _ _ _ h => h) (Or.inl ⟨by kernel_rfl, ?_⟩) hS0 ?_
            rotate_left 1
            · intro W hW
              go_simp
              try with_reducible rfl
            simp only [Act.put, List.getElem_toArray, List.getElem_cons_zero, List.getElem_cons_succ, List.setIfInBounds_toArray, List.set_cons_zero, List.set_cons_succ]
            refine wpAnyH_take (i := 1) (v := ?_) rfl (by kernel_rfl) (by kernel_rfl) (by kernel_rfl) (fun _ _ _ h => h) (Or.inl ⟨by kernel_rfl, ?_⟩) hS0 ?_
            rotate_left 1
            · intro W hW
              go_simp
              try with_reducible rfl
            simp only [Act.put, List.getElem_toArray, List.getElem_cons_zero, List.getElem_cons_succ, List.setIfInBounds_toArray, List.set_cons_zero, List.set_cons_succ]
            refine wpAnyH_take (i := 2) (v := ?_) rfl (by kernel_rfl) (by kernel_rfl) (by kernel_rfl) (fun _ _ _ h => h) (Or.inl ⟨by kernel_rfl, ?_⟩) hS0 ?_
            rotate_left 1
            · intro W hW
              go_simp
              try with_reducible rfl
            simp only [Act.put, List.getElem_toArray, List.getElem_cons_zero, List.getElem_cons_succ, List.setIfInBounds_toArray, List.set_cons_zero, List.set_cons_succ]
            refine wpAnyH_take (i := 3) (v := .agg (ndc f).toArray) rfl (by kernel_rfl) (by kernel_rfl) (by kernel_rfl) (fun _ _ _ h => h) ?_ hS0 ?_
            · exact yieldsIf_load_mid (by kernel_rfl) 68 _ rfl b1 0 rfl (ndc f) d27 (fun _ h => h.1.range0) HU27.out HD27.out (size27 _)
            simp only [Act.put, List.getElem_toArray, List.getElem_cons_zero, List.getElem_cons_succ, List.setIfInBounds_toArray, List.set_cons_zero, List.set_cons_succ]
            refine wpAnyH_take (i := 4) (v := ?_) rfl (by kernel_rfl) (by kernel_rfl) (by kernel_rfl) (fun _ _ _ h => h) (Or.inl ⟨by kernel_rfl, ?_⟩) hS0 ?_
            rotate_left 1
            · intro W hW
              go_simp
              try with_reducible rfl
            simp only [Act.put, List.getElem_toArray, List.getElem_cons_zero, List.getElem_cons_succ, List.setIfInBounds_toArray, List.set_cons_zero, List.set_cons_succ]
            refine wpAnyH_take (i := 5) (v := ?_) rfl (by kernel_rfl) (by kernel_rfl) (by kernel_rfl) (fun _ _ _ h => h) (Or.inl ⟨by kernel_rfl, ?_⟩) hS0 ?_
            rotate_left 1
            · intro W hW
              go_simp
              try with_reducible rfl
            simp only [Act.put, List.getElem_toArray, List.getElem_cons_zero, List.getElem_cons_succ, List.setIfInBounds_toArray, List.set_cons_zero, List.set_cons_succ]
            refine wpAnyH_take (i := 6) (v := ?_) rfl (by kernel_rfl) (by kernel_rfl) (by kernel_rfl) (fun _ _ _ h => h) (Or.inl ⟨by kernel_rfl, ?_⟩) hS0 ?_
            rotate_left 1
            · intro W hW
              go_simp
              try with_reducible rfl
            simp only [Act.put, List.getElem_toArray, List.getElem_cons_zero, List.getElem_cons_succ, List.setIfInBounds_toArray, List.set_cons_zero, List.set_cons_succ]
            refine wpAnyH_take (i := 7) (v := ?_) rfl (by kernel_rfl) (by kernel_rfl) (by kernel_rfl) (fun _ _ _ h => h) (Or.inl ⟨by kernel_rfl, ?_⟩) hS0 ?_
            rotate_left 1
            · intro W hW
              have c0 := hW.2.2.m.c 2 _ rfl
              go_simp
              try with_reducible rfl
            simp only [Act.put, List.getElem_toArray, List.getElem_cons_zero, List.getElem_cons_succ, List.setIfInBounds_toArray, List.set_cons_zero, List.set_cons_succ]
            refine wpAnyH_take (i := 8) (v := ?_) rfl (by kernel_rfl) (by kernel_rfl) (by kernel_rfl) (fun _ _ _ h => h) (Or.inl ⟨by kernel_rfl, ?_⟩) hS0 ?_
            rotate_left 1
            · intro W hW
              go_simp
              try with_reducible rfl
            simp only [Act.put, List.getElem_toArray, List.getElem_cons_zero, List.getElem_cons_succ, List.setIfInBounds_toArray, List.set_cons_zero, List.set_cons_succ]
            refine wpAnyH_take (i := 9) (v := ?_) rfl (by kernel_rfl) (by kernel_rfl) (by kernel_rfl) (fun _ _ _ h => h) (Or.inl ⟨by kernel_rfl, ?_⟩) hS0 ?_
            rotate_left 1
            · intro W hW
              go_simp
              try with_reducible rfl
            simp only [Act.put, List.getElem_toArray, List.getElem_cons_zero, List.getElem_cons_succ, List.setIfInBounds_toArray, List.set_cons_zero, List.set_cons_succ]
            refine wpAnyH_take (i := 10) (v := .agg (ndc f).toArray) rfl (by kernel_rfl) (by kernel_rfl) (by kernel_rfl) (fun _ _ _ h => h) ?_ hS0 ?_
            · exact yieldsIf_load_mid (by kernel_rfl) 68 _ rfl nd (k * 12) rfl (ndc f) d27 (fun _ h => by have := h.2.2.n.range k hlt; rw [HV.out] at this; exact this) HU27.out HD27.out (size27 _)
            simp only [Act.put, List.getElem_toArray, List.getElem_cons_zero, List.getElem_cons_succ, List.setIfInBounds_toArray, List.set_cons_zero, List.set_cons_succ]
            refine wpAnyH_take (i := 11) (v := .bool (!true)) rfl (by kernel_rfl) (by kernel_rfl) (by kernel_rfl) (fun _ _ _ h => h) ?_ hS0 ?_
            · exact yields_neq (by kernel_rfl) 68 68 _ _ rfl (ndc f).toArray (ndc f).toArray rfl rfl true Tryz.guard27 (fun W _ => HEQ.out W)
            simp only [Act.put, List.getElem_toArray, List.getElem_cons_zero, List.getElem_cons_succ, List.setIfInBounds_toArray, List.set_cons_zero, List.set_cons_succ]
            refine wpAnyH_take (i := 12) (v := ?_) rfl (by kernel_rfl) (by kernel_rfl) (by kernel_rfl) (fun _ _ _ h => h) (Or.inl ⟨by kernel_rfl, ?_⟩) hS0 ?_
            rotate_left 1
            · intro W hW
              go_simp
              try with_reducible rfl
            simp only [Act.put, List.getElem_toArray, List.getElem_cons_zero, List.getElem_cons_succ, List.setIfInBounds_toArray, List.set_cons_zero, List.set_cons_succ]
            refine wpAnyH_take (i := 13) (v := ?_) rfl (by kernel_rfl) (by kernel_rfl) (by kernel_rfl) (fun _ _ _ h => h) (Or.inl ⟨by kernel_rfl, ?_⟩) hS0 ?_
            rotate_left 1
            · intro W hW
              go_simp
              try with_reducible rfl
            simp only [Act.put, List.getElem_toArray, List.getElem_cons_zero, List.getElem_cons_succ, List.setIfInBounds_toArray, List.set_cons_zero, List.set_cons_succ]
            refine wpAnyH_take (i := 14) (v := ?_) rfl (by kernel_rfl) (by kernel_rfl) (by kernel_rfl) (fun _ _ _ h => h) (Or.inl ⟨by kernel_rfl, ?_⟩) hS0 ?_
            rotate_left 1
            · intro W hW
              go_simp
              try with_reducible rfl
            simp only [Act.put, List.getElem_toArray, List.getElem_cons_zero, List.getElem_cons_succ, List.setIfInBounds_toArray, List.set_cons_zero, List.set_cons_succ]
            refine wpAnyH_take (i := 15) (v := ?_) rfl (by kernel_rfl) (by kernel_rfl) (by kernel_rfl) (fun _ _ _ h => h) (Or.inl ⟨by kernel_rfl, ?_⟩) hS0 ?_
            rotate_left 1
            · intro W hW
              go_simp
              try with_reducible rfl
            simp only [Act.put, List.getElem_toArray, List.getElem_cons_zero, List.getElem_cons_succ, List.setIfInBounds_toArray, List.set_cons_zero, List.set_cons_succ]
            refine wpAnyH_take (i := 16) (v := ?_) rfl (by kernel_rfl) (by kernel_rfl) (by kernel_rfl) (fun _ _ _ h => h) (Or.inl ⟨by kernel_rfl, ?_⟩) hS0 ?_
            rotate_left 1
            · intro W hW
              go_simp
              try with_reducible rfl
            simp only [Act.put, List.getElem_toArray, List.getElem_cons_zero, List.getElem_cons_succ, List.setIfInBounds_toArray, List.set_cons_zero, List.set_cons_succ]
            refine wpAnyH_take (i := 17) (v := ?_) rfl (by kernel_rfl) (by kernel_rfl) (by kernel_rfl) (fun _ _ _ h => h) (Or.inl ⟨by kernel_rfl, ?_⟩) hS0 ?_
            rotate_left 1
            · intro W hW
              have c0 := hW.1.c 0 _ rfl
              go_simp
              try with_reducible rfl
            simp only [Act.put, List.getElem_toArray, List.getElem_cons_zero, List.getElem_cons_succ, List.setIfInBounds_toArray, List.set_cons_zero, List.set_cons_succ]
            refine wpAnyH_take (i := 18) (v := .bool false) rfl (by kernel_rfl) (by kernel_rfl) (by kernel_rfl) (fun _ _ _ h => h) (Or.inl ⟨by kernel_rfl, fun W hW => ?_⟩) hS0 ?_
            · skip
              go_simp
              try (simp [hz]; done)
            simp only [Act.put, List.getElem_toArray, List.getElem_cons_zero, List.getElem_cons_succ, List.setIfInBounds_toArray, List.set_cons_zero, List.set_cons_succ]
            refine wpAnyH_take (i := 19) (v := ?_) rfl (by kernel_rfl) (by kernel_rfl) (by kernel_rfl) (fun _ _ _ h => h) (Or.inl ⟨by kernel_rfl, ?_⟩) hS0 ?_
            rotate_left 1
            · intro W hW
              go_simp
              try with_reducible rfl
            simp only [Act.put, List.getElem_toArray, List.getElem_cons_zero, List.getElem_cons_succ, List.setIfInBounds_toArray, List.set_cons_zero, List.set_cons_succ]
            refine wpAnyH_take (i := 20) (v := ?_) rfl (by kernel_rfl) (by kernel_rfl) (by kernel_rfl) (fun _ _ _ h => h) (Or.inl ⟨by kernel_rfl, ?_⟩) hS0 ?_
            rotate_left 1
            · intro W hW
              go_simp
              try with_reducible rfl
            simp only [Act.put, List.getElem_toArray, List.getElem_cons_zero, List.getElem_cons_succ, List.setIfInBounds_toArray, List.set_cons_zero, List.set_cons_succ]
            refine wpAnyH_take (i := 21) (v := ?_) rfl (by kernel_rfl) (by kernel_rfl) (by kernel_rfl) (fun _ _ _ h => h) (Or.inl ⟨by kernel_rfl, ?_⟩) hS0 ?_
            rotate_left 1
            · intro W hW
              go_simp
              try with_reducible rfl
            simp only [Act.put, List.getElem_toArray, List.getElem_cons_zero, List.getElem_cons_succ, List.setIfInBounds_toArray, List.set_cons_zero, List.set_cons_succ]
            refine wpAnyH_take (i := 22) (v := ?_) rfl (by kernel_rfl) (by kernel_rfl) (by kernel_rfl) (fun _ _ _ h => h) (Or.inl ⟨by kernel_rfl, ?_⟩) hS0 ?_
            rotate_left 1
            · intro W hW
              go_simp
              try with_reducible rfl
            simp only [Act.put, List.getElem_toArray, List.getElem_cons_zero, List.getElem_cons_succ, List.setIfInBounds_toArray, List.set_cons_zero, List.set_cons_succ]
            refine wpAnyH_take (i := 23) (v := ?_) rfl (by kernel_rfl) (by kernel_rfl) (by kernel_rfl) (fun _ _ _ h => h) (Or.inl ⟨by kernel_rfl, ?_⟩) hS0 ?_
            rotate_left 1
            · intro W hW
              go_simp
              try with_reducible rfl
            simp only [Act.put, List.getElem_toArray, List.getElem_cons_zero, List.getElem_cons_succ, List.setIfInBounds_toArray, List.set_cons_zero, List.set_cons_succ]
            refine wpAnyH_take (i := 24) (v := ?_) rfl (by kernel_rfl) (by kernel_rfl) (by kernel_rfl) (fun _ _ _ h => h) (Or.inl ⟨by kernel_rfl, ?_⟩) hS0 ?_
            rotate_left 1
            · intro W hW
              go_simp
              try with_reducible rfl
            simp only [Act.put, List.getElem_toArray, List.getElem_cons_zero, List.getElem_cons_succ, List.setIfInBounds_toArray, List.set_cons_zero, List.set_cons_succ]
            refine wpAnyH_take (i := 25) (v := undef) rfl (by kernel_rfl) (by kernel_rfl) (by kernel_rfl) (fun _ _ _ h => h) (Or.inr ⟨by kernel_rfl, rfl⟩) hS0 ?_
            simp only [Act.put, List.getElem_toArray, List.getElem_cons_zero, List.getElem_cons_succ, List.setIfInBounds_toArray, List.set_cons_zero, List.set_cons_succ]
            refine wpAnyH_take (i := 26) (v := undef) rfl (by kernel_rfl) (by kernel_rfl) (by kernel_rfl) (fun _ _ _ h => h) (Or.inr ⟨by kernel_rfl, rfl⟩) hS0 ?_
            simp only [Act.put, List.getElem_toArray, List.getElem_cons_zero, List.getElem_cons_succ, List.setIfInBounds_toArray, List.set_cons_zero, List.set_cons_succ]
            refine wpAnyH_take (i := 27) (v := undef) rfl (by kernel_rfl) (by kernel_rfl) (by kernel_rfl) (fun _ _ _ h => h) (Or.inr ⟨by kernel_rfl, rfl⟩) hS0 ?_
            simp only [Act.put, List.getElem_toArray, List.getElem_cons_zero, List.getElem_cons_succ, List.setIfInBounds_toArray, List.set_cons_zero, List.set_cons_succ]
            refine wpAnyH_take (i := 28) (v := undef) rfl (by kernel_rfl) (by kernel_rfl) (by kernel_rfl) (fun _ _ _ h => h) (Or.inr ⟨by kernel_rfl, rfl⟩) hS0 ?_
            simp only [Act.put, List.getElem_toArray, List.getElem_cons_zero, List.getElem_cons_succ, List.setIfInBounds_toArray, List.set_cons_zero, List.set_cons_succ]
            refine wpAnyH_take (i := 29) (v := undef) rfl (by kernel_rfl) (by kernel_rfl) (by kernel_rfl) (fun _ _ _ h => h) (Or.inr ⟨by kernel_rfl, rfl⟩) hS0 ?_
            simp only [Act.put, List.getElem_toArray, List.getElem_cons_zero, List.getElem_cons_succ, List.setIfInBounds_toArray, List.set_cons_zero, List.set_cons_succ]
            refine wpAnyH_take (i := 30) (v := undef) rfl (by kernel_rfl) (by kernel_rfl) (by kernel_rfl) (fun _ _ _ h => h) (Or.inr ⟨by kernel_rfl, rfl⟩) hS0 ?_
            simp only [Act.put, List.getElem_toArray, List.getElem_cons_zero, List.getElem_cons_succ, List.setIfInBounds_toArray, List.set_cons_zero, List.set_cons_succ]
            refine wpAnyH_take (i := 31) (v := undef) rfl (by kernel_rfl) (by kernel_rfl) (by kernel_rfl) (fun _ _ _ h => h) (Or.inr ⟨by kernel_rfl, rfl⟩) hS0 ?_
            simp only [Act.put, List.getElem_toArray, List.getElem_cons_zero, List.getElem_cons_succ, List.setIfInBounds_toArray, List.set_cons_zero, List.set_cons_succ]
            refine wpAnyH_take (i := 32) (v := undef) rfl (by kernel_rfl) (by kernel_rfl) (by kernel_rfl) (fun _ _ _ h => h) (Or.inr ⟨by kernel_rfl, rfl⟩) hS0 ?_
            simp only [Act.put, List.getElem_toArray, List.getElem_cons_zero, List.getElem_cons_succ, List.setIfInBounds_toArray, List.set_cons_zero, List.set_cons_succ]
            refine wpAnyH_take (i := 33) (v := undef) rfl (by kernel_rfl) (by kernel_rfl) (by kernel_rfl) (fun _ _ _ h => h) (Or.inr ⟨by kernel_rfl, rfl⟩) hS0 ?_
            simp only [Act.put, List.getElem_toArray, List.getElem_cons_zero, List.getElem_cons_succ, List.setIfInBounds_toArray, List.set_cons_zero, List.set_cons_succ]
            refine wpAnyH_take (i := 34) (v := ?_) rfl (by kernel_rfl) (by kernel_rfl) (by kernel_rfl) (fun _ _ _ h => h) (Or.inl ⟨by kernel_rfl, ?_⟩) hS0 ?_
            rotate_left 1
            · intro W hW
              go_simp
              try with_reducible rfl
            simp only [Act.put, List.getElem_toArray, List.getElem_cons_zero, List.getElem_cons_succ, List.setIfInBounds_toArray, List.set_cons_zero, List.set_cons_succ]
            refine wpAnyH_take (i := 35) (v := ?_) rfl (by kernel_rfl) (by kernel_rfl) (by kernel_rfl) (fun _ _ _ h => h) (Or.inl ⟨by kernel_rfl, ?_⟩) hS0 ?_
            rotate_left 1
            · intro W hW
              go_simp
              try with_reducible rfl
            simp only [Act.put, List.getElem_toArray, List.getElem_cons_zero, List.getElem_cons_succ, List.setIfInBounds_toArray, List.set_cons_zero, List.set_cons_succ]
            refine wpAnyH_done (by kernel_rfl) ?_ _
            clear hS0
            go_wp2_with fail
            go_roundw
            case rel => exact ⟨k + 1, by omega, by omega, by go_num, ⟨c, by rw [Nat.add_sub_cancel, HCS.out]; have := HC.out; omega, rfl⟩, HG9.out.mono (Lm.le_refl _) (by omega), HK9.out, HM9.out⟩
            case measure => simp [Go.RowKit.intOf]; omega
          · have hcs := HCS0.out
            rw [if_neg hz] at hcs
            have HCS := Lib.hid hcs
            have HEI := Lib.hid (fun W => eqIno i k (f 2) (by omega) (by omega) HOK.out.g W)
            have HWL := Lib.hid (u8_in (i : Int) (by omega) (by omega))
            have HWN := Lib.hid (u16_in (k : Int) (by omega) (by omega))
            clear hcs HCS0
            have HIn := Lib.hid (gino_used (ln := ln) q p t m d gg i B0 P0 M DA NB N (K + 400 + 2 * k + 1) g Y V k hk1 (by omega) (by rw [HV.out]; exact hz) (by omega) (by omega) (by omega) HI.out HG.out w5 HG5.out)
            try rw [HV.out] at HIn
            go_wp2_with fail
            refine HIn.out.mono ?_
            rintro e w6 ⟨rfl, hG, hk6⟩
            have nb1 : b1 ∉ [t, m, d, gg] := fun hh => NB5.out (by simp only [List.mem_cons, List.not_mem_nil, or_false] at hh ⊢; omega)
            have HG6 := Lib.hid hG
            have HK6 := Lib.hid (HK5.out.trans hk6)
            have HM6 := Lib.hid (HM5.out.kf hk6 HNE.out)
            have F6 := Lib.hid (F5.out.kf hk6 nb1)
            have NB8 := Lib.hid (hG.notin (Nat.le_refl _))
            have hw6 : w.heap.size ≤ w6.heap.size := HK6.out.size
            have hlt6 := HM6.out.lts
            have hbl6 : b1 < w6.heap.size := F6.out.lt
            clear hG hk6 HIn HG5 HK5 HM5 F5 nb1
            go_upto_region 16 with (first | (refine wpList_alloc_list (w := w6) rfl 157 rfl (inc 0 0 0) Tryz.zeroIno ?_; intro w7 I7 hb7 hz7; have HG7 := Lib.hid (HG6.out.keep hb7); have HK7 := Lib.hid (HK6.out.more hb7); have HM7 := Lib.hid (HM6.out.keep hb7); have F7 := Lib.hid (F6.out.keep hb7); clear hb7 hz7) | (refine wpList_store_list rfl 157 (.tmp 19) (.tmp 78) rfl w6.heap.size (inc 0 0 0) (inc i k (f 2)) rfl rfl I7.out rfl (sizeIno _ _ _) (inc_one _ _ _) ?_; intro w8 I8 HKp8))
            obtain ⟨b2, hb2⟩ : ∃ b, w6.heap.size = b := ⟨_, rfl⟩
            rw [hb2] at I8 HKp8 NB8 hbl6 hw6 hlt6
            try rw [hb2]
            have HG8 := Lib.hid (HG7.out.kp HKp8.out NB8.out)
            have HK8 := Lib.hid (HK7.out.fresh HKp8.out hw6)
            have HM8 := Lib.hid (HM7.out.kp HKp8.out (by omega) (by omega) (by omega) (by omega))
            have F8 := Lib.hid (F7.out.kp HKp8.out (by omega) (by omega))
            clear hb2 HG6 HG7 HK6 HK7 HM6 HM7 F6 F7 I7 HKp8 c13
            go_upto_region 16 with fail
            refine wp_region_held (S := fun W => Vl W b1 (ndc f) ∧ Vl W b2 (inc i k (f 2)) ∧ Mo W mm tk yb nd L LM T X V) (by kernel_rfl) ?_
            change wpAnyH _ _ _ _ _ _ _ _ (World.drew _)
            have hS0 : (fun W => Vl W b1 (ndc f) ∧ Vl W b2 (inc i k (f 2)) ∧ Mo W mm tk yb nd L LM T X V) w8.drew := ⟨F8.out.keep (Below.refl _ _).drew, I8.out.keep (Below.refl _ _).drew, HM8.out.keep (Below.refl _ _).drew⟩
            have HG9 := Lib.hid (HG8.out.keep (Below.refl w8.heap.size w8).drew)
            have HK9 := Lib.hid (HK8.out.more (Below.refl w8.heap.size w8).drew)
            have HM9 := Lib.hid (HM8.out.keep (Below.refl w8.heap.size w8).drew)
            obtain ⟨w9, hw9⟩ : ∃ x, World.drew w8 = x := ⟨_, rfl⟩
            rw [hw9] at hS0 HG9 HK9 HM9 ⊢
            clear hw9
            clear HG8 HK8 HM8 F8 I8
            refine wpAnyH_take (i := 0) (v := ?_) rfl (by kernel_rfl) (by kernel_rfl) (by kernel_rfl) (fun _ _ _ h => h) (Or.inl ⟨by kernel_rfl, ?_⟩) hS0 ?_
            rotate_left 1
            · intro W hW
              go_simp
              try with_reducible rfl
            simp only [Act.put, List.getElem_toArray, List.getElem_cons_zero, List.getElem_cons_succ, List.setIfInBounds_toArray, List.set_cons_zero, List.set_cons_succ]
            refine wpAnyH_take (i := 1) (v := ?_) rfl (by kernel_rfl) (by kernel_rfl) (by kernel_rfl) (fun _ _ _ h => h) (Or.inl ⟨by kernel_rfl, ?_⟩) hS0 ?_
            rotate_left 1
            · intro W hW
              go_simp
              try with_reducible rfl
            simp only [Act.put, List.getElem_toArray, List.getElem_cons_zero, List.getElem_cons_succ, List.setIfInBounds_toArray, List.set_cons_zero, List.set_cons_succ]
            refine wpAnyH_take (i := 2) (v := ?_) rfl (by kernel_rfl) (by kernel_rfl) (by kernel_rfl) (fun _ _ _ h => h) (Or.inl ⟨by kernel_rfl, ?_⟩) hS0 ?_
            rotate_left 1
            · intro W hW
              go_simp
              try with_reducible rfl
            simp only [Act.put, List.getElem_toArray, List.getElem_cons_zero, List.getElem_cons_succ, List.setIfInBounds_toArray, List.set_cons_zero, List.set_cons_succ]
            refine wpAnyH_take (i := 3) (v := .agg (ndc f).toArray) rfl (by kernel_rfl) (by kernel_rfl) (by kernel_rfl) (fun _ _ _ h => h) ?_ hS0 ?_
            · exact yieldsIf_load_mid (by kernel_rfl) 68 _ rfl b1 0 rfl (ndc f) d27 (fun _ h => h.1.range0) HU27.out HD27.out (size27 _)
            simp only [Act.put, List.getElem_toArray, List.getElem_cons_zero, List.getElem_cons_succ, List.setIfInBounds_toArray, List.set_cons_zero, List.set_cons_succ]
            refine wpAnyH_take (i := 4) (v := ?_) rfl (by kernel_rfl) (by kernel_rfl) (by kernel_rfl) (fun _ _ _ h => h) (Or.inl ⟨by kernel_rfl, ?_⟩) hS0 ?_
            rotate_left 1
            · intro W hW
              go_simp
              try with_reducible rfl
            simp only [Act.put, List.getElem_toArray, List.getElem_cons_zero, List.getElem_cons_succ, List.setIfInBounds_toArray, List.set_cons_zero, List.set_cons_succ]
            refine wpAnyH_take (i := 5) (v := ?_) rfl (by kernel_rfl) (by kernel_rfl) (by kernel_rfl) (fun _ _ _ h => h) (Or.inl ⟨by kernel_rfl, ?_⟩) hS0 ?_
            rotate_left 1
            · intro W hW
              go_simp
              try with_reducible rfl
            simp only [Act.put, List.getElem_toArray, List.getElem_cons_zero, List.getElem_cons_succ, List.setIfInBounds_toArray, List.set_cons_zero, List.set_cons_succ]
            refine wpAnyH_take (i := 6) (v := ?_) rfl (by kernel_rfl) (by kernel_rfl) (by kernel_rfl) (fun _ _ _ h => h) (Or.inl ⟨by kernel_rfl, ?_⟩) hS0 ?_
            rotate_left 1
            · intro W hW
              go_simp
              try with_reducible rfl
            simp only [Act.put, List.getElem_toArray, List.getElem_cons_zero, List.getElem_cons_succ, List.setIfInBounds_toArray, List.set_cons_zero, List.set_cons_succ]
            refine wpAnyH_take (i := 7) (v := ?_) rfl (by kernel_rfl) (by kernel_rfl) (by kernel_rfl) (fun _ _ _ h => h) (Or.inl ⟨by kernel_rfl, ?_⟩) hS0 ?_
            rotate_left 1
            · intro W hW
              have c0 := hW.2.2.m.c 2 _ rfl
              go_simp
              try with_reducible rfl
            simp only [Act.put, List.getElem_toArray, List.getElem_cons_zero, List.getElem_cons_succ, List.setIfInBounds_toArray, List.set_cons_zero, List.set_cons_succ]
            refine wpAnyH_take (i := 8) (v := ?_) rfl (by kernel_rfl) (by kernel_rfl) (by kernel_rfl) (fun _ _ _ h => h) (Or.inl ⟨by kernel_rfl, ?_⟩) hS0 ?_
            rotate_left 1
            · intro W hW
              go_simp
              try with_reducible rfl
            simp only [Act.put, List.getElem_toArray, List.getElem_cons_zero, List.getElem_cons_succ, List.setIfInBounds_toArray, List.set_cons_zero, List.set_cons_succ]
            refine wpAnyH_take (i := 9) (v := ?_) rfl (by kernel_rfl) (by kernel_rfl) (by kernel_rfl) (fun _ _ _ h => h) (Or.inl ⟨by kernel_rfl, ?_⟩) hS0 ?_
            rotate_left 1
            · intro W hW
              go_simp
              try with_reducible rfl
            simp only [Act.put, List.getElem_toArray, List.getElem_cons_zero, List.getElem_cons_succ, List.setIfInBounds_toArray, List.set_cons_zero, List.set_cons_succ]
            refine wpAnyH_take (i := 10) (v := .agg (ndc f).toArray) rfl (by kernel_rfl) (by kernel_rfl) (by kernel_rfl) (fun _ _ _ h => h) ?_ hS0 ?_
            · exact yieldsIf_load_mid (by kernel_rfl) 68 _ rfl nd (k * 12) rfl (ndc f) d27 (fun _ h => by have := h.2.2.n.range k hlt; rw [HV.out] at this; exact this) HU27.out HD27.out (size27 _)
            simp only [Act.put, List.getElem_toArray, List.getElem_cons_zero, List.getElem_cons_succ, List.setIfInBounds_toArray, List.set_cons_zero, List.set_cons_succ]
            refine wpAnyH_take (i := 11) (v := .bool (!true)) rfl (by kernel_rfl) (by kernel_rfl) (by kernel_rfl) (fun _ _ _ h => h) ?_ hS0 ?_
            · exact yields_neq (by kernel_rfl) 68 68 _ _ rfl (ndc f).toArray (ndc f).toArray rfl rfl true Tryz.guard27 (fun W _ => HEQ.out W)
            simp only [Act.put, List.getElem_toArray, List.getElem_cons_zero, List.getElem_cons_succ, List.setIfInBounds_toArray, List.set_cons_zero, List.set_cons_succ]
            refine wpAnyH_take (i := 12) (v := ?_) rfl (by kernel_rfl) (by kernel_rfl) (by kernel_rfl) (fun _ _ _ h => h) (Or.inl ⟨by kernel_rfl, ?_⟩) hS0 ?_
            rotate_left 1
            · intro W hW
              go_simp
              try with_reducible rfl
            simp only [Act.put, List.getElem_toArray, List.getElem_cons_zero, List.getElem_cons_succ, List.setIfInBounds_toArray, List.set_cons_zero, List.set_cons_succ]
            refine wpAnyH_take (i := 13) (v := ?_) rfl (by kernel_rfl) (by kernel_rfl) (by kernel_rfl) (fun _ _ _ h => h) (Or.inl ⟨by kernel_rfl, ?_⟩) hS0 ?_
            rotate_left 1
            · intro W hW
              go_simp
              try with_reducible rfl
            simp only [Act.put, List.getElem_toArray, List.getElem_cons_zero, List.getElem_cons_succ, List.setIfInBounds_toArray, List.set_cons_zero, List.set_cons_succ]
            refine wpAnyH_take (i := 14) (v := ?_) rfl (by kernel_rfl) (by kernel_rfl) (by kernel_rfl) (fun _ _ _ h => h) (Or.inl ⟨by kernel_rfl, ?_⟩) hS0 ?_
            rotate_left 1
            · intro W hW
              go_simp
              try with_reducible rfl
            simp only [Act.put, List.getElem_toArray, List.getElem_cons_zero, List.getElem_cons_succ, List.setIfInBounds_toArray, List.set_cons_zero, List.set_cons_succ]
            refine wpAnyH_take (i := 15) (v := ?_) rfl (by kernel_rfl) (by kernel_rfl) (by kernel_rfl) (fun _ _ _ h => h) (Or.inl ⟨by kernel_rfl, ?_⟩) hS0 ?_
            rotate_left 1
            · intro W hW
              go_simp
              try with_reducible rfl
            simp only [Act.put, List.getElem_toArray, List.getElem_cons_zero, List.getElem_cons_succ, List.setIfInBounds_toArray, List.set_cons_zero, List.set_cons_succ]
            refine wpAnyH_take (i := 16) (v := ?_) rfl (by kernel_rfl) (by kernel_rfl) (by kernel_rfl) (fun _ _ _ h => h) (Or.inl ⟨by kernel_rfl, ?_⟩) hS0 ?_
            rotate_left 1
            · intro W hW
              go_simp
              try with_reducible rfl
            simp only [Act.put, List.getElem_toArray, List.getElem_cons_zero, List.getElem_cons_succ, List.setIfInBounds_toArray, List.set_cons_zero, List.set_cons_succ]
            refine wpAnyH_take (i := 17) (v := ?_) rfl (by kernel_rfl) (by kernel_rfl) (by kernel_rfl) (fun _ _ _ h => h) (Or.inl ⟨by kernel_rfl, ?_⟩) hS0 ?_
            rotate_left 1
            · intro W hW
              have c0 := hW.1.c 0 _ rfl
              go_simp
              try with_reducible rfl
            simp only [Act.put, List.getElem_toArray, List.getElem_cons_zero, List.getElem_cons_succ, List.setIfInBounds_toArray, List.set_cons_zero, List.set_cons_succ]
            refine wpAnyH_take (i := 18) (v := .bool true) rfl (by kernel_rfl) (by kernel_rfl) (by kernel_rfl) (fun _ _ _ h => h) (Or.inl ⟨by kernel_rfl, fun W hW => ?_⟩) hS0 ?_
            · skip
              go_simp
              try (simp [hz]; done)
            simp only [Act.put, List.getElem_toArray, List.getElem_cons_zero, List.getElem_cons_succ, List.setIfInBounds_toArray, List.set_cons_zero, List.set_cons_succ]
            refine wpAnyH_take (i := 19) (v := ?_) rfl (by kernel_rfl) (by kernel_rfl) (by kernel_rfl) (fun _ _ _ h => h) (Or.inl ⟨by kernel_rfl, ?_⟩) hS0 ?_
            rotate_left 1
            · intro W hW
              go_simp
              try with_reducible rfl
            simp only [Act.put, List.getElem_toArray, List.getElem_cons_zero, List.getElem_cons_succ, List.setIfInBounds_toArray, List.set_cons_zero, List.set_cons_succ]
            refine wpAnyH_take (i := 20) (v := ?_) rfl (by kernel_rfl) (by kernel_rfl) (by kernel_rfl) (fun _ _ _ h => h) (Or.inl ⟨by kernel_rfl, ?_⟩) hS0 ?_
            rotate_left 1
            · intro W hW
              go_simp
              try with_reducible rfl
            simp only [Act.put, List.getElem_toArray, List.getElem_cons_zero, List.getElem_cons_succ, List.setIfInBounds_toArray, List.set_cons_zero, List.set_cons_succ]
            refine wpAnyH_take (i := 21) (v := ?_) rfl (by kernel_rfl) (by kernel_rfl) (by kernel_rfl) (fun _ _ _ h => h) (Or.inl ⟨by kernel_rfl, ?_⟩) hS0 ?_
            rotate_left 1
            · intro W hW
              go_simp
              try with_reducible rfl
            simp only [Act.put, List.getElem_toArray, List.getElem_cons_zero, List.getElem_cons_succ, List.setIfInBounds_toArray, List.set_cons_zero, List.set_cons_succ]
            refine wpAnyH_take (i := 22) (v := ?_) rfl (by kernel_rfl) (by kernel_rfl) (by kernel_rfl) (fun _ _ _ h => h) (Or.inl ⟨by kernel_rfl, ?_⟩) hS0 ?_
            rotate_left 1
            · intro W hW
              go_simp
              try with_reducible rfl
            simp only [Act.put, List.getElem_toArray, List.getElem_cons_zero, List.getElem_cons_succ, List.setIfInBounds_toArray, List.set_cons_zero, List.set_cons_succ]
            refine wpAnyH_take (i := 23) (v := ?_) rfl (by kernel_rfl) (by kernel_rfl) (by kernel_rfl) (fun _ _ _ h => h) (Or.inl ⟨by kernel_rfl, ?_⟩) hS0 ?_
            rotate_left 1
            · intro W hW
              go_simp
              try with_reducible rfl
            simp only [Act.put, List.getElem_toArray, List.getElem_cons_zero, List.getElem_cons_succ, List.setIfInBounds_toArray, List.set_cons_zero, List.set_cons_succ]
            refine wpAnyH_take (i := 24) (v := ?_) rfl (by kernel_rfl) (by kernel_rfl) (by kernel_rfl) (fun _ _ _ h => h) (Or.inl ⟨by kernel_rfl, ?_⟩) hS0 ?_
            rotate_left 1
            · intro W hW
              go_simp
              try with_reducible rfl
            simp only [Act.put, List.getElem_toArray, List.getElem_cons_zero, List.getElem_cons_succ, List.setIfInBounds_toArray, List.set_cons_zero, List.set_cons_succ]
            refine wpAnyH_take (i := 25) (v := .agg (inc i k (f 2)).toArray) rfl (by kernel_rfl) (by kernel_rfl) (by kernel_rfl) (fun _ _ _ h => h) ?_ hS0 ?_
            · exact yieldsIf_load_mid (by kernel_rfl) 157 _ rfl b2 0 rfl (inc i k (f 2)) dI (fun _ h => h.2.1.range0) HUI.out HDI.out (sizeIno _ _ _)
            simp only [Act.put, List.getElem_toArray, List.getElem_cons_zero, List.getElem_cons_succ, List.setIfInBounds_toArray, List.set_cons_zero, List.set_cons_succ]
            refine wpAnyH_take (i := 26) (v := ?_) rfl (by kernel_rfl) (by kernel_rfl) (by kernel_rfl) (fun _ _ _ h => h) (Or.inl ⟨by kernel_rfl, ?_⟩) hS0 ?_
            rotate_left 1
            · intro W hW
              go_simp
              try with_reducible rfl
            simp only [Act.put, List.getElem_toArray, List.getElem_cons_zero, List.getElem_cons_succ, List.setIfInBounds_toArray, List.set_cons_zero, List.set_cons_succ]
            refine wpAnyH_take (i := 27) (v := .int .u8 i) rfl (by kernel_rfl) (by kernel_rfl) (by kernel_rfl) (fun _ _ _ h => h) ?_ hS0 ?_
            · exact Or.inl ⟨by kernel_rfl, fun W hW => by have e := HWL.out; go_simp⟩
            simp only [Act.put, List.getElem_toArray, List.getElem_cons_zero, List.getElem_cons_succ, List.setIfInBounds_toArray, List.set_cons_zero, List.set_cons_succ]
            refine wpAnyH_take (i := 28) (v := ?_) rfl (by kernel_rfl) (by kernel_rfl) (by kernel_rfl) (fun _ _ _ h => h) (Or.inl ⟨by kernel_rfl, ?_⟩) hS0 ?_
            rotate_left 1
            · intro W hW
              go_simp
              try with_reducible rfl
            simp only [Act.put, List.getElem_toArray, List.getElem_cons_zero, List.getElem_cons_succ, List.setIfInBounds_toArray, List.set_cons_zero, List.set_cons_succ]
            refine wpAnyH_take (i := 29) (v := .int .u16 k) rfl (by kernel_rfl) (by kernel_rfl) (by kernel_rfl) (fun _ _ _ h => h) ?_ hS0 ?_
            · exact Or.inl ⟨by kernel_rfl, fun W hW => by have e := HWN.out; go_simp⟩
            simp only [Act.put, List.getElem_toArray, List.getElem_cons_zero, List.getElem_cons_succ, List.setIfInBounds_toArray, List.set_cons_zero, List.set_cons_succ]
            refine wpAnyH_take (i := 30) (v := ?_) rfl (by kernel_rfl) (by kernel_rfl) (by kernel_rfl) (fun _ _ _ h => h) (Or.inl ⟨by kernel_rfl, ?_⟩) hS0 ?_
            rotate_left 1
            · intro W hW
              go_simp
              try with_reducible rfl
            simp only [Act.put, List.getElem_toArray, List.getElem_cons_zero, List.getElem_cons_succ, List.setIfInBounds_toArray, List.set_cons_zero, List.set_cons_succ]
            refine wpAnyH_take (i := 31) (v := ?_) rfl (by kernel_rfl) (by kernel_rfl) (by kernel_rfl) (fun _ _ _ h => h) (Or.inl ⟨by kernel_rfl, ?_⟩) hS0 ?_
            rotate_left 1
            · intro W hW
              have c0 := hW.1.c 2 _ rfl
              go_simp
              try with_reducible rfl
            simp only [Act.put, List.getElem_toArray, List.getElem_cons_zero, List.getElem_cons_succ, List.setIfInBounds_toArray, List.set_cons_zero, List.set_cons_succ]
            refine wpAnyH_take (i := 32) (v := .agg (inc i k (f 2)).toArray) rfl (by kernel_rfl) (by kernel_rfl) (by kernel_rfl) (fun _ _ _ h => h) ?_ hS0 ?_
            · exact yields_bld3 (by kernel_rfl) 157 0 1 2 (.tmp 107) (.tmp 109) (.tmp 111) rfl (.int .u8 i) (.int .u16 k) (.int .u16 (f 2)) rfl rfl rfl _ (Tryz.buildIno3 i k (f 2))
            simp only [Act.put, List.getElem_toArray, List.getElem_cons_zero, List.getElem_cons_succ, List.setIfInBounds_toArray, List.set_cons_zero, List.set_cons_succ]
            refine wpAnyH_take (i := 33) (v := .bool (!true)) rfl (by kernel_rfl) (by kernel_rfl) (by kernel_rfl) (fun _ _ _ h => h) ?_ hS0 ?_
            · exact yields_neq (by kernel_rfl) 157 157 _ _ rfl (inc i k (f 2)).toArray (inc i k (f 2)).toArray rfl rfl true Tryz.guardIno (fun W _ => HEI.out W)
            simp only [Act.put, List.getElem_toArray, List.getElem_cons_zero, List.getElem_cons_succ, List.setIfInBounds_toArray, List.set_cons_zero, List.set_cons_succ]
            refine wpAnyH_take (i := 34) (v := ?_) rfl (by kernel_rfl) (by kernel_rfl) (by kernel_rfl) (fun _ _ _ h => h) (Or.inl ⟨by kernel_rfl, ?_⟩) hS0 ?_
            rotate_left 1
            · intro W hW
              go_simp
              try with_reducible rfl
            simp only [Act.put, List.getElem_toArray, List.getElem_cons_zero, List.getElem_cons_succ, List.setIfInBounds_toArray, List.set_cons_zero, List.set_cons_succ]
            refine wpAnyH_take (i := 35) (v := ?_) rfl (by kernel_rfl) (by kernel_rfl) (by kernel_rfl) (fun _ _ _ h => h) (Or.inl ⟨by kernel_rfl, ?_⟩) hS0 ?_
            rotate_left 1
            · intro W hW
              go_simp
              try with_reducible rfl
            simp only [Act.put, List.getElem_toArray, List.getElem_cons_zero, List.getElem_cons_succ, List.setIfInBounds_toArray, List.set_cons_zero, List.set_cons_succ]
            refine wpAnyH_done (by kernel_rfl) ?_ _
            clear hS0
            go_wp2_with fail
            go_roundw
            case rel => exact ⟨k + 1, by omega, by omega, by go_num, ⟨c - 1, by rw [Nat.add_sub_cancel, HCS.out]; have := HC.out; omega, by go_num⟩, HG9.out.mono (Lm.le_refl _) (by omega), HK9.out, HM9.out⟩
            case measure => simp [Go.RowKit.intOf]; omega
        · have hlt1 : ¬ ((k : Int) < LM) := by omega
          obtain rfl : LM = k := by omega
          obtain rfl : c = 0 := by rw [HC.out, show LM - 1 = M from by have := HLM.out; omega, HCN.out]; omega
          clear HC hcA hcB hlt
          have HLab := Lib.hid (lab_any q i wX (HG3.out.gb.c 1 _ rfl))
          go_wp2_with fail
          refine HLab.out.mono ?_
          rintro e w3 ⟨rfl, rfl⟩
          go_wp2_with fail
          go_ret
          exact ⟨rfl, HK3.out⟩
end Go.Proofs.YtnfadmifdncjoaaGreat
