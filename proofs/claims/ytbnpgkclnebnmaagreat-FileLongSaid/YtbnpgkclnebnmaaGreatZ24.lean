import Derived.Test.YtbnpgkclnebnmaaGreatZ23
/- Files: one that grows, and is cut again: the walk. -/

namespace Go.Proofs.YtbnpgkclnebnmaaGreat
set_option linter.unusedSimpArgs false
set_option linter.unusedVariables false
open Go.RowKit Go.Maps

def CV8 (W : World) (v : Value) (S : ByteArray) : Prop := (convert 24 9 v).run Tryz.prog W = .ok (.string S) W
theorem yields_conv8 {P : Program} {ops : Array Oper} {S : World → Prop} {op : Oper} {a : Act} (hw : Region.wanted op (yielded ops a.tmps) = true) (src dst : TypeId) (x : Operand) (ho : op.op = .convert src dst x) (vx v : Value) (hx : a.eval x = vx)
    (hr : ∀ w, S w → (convert src dst vx).run P w = .ok v w) : YieldsIf P ops S op v a :=
  .inl ⟨hw, fun w hS => by
    have hr := hr w hS
    unfold execOp
    simp [ho, hx, hr, Result.andThen]⟩
set_option maxHeartbeats 80000000 in
set_option maxRecDepth 400000 in
theorem filelong_walk (pa : Option Addr) (n1 c1 : Nat) (s : Nat → Int) (hs : ∀ j, j < n1 → 0 ≤ s j ∧ s j < 256) (pb : Option Addr) (n2 c2 : Nat) (s2 : Nat → Int) (hs2 : ∀ j, j < n2 → 0 ≤ s2 j ∧ s2 j < 65536) (w : World) (hB : B8 w pa n1 c1 s) (hB2 : B16 w pb n2 c2 s2) :
    Calls Tryz.prog 5 #[.slice pa n1 c1, .slice pb n2 c2] w fun e w' => e = .returned (.bool true) ∧ Below w.heap.size w w' := by
  have HP := Lib.hid hB
  have HQ := Lib.hid hB2
  have HSA := Lib.hid hs
  have HSB := Lib.hid hs2
  obtain ⟨N, g, B0, P0, DA, hco⟩ := co_any 300 (by decide) (by decide)
  have HCO := Lib.hid hco
  have HGG := Lib.hid hco.gg
  clear hco hB hB2 hs hs2
  go_enter Tryz.func5, Tryz.ntmps5
  go_wp2_with fail
  refine (awake8 w).mono ?_
  rintro e w1 ⟨rfl, hb1⟩
  have HB1 := Lib.hid hb1
  clear hb1
  by_cases h40 : 40 < n1
  · go_wp2_with fail
    go_ret
    exact ⟨rfl, HB1.out⟩
  by_cases h10 : 10 < n2
  · have h40i : (n1 : Int) ≤ 40 := by omega
    go_wp2_with fail
    go_ret
    exact ⟨rfl, HB1.out⟩
  have h40i : (n1 : Int) ≤ 40 := by omega
  have h10i : (n2 : Int) ≤ 10 := by omega
  go_wp2_with (first | (refine wpList_bld6 rfl 41 0 2 3 4 5 6 _ _ _ _ _ _ rfl (.string ⟨#[108, 111, 119]⟩) (.int .i64 300) (.int .i64 8) (.int .i64 1) (.int .i64 1) (.int .i64 1) rfl rfl rfl rfl rfl rfl _ (Tryz.buildRg 300 _) ?_) | (refine wpList_sliceRg rfl (.tmp 41) rfl 300 rfl ?_; intro wa HVa HBa))
  refine (newO 300 (.inr rfl) _ wa HVa.out).mono ?_
  rintro e w2 ⟨n, vr, vm, vg, rfl, -, hb2, hCF⟩
  have HB2 : Hid (Below w.heap.size w w2) := Lib.hid (HB1.out.trans ((HBa.out.trans (hb2.mono HBa.out.size)).mono HB1.out.size))
  have HCF := Lib.hid hCF
  clear hb2 hCF HBa HVa HB1
  go_wp2_with fail
  refine (freshO (by decide) (by decide) HCO.out n vr vm vg w2 HCF.out).mono ?_
  rintro e w3 ⟨t, mm, dd, gg, l, Y0, rfl, hFr, hll, hln, hLg, hRd, hTab, hbit, hb3⟩
  have HR3 := Lib.hid hRd
  have HL3 := Lib.hid hLg
  have HTab := Lib.hid hTab
  have HBit := Lib.hid hbit
  have HZ3 := Lib.hid hb3
  have hdd : w2.heap.size ≤ dd := hFr.2.2.1
  have hgg : w2.heap.size ≤ gg := hFr.2.2.2
  have hl3 := hLg.lt
  have hlts3 : dd < w3.heap.size ∧ gg < w3.heap.size := hRd.lts.2.2
  have HCFx : Hid (∀ W, Below w2.heap.size w2 W → Cf.CF n W vr vm vg (RB 300) []) := Lib.hid (fun W hk => HCF.out.below hk)
  have hld : l ≠ dd ∧ l ≠ gg := by
    have := hln
    simp only [List.mem_cons, List.not_mem_nil, or_false, not_or] at this
    omega
  have hsz3 := hb3.size
  clear hFr hll hln hLg hRd hTab hbit hb3 HCF
  go_wp2_with fail
  refine (rnew8 300 w3).mono ?_
  rintro e w4 ⟨nb, rfl, hvn, hnb, hb4⟩
  have HVN := Lib.hid hvn
  have HB4 := Lib.hid hb4
  have hs34 := hb4.size
  have hnb4 := hvn.lt
  clear hvn hb4
  go_upto_region 8 with (first | (refine wpList_alloc_list (w := w4) rfl 82 rfl [.slice none 0 0, .slice none 0 0, .int .i64 0] Tryz.zeroGr ?_; intro w5 F5 hb5 hz5; have HB5 := Lib.hid hb5; clear hb5 hz5; simp only [Act.put, List.getElem_toArray, List.getElem_cons_zero, List.getElem_cons_succ, List.setIfInBounds_toArray, List.set_cons_zero, List.set_cons_succ]) | (refine wpList_store_list rfl 82 (.tmp 10) (.tmp 52) rfl w4.heap.size [.slice none 0 0, .slice none 0 0, .int .i64 0] [.slice (some ⟨nb, 0, none⟩) 9 9, .slice none 0 0, .int .i64 300] rfl rfl F5.out rfl Tryz.isizeGr (by simp [Value.oneCell']) ?_; intro w6 F6 HK6))
  obtain ⟨r, hr⟩ : ∃ x, w4.heap.size = x := ⟨_, rfl⟩
  have HB36 : Hid (Below w3.heap.size w3 w6) := Lib.hid ((HB4.out.trans (HB5.out.mono hs34)).trans (HK6.out.below hs34 hs34 (Nat.le_trans hs34 HB5.out.size)))
  have HV6 := Lib.hid ((HVN.out.keep HB5.out).kp HK6.out (by omega) (by omega))
  rw [hr] at F6
  try rw [hr]
  have hr3 : w3.heap.size ≤ r := by omega
  have hrn : r ≠ nb := by omega
  have HM6 := Lib.hid (newF8_mm (L := [r, nb, dd, gg]) HV6.out F6.out hrn (by simp) (by simp))
  have HL6 := Lib.hid (HL3.out.keep HB36.out)
  have HR6 := Lib.hid (HR3.out.keep HB36.out)
  have HZ6 := Lib.hid (HZ3.out.trans (HB36.out.mono hsz3))
  have hr6 := F6.out.lt
  have hn6 := HV6.out.lt
  have HD : Hid (dd < r ∧ gg < r ∧ dd < nb ∧ gg < nb ∧ l < r ∧ l < nb ∧ w2.heap.size ≤ r ∧ w2.heap.size ≤ nb ∧ w2.heap.size ≤ dd ∧ w2.heap.size ≤ gg ∧ l ≠ dd ∧ l ≠ gg) := Lib.hid (by omega)
  clear hr hr3 HVN HB4 HB5 HK6 F5 F6 HV6 HL3 HR3 HZ3 hdd hgg hl3 hlts3 hld hsz3 hs34 hnb4 hnb HB36
  go_wp2_with fail
  go_loopw [11, 12, 13, 14, 15, 16, 55] (fun _ _ _ _ _ _ iv wr => ∃ i : Nat, i ≤ n1 ∧ iv = .int .i64 i ∧ ∃ sz X v L t m K Y V B, FS w2 wr N dd gg l r nb 9 B0 P0 DA (7000 + 26000 * i) sz X v L t m K Y V B) (fun _ _ _ _ _ _ iv _ => n1 - (Go.RowKit.intOf iv).toNat)
  case atStart =>
    refine ⟨0, Nat.zero_le _, rfl, 0, fun _ => 0, .slice none 0 0, [r, nb, dd, gg], t, mm, 7000, Y0, VF 3, fun _ => 0, ⟨HR6.out, by omega, St.start HTab.out HBit.out (by decide) _ _, fun _ => ⟨Int.le_refl _, by decide⟩, HM6.out, fun a ha => ?_, by simp, by simp, HL6.out, HZ6.out⟩⟩
    have hx := HD.out
    simp only [List.mem_cons, List.not_mem_nil, or_false] at ha
    rcases ha with rfl | rfl | rfl | rfl <;> omega
  case round =>
    obtain ⟨i, hi, rfl, sz, X, v, L, t1, m1, K, Y, V, B, hFS⟩ := hrel
    have HFS := Lib.hid hFS
    clear hFS HR6 HL6 HM6 HZ6 HTab HBit
    have hi0 : (0 : Int) ≤ i := by omega
    by_cases hlt : i < n1
    · have hi1 : (i : Int) < n1 := by omega
      have HPr := HP.out.keep (HB2.out.trans (HFS.out.bw.mono HB2.out.size))
      obtain ⟨bp, op, rfl, hbp, hpc⟩ : ∃ b off, pa = some ⟨b, off, none⟩ ∧ b < wr.heap.size ∧ ∀ j, j < n1 → wr.cell? ⟨b, off + j, none⟩ = some (.int .u8 (s j)) := by
        rcases HPr with ⟨-, h, -⟩ | ⟨ad, -, h⟩ | h
        · omega
        · omega
        · exact h
      have hpi := hpc i hlt
      obtain ⟨hp0, hp1⟩ := HSA.out i hlt
      obtain ⟨p, hp⟩ : ∃ z, s i = z := ⟨_, rfl⟩
      rw [hp] at hpi hp0 hp1
      obtain ⟨k, hk, hk1⟩ := tmod_n (6 * p) 700 (by omega) (by decide)
      have hk0 : (0 : Int) ≤ k := by omega
      have hwr : IntKind.i64.wrap (6 * p) = 6 * p := IntWalk.i64_in _ (by omega)
      clear HPr hpc hp
      have HZ7 := Lib.hid HFS.out.bw
      have hsz7 := HFS.out.bw.size
      have hlr := HFS.out.lg.lt
      have hKK := HFS.out.kb
      have HBg := Lib.hid (begin7 l t1 m1 dd gg K Y wr HFS.out.rd HFS.out.lg)
      go_wp2_with fail
      refine HBg.out.mono ?_
      rintro e w8 ⟨t2, m2, rfl, ht2, hm2, hR8, hb8⟩
      have HR8 := Lib.hid hR8
      have HZ8 := Lib.hid (HZ7.out.trans (hb8.mono hsz7))
      have HL8 := Lib.hid (HFS.out.lg.keep hb8)
      have HM8 := Lib.hid ((HFS.out.mm.keep hb8))
      have HX8 := Lib.hid hb8
      have hs78 := hb8.size
      have hsz8 := HZ8.out.size
      clear hR8 hb8 HBg hpi
      go_wp2_with fail
      refine (openO HCO.out ⟨dl B0 (P0 + 1) DA B (ndS ((sz + 63) / 64)) (LQ (sz / 64)), Y⟩ t2 m2 dd gg n K Y vr vm vg w8 (HCFx.out w8 HZ8.out) (HR8.out.wide (Lm.nil_le _ _))).mono ?_
      rintro e w9 ⟨q, p', rfl, hq, hp', hG9, hb9⟩
      have HG9 := Lib.hid hG9
      have HZ9 := Lib.hid (HZ8.out.trans (hb9.mono hsz8))
      have HL9 := Lib.hid (HL8.out.keep hb9)
      have HM9 := Lib.hid (HM8.out.keep hb9)
      have HX9 := Lib.hid (HX8.out.trans (hb9.mono hs78))
      have hsz9 := HZ9.out.size
      have hs89 := hb9.size
      clear hG9 hb9 HR8 HZ8 HL8 HM8
      have HBy := Lib.hid (fun z => bytes_any k (by omega) z w9)
      go_wp2_with fail
      refine (HBy.out _).mono ?_
      rintro e w10 ⟨g10, rfl, hg10, hF, hb⟩
      have HF10 := Lib.hid hF
      have HG10 := Lib.hid (HG9.out.keep hb)
      have HZ10 := Lib.hid (HZ9.out.trans (hb.mono hsz9))
      have HL10 := Lib.hid (HL9.out.keep hb)
      have HM10 := Lib.hid (HM9.out.keep hb)
      have HX10 := Lib.hid (HX9.out.trans (hb.mono (by omega)))
      have hS10 : g10 ∉ [t2, m2, dd, gg] := HG9.out.rd.notin hg10
      have HS10 := Lib.hid hS10
      have hs910 := hb.size
      have hg10l := hF.lt
      clear hF hb hS10 HBy HG9 HL9 HZ9 HM9
      obtain ⟨bz, HF10, HBZ⟩ : ∃ F, Hid (Fl w10 g10 k F) ∧ Hid (∀ j, 0 ≤ F j ∧ F j < 256) := ⟨_, HF10, Lib.hid (fun j => byF_bd _ j)⟩
      go_upto_region 14 with fail
      have hq0 : w10.cell? ⟨r, 0, none⟩ = some (.slice (some ⟨nb, 0, none⟩) 9 9) := HM10.out.vr.c 0 _ rfl
      obtain ⟨px, cx, rfl, hxc, hxm⟩ : ∃ pa c, v = .slice pa sz c ∧ sz ≤ c ∧ c ≤ maxLen := by
        have := (HM10.out.bys _ (List.mem_of_getElem? (M3_three sz X v))).form
        exact this
      have hq3 : w10.cell? ⟨nb, 18, none⟩ = some (.slice px sz cx) := HM10.out.at (M3_three sz X _) 3 (by decide) _ rfl
      have hszn : sz ≤ 16384 := HFS.out.st.s2
      have hxi : (sz : Int) ≤ 16384 := by omega
      have hx0 : (0 : Int) ≤ sz := by omega
      have hlr2 : r < wr.heap.size ∧ nb < wr.heap.size := ⟨HFS.out.mm.vr.lt, HFS.out.mm.vn.lt⟩
      have HNr : Hid (r ∉ [t2, m2, dd, gg] ∧ nb ∉ [t2, m2, dd, gg] ∧ l ∉ [t2, m2, dd, gg] ∧ nb ∉ [q, p', t2, m2, dd, gg] ∧ l ∉ [nb]) := Lib.hid (by
        have := HD.out
        simp only [List.mem_cons, List.not_mem_nil, or_false, not_or]
        omega)
      have HM10b := Lib.hid ((HFS.out.mm.more ht2).more (a := m2) hm2)
      have HLL : Hid (∀ a ∈ m2 :: t2 :: L, a < w10.heap.size) := Lib.hid (fun a ha => by
        have hl := HG10.out.lts
        rcases List.mem_cons.1 ha with rfl | ha
        · omega
        · rcases List.mem_cons.1 ha with rfl | ha
          · omega
          · have := HFS.out.ll a ha
            omega)
      have HM11 : Hid (Mm w10 r nb 9 300 (M3 sz X (.slice px sz cx)) (m2 :: t2 :: L)) := Lib.hid (HM10b.out.keep (by
        have h1 : Below wr.heap.size wr w10 := HX10.out
        exact h1))
      refine wp_region_G (S := fun W : World => W.cell? ⟨r, 0, none⟩ = some (.slice (some ⟨nb, 0, none⟩) 9 9) ∧ W.cell? ⟨nb, 18, none⟩ = some (.slice px sz cx)) 16 (by kernel_rfl) ?_
      change wpAnyG _ _ _ _ _ _ _ _ _ (World.drew _)
      have hS0 : (fun W : World => W.cell? ⟨r, 0, none⟩ = some (.slice (some ⟨nb, 0, none⟩) 9 9) ∧ W.cell? ⟨nb, 18, none⟩ = some (.slice px sz cx)) w10.drew := ⟨hq0, hq3⟩
      have hbd : Below w10.heap.size w10 w10.drew := (Below.refl _ _).drew
      have HG11 := Lib.hid (HG10.out.keep hbd)
      have HZ11 := Lib.hid (HZ10.out.trans (hbd.mono (by omega)))
      have HL11 := Lib.hid (HL10.out.keep hbd)
      have HMa := Lib.hid (HM11.out.keep hbd)
      have HF11 := Lib.hid (HF10.out.below hbd HF10.out.lt)
      have HLLa : Hid (∀ a ∈ m2 :: t2 :: L, a < w10.drew.heap.size) := Lib.hid (fun a ha => Nat.lt_of_lt_of_le (HLL.out a ha) hbd.size)
      have hsz11 := hbd.size
      obtain ⟨w11, hw11⟩ : ∃ x, World.drew w10 = x := ⟨_, rfl⟩
      rw [hw11] at hS0 HG11 HZ11 HL11 HMa HF11 HLLa hsz11 ⊢
      clear hw11 hbd hq0 hq3 HG10 HZ10 HL10 HM10 HM10b HM11 HF10 HLL
      refine wpAnyG_pure (i := 0) (v := ?_) rfl (by kernel_rfl) (by kernel_rfl) (by kernel_rfl) (by kernel_rfl) (fun _ _ _ h => h) (Or.inl ⟨by kernel_rfl, ?_⟩) hS0 ?_
      rotate_left 1
      · intro W hW
        go_simp
        try with_reducible rfl
      simp only [Act.put, List.getElem_toArray, List.getElem_cons_zero, List.getElem_cons_succ, List.setIfInBounds_toArray, List.set_cons_zero, List.set_cons_succ]
      refine wpAnyG_pure (i := 1) (v := ?_) rfl (by kernel_rfl) (by kernel_rfl) (by kernel_rfl) (by kernel_rfl) (fun _ _ _ h => h) (Or.inl ⟨by kernel_rfl, ?_⟩) hS0 ?_
      rotate_left 1
      · intro W hW
        go_simp
        try with_reducible rfl
      simp only [Act.put, List.getElem_toArray, List.getElem_cons_zero, List.getElem_cons_succ, List.setIfInBounds_toArray, List.set_cons_zero, List.set_cons_succ]
      refine wpAnyG_takeW [3, 4, 5, 6, 8, 16] (i := 2) (v := ?_) rfl (by kernel_rfl) (by kernel_rfl) (by kernel_rfl) (by kernel_rfl) (by kernel_rfl) (fun _ _ _ h => h) (Or.inl ⟨by kernel_rfl, ?_⟩) hS0 ?_
      rotate_left 1
      · intro W hW
        obtain ⟨h1, h2⟩ := hW
        go_simp
        try with_reducible rfl
      simp only [Act.put, List.getElem_toArray, List.getElem_cons_zero, List.getElem_cons_succ, List.setIfInBounds_toArray, List.set_cons_zero, List.set_cons_succ]
      refine wpAnyG_pure (i := 3) (v := ?_) rfl (by kernel_rfl) (by kernel_rfl) (by kernel_rfl) (by kernel_rfl) (fun _ _ _ h => h) (Or.inl ⟨by kernel_rfl, ?_⟩) hS0 ?_
      rotate_left 1
      · intro W hW
        go_simp
        try with_reducible rfl
      simp only [Act.put, List.getElem_toArray, List.getElem_cons_zero, List.getElem_cons_succ, List.setIfInBounds_toArray, List.set_cons_zero, List.set_cons_succ]
      refine wpAnyG_pure (i := 4) (v := ?_) rfl (by kernel_rfl) (by kernel_rfl) (by kernel_rfl) (by kernel_rfl) (fun _ _ _ h => h) (Or.inl ⟨by kernel_rfl, ?_⟩) hS0 ?_
      rotate_left 1
      · intro W hW
        go_simp
        try with_reducible rfl
      simp only [Act.put, List.getElem_toArray, List.getElem_cons_zero, List.getElem_cons_succ, List.setIfInBounds_toArray, List.set_cons_zero, List.set_cons_succ]
      refine wpAnyG_takeW [6, 8, 16] (i := 5) (v := ?_) rfl (by kernel_rfl) (by kernel_rfl) (by kernel_rfl) (by kernel_rfl) (by kernel_rfl) (fun _ _ _ h => h) (Or.inl ⟨by kernel_rfl, ?_⟩) hS0 ?_
      rotate_left 1
      · intro W hW
        obtain ⟨h1, h2⟩ := hW
        go_simp
        try with_reducible rfl
      simp only [Act.put, List.getElem_toArray, List.getElem_cons_zero, List.getElem_cons_succ, List.setIfInBounds_toArray, List.set_cons_zero, List.set_cons_succ]
      refine wpAnyG_pure (i := 6) (v := ?_) rfl (by kernel_rfl) (by kernel_rfl) (by kernel_rfl) (by kernel_rfl) (fun _ _ _ h => h) (Or.inl ⟨by kernel_rfl, ?_⟩) hS0 ?_
      rotate_left 1
      · intro W hW
        go_simp
        try with_reducible rfl
      simp only [Act.put, List.getElem_toArray, List.getElem_cons_zero, List.getElem_cons_succ, List.setIfInBounds_toArray, List.set_cons_zero, List.set_cons_succ]
      refine wpAnyG_pure (i := 7) (v := ?_) rfl (by kernel_rfl) (by kernel_rfl) (by kernel_rfl) (by kernel_rfl) (fun _ _ _ h => h) (Or.inl ⟨by kernel_rfl, ?_⟩) hS0 ?_
      rotate_left 1
      · intro W hW
        go_simp
        try with_reducible rfl
      simp only [Act.put, List.getElem_toArray, List.getElem_cons_zero, List.getElem_cons_succ, List.setIfInBounds_toArray, List.set_cons_zero, List.set_cons_succ]
      refine wpAnyG_pure (i := 9) (v := ?_) rfl (by kernel_rfl) (by kernel_rfl) (by kernel_rfl) (by kernel_rfl) (fun _ _ _ h => h) (Or.inl ⟨by kernel_rfl, ?_⟩) hS0 ?_
      rotate_left 1
      · intro W hW
        go_simp
        try with_reducible rfl
      simp only [Act.put, List.getElem_toArray, List.getElem_cons_zero, List.getElem_cons_succ, List.setIfInBounds_toArray, List.set_cons_zero, List.set_cons_succ]
      refine wpAnyG_takeW [11, 12, 13, 14, 16] (i := 10) (v := ?_) rfl (by kernel_rfl) (by kernel_rfl) (by kernel_rfl) (by kernel_rfl) (by kernel_rfl) (fun _ _ _ h => h) (Or.inl ⟨by kernel_rfl, ?_⟩) hS0 ?_
      rotate_left 1
      · intro W hW
        obtain ⟨h1, h2⟩ := hW
        go_simp
        try with_reducible rfl
      simp only [Act.put, List.getElem_toArray, List.getElem_cons_zero, List.getElem_cons_succ, List.setIfInBounds_toArray, List.set_cons_zero, List.set_cons_succ]
      refine wpAnyG_pure (i := 11) (v := ?_) rfl (by kernel_rfl) (by kernel_rfl) (by kernel_rfl) (by kernel_rfl) (fun _ _ _ h => h) (Or.inl ⟨by kernel_rfl, ?_⟩) hS0 ?_
      rotate_left 1
      · intro W hW
        go_simp
        try with_reducible rfl
      simp only [Act.put, List.getElem_toArray, List.getElem_cons_zero, List.getElem_cons_succ, List.setIfInBounds_toArray, List.set_cons_zero, List.set_cons_succ]
      refine wpAnyG_pure (i := 12) (v := ?_) rfl (by kernel_rfl) (by kernel_rfl) (by kernel_rfl) (by kernel_rfl) (fun _ _ _ h => h) (Or.inl ⟨by kernel_rfl, ?_⟩) hS0 ?_
      rotate_left 1
      · intro W hW
        go_simp
        try with_reducible rfl
      simp only [Act.put, List.getElem_toArray, List.getElem_cons_zero, List.getElem_cons_succ, List.setIfInBounds_toArray, List.set_cons_zero, List.set_cons_succ]
      refine wpAnyG_takeW [14, 16] (i := 13) (v := ?_) rfl (by kernel_rfl) (by kernel_rfl) (by kernel_rfl) (by kernel_rfl) (by kernel_rfl) (fun _ _ _ h => h) (Or.inl ⟨by kernel_rfl, ?_⟩) hS0 ?_
      rotate_left 1
      · intro W hW
        obtain ⟨h1, h2⟩ := hW
        go_simp
        try with_reducible rfl
      simp only [Act.put, List.getElem_toArray, List.getElem_cons_zero, List.getElem_cons_succ, List.setIfInBounds_toArray, List.set_cons_zero, List.set_cons_succ]
      refine wpAnyG_pure (i := 14) (v := ?_) rfl (by kernel_rfl) (by kernel_rfl) (by kernel_rfl) (by kernel_rfl) (fun _ _ _ h => h) (Or.inl ⟨by kernel_rfl, ?_⟩) hS0 ?_
      rotate_left 1
      · intro W hW
        go_simp
        try with_reducible rfl
      simp only [Act.put, List.getElem_toArray, List.getElem_cons_zero, List.getElem_cons_succ, List.setIfInBounds_toArray, List.set_cons_zero, List.set_cons_succ]
      refine wpAnyG_pure (i := 15) (v := ?_) rfl (by kernel_rfl) (by kernel_rfl) (by kernel_rfl) (by kernel_rfl) (fun _ _ _ h => h) (Or.inl ⟨by kernel_rfl, ?_⟩) hS0 ?_
      rotate_left 1
      · intro W hW
        go_simp
        try with_reducible rfl
      simp only [Act.put, List.getElem_toArray, List.getElem_cons_zero, List.getElem_cons_succ, List.setIfInBounds_toArray, List.set_cons_zero, List.set_cons_succ]
      by_cases hbig : 16384 < sz + k
      · have HW := Lib.hid (fwrite_big q p' t2 m2 dd gg 0 B0 P0 8 DA 300 N K _ g Y V 3 (by decide) (by decide) (by rw [HFS.out.st.k]; decide) sz HFS.out.st.s hszn HFS.out.st.tab (by omega) HGG.out w11 HG11.out sz k (Nat.le_refl _) (by omega) hbig (some ⟨g10, 0, none⟩) k)
        refine wpAnyG_ready (rs := [8]) (by kernel_rfl) (by simp) (AllReadyG.cons rfl (fun KK hKK => ?_) AllReadyG.nil)
        go_simp
        refine HW.out.mono ?_
        rintro e w12 ⟨rfl, hG12, hk12⟩
        have HG12 := Lib.hid hG12
        have HMb := Lib.hid (HMa.out.kf hk12 (fun a ha => .inl (by
          have h1 := HFS.out.hd
          have h2 := HFS.out.hg
          simp only [List.mem_cons, List.not_mem_nil, or_false] at ha ⊢
          rcases ha with rfl | rfl | rfl | rfl
          · exact .inr (.inl rfl)
          · exact .inl rfl
          · exact .inr (.inr h1)
          · exact .inr (.inr h2))) HNr.out.1 HNr.out.2.1)
        have HL12 := Lib.hid (HL11.out.kf hk12 HNr.out.2.2.1)
        have HLLb : Hid (∀ a ∈ m2 :: t2 :: L, a < w12.heap.size) := Lib.hid (fun a ha => Nat.lt_of_lt_of_le (HLLa.out a ha) hk12.size)
        have HF12 : Hid (B8 w12 (some ⟨g10, 0, none⟩) k k bz) := Lib.hid (.inr (.inr ⟨g10, 0, rfl, Nat.lt_of_lt_of_le HF11.out.lt hk12.size, fun j hj => by
          rw [Nat.zero_add]
          exact (hk12.cell (p := ⟨g10, j, none⟩) HF11.out.lt HS10.out).trans (HF11.out.c j hj)⟩))
        have hS1 : (fun W : World => W.cell? ⟨r, 0, none⟩ = some (.slice (some ⟨nb, 0, none⟩) 9 9) ∧ W.cell? ⟨nb, 18, none⟩ = some (.slice px sz cx)) w12 := ⟨HMb.out.vr.c 0 _ rfl, HMb.out.at (M3_three sz X _) 3 (by decide) _ rfl⟩
        have hsz11 := HZ11.out.size
        have HZ12 : Hid (Below w2.heap.size w2 w12) := Lib.hid (HZ11.out.trans (hk12.below (B := w2.heap.size) (fun a ha => by
          have := HD.out
          simp only [List.mem_cons, List.not_mem_nil, or_false] at ha
          omega) hsz11))
        have hs12 := hk12.size
        clear hS0 hG12 hk12 HW HG11 HL11 HZ11 HMa HF11 HLLa
        refine hKK _ _ (fun _ => hS1) ?_
        clear hKK KK
        try simp only [Act.put, List.getElem_toArray, List.getElem_cons_zero, List.getElem_cons_succ, List.setIfInBounds_toArray, List.set_cons_zero, List.set_cons_succ]
        have HRW := Lib.hid (rwrite_big r nb 9 9 300 (M3 sz X (.slice px sz cx)) _ 3 _ (M3_three sz X _) (show ¬ (1 : Int) = 0 by decide) (M3_len sz X _) (M3_le sz X _ hszn) sz k ⟨Nat.le_refl _, hbig, by omega⟩ (some ⟨g10, 0, none⟩) k w12 HMb.out HLLb.out)
        refine wpAnyG_ready (rs := [16]) (by kernel_rfl) (by simp) (AllReadyG.cons rfl (fun KK hKK => ?_) AllReadyG.nil)
        go_simp
        refine HRW.out.mono ?_
        rintro e w13 ⟨rfl, hb13⟩
        have HMc := Lib.hid (HMb.out.keep hb13)
        have HG13 := Lib.hid (HG12.out.keep hb13)
        have HL13 := Lib.hid (HL12.out.keep hb13)
        have HZ13 := Lib.hid (HZ12.out.trans (hb13.mono (by omega)))
        have hs13 := hb13.size
        clear hb13
        have HLLc : Hid (∀ a ∈ m2 :: t2 :: L, a < w13.heap.size) := Lib.hid (fun a ha => Nat.lt_of_lt_of_le (HLLb.out a ha) hs13)
        clear hS1 HRW HMb HG12 HL12 HZ12 HF12 HLLb
        refine hKK _ _ (fun h9 => by cases h9) ?_
        clear hKK KK
        try simp only [Act.put, List.getElem_toArray, List.getElem_cons_zero, List.getElem_cons_succ, List.setIfInBounds_toArray, List.set_cons_zero, List.set_cons_succ]
        refine wpAnyG_past _ _ _ _ (by kernel_rfl) ?_
        have hS0 : (fun _ : World => True) w13 := trivial
        refine wpAnyH_take (i := 17) (v := ?_) rfl (by kernel_rfl) (by kernel_rfl) (by kernel_rfl) (fun _ _ _ h => h) (Or.inl ⟨by kernel_rfl, ?_⟩) hS0 ?_
        rotate_left 1
        · intro W hW
          go_simp
          try with_reducible rfl
        simp only [Act.put, List.getElem_toArray, List.getElem_cons_zero, List.getElem_cons_succ, List.setIfInBounds_toArray, List.set_cons_zero, List.set_cons_succ]
        refine wpAnyH_take (i := 18) (v := ?_) rfl (by kernel_rfl) (by kernel_rfl) (by kernel_rfl) (fun _ _ _ h => h) (Or.inl ⟨by kernel_rfl, ?_⟩) hS0 ?_
        rotate_left 1
        · intro W hW
          go_simp
          try with_reducible rfl
        simp only [Act.put, List.getElem_toArray, List.getElem_cons_zero, List.getElem_cons_succ, List.setIfInBounds_toArray, List.set_cons_zero, List.set_cons_succ]
        refine wpAnyH_take (i := 19) (v := ?_) rfl (by kernel_rfl) (by kernel_rfl) (by kernel_rfl) (fun _ _ _ h => h) (Or.inl ⟨by kernel_rfl, ?_⟩) hS0 ?_
        rotate_left 1
        · intro W hW
          go_simp
          try with_reducible rfl
        simp only [Act.put, List.getElem_toArray, List.getElem_cons_zero, List.getElem_cons_succ, List.setIfInBounds_toArray, List.set_cons_zero, List.set_cons_succ]
        have HCm := Lib.hid (commit7 t2 m2 dd gg (K + 1) Y (Ly.len (LQ (sz / 64)) (by rw [LQ_len]; decide) _ _ _ _ _) (by omega) w13 HG13.out.rd)
        refine wpAnyH_ready (rs := [20]) (by kernel_rfl) (by simp) (AllReadyH.cons rfl (fun KK hKK => ?_) AllReadyH.nil)
        go_simp
        refine (HCm.out).mono ?_
        rintro e w14 ⟨rfl, hR14, hk14⟩
        have HR14 := Lib.hid hR14
        have HK14 := Lib.hid hk14
        clear hR14 hk14
        refine hKK _ _ trivial ?_
        intro _
        clear hKK KK
        try simp only [Act.put, List.getElem_toArray, List.getElem_cons_zero, List.getElem_cons_succ, List.setIfInBounds_toArray, List.set_cons_zero, List.set_cons_succ]
        refine wpAnyH_take (i := 21) (v := ?_) rfl (by kernel_rfl) (by kernel_rfl) (by kernel_rfl) (fun _ _ _ h => h) (Or.inl ⟨by kernel_rfl, ?_⟩) trivial ?_
        rotate_left 1
        · intro W hW
          go_simp
          try with_reducible rfl
        simp only [Act.put, List.getElem_toArray, List.getElem_cons_zero, List.getElem_cons_succ, List.setIfInBounds_toArray, List.set_cons_zero, List.set_cons_succ]
        refine wpAnyH_take (i := 22) (v := ?_) rfl (by kernel_rfl) (by kernel_rfl) (by kernel_rfl) (fun _ _ _ h => h) (Or.inl ⟨by kernel_rfl, ?_⟩) trivial ?_
        rotate_left 1
        · intro W hW
          go_simp
          try with_reducible rfl
        simp only [Act.put, List.getElem_toArray, List.getElem_cons_zero, List.getElem_cons_succ, List.setIfInBounds_toArray, List.set_cons_zero, List.set_cons_succ]
        refine wpAnyH_done (by kernel_rfl) ?_ _
        have hk14 := HK14.out
        have HMd := Lib.hid (HMc.out.kf hk14 (fun a ha => .inl (by
          have h1 := HFS.out.hd
          have h2 := HFS.out.hg
          simp only [List.mem_cons, List.not_mem_nil, or_false] at ha ⊢
          rcases ha with rfl | rfl | rfl | rfl
          · exact .inr (.inl rfl)
          · exact .inl rfl
          · exact .inr (.inr h1)
          · exact .inr (.inr h2))) HNr.out.1 HNr.out.2.1)
        have HL14 := Lib.hid (HL13.out.kf hk14 HNr.out.2.2.1)
        have HLLd : Hid (∀ a ∈ m2 :: t2 :: L, a < w14.heap.size) := Lib.hid (fun a ha => Nat.lt_of_lt_of_le (HLLc.out a ha) hk14.size)
        have hsz13 := HZ13.out.size
        have HZ14 : Hid (Below w2.heap.size w2 w14) := Lib.hid (HZ13.out.trans (hk14.below (B := w2.heap.size) (fun a ha => by
          have := HD.out
          simp only [List.mem_cons, List.not_mem_nil, or_false] at ha
          omega) hsz13))
        have HFN := Lib.hid (show FS w2 w14 N dd gg l r nb 9 B0 P0 DA (7000 + 26000 * (i + 1)) sz _ _ (m2 :: t2 :: L) t2 m2 _ Y _ _ from ⟨HR14.out, by omega, HFS.out.st, HFS.out.xb, HMd.out, HLLd.out, List.mem_cons_of_mem _ (List.mem_cons_of_mem _ HFS.out.hd), List.mem_cons_of_mem _ (List.mem_cons_of_mem _ HFS.out.hg), HL14.out, HZ14.out⟩)
        clear hk14 HMd HL14 HLLd HZ14 HR14 HK14 HCm HMc HL13 HLLc HZ13 HG13
        go_wp2_with fail
        refine ⟨⟨i + 1, by omega, by go_num, _, _, _, _, _, _, _, _, _, _, HFN.out⟩, ?_⟩
        simp [Go.RowKit.intOf]
        omega
      · have HW := Lib.hid (writeO HCO.out (by decide) q p' t2 m2 dd gg K Y V Y B sz X HFS.out.st (by omega) w11 HG11.out k (by omega) (by omega) _ bz (fun j _ => HBZ.out j) (Src.made w11 g10 k bz [t2, m2, dd, gg] HF11.out (by unfold maxLen; omega) HS10.out))
        refine wpAnyG_ready (rs := [8]) (by kernel_rfl) (by simp) (AllReadyG.cons rfl (fun KK hKK => ?_) AllReadyG.nil)
        go_simp
        refine HW.out.mono ?_
        rintro e w12 ⟨Y1, V1, B1, rfl, hG12, hk12, hS12⟩
        have HS12 := Lib.hid hS12
        clear hS12
        have HG12 := Lib.hid hG12
        have HMb := Lib.hid (HMa.out.kf hk12 (fun a ha => .inl (by
          have h1 := HFS.out.hd
          have h2 := HFS.out.hg
          simp only [List.mem_cons, List.not_mem_nil, or_false] at ha ⊢
          rcases ha with rfl | rfl | rfl | rfl
          · exact .inr (.inl rfl)
          · exact .inl rfl
          · exact .inr (.inr h1)
          · exact .inr (.inr h2))) HNr.out.1 HNr.out.2.1)
        have HL12 := Lib.hid (HL11.out.kf hk12 HNr.out.2.2.1)
        have HLLb : Hid (∀ a ∈ m2 :: t2 :: L, a < w12.heap.size) := Lib.hid (fun a ha => Nat.lt_of_lt_of_le (HLLa.out a ha) hk12.size)
        have HF12 : Hid (B8 w12 (some ⟨g10, 0, none⟩) k k bz) := Lib.hid (.inr (.inr ⟨g10, 0, rfl, Nat.lt_of_lt_of_le HF11.out.lt hk12.size, fun j hj => by
          rw [Nat.zero_add]
          exact (hk12.cell (p := ⟨g10, j, none⟩) HF11.out.lt HS10.out).trans (HF11.out.c j hj)⟩))
        have hS1 : (fun W : World => W.cell? ⟨r, 0, none⟩ = some (.slice (some ⟨nb, 0, none⟩) 9 9) ∧ W.cell? ⟨nb, 18, none⟩ = some (.slice px sz cx)) w12 := ⟨HMb.out.vr.c 0 _ rfl, HMb.out.at (M3_three sz X _) 3 (by decide) _ rfl⟩
        have hsz11 := HZ11.out.size
        have HZ12 : Hid (Below w2.heap.size w2 w12) := Lib.hid (HZ11.out.trans (hk12.below (B := w2.heap.size) (fun a ha => by
          have := HD.out
          simp only [List.mem_cons, List.not_mem_nil, or_false] at ha
          omega) hsz11))
        have hs12 := hk12.size
        clear hS0 hG12 hk12 HW HG11 HL11 HZ11 HMa HF11 HLLa
        refine hKK _ _ (fun _ => hS1) ?_
        clear hKK KK
        try simp only [Act.put, List.getElem_toArray, List.getElem_cons_zero, List.getElem_cons_succ, List.setIfInBounds_toArray, List.set_cons_zero, List.set_cons_succ]
        have HRW := Lib.hid (rwriteO r nb 9 sz X (.slice px sz cx) _ k (sz + k) rfl (by omega) (some ⟨g10, 0, none⟩) k bz w12 HF12.out HMb.out HLLb.out)
        refine wpAnyG_ready (rs := [16]) (by kernel_rfl) (by simp) (AllReadyG.cons rfl (fun KK hKK => ?_) AllReadyG.nil)
        go_simp
        refine HRW.out.mono ?_
        rintro e w13 ⟨v', rfl, hM13, hk13⟩
        have HMc := Lib.hid hM13
        have HG13 := Lib.hid (HG12.out.kp hk13 HNr.out.2.2.2.1)
        have HL13 := Lib.hid (HL12.out.kf (Kf.of_kp hk13 (L := [nb]) (by simp) (by simp)) HNr.out.2.2.2.2)
        have HZ13 : Hid (Below w2.heap.size w2 w13) := Lib.hid (HZ12.out.trans (hk13.below (by have := HD.out; omega) (by have := HD.out; omega) HZ12.out.size))
        have hs13 := hk13.size
        clear hM13 hk13
        have HLLc : Hid (∀ a ∈ m2 :: t2 :: L, a < w13.heap.size) := Lib.hid (fun a ha => Nat.lt_of_lt_of_le (HLLb.out a ha) hs13)
        clear hS1 HRW HMb HG12 HL12 HZ12 HF12 HLLb
        refine hKK _ _ (fun h9 => by cases h9) ?_
        clear hKK KK
        try simp only [Act.put, List.getElem_toArray, List.getElem_cons_zero, List.getElem_cons_succ, List.setIfInBounds_toArray, List.set_cons_zero, List.set_cons_succ]
        refine wpAnyG_past _ _ _ _ (by kernel_rfl) ?_
        have hS0 : (fun _ : World => True) w13 := trivial
        refine wpAnyH_take (i := 17) (v := ?_) rfl (by kernel_rfl) (by kernel_rfl) (by kernel_rfl) (fun _ _ _ h => h) (Or.inl ⟨by kernel_rfl, ?_⟩) hS0 ?_
        rotate_left 1
        · intro W hW
          go_simp
          try with_reducible rfl
        simp only [Act.put, List.getElem_toArray, List.getElem_cons_zero, List.getElem_cons_succ, List.setIfInBounds_toArray, List.set_cons_zero, List.set_cons_succ]
        refine wpAnyH_take (i := 18) (v := ?_) rfl (by kernel_rfl) (by kernel_rfl) (by kernel_rfl) (fun _ _ _ h => h) (Or.inl ⟨by kernel_rfl, ?_⟩) hS0 ?_
        rotate_left 1
        · intro W hW
          go_simp
          try with_reducible rfl
        simp only [Act.put, List.getElem_toArray, List.getElem_cons_zero, List.getElem_cons_succ, List.setIfInBounds_toArray, List.set_cons_zero, List.set_cons_succ]
        refine wpAnyH_take (i := 19) (v := ?_) rfl (by kernel_rfl) (by kernel_rfl) (by kernel_rfl) (fun _ _ _ h => h) (Or.inl ⟨by kernel_rfl, ?_⟩) hS0 ?_
        rotate_left 1
        · intro W hW
          go_simp
          try with_reducible rfl
        simp only [Act.put, List.getElem_toArray, List.getElem_cons_zero, List.getElem_cons_succ, List.setIfInBounds_toArray, List.set_cons_zero, List.set_cons_succ]
        have HCm := Lib.hid (commit7 t2 m2 dd gg (K + 25000) Y1 (Ly.len (LQ (sz / 64)) (by rw [LQ_len]; decide) _ _ _ _ _) (by omega) w13 HG13.out.rd)
        refine wpAnyH_ready (rs := [20]) (by kernel_rfl) (by simp) (AllReadyH.cons rfl (fun KK hKK => ?_) AllReadyH.nil)
        go_simp
        refine (HCm.out).mono ?_
        rintro e w14 ⟨rfl, hR14, hk14⟩
        have HR14 := Lib.hid hR14
        have HK14 := Lib.hid hk14
        clear hR14 hk14
        refine hKK _ _ trivial ?_
        intro _
        clear hKK KK
        try simp only [Act.put, List.getElem_toArray, List.getElem_cons_zero, List.getElem_cons_succ, List.setIfInBounds_toArray, List.set_cons_zero, List.set_cons_succ]
        refine wpAnyH_take (i := 21) (v := ?_) rfl (by kernel_rfl) (by kernel_rfl) (by kernel_rfl) (fun _ _ _ h => h) (Or.inl ⟨by kernel_rfl, ?_⟩) trivial ?_
        rotate_left 1
        · intro W hW
          go_simp
          try with_reducible rfl
        simp only [Act.put, List.getElem_toArray, List.getElem_cons_zero, List.getElem_cons_succ, List.setIfInBounds_toArray, List.set_cons_zero, List.set_cons_succ]
        refine wpAnyH_take (i := 22) (v := ?_) rfl (by kernel_rfl) (by kernel_rfl) (by kernel_rfl) (fun _ _ _ h => h) (Or.inl ⟨by kernel_rfl, ?_⟩) trivial ?_
        rotate_left 1
        · intro W hW
          go_simp
          try with_reducible rfl
        simp only [Act.put, List.getElem_toArray, List.getElem_cons_zero, List.getElem_cons_succ, List.setIfInBounds_toArray, List.set_cons_zero, List.set_cons_succ]
        refine wpAnyH_done (by kernel_rfl) ?_ _
        have hk14 := HK14.out
        have HMd := Lib.hid (HMc.out.kf hk14 (fun a ha => .inl (by
          have h1 := HFS.out.hd
          have h2 := HFS.out.hg
          simp only [List.mem_cons, List.not_mem_nil, or_false] at ha ⊢
          rcases ha with rfl | rfl | rfl | rfl
          · exact .inr (.inl rfl)
          · exact .inl rfl
          · exact .inr (.inr h1)
          · exact .inr (.inr h2))) HNr.out.1 HNr.out.2.1)
        have HL14 := Lib.hid (HL13.out.kf hk14 HNr.out.2.2.1)
        have HLLd : Hid (∀ a ∈ m2 :: t2 :: L, a < w14.heap.size) := Lib.hid (fun a ha => Nat.lt_of_lt_of_le (HLLc.out a ha) hk14.size)
        have hsz13 := HZ13.out.size
        have HZ14 : Hid (Below w2.heap.size w2 w14) := Lib.hid (HZ13.out.trans (hk14.below (B := w2.heap.size) (fun a ha => by
          have := HD.out
          simp only [List.mem_cons, List.not_mem_nil, or_false] at ha
          omega) hsz13))
        have HFN := Lib.hid (show FS w2 w14 N dd gg l r nb 9 B0 P0 DA (7000 + 26000 * (i + 1)) (sz + k) _ _ (m2 :: t2 :: L) t2 m2 _ Y1 _ _ from ⟨HR14.out, by omega, HS12.out, fun j => by
          show 0 ≤ (if j < sz then X j else bz (j - sz)) ∧ (if j < sz then X j else bz (j - sz)) < 256
          split
          · exact HFS.out.xb j
          · exact HBZ.out _, HMd.out, HLLd.out, List.mem_cons_of_mem _ (List.mem_cons_of_mem _ HFS.out.hd), List.mem_cons_of_mem _ (List.mem_cons_of_mem _ HFS.out.hg), HL14.out, HZ14.out⟩)
        clear hk14 HMd HL14 HLLd HZ14 HR14 HK14 HCm HMc HL13 HLLc HZ13 HG13
        go_wp2_with fail
        refine ⟨⟨i + 1, by omega, by go_num, _, _, _, _, _, _, _, _, _, _, HFN.out⟩, ?_⟩
        simp [Go.RowKit.intOf]
        omega
    · have hin : i = n1 := by omega
      subst hin
      obtain ⟨wX, rfl⟩ : ∃ x, x = wr := ⟨wr, rfl⟩
      clear HP HSA
      go_wp2_with fail
      go_loopw [18, 19, 20, 21, 22, 23, 24, 25, 26, 27, 28, 29, 101] (fun _ _ _ _ _ _ _ _ _ _ _ _ iv wr => ∃ j : Nat, j ≤ n2 ∧ iv = .int .i64 j ∧ ∃ sz X v L t m K Y V B, FS w2 wr N dd gg l r nb 9 B0 P0 DA (1100000 + 26000 * j) sz X v L t m K Y V B) (fun _ _ _ _ _ _ _ _ _ _ _ _ iv _ => n2 - (Go.RowKit.intOf iv).toNat)
      case atStart =>
        have hkb := HFS.out.kb
        exact ⟨0, Nat.zero_le _, rfl, _, _, _, _, _, _, _, _, _, _, ⟨HFS.out.rd, by omega, HFS.out.st, HFS.out.xb, HFS.out.mm, HFS.out.ll, HFS.out.hd, HFS.out.hg, HFS.out.lg, HFS.out.bw⟩⟩
      case round =>
        clear HFS
        obtain ⟨j, hj, rfl, sz, X, v, L, t1, m1, K, Y, V, B, hFS⟩ := hrel
        have HFS := Lib.hid hFS
        clear hFS
        have hj0 : (0 : Int) ≤ j := by omega
        by_cases hlt : j < n2
        · have hj1 : (j : Int) < n2 := by omega
          have hBW := HB2.out.trans (HFS.out.bw.mono HB2.out.size)
          obtain ⟨bq, oq, rfl, hbq, hqc⟩ : ∃ b off, pb = some ⟨b, off, none⟩ ∧ b < w.heap.size ∧ ∀ j, j < n2 → w.cell? ⟨b, off + j, none⟩ = some (.int .u16 (s2 j)) := by
            rcases HQ.out with h | h
            · omega
            · exact h
          have hqi : wr.cell? ⟨bq, oq + j, none⟩ = some (.int .u16 (s2 j)) := (hBW.cell (p := ⟨bq, oq + j, none⟩) hbq).trans (hqc j hlt)
          obtain ⟨hz0, hz1⟩ := HSB.out j hlt
          obtain ⟨z, hz⟩ : ∃ z, s2 j = z := ⟨_, rfl⟩
          rw [hz] at hqi hz0 hz1
          have hszn : sz ≤ 16384 := HFS.out.st.s2
          have hxi : (sz : Int) ≤ 16384 := by omega
          have hx0 : (0 : Int) ≤ sz := by omega
          obtain ⟨x, hx, hx1⟩ := tmod_n z ((sz : Int) + 1) hz0 (by omega)
          have hxs : x ≤ sz := by omega
          have hx9 : (0 : Int) ≤ x := by omega
          have hnz : ¬ ((sz : Int) + 1 = 0) := by omega
          clear hqc hz hBW
          have HZ7 := Lib.hid HFS.out.bw
          have hsz7 := HFS.out.bw.size
          have hlr := HFS.out.lg.lt
          have hKK := HFS.out.kb
          have hlr2 : r < wr.heap.size ∧ nb < wr.heap.size := ⟨HFS.out.mm.vr.lt, HFS.out.mm.vn.lt⟩
          have HBg := Lib.hid (begin7 l t1 m1 dd gg K Y wr HFS.out.rd HFS.out.lg)
          go_wp2_with fail
          refine HBg.out.mono ?_
          rintro e w8 ⟨t2, m2, rfl, ht2, hm2, hR8, hb8⟩
          have HR8 := Lib.hid hR8
          have HZ8 := Lib.hid (HZ7.out.trans (hb8.mono hsz7))
          have HL8 := Lib.hid (HFS.out.lg.keep hb8)
          have HM8 := Lib.hid (((HFS.out.mm.more ht2).more (a := m2) hm2).keep hb8)
          have hsz8 := HZ8.out.size
          have hs78 := hb8.size
          have hlt8 := hR8.lts
          have HLLa : Hid (∀ a ∈ m2 :: t2 :: L, a < w8.heap.size) := Lib.hid (fun a ha => by
            rcases List.mem_cons.1 ha with rfl | ha
            · omega
            · rcases List.mem_cons.1 ha with rfl | ha
              · omega
              · have := HFS.out.ll a ha
                omega)
          clear hR8 hb8 HBg hqi
          go_wp2_with fail
          refine (openO HCO.out ⟨LC B0 P0 DA B x, Y⟩ t2 m2 dd gg n K Y vr vm vg w8 (HCFx.out w8 HZ8.out) (HR8.out.wide (Lm.nil_le _ _))).mono ?_
          rintro e w9 ⟨q, p', rfl, hq, hp', hG9, hb9⟩
          have HG9 := Lib.hid hG9
          have HZ9 := Lib.hid (HZ8.out.trans (hb9.mono hsz8))
          have HL9 := Lib.hid (HL8.out.keep hb9)
          have HM9 := Lib.hid (HM8.out.keep hb9)
          have hsz9 := HZ9.out.size
          have hs89 := hb9.size
          have HLLb : Hid (∀ a ∈ m2 :: t2 :: L, a < w9.heap.size) := Lib.hid (fun a ha => Nat.lt_of_lt_of_le (HLLa.out a ha) hs89)
          clear hG9 hb9 HR8 HZ8 HL8 HM8 HLLa hlt8
          have HNr : Hid (r ∉ [t2, m2, dd, gg] ∧ nb ∉ [t2, m2, dd, gg] ∧ l ∉ [t2, m2, dd, gg] ∧ nb ∉ [q, p', t2, m2, dd, gg] ∧ l ∉ [nb]) := Lib.hid (by
            have := HD.out
            simp only [List.mem_cons, List.not_mem_nil, or_false, not_or]
            omega)
          have hq0 : w9.cell? ⟨r, 0, none⟩ = some (.slice (some ⟨nb, 0, none⟩) 9 9) := HM9.out.vr.c 0 _ rfl
          obtain ⟨px, cx, rfl, hxc, hxm⟩ : ∃ pa c, v = .slice pa sz c ∧ sz ≤ c ∧ c ≤ maxLen := by
            have := (HM9.out.bys _ (List.mem_of_getElem? (M3_three sz X v))).form
            exact this
          have hq3 : w9.cell? ⟨nb, 18, none⟩ = some (.slice px sz cx) := HM9.out.at (M3_three sz X _) 3 (by decide) _ rfl
          have HC := Lib.hid (cutO HCO.out q p' t2 m2 dd gg K Y V Y B sz X HFS.out.st (by omega) x hxs w9 HG9.out)
          go_wp2_with fail
          refine HC.out.mono ?_
          rintro e w10 ⟨Y1, V1, rfl, hG10, hk10, hS10⟩
          have HG10 := Lib.hid hG10
          have HS10 := Lib.hid hS10
          have HMb := Lib.hid (HM9.out.kf hk10 (fun a ha => .inl (by
            have h1 := HFS.out.hd
            have h2 := HFS.out.hg
            simp only [List.mem_cons, List.not_mem_nil, or_false] at ha
            rcases ha with rfl | rfl | rfl | rfl
            · exact List.mem_cons_of_mem _ (List.mem_cons_self ..)
            · exact List.mem_cons_self ..
            · exact List.mem_cons_of_mem _ (List.mem_cons_of_mem _ (h1))
            · exact List.mem_cons_of_mem _ (List.mem_cons_of_mem _ (h2)))) HNr.out.1 HNr.out.2.1)
          have HL10 := Lib.hid (HL9.out.kf hk10 HNr.out.2.2.1)
          have HLLc : Hid (∀ a ∈ m2 :: t2 :: L, a < w10.heap.size) := Lib.hid (fun a ha => Nat.lt_of_lt_of_le (HLLb.out a ha) hk10.size)
          have hsz9 := HZ9.out.size
          have HZ10 : Hid (Below w2.heap.size w2 w10) := Lib.hid (HZ9.out.trans (hk10.below (B := w2.heap.size) (fun a ha => by
            have := HD.out
            simp only [List.mem_cons, List.not_mem_nil, or_false] at ha
            omega) hsz9))
          have hs10 := hk10.size
          clear hG10 hS10 hk10 HC HG9 HZ9 HL9 HM9 HLLb hq0 hq3
          have HRC := Lib.hid (rcutO r nb 9 sz X (.slice px sz cx) _ hszn x hxs w10 HMb.out HLLc.out)
          go_wp2_with fail
          refine HRC.out.mono ?_
          rintro e w11 ⟨v', rfl, hM11, hk11⟩
          have HM11 := Lib.hid hM11
          have HG11 := Lib.hid (HG10.out.kp hk11 HNr.out.2.2.2.1)
          have HL11 := Lib.hid (HL10.out.kf (Kf.of_kp hk11 (L := [nb]) (by simp) (by simp)) HNr.out.2.2.2.2)
          have HZ11 : Hid (Below w2.heap.size w2 w11) := Lib.hid (HZ10.out.trans (hk11.below (by have := HD.out; omega) (by have := HD.out; omega) HZ10.out.size))
          have HLLd : Hid (∀ a ∈ m2 :: t2 :: L, a < w11.heap.size) := Lib.hid (fun a ha => Nat.lt_of_lt_of_le (HLLc.out a ha) hk11.size)
          have hs11 := hk11.size
          clear hM11 hk11 HRC HMb HG10 HL10 HZ10 HLLc
          have HCm := Lib.hid (commit7 t2 m2 dd gg (K + 11000) Y1 (show (LC B0 P0 DA B x).length ≤ 30 by show 5 ≤ 30; decide) (by omega) w11 HG11.out.rd)
          go_wp2_with fail
          refine HCm.out.mono ?_
          rintro e w12 ⟨rfl, hR12, hk12⟩
          have HR12 := Lib.hid hR12
          have HM12 := Lib.hid (HM11.out.kf hk12 (fun a ha => .inl (by
            have h1 := HFS.out.hd
            have h2 := HFS.out.hg
            simp only [List.mem_cons, List.not_mem_nil, or_false] at ha
            rcases ha with rfl | rfl | rfl | rfl
            · exact List.mem_cons_of_mem _ (List.mem_cons_self ..)
            · exact List.mem_cons_self ..
            · exact List.mem_cons_of_mem _ (List.mem_cons_of_mem _ (h1))
            · exact List.mem_cons_of_mem _ (List.mem_cons_of_mem _ (h2)))) HNr.out.1 HNr.out.2.1)
          have HL12 := Lib.hid (HL11.out.kf hk12 HNr.out.2.2.1)
          have HLLe : Hid (∀ a ∈ m2 :: t2 :: L, a < w12.heap.size) := Lib.hid (fun a ha => Nat.lt_of_lt_of_le (HLLd.out a ha) hk12.size)
          have hsz11 := HZ11.out.size
          have HZ12 : Hid (Below w2.heap.size w2 w12) := Lib.hid (HZ11.out.trans (hk12.below (B := w2.heap.size) (fun a ha => by
            have := HD.out
            simp only [List.mem_cons, List.not_mem_nil, or_false] at ha
            omega) hsz11))
          have hs12 := hk12.size
          clear hR12 hk12 HCm HM11 HG11 HL11 HZ11 HLLd
          have hsz12 := HZ12.out.size
          have HBg := Lib.hid (begin7 l t2 m2 dd gg (K + 11000 + 92) Y1 w12 HR12.out HL12.out)
          go_wp2_with fail
          refine HBg.out.mono ?_
          rintro e w13 ⟨t3, m3, rfl, ht3, hm3, hR13, hb13⟩
          have HR13 := Lib.hid hR13
          have HZ13 := Lib.hid (HZ12.out.trans (hb13.mono hsz12))
          have HL13 := Lib.hid (HL12.out.keep hb13)
          have HM13 := Lib.hid (((HM12.out.more ht3).more (a := m3) hm3).keep hb13)
          have hsz13 := HZ13.out.size
          have hs13 := hb13.size
          have hlt13 := hR13.lts
          have HLLf : Hid (∀ a ∈ m3 :: t3 :: m2 :: t2 :: L, a < w13.heap.size) := Lib.hid (fun a ha => by
            rcases List.mem_cons.1 ha with rfl | ha
            · omega
            · rcases List.mem_cons.1 ha with rfl | ha
              · omega
              · have := HLLe.out a ha
                omega)
          clear hR13 hb13 HBg HR12 HL12 HM12 HZ12 HLLe
          go_wp2_with fail
          refine (openO HCO.out ⟨[], Y1⟩ t3 m3 dd gg n (K + 11000 + 92) Y1 vr vm vg w13 (HCFx.out w13 HZ13.out) HR13.out).mono ?_
          rintro e w14 ⟨q3, p3, rfl, hq3', hp3', hG14, hb14⟩
          have HG14 := Lib.hid hG14
          have HZ14 := Lib.hid (HZ13.out.trans (hb14.mono hsz13))
          have HL14 := Lib.hid (HL13.out.keep hb14)
          have HM14 := Lib.hid (HM13.out.keep hb14)
          have hs14 := hb14.size
          have HLLg : Hid (∀ a ∈ m3 :: t3 :: m2 :: t2 :: L, a < w14.heap.size) := Lib.hid (fun a ha => Nat.lt_of_lt_of_le (HLLf.out a ha) hs14)
          clear hG14 hb14 HR13 HZ13 HL13 HM13 HLLf hlt13
          have HNs : Hid (r ∉ [t3, m3, dd, gg] ∧ nb ∉ [t3, m3, dd, gg] ∧ l ∉ [t3, m3, dd, gg] ∧ nb ∉ [q3, p3, t3, m3, dd, gg] ∧ l ∉ [nb]) := Lib.hid (by
            have := HD.out
            simp only [List.mem_cons, List.not_mem_nil, or_false, not_or]
            omega)
          have HRd := Lib.hid (fread_in q3 p3 t3 m3 dd gg 0 B0 P0 8 DA 300 N (K + 11000 + 92) g Y1 V1 3 (by decide) (by decide) (by rw [HS10.out.k]; decide) x HS10.out.s (by omega) B _ HS10.out.fu.fi (fun c hc => (ndS_iff _ _).2 (by omega)) HS10.out.tab (by omega) HGG.out w14 HG14.out 0 (by decide) 1048576 (by decide) (by decide) x (by omega))
          go_wp2_with fail
          refine HRd.out.mono ?_
          rintro e w15 ⟨bR, rfl, hbR, hF15, hG15, hk15⟩
          have HG15 := Lib.hid hG15
          have hbRl := hF15.lt
          have HF15 : Hid (Fl w15 bR x X) := Lib.hid (hF15.congr (fun i hi => by
            show ctF DA Y1 B (0 + i) = X i
            rw [Nat.zero_add, HS10.out.ct i (by omega), if_pos hi]))
          have HM15 := Lib.hid (HM14.out.kf hk15 (fun a ha => .inl (by
            have h1 := HFS.out.hd
            have h2 := HFS.out.hg
            simp only [List.mem_cons, List.not_mem_nil, or_false] at ha
            rcases ha with rfl | rfl | rfl | rfl
            · exact List.mem_cons_of_mem _ (List.mem_cons_self ..)
            · exact List.mem_cons_self ..
            · exact List.mem_cons_of_mem _ (List.mem_cons_of_mem _ (List.mem_cons_of_mem _ (List.mem_cons_of_mem _ (h1))))
            · exact List.mem_cons_of_mem _ (List.mem_cons_of_mem _ (List.mem_cons_of_mem _ (List.mem_cons_of_mem _ (h2)))))) HNs.out.1 HNs.out.2.1)
          have HL15 := Lib.hid (HL14.out.kf hk15 HNs.out.2.2.1)
          have HLLh : Hid (∀ a ∈ m3 :: t3 :: m2 :: t2 :: L, a < w15.heap.size) := Lib.hid (fun a ha => Nat.lt_of_lt_of_le (HLLg.out a ha) hk15.size)
          have hsz14 := HZ14.out.size
          have HZ15 : Hid (Below w2.heap.size w2 w15) := Lib.hid (HZ14.out.trans (hk15.below (B := w2.heap.size) (fun a ha => by
            have := HD.out
            simp only [List.mem_cons, List.not_mem_nil, or_false] at ha
            omega) hsz14))
          have hs15 := hk15.size
          have hnR : bR ∉ [t3, m3, dd, gg] := HG14.out.rd.notin hbR
          clear hF15 hG15 hk15 HRd HM14 HG14 HL14 HZ14 HLLg
          obtain ⟨da, hda⟩ : ∃ d, (x + 63) / 64 = d := ⟨_, rfl⟩
          obtain ⟨pt, hpt⟩ : ∃ p, ptsN da = p := ⟨_, rfl⟩
          obtain ⟨cb, hcb⟩ : ∃ c, da + pt = c := ⟨_, rfl⟩
          have hda2 : da ≤ 256 := by omega
          have hpt2 : pt ≤ 9 := by rw [← hpt]; exact ptsN_le da hda2
          have hcnt : (setL (bt Y1 B0) 300).length = cb := by rw [HS10.out.count, hda, hpt, hcb]
          obtain ⟨cn, hcn⟩ : ∃ c, cN V1 8 = c := ⟨_, rfl⟩
          have HU := Lib.hid (gusage q3 p3 t3 m3 dd gg 0 B0 P0 8 DA 300 N _ g Y1 V1 cb hcnt cn hcn (by omega) HS10.out.tab HGG.out w15 HG15.out)
          have HSp := Lib.hid (fun W => rspread_any (x : Int) (by omega) W)
          rw [dataS_nat, ptrS_nat, hda, hpt] at HSp
          have hcbi : (da : Int) + pt = cb := by omega
          have hda0 : (0 : Int) ≤ da := by omega
          have hda3 : (da : Int) ≤ 256 := by omega
          have hpt0 : (0 : Int) ≤ pt := by omega
          have hpt3 : (pt : Int) ≤ 9 := by omega
          have hwc : IntKind.i64.wrap (cb : Int) = cb := IntWalk.i64_in _ (by omega)
          clear hda hpt hcb hcnt hcn hda2 hpt2
          go_wp2_with fail
          refine HU.out.mono ?_
          rintro e w16 ⟨rfl, hG16, hk16⟩
          have HG16 := Lib.hid hG16
          have HF16 := Lib.hid (HF15.out.kf hk16 hnR)
          have HM16 := Lib.hid (HM15.out.kf hk16 (fun a ha => .inl (by
            have h1 := HFS.out.hd
            have h2 := HFS.out.hg
            simp only [List.mem_cons, List.not_mem_nil, or_false] at ha
            rcases ha with rfl | rfl | rfl | rfl
            · exact List.mem_cons_of_mem _ (List.mem_cons_self ..)
            · exact List.mem_cons_self ..
            · exact List.mem_cons_of_mem _ (List.mem_cons_of_mem _ (List.mem_cons_of_mem _ (List.mem_cons_of_mem _ (h1))))
            · exact List.mem_cons_of_mem _ (List.mem_cons_of_mem _ (List.mem_cons_of_mem _ (List.mem_cons_of_mem _ (h2)))))) HNs.out.1 HNs.out.2.1)
          have HL16 := Lib.hid (HL15.out.kf hk16 HNs.out.2.2.1)
          have HLLi : Hid (∀ a ∈ m3 :: t3 :: m2 :: t2 :: L, a < w16.heap.size) := Lib.hid (fun a ha => Nat.lt_of_lt_of_le (HLLh.out a ha) hk16.size)
          have hsz15 := HZ15.out.size
          have HZ16 : Hid (Below w2.heap.size w2 w16) := Lib.hid (HZ15.out.trans (hk16.below (B := w2.heap.size) (fun a ha => by
            have := HD.out
            simp only [List.mem_cons, List.not_mem_nil, or_false] at ha
            omega) hsz15))
          clear hG16 hk16 HU HM15 HG15 HL15 HZ15 HLLh HF15 hnR
          go_wp2_with fail
          refine (HSp.out w16).mono ?_
          rintro e wz ⟨rfl, hwz⟩
          rw [hwz]
          clear hwz HSp
          go_upto_region 29 with fail
          obtain ⟨pv, cv, rfl, hvc, hvm⟩ : ∃ pa c, v' = .slice pa x c ∧ x ≤ c ∧ c ≤ maxLen := by
            have := (HM16.out.bys _ (List.mem_of_getElem? (M3_three x X v'))).form
            exact this
          have hq0 : w16.cell? ⟨r, 0, none⟩ = some (.slice (some ⟨nb, 0, none⟩) 9 9) := HM16.out.vr.c 0 _ rfl
          have hq3 : w16.cell? ⟨nb, 18, none⟩ = some (.slice pv x cv) := HM16.out.at (M3_three x X _) 3 (by decide) _ rfl
          have hby := HM16.out.bys _ (List.mem_of_getElem? (M3_three x X (.slice pv x cv)))
          have hby2 : By w16 (.slice pv x cv) x X (m3 :: t3 :: m2 :: t2 :: L) := hby
          obtain ⟨S1, hC⟩ : ∃ S1, ∀ W, (fun W : World => W.cell? ⟨r, 0, none⟩ = some (.slice (some ⟨nb, 0, none⟩) 9 9) ∧ W.cell? ⟨nb, 18, none⟩ = some (.slice pv x cv) ∧ Fl W bR x X ∧ By W (.slice pv x cv) x X (m3 :: t3 :: m2 :: t2 :: L)) W → CV8 W (.slice (some ⟨bR, 0, none⟩) x x) S1 ∧ CV8 W (.slice pv x cv) S1 := ⟨strOf x X, fun W hW => ⟨str_cells (fun j _ => HFS.out.xb j) (fun j hj => by rw [Nat.zero_add]; exact hW.2.2.1.c j hj), hW.2.2.2.str (fun j _ => HFS.out.xb j)⟩⟩
          have HC1 := Lib.hid hC
          clear hC
          refine wp_region_held (S := fun W : World => W.cell? ⟨r, 0, none⟩ = some (.slice (some ⟨nb, 0, none⟩) 9 9) ∧ W.cell? ⟨nb, 18, none⟩ = some (.slice pv x cv) ∧ Fl W bR x X ∧ By W (.slice pv x cv) x X (m3 :: t3 :: m2 :: t2 :: L)) (by kernel_rfl) ?_
          change wpAnyH _ _ _ _ _ _ _ _ (World.drew _)
          have hS0 : (fun W : World => W.cell? ⟨r, 0, none⟩ = some (.slice (some ⟨nb, 0, none⟩) 9 9) ∧ W.cell? ⟨nb, 18, none⟩ = some (.slice pv x cv) ∧ Fl W bR x X ∧ By W (.slice pv x cv) x X (m3 :: t3 :: m2 :: t2 :: L)) w16.drew := ⟨hq0, hq3, HF16.out.below (Below.refl w16.heap.size w16).drew HF16.out.lt, hby2.keep (Below.refl w16.heap.size w16).drew⟩
          have HG17 := Lib.hid (HG16.out.keep (Below.refl w16.heap.size w16).drew)
          have HM17 := Lib.hid (HM16.out.keep (Below.refl w16.heap.size w16).drew)
          have HL17 := Lib.hid (HL16.out.keep (Below.refl w16.heap.size w16).drew)
          have HZ17 := Lib.hid (HZ16.out.trans ((Below.refl w16.heap.size w16).drew.mono HZ16.out.size))
          have HLL17 := Lib.hid ((fun a ha => Nat.lt_of_lt_of_le (HLLi.out a ha) (Below.refl w16.heap.size w16).drew.size : ∀ a ∈ m3 :: t3 :: m2 :: t2 :: L, a < w16.drew.heap.size))
          obtain ⟨w17, hw17⟩ : ∃ x, World.drew w16 = x := ⟨_, rfl⟩
          rw [hw17] at hS0 HG17 HM17 HL17 HZ17 HLL17 ⊢
          clear hw17
          clear hq0 hq3 hby hby2 HG16 HM16 HL16 HZ16 HLLi HF16
          refine wpAnyH_take (i := 0) (v := ?_) rfl (by kernel_rfl) (by kernel_rfl) (by kernel_rfl) (fun _ _ _ h => h) (Or.inl ⟨by kernel_rfl, ?_⟩) hS0 ?_
          rotate_left 1
          · intro W hW
            go_simp
            try with_reducible rfl
          simp only [Act.put, List.getElem_toArray, List.getElem_cons_zero, List.getElem_cons_succ, List.setIfInBounds_toArray, List.set_cons_zero, List.set_cons_succ]
          refine wpAnyH_take (i := 1) (v := ?_) rfl (by kernel_rfl) (by kernel_rfl) (by kernel_rfl) (fun _ _ _ h => h) (Or.inl ⟨by kernel_rfl, ?_⟩) hS0 ?_
          rotate_left 1
          · intro W hW
            go_simp
            try with_reducible rfl
          simp only [Act.put, List.getElem_toArray, List.getElem_cons_zero, List.getElem_cons_succ, List.setIfInBounds_toArray, List.set_cons_zero, List.set_cons_succ]
          refine wpAnyH_take (i := 2) (v := ?_) rfl (by kernel_rfl) (by kernel_rfl) (by kernel_rfl) (fun _ _ _ h => h) (Or.inl ⟨by kernel_rfl, ?_⟩) hS0 ?_
          rotate_left 1
          · intro W hW
            go_simp
            try with_reducible rfl
          simp only [Act.put, List.getElem_toArray, List.getElem_cons_zero, List.getElem_cons_succ, List.setIfInBounds_toArray, List.set_cons_zero, List.set_cons_succ]
          refine wpAnyH_take (i := 3) (v := ?_) rfl (by kernel_rfl) (by kernel_rfl) (by kernel_rfl) (fun _ _ _ h => h) (Or.inl ⟨by kernel_rfl, ?_⟩) hS0 ?_
          rotate_left 1
          · intro W hW
            go_simp
            try with_reducible rfl
          simp only [Act.put, List.getElem_toArray, List.getElem_cons_zero, List.getElem_cons_succ, List.setIfInBounds_toArray, List.set_cons_zero, List.set_cons_succ]
          refine wpAnyH_take (i := 4) (v := ?_) rfl (by kernel_rfl) (by kernel_rfl) (by kernel_rfl) (fun _ _ _ h => h) (Or.inl ⟨by kernel_rfl, ?_⟩) hS0 ?_
          rotate_left 1
          · intro W hW
            go_simp
            try with_reducible rfl
          simp only [Act.put, List.getElem_toArray, List.getElem_cons_zero, List.getElem_cons_succ, List.setIfInBounds_toArray, List.set_cons_zero, List.set_cons_succ]
          refine wpAnyH_take (i := 5) (v := ?_) rfl (by kernel_rfl) (by kernel_rfl) (by kernel_rfl) (fun _ _ _ h => h) (Or.inl ⟨by kernel_rfl, ?_⟩) hS0 ?_
          rotate_left 1
          · intro W hW
            go_simp
            try with_reducible rfl
          simp only [Act.put, List.getElem_toArray, List.getElem_cons_zero, List.getElem_cons_succ, List.setIfInBounds_toArray, List.set_cons_zero, List.set_cons_succ]
          refine wpAnyH_take (i := 6) (v := ?_) rfl (by kernel_rfl) (by kernel_rfl) (by kernel_rfl) (fun _ _ _ h => h) (Or.inl ⟨by kernel_rfl, ?_⟩) hS0 ?_
          rotate_left 1
          · intro W hW
            go_simp
            try with_reducible rfl
          simp only [Act.put, List.getElem_toArray, List.getElem_cons_zero, List.getElem_cons_succ, List.setIfInBounds_toArray, List.set_cons_zero, List.set_cons_succ]
          refine wpAnyH_take (i := 7) (v := ?_) rfl (by kernel_rfl) (by kernel_rfl) (by kernel_rfl) (fun _ _ _ h => h) (Or.inl ⟨by kernel_rfl, ?_⟩) hS0 ?_
          rotate_left 1
          · intro W hW
            go_simp
            try with_reducible rfl
          simp only [Act.put, List.getElem_toArray, List.getElem_cons_zero, List.getElem_cons_succ, List.setIfInBounds_toArray, List.set_cons_zero, List.set_cons_succ]
          refine wpAnyH_take (i := 8) (v := .string S1) rfl (by kernel_rfl) (by kernel_rfl) (by kernel_rfl) (fun _ _ _ h => h) ?_ hS0 ?_
          · exact yields_conv8 (by kernel_rfl) 24 9 _ rfl (.slice (some ⟨bR, 0, none⟩) x x) _ rfl (fun W hW => (HC1.out W hW).1)
          simp only [Act.put, List.getElem_toArray, List.getElem_cons_zero, List.getElem_cons_succ, List.setIfInBounds_toArray, List.set_cons_zero, List.set_cons_succ]
          refine wpAnyH_take (i := 9) (v := ?_) rfl (by kernel_rfl) (by kernel_rfl) (by kernel_rfl) (fun _ _ _ h => h) (Or.inl ⟨by kernel_rfl, ?_⟩) hS0 ?_
          rotate_left 1
          · intro W hW
            go_simp
            try with_reducible rfl
          simp only [Act.put, List.getElem_toArray, List.getElem_cons_zero, List.getElem_cons_succ, List.setIfInBounds_toArray, List.set_cons_zero, List.set_cons_succ]
          refine wpAnyH_take (i := 10) (v := ?_) rfl (by kernel_rfl) (by kernel_rfl) (by kernel_rfl) (fun _ _ _ h => h) (Or.inl ⟨by kernel_rfl, ?_⟩) hS0 ?_
          rotate_left 1
          · intro W hW
            obtain ⟨h1, h2, -, -⟩ := hW
            go_simp
            try with_reducible rfl
          simp only [Act.put, List.getElem_toArray, List.getElem_cons_zero, List.getElem_cons_succ, List.setIfInBounds_toArray, List.set_cons_zero, List.set_cons_succ]
          refine wpAnyH_take (i := 11) (v := ?_) rfl (by kernel_rfl) (by kernel_rfl) (by kernel_rfl) (fun _ _ _ h => h) (Or.inl ⟨by kernel_rfl, ?_⟩) hS0 ?_
          rotate_left 1
          · intro W hW
            go_simp
            try with_reducible rfl
          simp only [Act.put, List.getElem_toArray, List.getElem_cons_zero, List.getElem_cons_succ, List.setIfInBounds_toArray, List.set_cons_zero, List.set_cons_succ]
          refine wpAnyH_take (i := 12) (v := ?_) rfl (by kernel_rfl) (by kernel_rfl) (by kernel_rfl) (fun _ _ _ h => h) (Or.inl ⟨by kernel_rfl, ?_⟩) hS0 ?_
          rotate_left 1
          · intro W hW
            go_simp
            try with_reducible rfl
          simp only [Act.put, List.getElem_toArray, List.getElem_cons_zero, List.getElem_cons_succ, List.setIfInBounds_toArray, List.set_cons_zero, List.set_cons_succ]
          refine wpAnyH_take (i := 13) (v := ?_) rfl (by kernel_rfl) (by kernel_rfl) (by kernel_rfl) (fun _ _ _ h => h) (Or.inl ⟨by kernel_rfl, ?_⟩) hS0 ?_
          rotate_left 1
          · intro W hW
            obtain ⟨h1, h2, -, -⟩ := hW
            go_simp
            try with_reducible rfl
          simp only [Act.put, List.getElem_toArray, List.getElem_cons_zero, List.getElem_cons_succ, List.setIfInBounds_toArray, List.set_cons_zero, List.set_cons_succ]
          refine wpAnyH_take (i := 14) (v := .string S1) rfl (by kernel_rfl) (by kernel_rfl) (by kernel_rfl) (fun _ _ _ h => h) ?_ hS0 ?_
          · exact yields_conv8 (by kernel_rfl) 24 9 _ rfl (.slice pv x cv) _ rfl (fun W hW => (HC1.out W hW).2)
          simp only [Act.put, List.getElem_toArray, List.getElem_cons_zero, List.getElem_cons_succ, List.setIfInBounds_toArray, List.set_cons_zero, List.set_cons_succ]
          refine wpAnyH_take (i := 15) (v := ?_) rfl (by kernel_rfl) (by kernel_rfl) (by kernel_rfl) (fun _ _ _ h => h) (Or.inl ⟨by kernel_rfl, ?_⟩) hS0 ?_
          rotate_left 1
          · intro W hW
            go_simp
            try with_reducible rfl
          simp only [Act.put, List.getElem_toArray, List.getElem_cons_zero, List.getElem_cons_succ, List.setIfInBounds_toArray, List.set_cons_zero, List.set_cons_succ]
          refine wpAnyH_take (i := 16) (v := ?_) rfl (by kernel_rfl) (by kernel_rfl) (by kernel_rfl) (fun _ _ _ h => h) (Or.inl ⟨by kernel_rfl, ?_⟩) hS0 ?_
          rotate_left 1
          · intro W hW
            go_simp
            try with_reducible rfl
          simp only [Act.put, List.getElem_toArray, List.getElem_cons_zero, List.getElem_cons_succ, List.setIfInBounds_toArray, List.set_cons_zero, List.set_cons_succ]
          refine wpAnyH_take (i := 17) (v := ?_) rfl (by kernel_rfl) (by kernel_rfl) (by kernel_rfl) (fun _ _ _ h => h) (Or.inl ⟨by kernel_rfl, ?_⟩) hS0 ?_
          rotate_left 1
          · intro W hW
            go_simp
            try with_reducible rfl
          simp only [Act.put, List.getElem_toArray, List.getElem_cons_zero, List.getElem_cons_succ, List.setIfInBounds_toArray, List.set_cons_zero, List.set_cons_succ]
          refine wpAnyH_take (i := 18) (v := ?_) rfl (by kernel_rfl) (by kernel_rfl) (by kernel_rfl) (fun _ _ _ h => h) (Or.inl ⟨by kernel_rfl, ?_⟩) hS0 ?_
          rotate_left 1
          · intro W hW
            go_simp
            try with_reducible rfl
          simp only [Act.put, List.getElem_toArray, List.getElem_cons_zero, List.getElem_cons_succ, List.setIfInBounds_toArray, List.set_cons_zero, List.set_cons_succ]
          refine wpAnyH_take (i := 19) (v := ?_) rfl (by kernel_rfl) (by kernel_rfl) (by kernel_rfl) (fun _ _ _ h => h) (Or.inl ⟨by kernel_rfl, ?_⟩) hS0 ?_
          rotate_left 1
          · intro W hW
            go_simp
            try with_reducible rfl
          simp only [Act.put, List.getElem_toArray, List.getElem_cons_zero, List.getElem_cons_succ, List.setIfInBounds_toArray, List.set_cons_zero, List.set_cons_succ]
          refine wpAnyH_take (i := 20) (v := ?_) rfl (by kernel_rfl) (by kernel_rfl) (by kernel_rfl) (fun _ _ _ h => h) (Or.inl ⟨by kernel_rfl, ?_⟩) hS0 ?_
          rotate_left 1
          · intro W hW
            go_simp
            try with_reducible rfl
          simp only [Act.put, List.getElem_toArray, List.getElem_cons_zero, List.getElem_cons_succ, List.setIfInBounds_toArray, List.set_cons_zero, List.set_cons_succ]
          refine wpAnyH_take (i := 21) (v := ?_) rfl (by kernel_rfl) (by kernel_rfl) (by kernel_rfl) (fun _ _ _ h => h) (Or.inl ⟨by kernel_rfl, ?_⟩) hS0 ?_
          rotate_left 1
          · intro W hW
            go_simp
            try with_reducible rfl
          simp only [Act.put, List.getElem_toArray, List.getElem_cons_zero, List.getElem_cons_succ, List.setIfInBounds_toArray, List.set_cons_zero, List.set_cons_succ]
          refine wpAnyH_take (i := 22) (v := ?_) rfl (by kernel_rfl) (by kernel_rfl) (by kernel_rfl) (fun _ _ _ h => h) (Or.inl ⟨by kernel_rfl, ?_⟩) hS0 ?_
          rotate_left 1
          · intro W hW
            go_simp
            try with_reducible rfl
          simp only [Act.put, List.getElem_toArray, List.getElem_cons_zero, List.getElem_cons_succ, List.setIfInBounds_toArray, List.set_cons_zero, List.set_cons_succ]
          refine wpAnyH_take (i := 23) (v := ?_) rfl (by kernel_rfl) (by kernel_rfl) (by kernel_rfl) (fun _ _ _ h => h) (Or.inl ⟨by kernel_rfl, ?_⟩) hS0 ?_
          rotate_left 1
          · intro W hW
            go_simp
            try with_reducible rfl
          simp only [Act.put, List.getElem_toArray, List.getElem_cons_zero, List.getElem_cons_succ, List.setIfInBounds_toArray, List.set_cons_zero, List.set_cons_succ]
          refine wpAnyH_done (by kernel_rfl) ?_ _
          clear hS0 HC1
          have HFN := Lib.hid (show FS w2 w17 N dd gg l r nb 9 B0 P0 DA (1100000 + 26000 * (j + 1)) x X (.slice pv x cv) (m3 :: t3 :: m2 :: t2 :: L) t3 m3 _ Y1 V1 B from ⟨HG17.out.rd, by omega, HS10.out, HFS.out.xb, HM17.out, HLL17.out, List.mem_cons_of_mem _ (List.mem_cons_of_mem _ (List.mem_cons_of_mem _ (List.mem_cons_of_mem _ HFS.out.hd))), List.mem_cons_of_mem _ (List.mem_cons_of_mem _ (List.mem_cons_of_mem _ (List.mem_cons_of_mem _ HFS.out.hg))), HL17.out, HZ17.out⟩)
          clear HG17 HM17 HL17 HZ17 HLL17 HS10
          go_wp2_with fail
          refine ⟨⟨j + 1, by omega, by go_num, _, _, _, _, _, _, _, _, _, _, HFN.out⟩, ?_⟩
          simp [Go.RowKit.intOf]
          omega
        · obtain rfl : j = n2 := by omega
          have HBE := Lib.hid (HB2.out.trans (HFS.out.bw.mono HB2.out.size))
          clear HFS
          go_wp2_with fail
          go_ret
          exact ⟨rfl, HBE.out⟩
end Go.Proofs.YtbnpgkclnebnmaaGreat
