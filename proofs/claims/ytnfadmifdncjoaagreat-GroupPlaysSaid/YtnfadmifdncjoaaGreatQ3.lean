import Derived.Test.YtnfadmifdncjoaaGreatQ2
/- A group: Open; the fixed fact. -/
namespace Go.Proofs.YtnfadmifdncjoaaGreat
set_option linter.unusedSimpArgs false
set_option linter.unusedVariables false
open Go.RowKit Go.Maps

variable {ln : Lm}
theorem layF_le (rs : List Cf.Rg) (hs : ∀ r ∈ rs, Cf.Small r) (i : Nat) : ∀ j, i ≤ j → j ≤ rs.length → (Cf.layF (rs.take i)).2 ≤ (Cf.layF (rs.take j)).2
  | 0, h, _ => by
    obtain rfl : i = 0 := by omega
    exact Int.le_refl _
  | j + 1, h, h' => by
    by_cases e : i = j + 1
    · rw [e]; exact Int.le_refl _
    · have h1 := layF_le rs hs i j (by omega) (by omega)
      obtain ⟨s1, s2, s3, s4⟩ := hs rs[j] (List.getElem_mem _)
      rw [Cf.layF_take rs j (by omega), Cf.layStep]
      simp only [Cf.geoAt, Cf.Ge.fin]
      omega
theorem Tryz.zero53 : (Tryz.prog.info? 133).map (fun i => i.zero) = some (some (.agg [.int .i64 0, .int .i64 0, .int .i64 0, .int .i64 0, .int .i64 0, .int .i64 0].toArray)) := by kernel_rfl
theorem geo_one (g : Cf.Ge) : ∀ v ∈ g.cells, v.oneCell' = true := by
  intro v hv
  simp [Cf.Ge.cells] at hv
  rcases hv with rfl | rfl | rfl | rfl | rfl | rfl <;> rfl
theorem Fl.vl {w : World} {g N : Nat} {f : Nat → Int} (h : Fl w g N f) : Vl w g (byts N f) := ⟨h.lt, fun j v hj => by obtain ⟨h1, rfl⟩ := byts_of hj; exact h.c j h1, fun j hj => h.z j (by rwa [byts_len] at hj)⟩
theorem wpList_store_list {P : Program} {ops : Array Oper} {rest : List Oper} {op : Oper} {a : Act} {w : World} {Q : Exit → Act → World → Prop} (hgd : op.guard = none) (ty : TypeId) (x y : Operand) (ho : op.op = .store ty x y) (g : Nat) (cs ds : List Value)
    (hx : a.eval x = .pointer (some ⟨g, 0, none⟩)) (hy : a.eval y = .agg ds.toArray) (hV : Vl w g cs) (hl : ds.length = cs.length) (hi : (P.info? ty).map (·.size) = some ds.length) (h1 : ∀ v ∈ ds, v.oneCell' = true)
    (h : ∀ w', Hid (Vl w' g ds) → Hid (Kp w w' g g) → wpList P ops Q rest (a.put op.dst undef) w') : wpList P ops Q (op :: rest) a w := by
  refine wpList_store_mid hgd ty x y ho g 0 ds.toArray hx hy (hV.there0 _ (by simp [hl])) (by simpa using hi) (all_oneCell_toArray h1) ?_
  exact h _ (hV.stored ds hl) ((Kp.refl w g g).setCells g 0 (.inl rfl) _)
/-- each registered label's group, in natural numbers -/
theorem geo_gg (rs : List Cf.Rg) (hs : ∀ r ∈ rs, Cf.Small r) (h64 : rs.length ≤ 64) (N : Nat) (hN : (Cf.layF rs).2 = N) (i : Nat) (hi : i < rs.length) (g : Cf.Ge) (hg : (Cf.layF rs).1[i]'(by rw [Cf.lay_len]; exact hi) = g) :
    ∃ B0 P0 M DA NB : Nat, GG g B0 P0 M DA NB N ∧ rs[i].bl = NB ∧ rs[i].nd = M := by
  have h1 := Cf.lay_nth rs i hi
  have h2 := Cf.lay_fin rs i hi
  rw [hg] at h1 h2
  have h3 := layF_le rs hs (i + 1) rs.length (by omega) (Nat.le_refl _)
  rw [List.take_length, ← h2] at h3
  obtain ⟨s1, s2, s3, s4⟩ := hs rs[i] (List.getElem_mem _)
  obtain ⟨r1, r2⟩ := Cf.layF_range rs hs i (by omega)
  obtain ⟨b, hb⟩ : ∃ b, (Cf.layF (rs.take i)).2 = b := ⟨_, rfl⟩
  obtain ⟨bl, hbl⟩ : ∃ b, rs[i].bl = b := ⟨_, rfl⟩
  obtain ⟨nd, hnd⟩ : ∃ b, rs[i].nd = b := ⟨_, rfl⟩
  unfold Cf.geoAt at h1
  rw [hb] at h1 r1 r2
  rw [hbl, hnd] at h1
  rw [hbl] at s1 s2 ⊢
  rw [hnd] at s3 s4 ⊢
  subst h1
  have e1 : ((bl + 7) / 8 + 63) / 64 = 1 := by omega
  rw [e1] at h3 ⊢
  simp only [Cf.Ge.fin] at h3
  rw [hN] at h3
  clear h2 hg hb hbl hnd hN hs e1
  obtain ⟨NB, rfl⟩ := Int.eq_ofNat_of_zero_le (show 0 ≤ bl by omega)
  obtain ⟨M, rfl⟩ := Int.eq_ofNat_of_zero_le (show 0 ≤ nd by omega)
  obtain ⟨B0, rfl⟩ := Int.eq_ofNat_of_zero_le (show 0 ≤ b by omega)
  refine ⟨B0, B0 + 1, M, B0 + 1 + (M * 32 + 63) / 64, NB, ⟨rfl, by show (B0 : Int) + 1 = _; omega, by show (0 : Int) ≤ 1; decide, by show (B0 : Int) + 1 + _ = _; omega, rfl, rfl, by omega, by omega, by omega, by omega, by omega, by omega, by omega, by omega⟩, rfl, rfl⟩
theorem Tryz.build53_zero (w : World) : (Instr.build 133 #[]).run Tryz.prog w = .ok (.agg [.int .i64 0, .int .i64 0, .int .i64 0, .int .i64 0, .int .i64 0, .int .i64 0].toArray) w := by kernel_rfl
def zgeo : Cf.Ge := ⟨0, 0, 0, 0, 0, 0⟩
set_option maxHeartbeats 20000000 in
set_option maxRecDepth 100000 in
theorem geo_out (n : Nat) (vr vm vg : Value) (rs : List Cf.Rg) (ms : List (Int × Int)) (i : Int) (hi : i < 0 ∨ (rs.length : Int) ≤ i) (h64 : rs.length ≤ 64) (w : World) (h : Cf.CF n w vr vm vg rs ms) :
    Calls Tryz.prog 47 #[.pointer (some ⟨n + 3, 0, none⟩), .int .i64 i] w fun e w' => e = .returned (.tuple #[.agg zgeo.cells.toArray, .bool false]) ∧ Below w.heap.size w w' := by
  obtain ⟨d53, hu53, hd53⟩ := Tryz.desc53
  have HU53 := Lib.hid hu53
  have HD53 := Lib.hid hd53
  have HC := Lib.hid h
  by_cases h0 : i < 0
  · clear hi hu53 hd53 h
    go_enter Tryz.func47, Tryz.ntmps47
    go_wp2_with (first | (refine wpList_alloc_list rfl 133 rfl zgeo.cells Tryz.zero53 ?_; intro w1 F1 hb1 hz1; have HB1 := Lib.hid hb1; have hlt1 := F1.out.lt;  clear hb1) | (refine wpList_yields (.agg zgeo.cells.toArray) (yields_bld0 (by rfl) 133 rfl _ Tryz.build53_zero) ?_) | (refine wpList_store_list rfl 133 (.tmp 4) (.tmp 14) rfl w.heap.size zgeo.cells zgeo.cells rfl rfl (F1.out) rfl (size53 _) (geo_one _) ?_; intro w3 F3 HK3))
    exact bodyPost_ret_by (results_mid_tmp rfl _ _ w.heap.size _ d53 rfl F3.out.range0 HU53.out HD53.out (size53 _)) rfl ⟨rfl, HB1.out.trans (HK3.out.below (Nat.le_refl _) (Nat.le_refl _) HB1.out.size)⟩
  · have h1 : (rs.length : Int) ≤ i := by omega
    have HL := Lib.hid (fun W hW => Cf.clen_any n vr vm vg rs ms W hW h64)
    clear hi hu53 hd53 h
    go_enter Tryz.func47, Tryz.ntmps47
    go_wp2_with (first | (refine wpList_alloc_list rfl 133 rfl zgeo.cells Tryz.zero53 ?_; intro w1 F1 hb1 hz1; have HB1 := Lib.hid hb1; have hlt1 := F1.out.lt; have HC1 := Lib.hid (HC.out.below hb1); clear hb1) | (refine wpList_yields (.agg zgeo.cells.toArray) (yields_bld0 (by rfl) 133 rfl _ Tryz.build53_zero) ?_) | (refine wpList_store_list rfl 133 (.tmp 4) (.tmp 14) rfl w.heap.size zgeo.cells zgeo.cells rfl rfl (F1.out) rfl (size53 _) (geo_one _) ?_; intro w3 F3 HK3))
    refine (HL.out w1 HC1.out).mono ?_
    rintro e wz ⟨rfl, hwz⟩
    rw [hwz]
    clear hwz
    go_wp2_with (first | (refine wpList_alloc_list rfl 133 rfl zgeo.cells Tryz.zero53 ?_; intro w1 F1 hb1 hz1; have HB1 := Lib.hid hb1; have hlt1 := F1.out.lt;  clear hb1) | (refine wpList_yields (.agg zgeo.cells.toArray) (yields_bld0 (by rfl) 133 rfl _ Tryz.build53_zero) ?_) | (refine wpList_store_list rfl 133 (.tmp 4) (.tmp 14) rfl w.heap.size zgeo.cells zgeo.cells rfl rfl (F1.out) rfl (size53 _) (geo_one _) ?_; intro w3 F3 HK3))
    exact bodyPost_ret_by (results_mid_tmp rfl _ _ w.heap.size _ d53 rfl F3.out.range0 HU53.out HD53.out (size53 _)) rfl ⟨rfl, HB1.out.trans (HK3.out.below (Nat.le_refl _) (Nat.le_refl _) HB1.out.size)⟩
theorem gopen_nilt (v : Option Addr) (x : Int) (w : World) : Calls Tryz.prog 13 #[.pointer none, .pointer v, .int .i64 x] w fun e w' => e = .returned (.tuple #[.pointer none, .int .i64 1]) ∧ w' = w := by
  go_enter Tryz.func13, Tryz.ntmps13
  go_wp2
  exact bodyPost_ret (v := .tuple #[.pointer none, .int .i64 1]) (by simp [results, Tryz.results13, go_sem]) rfl ⟨rfl, rfl⟩
theorem gopen_nilc (t : Nat) (x : Int) (w : World) : Calls Tryz.prog 13 #[.pointer (some ⟨t, 0, none⟩), .pointer none, .int .i64 x] w fun e w' => e = .returned (.tuple #[.pointer none, .int .i64 1]) ∧ w' = w := by
  go_enter Tryz.func13, Tryz.ntmps13
  go_wp2
  exact bodyPost_ret (v := .tuple #[.pointer none, .int .i64 1]) (by simp [results, Tryz.results13, go_sem]) rfl ⟨rfl, rfl⟩
set_option maxHeartbeats 20000000 in
set_option maxRecDepth 100000 in
theorem gopen_out (t n : Nat) (vr vm vg : Value) (rs : List Cf.Rg) (ms : List (Int × Int)) (i : Int) (hi : i < 0 ∨ (rs.length : Int) ≤ i) (h64 : rs.length ≤ 64) (w : World) (h : Cf.CF n w vr vm vg rs ms) :
    Calls Tryz.prog 13 #[.pointer (some ⟨t, 0, none⟩), .pointer (some ⟨n + 3, 0, none⟩), .int .i64 i] w fun e w' => e = .returned (.tuple #[.pointer none, .int .i64 27]) ∧ Below w.heap.size w w' := by
  have HG := Lib.hid (geo_out n vr vm vg rs ms i hi h64 w h)
  clear hi h
  go_enter Tryz.func13, Tryz.ntmps13
  go_wp2_with fail
  refine HG.out.mono ?_
  rintro e w2 ⟨rfl, hb⟩
  have HB2 := Lib.hid hb
  clear hb HG
  go_wp2_with (first | (refine wpList_alloc_list (w := w2) rfl 133 rfl _ Tryz.zero53 ?_; intro w5 F5 hb5 hz5; simp only [Act.put, List.getElem_toArray, List.getElem_cons_zero, List.getElem_cons_succ, List.setIfInBounds_toArray, List.set_cons_zero, List.set_cons_succ]; refine wpList_store_list rfl 133 (.tmp 8) (.tmp 22) rfl w2.heap.size _ zgeo.cells rfl rfl F5.out rfl (size53 _) (geo_one _) ?_; intro w6 HG6 HK6; have HB5 := Lib.hid hb5; clear hb5 F5))
  refine bodyPost_ret (v := .tuple #[.pointer none, .int .i64 27]) (by simp [results, Tryz.results13, go_sem]) rfl ⟨rfl, ?_⟩
  exact (HB2.out.trans (HB5.out.mono HB2.out.size)).trans (HK6.out.below HB2.out.size HB2.out.size (HB2.out.trans (HB5.out.mono HB2.out.size)).size)
theorem wpList_bld4 {P : Program} {ops : Array Oper} {rest : List Oper} {op : Oper} {a : Act} {w : World} {Q : Exit → Act → World → Prop} (hgd : op.guard = none) (ty : TypeId) (i0 i1 i2 i3 : Nat) (x0 x1 x2 x3 : Operand) (ho : op.op = .build ty #[(i0, x0), (i1, x1), (i2, x2), (i3, x3)]) (v0 v1 v2 v3 : Value) (h0 : a.eval x0 = v0) (h1 : a.eval x1 = v1) (h2 : a.eval x2 = v2) (h3 : a.eval x3 = v3) (v : Value)
    (hr : (Instr.build ty #[(i0, v0), (i1, v1), (i2, v2), (i3, v3)]).run P w = .ok v w) (h : wpList P ops Q rest (a.put op.dst v) w) : wpList P ops Q (op :: rest) a w := by
  refine wpList_plain hgd fun K' hK' => ?_
  unfold Oper.wp
  simp [execOp, ho, h0, h1, h2, h3, hr, Result.andThen]
  exact hK' _ _ h
theorem Tryz.build107 (t : Nat) (lab : Int) (bs bm tb da bl nd : Int) (p : Nat) (w : World) : (Instr.build 140 #[(0, .pointer (some ⟨t, 0, none⟩)), (1, .int .i64 lab), (2, .agg #[.int .i64 bs, .int .i64 bm, .int .i64 tb, .int .i64 da, .int .i64 bl, .int .i64 nd]), (3, .pointer (some ⟨p, 0, none⟩))]).run Tryz.prog w = .ok (.agg #[.pointer (some ⟨t, 0, none⟩), .int .i64 lab, .int .i64 bs, .int .i64 bm, .int .i64 tb, .int .i64 da, .int .i64 bl, .int .i64 nd, .pointer (some ⟨p, 0, none⟩)]) w := by kernel_rfl
theorem build107g (t : Nat) (lab : Int) (g : Cf.Ge) (p : Nat) (w : World) : (Instr.build 140 #[(0, .pointer (some ⟨t, 0, none⟩)), (1, .int .i64 lab), (2, .agg g.cells.toArray), (3, .pointer (some ⟨p, 0, none⟩))]).run Tryz.prog w = .ok (.agg (gpc t lab g p).toArray) w := Tryz.build107 t lab g.base g.bm g.tb g.da g.bl g.nd p w
set_option maxHeartbeats 20000000 in
set_option maxRecDepth 100000 in
theorem gopen_in (t m d gg n B0 P0 M DA NB N K : Nat) (Y : Nat → Nat → Int) (vr vm vg : Value) (rs : List Cf.Rg) (ms : List (Int × Int)) (i : Nat) (hi : i < rs.length) (g : Cf.Ge) (hgi : (Cf.layF rs).1[i]'(by rw [Cf.lay_len]; exact hi) = g) (hg : GG g B0 P0 M DA NB N) (w : World) (h : Cf.CF n w vr vm vg rs ms) (hr : Rd w t m d gg N ln Y K) :
    Calls Tryz.prog 13 #[.pointer (some ⟨t, 0, none⟩), .pointer (some ⟨n + 3, 0, none⟩), .int .i64 i] w fun e w' => ∃ q p, e = .returned (.tuple #[.pointer (some ⟨q, 0, none⟩), .int .i64 0]) ∧ w.heap.size ≤ q ∧ w.heap.size ≤ p ∧ Gr w' q p t m d gg i g B0 NB N ln Y K ∧ Below w.heap.size w w' := by
  have HGe := Lib.hid (Cf.geo_in n vr vm vg rs ms i hi w h)
  rw [hgi] at HGe
  have HR := Lib.hid hr
  obtain ⟨d53, hu53, hd53⟩ := Tryz.desc53
  have HU53 := Lib.hid hu53
  have HD53 := Lib.hid hd53
  have HB := Lib.hid (build107g t i g)
  have HNew : Hid (∀ (x y : Int), x = B0 → y = NB → ∀ W : World, Calls Tryz.prog 48 #[.pointer (some ⟨t, 0, none⟩), .int .i64 x, .int .i64 y] W fun e w' => ∃ p, e = .returned (.tuple #[.pointer (some ⟨p, 0, none⟩), .int .i64 0]) ∧ W.heap.size ≤ p ∧ Mb w' p t B0 NB ∧ Below W.heap.size W w') := fun x y hx hy W => by
    subst hx hy
    have hN := hr.hN
    have h1 := hg.dn
    have h2 := hg.pd
    have h3 := hg.bp
    have h4 := hg.n512
    exact new5 t B0 NB (by omega) (by omega) hg.b32 W
  have HG0 := Lib.hid (show g.cells[0]? = some (.int .i64 g.base) from rfl)
  have HG4 := Lib.hid (show g.cells[4]? = some (.int .i64 g.bl) from rfl)
  have HGl := Lib.hid (show g.cells.length = 6 from rfl)
  have HGO := Lib.hid (geo_one g)
  have HS53 := Lib.hid (size53 g)
  have HGB := Lib.hid hg.base
  have HGL := Lib.hid hg.bl
  have hval : g.val = .agg g.cells.toArray := rfl
  have hGp := Lib.hid (show ∀ p, gpc t i g p = [.pointer (some ⟨t, 0, none⟩), .int .i64 i] ++ (g.cells ++ [.pointer (some ⟨p, 0, none⟩)]) from fun _ => rfl)
  have HPO : Hid (∀ p, ∀ v ∈ gpc t i g p, v.oneCell' = true) := fun p v hv => by
    simp [gpc] at hv
    rcases hv with rfl | rfl | rfl | rfl | rfl | rfl | rfl | rfl | rfl <;> rfl
  rw [hval] at HGe
  clear hval hu53 hd53 h hr hgi hg
  obtain ⟨gs, hgs⟩ : ∃ gs, g.cells = gs := ⟨_, rfl⟩
  rw [hgs] at HGe HB HG0 HG4 HGl HGO HS53
  clear hgs
  go_enter Tryz.func13, Tryz.ntmps13
  go_wp2_with fail
  refine HGe.out.mono ?_
  rintro e w4 ⟨rfl, hb4⟩
  have HR4 := Lib.hid (HR.out.keep hb4)
  have HB4 := Lib.hid hb4
  clear hb4 HR HGe
  go_upto_region 6 with (first | (refine wpList_alloc_list (w := w4) rfl 133 rfl _ Tryz.zero53 ?_; intro w5 F5 hb5 hz5; simp only [Act.put, List.getElem_toArray, List.getElem_cons_zero, List.getElem_cons_succ, List.setIfInBounds_toArray, List.set_cons_zero, List.set_cons_succ]; refine wpList_store_list rfl 133 (.tmp 8) (.tmp 22) rfl w4.heap.size _ gs rfl rfl F5.out (by rw [HGl.out]; rfl) HS53.out HGO.out ?_; intro w6 HG6 HK6; have HB5 := Lib.hid hb5; clear hb5 F5))
  obtain ⟨b5, hb5⟩ : ∃ b, w4.heap.size = b := ⟨_, rfl⟩
  have hlt4 := HR4.out.lts
  have hbw : w.heap.size ≤ b5 := by rw [← hb5]; exact HB4.out.size
  rw [hb5] at hlt4
  have R5 := Lib.hid (HR4.out.keep HB5.out)
  have B5 := Lib.hid (HB4.out.trans (HB5.out.mono HB4.out.size))
  rw [hb5] at HG6 HK6
  try rw [hb5]
  clear hb5 hz5 HR4 HB4 HB5
  have N5 := Lib.hid (nin4 hlt4.1 hlt4.2.1 hlt4.2.2.1 hlt4.2.2.2 (b := b5) (Nat.le_refl _))
  have HR6 := Lib.hid (R5.out.kp HK6.out N5.out N5.out)
  have HB6 := Lib.hid (B5.out.trans (HK6.out.below hbw hbw B5.out.size))
  have hs6 := HG6.out.lt
  clear R5 B5 HK6
  have e0 := HG6.out.c 0 _ HG0.out
  have e4 := HG6.out.c 4 _ HG4.out
  go_wp2_with fail
  refine (HNew.out g.base g.bl HGB.out HGL.out w6).mono ?_
  rintro e w7 ⟨p, rfl, hp, hM, hb⟩
  have HM7 := Lib.hid hM
  have HR7 := Lib.hid (HR6.out.keep hb)
  have HG7 := Lib.hid (HG6.out.keep hb)
  have HB7 := Lib.hid (HB6.out.trans (hb.mono HB6.out.size))
  have hp7 : w.heap.size ≤ p := Nat.le_trans HB6.out.size hp
  have hpl := HM7.out.lt
  have hp4 := Lib.hid (HR6.out.notin hp)
  clear hM hb HR6 HG6 HB6 e0 e4 HNew
  go_wp2_with (first | (refine wpList_load_mid rfl 133 _ rfl b5 0 rfl gs d53 HG7.out.range0 HU53.out HD53.out HS53.out ?_) | (refine wpList_bld4 rfl 140 0 1 2 3 (.tmp 38) (.tmp 39) (.tmp 40) (.tmp 41) rfl (.pointer (some ⟨t, 0, none⟩)) (.int .i64 i) (.agg gs.toArray) (.pointer (some ⟨p, 0, none⟩)) rfl rfl rfl rfl (.agg (gpc t i g p).toArray) (HB.out p _) ?_) | (refine wpList_box_list (w := w7) rfl 140 _ rfl (gpc t i g p) rfl ?_; intro w8 F8 hb8 hz8; have HB8 := Lib.hid hb8; clear hb8 hz8))
  have hR8 := HR7.out.keep HB8.out
  have hq4 := HR7.out.notin (Nat.le_refl w7.heap.size)
  exact bodyPost_ret (v := .tuple #[.pointer (some ⟨w7.heap.size, 0, none⟩), .int .i64 0]) (by simp [results, Tryz.results13, go_sem]) rfl ⟨w7.heap.size, p, rfl, HB7.out.size, hp7, ⟨F8.out, HM7.out.keep HB8.out, hR8, hq4, hp4.out⟩, HB7.out.trans (HB8.out.mono HB7.out.size)⟩
/-! ### bits behind calls -/
theorem bt_put (fi : Nat) (f : Nat → Int) (Y : Nat → Nat → Int) (x j : Nat) (h : x ≠ fi + j / 512) : bt (vput x f Y) fi j = bt Y fi j := by
  unfold bt
  rw [vput_ne _ _ h]
theorem bt_on {Y : Nat → Nat → Int} (hv : ∀ x, Byt (Y x)) (B0 i j : Nat) (on : Bool) (hi : i < 512) : bt (setV Y B0 i on) B0 j = if i = j then on else bt Y B0 j := by
  have := bt_set hv B0 i j on
  rwa [show B0 + i / 512 = B0 by omega] at this
theorem bt_take {Y : Nat → Nat → Int} (hv : ∀ x, Byt (Y x)) (B0 DA i j : Nat) (f : Nat → Int) (hD : B0 < DA) (hi : i < 512) (hj : j < 512) : bt (vput (DA + i) f (setV Y B0 i true)) B0 j = if i = j then true else bt Y B0 j := by
  rw [bt_put _ _ _ _ _ (by omega), bt_on hv B0 i j true hi]
theorem gtake7 (q p t m d gg lab B0 P0 M DA NB N K : Nat) (g : Cf.Ge) (Y : Nat → Nat → Int) (i : Nat) (x : Int) (hx : x = i + 1) (hi : i < NB) (hF : Fr (bt Y B0) NB i) (hT : Has ln B0) (hT2 : Has ln (DA + i)) (hK : K < 600000000) (hg : GG g B0 P0 M DA NB N) (w : World) (h : Gr w q p t m d gg lab g B0 NB N ln Y K) :
    Calls Tryz.prog 20 #[.pointer (some ⟨q, 0, none⟩)] w fun e w' => e = .returned (.tuple #[.int .u16 x, .int .i64 0]) ∧ Gr w' q p t m d gg lab g B0 NB N ln (vput (DA + i) (fun _ => 0) (setV Y B0 i true)) (K + 201) ∧ Kf w w' [t, m, d, gg] := by
  subst hx
  exact gtake_some q p t m d gg lab B0 P0 M DA NB N K g Y i hi hF hT hT2 hK hg w h
end Go.Proofs.YtnfadmifdncjoaaGreat
