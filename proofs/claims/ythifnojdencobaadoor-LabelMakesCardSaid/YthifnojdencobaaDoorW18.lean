import Derived.Test.YthifnojdencobaaDoorW17
import Derived.Test.YthifnojdencobaaDoorSplit
import Derived.Lib.QuietBelow
import Derived.BigQuiet
import Derived.IntWalk
import Derived.Laws.StructEq
namespace Go.Proofs.YthifnojdencobaaDoor
open Go.RowKit

theorem make_ok (level : Int) (v : Value) (zs : List Int) (w : World) (h : Ints w v zs) (hb : ofOk level zs = true) :
    Calls Tryd.prog 9 #[.int .i64 level, v] w fun e w' => e = .returned (.tuple #[.agg #[.int .u8 (ofLv level zs), .int .u16 (ofCs level zs)], .int .i64 0]) ∧ Below w.heap.size w w' := by
  have := make_ref level v zs w h
  rw [hb] at this
  exact this
theorem make_no (level : Int) (v : Value) (zs : List Int) (w : World) (h : Ints w v zs) (hb : ofOk level zs = false) :
    Calls Tryd.prog 9 #[.int .i64 level, v] w fun e w' => e = .returned (.tuple #[.agg #[.int .u8 (ofLv level zs), .int .u16 (ofCs level zs)], .int .i64 27]) ∧ Below w.heap.size w w' := by
  have := make_ref level v zs w h
  rw [hb] at this
  exact this
theorem of_is (level : Int) (v : Value) (zs : List Int) (b : Bool) (w : World) (h : Ints w v zs) (hb : ofOk level zs = b) :
    Calls Tryd.prog 10 #[.int .i64 level, v] w fun e w' => e = .returned (.tuple #[.agg #[.int .u8 (ofLv level zs), .int .u16 (ofCs level zs)], .bool b]) ∧ Below w.heap.size w w' := hb ▸ of_any level v zs w h
theorem below_more {w x : World} (h : Below w.heap.size w x) (o : Obj) : Below w.heap.size w (x.alloc o) := h.alloc h.size o
theorem below_next {B W w2 : World} (h : Below B.heap.size B W) (hb : Below W.heap.size W w2) : Below B.heap.size B w2 := h.trans (hb.mono h.size)

/-- what the last part of LabelMakes's statement has come to -/
structure RM (wc : World) (la ca : Int) (cs : List Int) (A5 : Nat) (f : Nat → Bool) (u53 u54 u55 u56 u57 u58 u59 u60 u61 u62 u63 u64 u65 u66 u67 u68 u69 u70 u6 : Value) (wx : World) : Prop where
  lo : ∀ j, j < 25 → f j = true
  bl : Below wc.heap.size wc wx
  f25 : f 25 = true → u53 = .agg #[.int .u8 la, .int .u16 ca]
  f26 : f 26 = true → Ints wx u54 cs
  f27 : f 27 = true → u55 = .agg #[.int .u8 la, .int .u16 ca]
  f28 : f 28 = true → Ints wx u56 cs
  f29 : f 29 = true → u57 = .bool true
  f30 : f 30 = true → u58 = .bool true
  f31 : f 31 = true → u59 = .bool true
  f32 : f 32 = true → u60 = .agg #[.int .u8 la, .int .u16 ca]
  f33 : f 33 = true → u61 = .int .i64 (la + (cs.length : Int))
  f34 : f 34 = true → u62 = .pointer (some ⟨A5, 0, none⟩)
  f35 : f 35 = true → u63 = .int .u8 la
  f36 : f 36 = true → u64 = .int .i64 la
  f37 : f 37 = true → u65 = .agg #[.int .u8 la, .int .u16 ca]
  f38 : f 38 = true → Ints wx u66 cs
  f39 : f 39 = true → u67 = .int .i64 (cs.length : Int)
  f40 : f 40 = true → u68 = .int .i64 (la + (cs.length : Int))
  f41 : f 41 = true → u69 = .bool true
  f42 : f 42 = true → u70 = .bool true
  f43 : f 43 = true → u6 = .bool true
theorem RM.mono {wc : World} {la ca : Int} {cs : List Int} {A5 : Nat} {f : Nat → Bool} {u53 u54 u55 u56 u57 u58 u59 u60 u61 u62 u63 u64 u65 u66 u67 u68 u69 u70 u6 : Value} {wx wy : World} (r : RM wc la ca cs A5 f u53 u54 u55 u56 u57 u58 u59 u60 u61 u62 u63 u64 u65 u66 u67 u68 u69 u70 u6 wx) (h : Below wx.heap.size wx wy) : RM wc la ca cs A5 f u53 u54 u55 u56 u57 u58 u59 u60 u61 u62 u63 u64 u65 u66 u67 u68 u69 u70 u6 wy :=
  { lo := r.lo, bl := below_next r.bl h, f25 := r.f25, f26 := fun k => (r.f26 k).below h, f27 := r.f27, f28 := fun k => (r.f28 k).below h, f29 := r.f29, f30 := r.f30, f31 := r.f31, f32 := r.f32, f33 := r.f33, f34 := r.f34, f35 := r.f35, f36 := r.f36, f37 := r.f37, f38 := fun k => (r.f38 k).below h, f39 := r.f39, f40 := r.f40, f41 := r.f41, f42 := r.f42, f43 := r.f43 }

set_option maxHeartbeats 4000000 in
set_option maxRecDepth 100000 in
theorem makes_walk (level : Int) (v : Value) (zs : List Int) (la ca : Int) (w : World) (hv : Ints w v zs) (ha : 0 ≤ ca ∧ ca < 65536) (hla0 : 0 ≤ la ∧ la < 256) :
    Calls Tryd.prog 3 #[.int .i64 level, v, .agg #[.int .u8 la, .int .u16 ca]] w fun e w' => e = .returned (.bool true) ∧ Below w.heap.size w w' := by
  obtain ⟨ad, cap, rfl⟩ := hv.form
  obtain ⟨-, hm, -⟩ := hv.cells
  unfold maxLen at hm
  have HV := Lib.hid hv
  clear hv
  go_enter Tryd.func3, Tryd.ntmps3
  go_wp2_with fail
  refine (awake_any _).mono ?_
  rintro e w1 ⟨rfl, hb1⟩
  have hB1 : Below w.heap.size w w1 := ((Below.refl _ w).alloc (Nat.le_refl _) _).trans (hb1.mono (by simp))
  have hPa := (Pair.new w (.int .u8 la) (.int .u16 ca) 25).below hb1 (by simp)
  clear hb1
  have HPa := Lib.hid hPa
  clear hPa
  by_cases hlen : 100 < zs.length
  · have hd : decide ((100 : Int) < (zs.length : Int)) = true := by simp; omega
    go_wp2
    go_ret
    exact ⟨rfl, hB1⟩
  · have hd : decide ((100 : Int) < (zs.length : Int)) = false := by simp; omega
    have hcl := catL_len ca 16
    obtain ⟨hl0, hl1⟩ := id hla0
    rcases hk : ofOk level zs with _ | _
    all_goals
      have HK := Lib.hid hk
      clear hk
      go_wp2_with fail
      first
        | refine (make_ok level _ zs _ (HV.out.below hB1) HK.out).mono ?_
        | refine (make_no level _ zs _ (HV.out.below hB1) HK.out).mono ?_
      rintro e w2 ⟨rfl, hb2⟩
      have hB2 := hB1.trans (hb2.mono hB1.size)
      have HPa2 := Lib.hid (HPa.out.below hb2 HPa.out.lt)
      clear HPa hb2
      go_wp2_with fail
      refine (of_is level _ zs _ _ (HV.out.below (below_more hB2 _)) HK.out).mono ?_
      rintro e w3 ⟨rfl, hb3⟩
      have hP7 := (Pair.new w2 (.int .u8 (ofLv level zs)) (.int .u16 (ofCs level zs)) 25).below hb3 (by simp)
      have hB3 := (below_more hB2 (.cells #[.int .u8 (ofLv level zs), .int .u16 (ofCs level zs)] 25)).trans (hb3.mono (by have := hB2.size; simp; omega))
      have HPa3 := Lib.hid ((HPa2.out.alloc (.cells #[.int .u8 (ofLv level zs), .int .u16 (ofCs level zs)] 25)).below hb3 (by have := HPa2.out.lt; simp; omega))
      obtain ⟨hl7, s0, s1, -, -⟩ := id hP7
      have HP7 := Lib.hid hP7
      clear HPa2 hb3 hP7
      go_wp2_with fail
      have hPa4 := HPa3.out.alloc (.cells #[.int .u8 (ofLv level zs), .int .u16 (ofCs level zs)] 25)
      have hP74 := HP7.out.alloc (.cells #[.int .u8 (ofLv level zs), .int .u16 (ofCs level zs)] 25)
      have hP94 := Pair.new w3 (.int .u8 (ofLv level zs)) (.int .u16 (ofCs level zs)) 25
      have hB4 := below_more hB3 (.cells #[.int .u8 (ofLv level zs), .int .u16 (ofCs level zs)] 25)
      clear HPa3 HP7 s0 s1 hl7
      generalize w3.alloc (.cells #[.int .u8 (ofLv level zs), .int .u16 (ofCs level zs)] 25) = w4 at *
      obtain ⟨hla, a0, a1, -, -⟩ := id hPa4
      obtain ⟨-, s0, s1, -, -⟩ := id hP74
      obtain ⟨-, t0, t1, -, -⟩ := id hP94
      have k0 := cell_regrown a0
      have k1 := cell_regrown a1
      have k2 := cell_regrown s0
      have k3 := cell_regrown s1
      have k4 := cell_regrown t0
      have k5 := cell_regrown t1
      have q1 := fun d os => Calls.regrown_of (valid_any la ca (Sort.grow (redrawn w4 d) os))
      clear hPa4 hP74 hP94
      refine wp_region_split (C := fun w' => ∃ p : Regrown, w' = Sort.grow (redrawn w4 p.d) p.os) 25 (by kernel_rfl) (of_decide_eq_true (by kernel_rfl)) (by kernel_rfl) (by kernel_rfl) (by kernel_rfl) (regrown_of_below ((Below.refl _ _).drew)) ?_
      simp only [List.take_succ_cons, List.take_zero]
      repeat (first | go_big_quiet_step (with_reducible exact q1 _ _) | quiet_step (with_reducible exact q1 _ _))
      refine wpQuiet_nil ?_
      intro wy hw'
      obtain ⟨⟨dq, osq⟩, rfl⟩ := hw'
      have hwy := below_regrown w4 dq osq
      have HY := Lib.hid hwy
      clear hwy k0 k1 k2 k3 k4 k5 q1 s0 s1 t0 t1
      refine wpAny_rest 25 (of_decide_eq_true (by kernel_rfl)) (by kernel_rfl) (fun A f a wx => ∃ u53 u54 u55 u56 u57 u58 u59 u60 u61 u62 u63 u64 u65 u66 u67 u68 u69 u70 u6, a = (((((((((((((((((((A.put (some 53) u53).put (some 54) u54).put (some 55) u55).put (some 56) u56).put (some 57) u57).put (some 58) u58).put (some 59) u59).put (some 60) u60).put (some 61) u61).put (some 62) u62).put (some 63) u63).put (some 64) u64).put (some 65) u65).put (some 66) u66).put (some 67) u67).put (some 68) u68).put (some 69) u69).put (some 70) u70).put (some 6) u6) ∧
        RM w4 la ca (catL ca 16) w.heap.size f u53 u54 u55 u56 u57 u58 u59 u60 u61 u62 u63 u64 u65 u66 u67 u68 u69 u70 u6 wx) ?_ ?_ ?_
      · refine ⟨undef, undef, undef, undef, undef, undef, undef, undef, undef, undef, undef, undef, undef, undef, undef, undef, undef, undef, .bool false, by kernel_rfl, ?_⟩
        refine { lo := fun j hj => by simpa using hj, bl := HY.out, f25 := ?_, f26 := ?_, f27 := ?_, f28 := ?_, f29 := ?_, f30 := ?_, f31 := ?_, f32 := ?_, f33 := ?_, f34 := ?_, f35 := ?_, f36 := ?_, f37 := ?_, f38 := ?_, f39 := ?_, f40 := ?_, f41 := ?_, f42 := ?_, f43 := ?_ } <;> (intro h; cases h)
      · rintro f a wx ⟨u53, u54, u55, u56, u57, u58, u59, u60, u61, u62, u63, u64, u65, u66, u67, u68, u69, u70, u6, rfl, r⟩ i o ho hfi hr
        obtain ⟨k, rfl⟩ : ∃ k, i = 25 + k := by
          rcases Nat.lt_or_ge i 25 with h' | h'
          · rw [r.lo i h'] at hfi; cases hfi
          · exact ⟨i - 25, by omega⟩
        simp only [Act.put, List.setIfInBounds_toArray, List.set_cons_zero, List.set_cons_succ]
        have e0 := (r.bl.cell (p := ⟨w.heap.size, 0, none⟩) hla).trans a0
        have e1 := (r.bl.cell (p := ⟨w.heap.size, 1, none⟩) hla).trans a1
        have hw1 : IntKind.i64.wrap la = la := IntWalk.i64_in _ (by omega)
        have hw2 : IntKind.i64.wrap (la + ((catL ca 16).length : Int)) = la + ((catL ca 16).length : Int) := IntWalk.i64_in _ (by omega)
        match k, ho with
          | 0, ho =>
            refine wpOp_step ho (fun K hK => ?_)
            obtain rfl := Option.some.inj ho
            have HR := Lib.hid r
            clear r
            go_simp
            exact hK _ _ ⟨(.agg #[.int .u8 la, .int .u16 ca]), u54, u55, u56, u57, u58, u59, u60, u61, u62, u63, u64, u65, u66, u67, u68, u69, u70, u6, by kernel_rfl, { HR.out with lo := fun j hj => by rw [HR.out.lo j hj, Bool.or_true], f25 := fun _ => rfl }⟩
          | 1, ho =>
            have q25 := r.f25 (hr ⟨25, .data⟩ (by obtain rfl := Option.some.inj ho; simp) rfl)
            subst q25
            refine wpOp_step ho (fun K hK => ?_)
            obtain rfl := Option.some.inj ho
            have HR := Lib.hid r
            clear r
            go_simp
            refine (cats_any la ca _ ha.1 ha.2).mono ?_
            rintro e w4 ⟨vv, rfl, hvv, hb4⟩
            have r := HR.out.mono hb4
            exact hK _ _ ⟨(.agg #[.int .u8 la, .int .u16 ca]), vv, u55, u56, u57, u58, u59, u60, u61, u62, u63, u64, u65, u66, u67, u68, u69, u70, u6, by kernel_rfl, { r with lo := fun j hj => by rw [HR.out.lo j hj, Bool.or_true], f26 := fun _ => hvv }⟩
          | 2, ho =>
            refine wpOp_step ho (fun K hK => ?_)
            obtain rfl := Option.some.inj ho
            have HR := Lib.hid r
            clear r
            go_simp
            exact hK _ _ ⟨u53, u54, (.agg #[.int .u8 la, .int .u16 ca]), u56, u57, u58, u59, u60, u61, u62, u63, u64, u65, u66, u67, u68, u69, u70, u6, by kernel_rfl, { HR.out with lo := fun j hj => by rw [HR.out.lo j hj, Bool.or_true], f27 := fun _ => rfl }⟩
          | 3, ho =>
            have q27 := r.f27 (hr ⟨27, .data⟩ (by obtain rfl := Option.some.inj ho; simp) rfl)
            subst q27
            refine wpOp_step ho (fun K hK => ?_)
            obtain rfl := Option.some.inj ho
            have HR := Lib.hid r
            clear r
            go_simp
            refine (refcats_any la ca _ ha.1 ha.2).mono ?_
            rintro e w4 ⟨vv, rfl, hvv, hb4⟩
            have r := HR.out.mono hb4
            exact hK _ _ ⟨u53, u54, (.agg #[.int .u8 la, .int .u16 ca]), vv, u57, u58, u59, u60, u61, u62, u63, u64, u65, u66, u67, u68, u69, u70, u6, by kernel_rfl, { r with lo := fun j hj => by rw [HR.out.lo j hj, Bool.or_true], f28 := fun _ => hvv }⟩
          | 4, ho =>
            have q26 := r.f26 (hr ⟨26, .data⟩ (by obtain rfl := Option.some.inj ho; simp) rfl)
            have q28 := r.f28 (hr ⟨28, .data⟩ (by obtain rfl := Option.some.inj ho; simp) rfl)
            refine wpOp_step ho (fun K hK => ?_)
            obtain rfl := Option.some.inj ho
            have HR := Lib.hid r
            clear r
            go_simp
            refine (same_any _ _ _ _ q26 q28).mono ?_
            rintro e w4 ⟨rfl, hb4⟩
            have r := HR.out.mono hb4
            exact hK _ _ ⟨u53, u54, u55, u56, (.bool true), u58, u59, u60, u61, u62, u63, u64, u65, u66, u67, u68, u69, u70, u6, by kernel_rfl, { r with lo := fun j hj => by rw [HR.out.lo j hj, Bool.or_true], f29 := fun _ => rfl }⟩
          | 5, ho =>
            have q29 := r.f29 (hr ⟨29, .data⟩ (by obtain rfl := Option.some.inj ho; simp) rfl)
            subst q29
            refine wpOp_step ho (fun K hK => ?_)
            obtain rfl := Option.some.inj ho
            have HR := Lib.hid r
            clear r
            go_simp
            exact hK _ _ ⟨u53, u54, u55, u56, (.bool true), (.bool true), u59, u60, u61, u62, u63, u64, u65, u66, u67, u68, u69, u70, u6, by kernel_rfl, { HR.out with lo := fun j hj => by rw [HR.out.lo j hj, Bool.or_true], f30 := fun _ => rfl }⟩
          | 6, ho =>
            have q30 := r.f30 (hr ⟨30, .data⟩ (by obtain rfl := Option.some.inj ho; simp) rfl)
            subst q30
            refine wpOp_step ho (fun K hK => ?_)
            obtain rfl := Option.some.inj ho
            have HR := Lib.hid r
            clear r
            go_simp
            exact hK _ _ ⟨u53, u54, u55, u56, u57, (.bool true), (.bool true), u60, u61, u62, u63, u64, u65, u66, u67, u68, u69, u70, u6, by kernel_rfl, { HR.out with lo := fun j hj => by rw [HR.out.lo j hj, Bool.or_true], f31 := fun _ => rfl }⟩
          | 7, ho =>
            have q31 := r.f31 (hr ⟨31, .guard⟩ (by obtain rfl := Option.some.inj ho; simp) rfl)
            subst q31
            refine wpOp_step ho (fun K hK => ?_)
            obtain rfl := Option.some.inj ho
            have HR := Lib.hid r
            clear r
            go_simp
            exact hK _ _ ⟨u53, u54, u55, u56, u57, u58, (.bool true), (.agg #[.int .u8 la, .int .u16 ca]), u61, u62, u63, u64, u65, u66, u67, u68, u69, u70, u6, by kernel_rfl, { HR.out with lo := fun j hj => by rw [HR.out.lo j hj, Bool.or_true], f32 := fun _ => rfl }⟩
          | 8, ho =>
            have q32 := r.f32 (hr ⟨32, .data⟩ (by obtain rfl := Option.some.inj ho; simp) rfl)
            have q31 := r.f31 (hr ⟨31, .guard⟩ (by obtain rfl := Option.some.inj ho; simp) rfl)
            subst q32 q31
            refine wpOp_step ho (fun K hK => ?_)
            obtain rfl := Option.some.inj ho
            have HR := Lib.hid r
            clear r
            go_simp
            refine (rank_any la ca _ ha.1 ha.2 hla0.1 hla0.2).mono ?_
            rintro e w4 ⟨rfl, hb4⟩
            have r := HR.out.mono hb4
            exact hK _ _ ⟨u53, u54, u55, u56, u57, u58, (.bool true), (.agg #[.int .u8 la, .int .u16 ca]), (.int .i64 (la + ((catL ca 16).length : Int))), u62, u63, u64, u65, u66, u67, u68, u69, u70, u6, by kernel_rfl, { r with lo := fun j hj => by rw [HR.out.lo j hj, Bool.or_true], f33 := fun _ => rfl }⟩
          | 9, ho =>
            have q31 := r.f31 (hr ⟨31, .guard⟩ (by obtain rfl := Option.some.inj ho; simp) rfl)
            subst q31
            refine wpOp_step ho (fun K hK => ?_)
            obtain rfl := Option.some.inj ho
            have HR := Lib.hid r
            clear r
            go_simp
            exact hK _ _ ⟨u53, u54, u55, u56, u57, u58, (.bool true), u60, u61, (.pointer (some ⟨w.heap.size, 0, none⟩)), u63, u64, u65, u66, u67, u68, u69, u70, u6, by kernel_rfl, { HR.out with lo := fun j hj => by rw [HR.out.lo j hj, Bool.or_true], f34 := fun _ => rfl }⟩
          | 10, ho =>
            have q34 := r.f34 (hr ⟨34, .data⟩ (by obtain rfl := Option.some.inj ho; simp) rfl)
            have q31 := r.f31 (hr ⟨31, .guard⟩ (by obtain rfl := Option.some.inj ho; simp) rfl)
            subst q34 q31
            refine wpOp_step ho (fun K hK => ?_)
            obtain rfl := Option.some.inj ho
            have HR := Lib.hid r
            clear r
            go_simp
            exact hK _ _ ⟨u53, u54, u55, u56, u57, u58, (.bool true), u60, u61, (.pointer (some ⟨w.heap.size, 0, none⟩)), (.int .u8 la), u64, u65, u66, u67, u68, u69, u70, u6, by kernel_rfl, { HR.out with lo := fun j hj => by rw [HR.out.lo j hj, Bool.or_true], f35 := fun _ => rfl }⟩
          | 11, ho =>
            have q35 := r.f35 (hr ⟨35, .data⟩ (by obtain rfl := Option.some.inj ho; simp) rfl)
            have q31 := r.f31 (hr ⟨31, .guard⟩ (by obtain rfl := Option.some.inj ho; simp) rfl)
            subst q35 q31
            refine wpOp_step ho (fun K hK => ?_)
            obtain rfl := Option.some.inj ho
            have HR := Lib.hid r
            clear r
            go_simp
            exact hK _ _ ⟨u53, u54, u55, u56, u57, u58, (.bool true), u60, u61, u62, (.int .u8 la), (.int .i64 la), u65, u66, u67, u68, u69, u70, u6, by kernel_rfl, { HR.out with lo := fun j hj => by rw [HR.out.lo j hj, Bool.or_true], f36 := fun _ => rfl }⟩
          | 12, ho =>
            have q31 := r.f31 (hr ⟨31, .guard⟩ (by obtain rfl := Option.some.inj ho; simp) rfl)
            subst q31
            refine wpOp_step ho (fun K hK => ?_)
            obtain rfl := Option.some.inj ho
            have HR := Lib.hid r
            clear r
            go_simp
            exact hK _ _ ⟨u53, u54, u55, u56, u57, u58, (.bool true), u60, u61, u62, u63, u64, (.agg #[.int .u8 la, .int .u16 ca]), u66, u67, u68, u69, u70, u6, by kernel_rfl, { HR.out with lo := fun j hj => by rw [HR.out.lo j hj, Bool.or_true], f37 := fun _ => rfl }⟩
          | 13, ho =>
            have q37 := r.f37 (hr ⟨37, .data⟩ (by obtain rfl := Option.some.inj ho; simp) rfl)
            have q31 := r.f31 (hr ⟨31, .guard⟩ (by obtain rfl := Option.some.inj ho; simp) rfl)
            subst q37 q31
            refine wpOp_step ho (fun K hK => ?_)
            obtain rfl := Option.some.inj ho
            have HR := Lib.hid r
            clear r
            go_simp
            refine (refcats_any la ca _ ha.1 ha.2).mono ?_
            rintro e w4 ⟨vv, rfl, hvv, hb4⟩
            have r := HR.out.mono hb4
            exact hK _ _ ⟨u53, u54, u55, u56, u57, u58, (.bool true), u60, u61, u62, u63, u64, (.agg #[.int .u8 la, .int .u16 ca]), vv, u67, u68, u69, u70, u6, by kernel_rfl, { r with lo := fun j hj => by rw [HR.out.lo j hj, Bool.or_true], f38 := fun _ => hvv }⟩
          | 14, ho =>
            have q38 := r.f38 (hr ⟨38, .data⟩ (by obtain rfl := Option.some.inj ho; simp) rfl)
            have q31 := r.f31 (hr ⟨31, .guard⟩ (by obtain rfl := Option.some.inj ho; simp) rfl)
            obtain ⟨a66, c66, q66⟩ := q38.form
            subst q66 q31
            refine wpOp_step ho (fun K hK => ?_)
            obtain rfl := Option.some.inj ho
            have HR := Lib.hid r
            clear r
            go_simp
            exact hK _ _ ⟨u53, u54, u55, u56, u57, u58, (.bool true), u60, u61, u62, u63, u64, u65, (.slice a66 (catL ca 16).length c66), (.int .i64 ((catL ca 16).length : Int)), u68, u69, u70, u6, by kernel_rfl, { HR.out with lo := fun j hj => by rw [HR.out.lo j hj, Bool.or_true], f39 := fun _ => rfl }⟩
          | 15, ho =>
            have q36 := r.f36 (hr ⟨36, .data⟩ (by obtain rfl := Option.some.inj ho; simp) rfl)
            have q39 := r.f39 (hr ⟨39, .data⟩ (by obtain rfl := Option.some.inj ho; simp) rfl)
            have q31 := r.f31 (hr ⟨31, .guard⟩ (by obtain rfl := Option.some.inj ho; simp) rfl)
            subst q36 q39 q31
            refine wpOp_step ho (fun K hK => ?_)
            obtain rfl := Option.some.inj ho
            have HR := Lib.hid r
            clear r
            go_simp
            exact hK _ _ ⟨u53, u54, u55, u56, u57, u58, (.bool true), u60, u61, u62, u63, (.int .i64 la), u65, u66, (.int .i64 ((catL ca 16).length : Int)), (.int .i64 (la + ((catL ca 16).length : Int))), u69, u70, u6, by kernel_rfl, { HR.out with lo := fun j hj => by rw [HR.out.lo j hj, Bool.or_true], f40 := fun _ => rfl }⟩
          | 16, ho =>
            have q33 := r.f33 (hr ⟨33, .data⟩ (by obtain rfl := Option.some.inj ho; simp) rfl)
            have q40 := r.f40 (hr ⟨40, .data⟩ (by obtain rfl := Option.some.inj ho; simp) rfl)
            have q31 := r.f31 (hr ⟨31, .guard⟩ (by obtain rfl := Option.some.inj ho; simp) rfl)
            subst q33 q40 q31
            refine wpOp_step ho (fun K hK => ?_)
            obtain rfl := Option.some.inj ho
            have HR := Lib.hid r
            clear r
            go_simp
            exact hK _ _ ⟨u53, u54, u55, u56, u57, u58, (.bool true), u60, (.int .i64 (la + ((catL ca 16).length : Int))), u62, u63, u64, u65, u66, u67, (.int .i64 (la + ((catL ca 16).length : Int))), (.bool true), u70, u6, by kernel_rfl, { HR.out with lo := fun j hj => by rw [HR.out.lo j hj, Bool.or_true], f41 := fun _ => rfl }⟩
          | 17, ho =>
            have q41 := r.f41 (hr ⟨41, .data⟩ (by obtain rfl := Option.some.inj ho; simp) rfl)
            have q31 := r.f31 (hr ⟨31, .data⟩ (by obtain rfl := Option.some.inj ho; simp) rfl)
            subst q41 q31
            refine wpOp_step ho (fun K hK => ?_)
            obtain rfl := Option.some.inj ho
            have HR := Lib.hid r
            clear r
            go_simp
            exact hK _ _ ⟨u53, u54, u55, u56, u57, u58, (.bool true), u60, u61, u62, u63, u64, u65, u66, u67, u68, (.bool true), (.bool true), u6, by kernel_rfl, { HR.out with lo := fun j hj => by rw [HR.out.lo j hj, Bool.or_true], f42 := fun _ => rfl }⟩
          | 18, ho =>
            have q42 := r.f42 (hr ⟨42, .data⟩ (by obtain rfl := Option.some.inj ho; simp) rfl)
            subst q42
            refine wpOp_step ho (fun K hK => ?_)
            obtain rfl := Option.some.inj ho
            have HR := Lib.hid r
            clear r
            go_simp
            exact hK _ _ ⟨u53, u54, u55, u56, u57, u58, u59, u60, u61, u62, u63, u64, u65, u66, u67, u68, u69, (.bool true), (.bool true), by kernel_rfl, { HR.out with lo := fun j hj => by rw [HR.out.lo j hj, Bool.or_true], f43 := fun _ => rfl }⟩
          | n + 19, ho => exact absurd (Array.getElem?_eq_some_iff.1 ho).1 (by simp; omega)
      · rintro f a wx hf ⟨u53, u54, u55, u56, u57, u58, u59, u60, u61, u62, u63, u64, u65, u66, u67, u68, u69, u70, u6, rfl, r⟩
        have p43 := r.f43 (hf 43 (by simp))
        subst p43
        have HB := Lib.hid r.bl
        clear r hf
        simp only [Act.put, List.setIfInBounds_toArray, List.set_cons_zero, List.set_cons_succ]
        go_wp2
        go_ret
        exact ⟨rfl, hB4.trans (HB.out.mono hB4.size)⟩
end Go.Proofs.YthifnojdencobaaDoor
