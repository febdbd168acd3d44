import Derived.Test.YthifnojdencobaaDoorSplit
import Derived.Deep.QuietTactic
import Derived.BigQuiet
import Derived.Lib.QuietBelow
import Derived.Test.YthifnojdencobaaDoorW13
import Derived.Test.YthifnojdencobaaDoorW3
import Derived.Test.YthifnojdencobaaDoorW8
import Derived.Test.YthifnojdencobaaDoorLaws
import Derived.Laws.StructEq
namespace Go.Proofs.YthifnojdencobaaDoor
open Go.RowKit

theorem step_join (a x : Int × Int) (ha : 0 ≤ a.2 ∧ a.2 < 65536) (hx : 0 ≤ x.2 ∧ x.2 < 65536) : joinStep a x = refJoinStep a x ∧ 0 ≤ (joinStep a x).2 ∧ (joinStep a x).2 < 65536 := by
  obtain ⟨a1, a2⟩ := a
  obtain ⟨x1, x2⟩ := x
  obtain ⟨A, rfl⟩ := Int.eq_ofNat_of_zero_le ha.1
  obtain ⟨X, rfl⟩ := Int.eq_ofNat_of_zero_le hx.1
  have hA : A < 65536 := by have := ha.2; simp at this; omega
  have hX : X < 65536 := by have := hx.2; simp at this; omega
  have e : joinStep (a1, (A : Int)) (x1, (X : Int)) = (max a1 x1, ((A ||| X : Nat) : Int)) := Prod.ext rfl (u16_or_nat A X hA hX)
  rw [e]
  have h := or_lt A X hA hX
  refine ⟨?_, by simp, by simp; omega⟩
  unfold refJoinStep
  simp only [Int.toNat_natCast]
  rw [orTo_or X A hX hA]
  refine Prod.ext ?_ rfl
  simp only
  split <;> omega
theorem step_meet (a x : Int × Int) (ha : 0 ≤ a.2 ∧ a.2 < 65536) (hx : 0 ≤ x.2 ∧ x.2 < 65536) : meetStep a x = refMeetStep a x ∧ 0 ≤ (meetStep a x).2 ∧ (meetStep a x).2 < 65536 := by
  obtain ⟨a1, a2⟩ := a
  obtain ⟨x1, x2⟩ := x
  obtain ⟨A, rfl⟩ := Int.eq_ofNat_of_zero_le ha.1
  obtain ⟨X, rfl⟩ := Int.eq_ofNat_of_zero_le hx.1
  have hA : A < 65536 := by have := ha.2; simp at this; omega
  have hX : X < 65536 := by have := hx.2; simp at this; omega
  have e : meetStep (a1, (A : Int)) (x1, (X : Int)) = (min a1 x1, ((A &&& X : Nat) : Int)) := Prod.ext rfl (u16_and_nat A X hA hX)
  rw [e]
  have h := and_lt A X hA
  refine ⟨?_, by simp, by simp; omega⟩
  unfold refMeetStep
  simp only [Int.toNat_natCast]
  rw [andTo_and X A hA]
  refine Prod.ext ?_ rfl
  simp only
  split <;> omega
theorem joinC_ref (ls : List (Int × Int)) (h : InRange ls) : refJoinC ls = joinC ls := by
  have key : ∀ (l : List (Int × Int)), InRange l → ∀ z : Int × Int, (0 ≤ z.2 ∧ z.2 < 65536) → l.foldl refJoinStep z = l.foldl joinStep z := by
    intro l
    induction l with
    | nil => intro _ z _; rfl
    | cons x r ih =>
      intro hl z hz
      obtain ⟨h1, h2, h3⟩ := step_join z x hz (hl x (List.mem_cons_self ..))
      simp only [List.foldl_cons]
      rw [← h1]
      exact ih (fun y hy => hl y (List.mem_cons_of_mem _ hy)) _ ⟨h2, h3⟩
  exact key ls h (0, 0) (by simp)
theorem meetC_ref (ls : List (Int × Int)) (h : InRange ls) : refMeetC ls = meetC ls := by
  have key : ∀ (l : List (Int × Int)), InRange l → ∀ z : Int × Int, (0 ≤ z.2 ∧ z.2 < 65536) → l.foldl refMeetStep z = l.foldl meetStep z := by
    intro l
    induction l with
    | nil => intro _ z _; rfl
    | cons x r ih =>
      intro hl z hz
      obtain ⟨h1, h2, h3⟩ := step_meet z x hz (hl x (List.mem_cons_self ..))
      simp only [List.foldl_cons]
      rw [← h1]
      exact ih (fun y hy => hl y (List.mem_cons_of_mem _ hy)) _ ⟨h2, h3⟩
  exact key ls h (15, 65535) (by simp)
theorem rjoin_any (v : Value) (ls : List (Int × Int)) (w : World) (hran : InRange ls) (h : Labs w v ls) : Calls Tryd.prog 19 #[v] w fun e w' => e = .returned (.agg #[.int .u8 (joinC ls).1, .int .u16 (joinC ls).2]) ∧ Below w.heap.size w w' := by
  rw [← joinC_ref ls hran]; exact refjoin_any v ls w hran h
theorem rmeet_any (v : Value) (ls : List (Int × Int)) (w : World) (hran : InRange ls) (h : Labs w v ls) : Calls Tryd.prog 21 #[v] w fun e w' => e = .returned (.agg #[.int .u8 (meetC ls).1, .int .u16 (meetC ls).2]) ∧ Below w.heap.size w w' := by
  rw [← meetC_ref ls hran]; exact refmeet_any v ls w hran h
theorem rleq_any (la ca lb cb : Int) (w : World) (h0 : 0 ≤ ca) (h1 : ca < 65536) (h2 : 0 ≤ cb) (h3 : cb < 65536) :
    Calls Tryd.prog 17 #[.agg #[.int .u8 la, .int .u16 ca], .agg #[.int .u8 lb, .int .u16 cb]] w fun e w' => e = .returned (.bool (leqB la ca lb cb)) ∧ Below w.heap.size w w' := by
  rw [leqB_ref la ca lb cb h0 h1 h2 h3]; exact refleq_any la ca lb cb w h0 h1 h2 h3
theorem Labs.form {w : World} {v : Value} {ls : List (Int × Int)} (h : Labs w v ls) : ∃ a cap, v = .slice a ls.length cap := by
  rcases h with ⟨a, cap, rfl, rfl⟩ | ⟨b, off, cap, rfl, _⟩
  · exact ⟨a, cap, rfl⟩
  · exact ⟨_, cap, rfl⟩
theorem labs_lit (W : World) (la ca lb cb : Int) : Labs (W.alloc (.cells #[.int .u8 la, .int .u16 ca, .int .u8 lb, .int .u16 cb] 25)) (.slice (some ⟨W.heap.size, 0, none⟩) 2 2) [(la, ca), (lb, cb)] := by
  refine .inr ⟨W.heap.size, 0, 2, rfl, by simp, by simp [maxLen], fun i hi => ?_, fun i hi => ?_⟩
  · match i, hi with
    | 0, _ => simp
    | 1, _ => simp
  · match i, hi with
    | 0, _ => simp
    | 1, _ => simp
theorem labs_lit' (W : World) (n : Nat) (hn : n = W.heap.size) (la ca lb cb : Int) : Labs (W.alloc (.cells #[.int .u8 la, .int .u16 ca, .int .u8 lb, .int .u16 cb] 25)) (.slice (some ⟨n, 0, none⟩) 2 2) [(la, ca), (lb, cb)] := hn ▸ labs_lit W la ca lb cb
theorem below_more {w x : World} (h : Below w.heap.size w x) (o : Obj) : Below w.heap.size w (x.alloc o) := h.alloc h.size o
theorem below_next {B W w2 : World} (h : Below B.heap.size B W) (hb : Below W.heap.size W w2) : Below B.heap.size B w2 := h.trans (hb.mono h.size)
theorem Labs.drew {w : World} {v : Value} {ls : List (Int × Int)} (h : Labs w v ls) : Labs w.drew v ls := h.below ((Below.refl w.heap.size w).drew)
theorem Labs.alloc {w : World} {v : Value} {ls : List (Int × Int)} (h : Labs w v ls) (o : Obj) : Labs (w.alloc o) v ls := h.below (below_more (Below.refl _ w) o)

/-- what the last part of LabelOrders's statement has come to -/
structure RO (wc : World) (la ca lb cb : Int) (T : Int × Int) (f : Nat → Bool) (u34 u35 u36 u37 u38 u39 u40 u41 u42 u43 u6 : Value) (wx : World) : Prop where
  lo : ∀ j, j < 22 → f j = true
  bl : Below wc.heap.size wc wx
  f22 : f 22 = true → u34 = .agg #[.int .u8 la, .int .u16 ca]
  f23 : f 23 = true → u35 = .agg #[.int .u8 lb, .int .u16 cb]
  f24 : f 25 = false → f 24 = true → Labs wx u36 [(la, ca), (lb, cb)]
  f25 : f 25 = true → u37 = .agg #[.int .u8 T.1, .int .u16 T.2]
  f26 : f 26 = true → u38 = .agg #[.int .u8 la, .int .u16 ca]
  f27 : f 27 = true → u39 = .agg #[.int .u8 lb, .int .u16 cb]
  f28 : f 29 = false → f 28 = true → Labs wx u40 [(la, ca), (lb, cb)]
  f29 : f 29 = true → u41 = .agg #[.int .u8 T.1, .int .u16 T.2]
  f30 : f 30 = true → u42 = .bool true
  f31 : f 31 = true → u43 = .bool true
  f32 : f 32 = true → u6 = .bool true
theorem RO.mono {wc : World} {la ca lb cb : Int} {T : Int × Int} {f : Nat → Bool} {u34 u35 u36 u37 u38 u39 u40 u41 u42 u43 u6 : Value} {wx wy : World} (r : RO wc la ca lb cb T f u34 u35 u36 u37 u38 u39 u40 u41 u42 u43 u6 wx) (h : Below wx.heap.size wx wy) : RO wc la ca lb cb T f u34 u35 u36 u37 u38 u39 u40 u41 u42 u43 u6 wy :=
  { lo := r.lo, bl := below_next r.bl h, f22 := r.f22, f23 := r.f23, f24 := fun m k => (r.f24 m k).below h, f25 := r.f25, f26 := r.f26, f27 := r.f27, f28 := fun m k => (r.f28 m k).below h, f29 := r.f29, f30 := r.f30, f31 := r.f31, f32 := r.f32 }

set_option maxHeartbeats 4000000 in
set_option maxRecDepth 100000 in
theorem orders_walk (la ca lb cb : Int) (v : Value) (ls : List (Int × Int)) (w : World) (ha : 0 ≤ ca ∧ ca < 65536) (hb : 0 ≤ cb ∧ cb < 65536) (hm : ls.length ≤ maxLen) (hran : InRange ls) (hL0 : Labs w v ls) :
    Calls Tryd.prog 4 #[.agg #[.int .u8 la, .int .u16 ca], .agg #[.int .u8 lb, .int .u16 cb], v] w fun e w' => e = .returned (.bool true) ∧ Below w.heap.size w w' := by
  obtain ⟨ad, cap, rfl⟩ := hL0.form
  unfold maxLen at hm
  have HL := Lib.hid hL0
  have HRan := Lib.hid hran
  clear hL0 hran
  have hr2 : InRange [(la, ca), (lb, cb)] := by
    intro x hx
    simp at hx
    rcases hx with rfl | rfl
    · exact ha
    · exact hb
  have HR2 := Lib.hid hr2
  clear hr2
  go_enter Tryd.func4, Tryd.ntmps4
  go_wp2_with fail
  refine (awake_any _).mono ?_
  rintro e w1 ⟨rfl, hb1⟩
  have hB1 : Below w.heap.size w w1 := (below_more (below_more (Below.refl _ w) _) _).trans (hb1.mono (by simp; omega))
  have hPa := ((Pair.new w (.int .u8 la) (.int .u16 ca) 25).alloc (.cells #[.int .u8 lb, .int .u16 cb] 25)).below hb1 (by simp; omega)
  have hPb := (Pair.new (w.alloc (.cells #[.int .u8 la, .int .u16 ca] 25)) (.int .u8 lb) (.int .u16 cb) 25).below hb1 (by simp)
  simp only [World.size_alloc] at hPb
  clear hb1
  obtain ⟨hla, a0, a1, -, -⟩ := id hPa
  obtain ⟨hlb, b0, b1, -, -⟩ := id hPb
  have HPa := Lib.hid hPa
  have HPb := Lib.hid hPb
  have HL1 := Lib.hid (HL.out.below hB1)
  clear hPa hPb
  by_cases hlen : 100 < ls.length
  · have hd : decide ((100 : Int) < (ls.length : Int)) = true := by simp; omega
    go_wp2
    go_ret
    exact ⟨rfl, hB1⟩
  · have hd : decide ((100 : Int) < (ls.length : Int)) = false := by simp; omega
    go_wp2_with fail
    have k0 := cell_regrown a0
    have k1 := cell_regrown a1
    have k2 := cell_regrown b0
    have k3 := cell_regrown b1
    have q1 := fun d os => Calls.regrown_of (leq_any la ca lb cb (Sort.grow (redrawn w1 d) os))
    have q2 := fun d os => Calls.regrown_of (rleq_any la ca lb cb (Sort.grow (redrawn w1 d) os) ha.1 ha.2 hb.1 hb.2)
    have q3 := fun d os => Calls.regrown_of (join_any (.slice ad ls.length cap) ls (Sort.grow (redrawn w1 d) os) (HL1.out.below (below_regrown w1 d os)))
    have q4 := fun d os => Calls.regrown_of (rjoin_any (.slice ad ls.length cap) ls (Sort.grow (redrawn w1 d) os) HRan.out (HL1.out.below (below_regrown w1 d os)))
    have q5 := fun d os => Calls.regrown_of (meet_any (.slice ad ls.length cap) ls (Sort.grow (redrawn w1 d) os) (HL1.out.below (below_regrown w1 d os)))
    have q6 := fun d os => Calls.regrown_of (rmeet_any (.slice ad ls.length cap) ls (Sort.grow (redrawn w1 d) os) HRan.out (HL1.out.below (below_regrown w1 d os)))
    refine wp_region_split (C := fun w' => ∃ p : Regrown, w' = Sort.grow (redrawn w1 p.d) p.os) 22 (by kernel_rfl) (of_decide_eq_true (by kernel_rfl)) (by kernel_rfl) (by kernel_rfl) (by kernel_rfl) (regrown_of_below ((Below.refl _ _).drew)) ?_
    simp only [List.take_succ_cons, List.take_zero]
    repeat (first | go_big_quiet_step (first | (with_reducible exact q1 _ _) | (with_reducible exact q2 _ _) | (with_reducible exact q3 _ _) | (with_reducible exact q4 _ _) | (with_reducible exact q5 _ _) | (with_reducible exact q6 _ _)) | quiet_step (first | (with_reducible exact q1 _ _) | (with_reducible exact q2 _ _) | (with_reducible exact q3 _ _) | (with_reducible exact q4 _ _) | (with_reducible exact q5 _ _) | (with_reducible exact q6 _ _)))
    refine wpQuiet_nil ?_
    intro wy hw'
    obtain ⟨⟨dq, osq⟩, rfl⟩ := hw'
    have hwy := below_regrown w1 dq osq
    have HY := Lib.hid hwy
    clear hwy k0 k1 k2 k3 q1 q2 q3 q4 q5 q6
    refine wpAny_rest 22 (of_decide_eq_true (by kernel_rfl)) (by kernel_rfl) (fun A f a wx => ∃ u34 u35 u36 u37 u38 u39 u40 u41 u42 u43 u6, a = (((((((((((A.put (some 34) u34).put (some 35) u35).put (some 36) u36).put (some 37) u37).put (some 38) u38).put (some 39) u39).put (some 40) u40).put (some 41) u41).put (some 42) u42).put (some 43) u43).put (some 6) u6) ∧
      RO w1 la ca lb cb (joinC [(la, ca), (lb, cb)]) f u34 u35 u36 u37 u38 u39 u40 u41 u42 u43 u6 wx) ?_ ?_ ?_
    · refine ⟨undef, undef, undef, undef, undef, undef, undef, undef, undef, undef, .bool false, by kernel_rfl, ?_⟩
      refine { lo := fun j hj => by simpa using hj, bl := HY.out, f22 := ?_, f23 := ?_, f24 := ?_, f25 := ?_, f26 := ?_, f27 := ?_, f28 := ?_, f29 := ?_, f30 := ?_, f31 := ?_, f32 := ?_ } <;> (first | (intro h; cases h; done) | (intro _ h; cases h))
    · rintro f a wx ⟨u34, u35, u36, u37, u38, u39, u40, u41, u42, u43, u6, rfl, r⟩ i o ho hfi hr
      obtain ⟨k, rfl⟩ : ∃ k, i = 22 + k := by
        rcases Nat.lt_or_ge i 22 with h' | h'
        · rw [r.lo i h'] at hfi; cases hfi
        · exact ⟨i - 22, by omega⟩
      simp only [Act.put, List.setIfInBounds_toArray, List.set_cons_zero, List.set_cons_succ]
      have e0 := (r.bl.cell (p := ⟨w.heap.size, 0, none⟩) hla).trans a0
      have e1 := (r.bl.cell (p := ⟨w.heap.size, 1, none⟩) hla).trans a1
      have e2 := (r.bl.cell (p := ⟨w.heap.size + 1, 0, none⟩) hlb).trans b0
      have e3 := (r.bl.cell (p := ⟨w.heap.size + 1, 1, none⟩) hlb).trans b1
      match k, ho with
        | 0, ho =>
          refine wpOp_step ho (fun K hK => ?_)
          obtain rfl := Option.some.inj ho
          have HR := Lib.hid r
          clear r
          go_simp
          exact hK _ _ ⟨(.agg #[.int .u8 la, .int .u16 ca]), u35, u36, u37, u38, u39, u40, u41, u42, u43, u6, by kernel_rfl, { HR.out with lo := fun j hj => by rw [HR.out.lo j hj, Bool.or_true], f22 := fun _ => rfl }⟩
        | 1, ho =>
          refine wpOp_step ho (fun K hK => ?_)
          obtain rfl := Option.some.inj ho
          have HR := Lib.hid r
          clear r
          go_simp
          exact hK _ _ ⟨u34, (.agg #[.int .u8 lb, .int .u16 cb]), u36, u37, u38, u39, u40, u41, u42, u43, u6, by kernel_rfl, { HR.out with lo := fun j hj => by rw [HR.out.lo j hj, Bool.or_true], f23 := fun _ => rfl }⟩
        | 2, ho =>
          have q22 := r.f22 (hr ⟨22, .data⟩ (by obtain rfl := Option.some.inj ho; simp) rfl)
          have q23 := r.f23 (hr ⟨23, .data⟩ (by obtain rfl := Option.some.inj ho; simp) rfl)
          subst q22 q23
          refine wpOp_step ho (fun K hK => ?_)
          obtain rfl := Option.some.inj ho
          have HR := Lib.hid r
          clear r
          go_simp
          have r := HR.out.mono (below_more (Below.refl _ wx) (.cells #[.int .u8 la, .int .u16 ca, .int .u8 lb, .int .u16 cb] 25))
          exact hK _ _ ⟨(.agg #[.int .u8 la, .int .u16 ca]), (.agg #[.int .u8 lb, .int .u16 cb]), (.slice (some ⟨wx.heap.size, 0, none⟩) 2 2), u37, u38, u39, u40, u41, u42, u43, u6, by kernel_rfl, { r with lo := fun j hj => by rw [HR.out.lo j hj, Bool.or_true], f24 := fun _ _ => labs_lit wx la ca lb cb }⟩
        | 3, ho =>
          have q24 := r.f24 hfi (hr ⟨24, .data⟩ (by obtain rfl := Option.some.inj ho; simp) rfl)
          refine wpOp_step ho (fun K hK => ?_)
          obtain rfl := Option.some.inj ho
          have HR := Lib.hid r
          clear r
          go_simp
          refine (join_any _ _ _ q24).mono ?_
          rintro e w2 ⟨rfl, hb2⟩
          have r := HR.out.mono hb2
          exact hK _ _ ⟨u34, u35, u36, (.agg #[.int .u8 (joinC [(la, ca), (lb, cb)]).1, .int .u16 (joinC [(la, ca), (lb, cb)]).2]), u38, u39, u40, u41, u42, u43, u6, by kernel_rfl, { r with lo := fun j hj => by rw [HR.out.lo j hj, Bool.or_true], f25 := fun _ => rfl, f24 := fun h => by simp at h }⟩
        | 4, ho =>
          refine wpOp_step ho (fun K hK => ?_)
          obtain rfl := Option.some.inj ho
          have HR := Lib.hid r
          clear r
          go_simp
          exact hK _ _ ⟨u34, u35, u36, u37, (.agg #[.int .u8 la, .int .u16 ca]), u39, u40, u41, u42, u43, u6, by kernel_rfl, { HR.out with lo := fun j hj => by rw [HR.out.lo j hj, Bool.or_true], f26 := fun _ => rfl }⟩
        | 5, ho =>
          refine wpOp_step ho (fun K hK => ?_)
          obtain rfl := Option.some.inj ho
          have HR := Lib.hid r
          clear r
          go_simp
          exact hK _ _ ⟨u34, u35, u36, u37, u38, (.agg #[.int .u8 lb, .int .u16 cb]), u40, u41, u42, u43, u6, by kernel_rfl, { HR.out with lo := fun j hj => by rw [HR.out.lo j hj, Bool.or_true], f27 := fun _ => rfl }⟩
        | 6, ho =>
          have q26 := r.f26 (hr ⟨26, .data⟩ (by obtain rfl := Option.some.inj ho; simp) rfl)
          have q27 := r.f27 (hr ⟨27, .data⟩ (by obtain rfl := Option.some.inj ho; simp) rfl)
          subst q26 q27
          refine wpOp_step ho (fun K hK => ?_)
          obtain rfl := Option.some.inj ho
          have HR := Lib.hid r
          clear r
          go_simp
          have r := HR.out.mono (below_more (Below.refl _ wx) (.cells #[.int .u8 la, .int .u16 ca, .int .u8 lb, .int .u16 cb] 25))
          exact hK _ _ ⟨u34, u35, u36, u37, (.agg #[.int .u8 la, .int .u16 ca]), (.agg #[.int .u8 lb, .int .u16 cb]), (.slice (some ⟨wx.heap.size, 0, none⟩) 2 2), u41, u42, u43, u6, by kernel_rfl, { r with lo := fun j hj => by rw [HR.out.lo j hj, Bool.or_true], f28 := fun _ _ => labs_lit wx la ca lb cb }⟩
        | 7, ho =>
          have q28 := r.f28 hfi (hr ⟨28, .data⟩ (by obtain rfl := Option.some.inj ho; simp) rfl)
          refine wpOp_step ho (fun K hK => ?_)
          obtain rfl := Option.some.inj ho
          have HR := Lib.hid r
          clear r
          go_simp
          refine (rjoin_any _ _ _ HR2.out q28).mono ?_
          rintro e w2 ⟨rfl, hb2⟩
          have r := HR.out.mono hb2
          exact hK _ _ ⟨u34, u35, u36, u37, u38, u39, u40, (.agg #[.int .u8 (joinC [(la, ca), (lb, cb)]).1, .int .u16 (joinC [(la, ca), (lb, cb)]).2]), u42, u43, u6, by kernel_rfl, { r with lo := fun j hj => by rw [HR.out.lo j hj, Bool.or_true], f29 := fun _ => rfl, f28 := fun h => by simp at h }⟩
        | 8, ho =>
          have q25 := r.f25 (hr ⟨25, .data⟩ (by obtain rfl := Option.some.inj ho; simp) rfl)
          have q29 := r.f29 (hr ⟨29, .data⟩ (by obtain rfl := Option.some.inj ho; simp) rfl)
          subst q25 q29
          refine wpOp_step ho (fun K hK => ?_)
          obtain rfl := Option.some.inj ho
          have HR := Lib.hid r
          clear r
          go_simp
          exact hK _ _ ⟨u34, u35, u36, (.agg #[.int .u8 (joinC [(la, ca), (lb, cb)]).1, .int .u16 (joinC [(la, ca), (lb, cb)]).2]), u38, u39, u40, (.agg #[.int .u8 (joinC [(la, ca), (lb, cb)]).1, .int .u16 (joinC [(la, ca), (lb, cb)]).2]), (.bool true), u43, u6, by kernel_rfl, { HR.out with lo := fun j hj => by rw [HR.out.lo j hj, Bool.or_true], f30 := fun _ => rfl }⟩
        | 9, ho =>
          have q30 := r.f30 (hr ⟨30, .data⟩ (by obtain rfl := Option.some.inj ho; simp) rfl)
          subst q30
          refine wpOp_step ho (fun K hK => ?_)
          obtain rfl := Option.some.inj ho
          have HR := Lib.hid r
          clear r
          go_simp
          exact hK _ _ ⟨u34, u35, u36, u37, u38, u39, u40, u41, (.bool true), (.bool true), u6, by kernel_rfl, { HR.out with lo := fun j hj => by rw [HR.out.lo j hj, Bool.or_true], f31 := fun _ => rfl }⟩
        | 10, ho =>
          have q31 := r.f31 (hr ⟨31, .data⟩ (by obtain rfl := Option.some.inj ho; simp) rfl)
          subst q31
          refine wpOp_step ho (fun K hK => ?_)
          obtain rfl := Option.some.inj ho
          have HR := Lib.hid r
          clear r
          go_simp
          exact hK _ _ ⟨u34, u35, u36, u37, u38, u39, u40, u41, u42, (.bool true), (.bool true), by kernel_rfl, { HR.out with lo := fun j hj => by rw [HR.out.lo j hj, Bool.or_true], f32 := fun _ => rfl }⟩
        | n + 11, ho => exact absurd (Array.getElem?_eq_some_iff.1 ho).1 (by simp; omega)
    · rintro f a wx hf ⟨u34, u35, u36, u37, u38, u39, u40, u41, u42, u43, u6, rfl, r⟩
      have p32 := r.f32 (hf 32 (by simp))
      subst p32
      have HB := Lib.hid r.bl
      clear r hf
      simp only [Act.put, List.setIfInBounds_toArray, List.set_cons_zero, List.set_cons_succ]
      go_wp2
      go_ret
      exact ⟨rfl, hB1.trans (HB.out.mono hB1.size)⟩
end Go.Proofs.YthifnojdencobaaDoor
