import Derived.Test.YthifnojdencobaaDoorW13
import Derived.Test.YthifnojdencobaaDoorW8
import Derived.Test.YthifnojdencobaaDoorInv
import Derived.Test.YthifnojdencobaaDoorSplit
import Derived.Test.YthifnojdencobaaDoorLaws
import Derived.Test.YthifnojdencobaaDoorW15
import Derived.Deep.RegionHeld3
import Derived.Deep.DeepCutAuto
import Derived.Lib.QuietBelow
namespace Go.Proofs.YthifnojdencobaaDoor
open Go.RowKit

theorem labs_lit (W : World) (la ca lb cb : Int) : Labs (W.alloc (.cells #[.int .u8 la, .int .u16 ca, .int .u8 lb, .int .u16 cb] 25)) (.slice (some ⟨W.heap.size, 0, none⟩) 2 2) [(la, ca), (lb, cb)] := by
  refine .inr ⟨W.heap.size, 0, 2, rfl, by simp, by simp [maxLen], fun i hi => ?_, fun i hi => ?_⟩
  · match i, hi with
    | 0, _ => simp
    | 1, _ => simp
  · match i, hi with
    | 0, _ => simp
    | 1, _ => simp

theorem labs_lit' (W : World) (n : Nat) (hn : n = W.heap.size) (la ca lb cb : Int) : Labs (W.alloc (.cells #[.int .u8 la, .int .u16 ca, .int .u8 lb, .int .u16 cb] 25)) (.slice (some ⟨n, 0, none⟩) 2 2) [(la, ca), (lb, cb)] := hn ▸ labs_lit W la ca lb cb
theorem below_more {w x : World} (h : Below w.heap.size w x) (o : Obj) : Below w.heap.size w (x.alloc o) := h.alloc h.size o
theorem below_next {B W w2 : World} (h : Below B.heap.size B W) (hb : Below W.heap.size W w2) : Below B.heap.size B w2 := h.trans (hb.mono h.size)
theorem Labs.drew {w : World} {v : Value} {ls : List (Int × Int)} (h : Labs w v ls) : Labs w.drew v ls := h.below ((Below.refl w.heap.size w).drew)
theorem Labs.alloc {w : World} {v : Value} {ls : List (Int × Int)} (h : Labs w v ls) (o : Obj) : Labs (w.alloc o) v ls := h.below (below_more (Below.refl _ w) o)

structure R3 (w1 : World) (la ca lb cb J1 J2 M1 M2 : Int) (f : Nat → Bool) (u7 u8 u11 u12 u13 u14 u15 u16 u17 u18 : Value) (wx : World) : Prop where
  bl : Below w1.heap.size w1 wx
  f0 : f 0 = true → u11 = .agg #[.int .u8 la, .int .u16 ca]
  f1 : f 1 = true → u12 = .agg #[.int .u8 lb, .int .u16 cb]
  f2 : f 3 = false → f 2 = true → Labs wx u13 [(la, ca), (lb, cb)]
  f3 : f 3 = true → u14 = .agg #[.int .u8 J1, .int .u16 J2]
  f4 : f 4 = true → u15 = .agg #[.int .u8 la, .int .u16 ca]
  f5 : f 5 = true → u16 = .agg #[.int .u8 lb, .int .u16 cb]
  f6 : f 7 = false → f 6 = true → Labs wx u17 [(la, ca), (lb, cb)]
  f7 : f 7 = true → u18 = .agg #[.int .u8 M1, .int .u16 M2]
  f8 : f 8 = true → ∃ g : Nat, u7 = .pointer (some ⟨g, 0, none⟩) ∧ w1.heap.size ≤ g ∧ Pair wx g (.int .u8 (if f 10 = true then J1 else 0)) (.int .u16 (if f 10 = true then J2 else 0))
  f9 : f 9 = true → ∃ g : Nat, u8 = .pointer (some ⟨g, 0, none⟩) ∧ w1.heap.size ≤ g ∧ Pair wx g (.int .u8 (if f 11 = true then M1 else 0)) (.int .u16 (if f 11 = true then M2 else 0))
  ne : f 8 = true → f 9 = true → u7 ≠ u8
  o10 : f 10 = true → f 8 = true
  o11 : f 11 = true → f 9 = true
theorem R3.mono {w1 : World} {la ca lb cb J1 J2 M1 M2 : Int} {f : Nat → Bool} {u7 u8 u11 u12 u13 u14 u15 u16 u17 u18 : Value} {wx wy : World}
    (r : R3 w1 la ca lb cb J1 J2 M1 M2 f u7 u8 u11 u12 u13 u14 u15 u16 u17 u18 wx) (h : Below wx.heap.size wx wy) : R3 w1 la ca lb cb J1 J2 M1 M2 f u7 u8 u11 u12 u13 u14 u15 u16 u17 u18 wy :=
  { bl := below_next r.bl h, f0 := r.f0, f1 := r.f1, f2 := fun m k => (r.f2 m k).below h, f3 := r.f3, f4 := r.f4, f5 := r.f5, f6 := fun m k => (r.f6 m k).below h, f7 := r.f7,
    f8 := fun k => by obtain ⟨g, h1, h2, h3⟩ := r.f8 k; exact ⟨g, h1, h2, h3.below h h3.lt⟩
    f9 := fun k => by obtain ⟨g, h1, h2, h3⟩ := r.f9 k; exact ⟨g, h1, h2, h3.below h h3.lt⟩
    ne := r.ne, o10 := r.o10, o11 := r.o11 }

structure L5 (w : World) (la ca lb cb lc cc J1 J2 M1 M2 : Int) (g h : Nat) (wx : World) : Prop where
  bl : Below w.heap.size w wx
  pa : Pair wx w.heap.size (.int .u8 la) (.int .u16 ca)
  pb : Pair wx (w.heap.size + 1) (.int .u8 lb) (.int .u16 cb)
  pc : Pair wx (w.heap.size + 1 + 1) (.int .u8 lc) (.int .u16 cc)
  pj : Pair wx g (.int .u8 J1) (.int .u16 J2)
  pm : Pair wx h (.int .u8 M1) (.int .u16 M2)
theorem L5.mono {w : World} {la ca lb cb lc cc J1 J2 M1 M2 : Int} {g h : Nat} {wx wy : World} (r : L5 w la ca lb cb lc cc J1 J2 M1 M2 g h wx) (k : Below wx.heap.size wx wy) : L5 w la ca lb cb lc cc J1 J2 M1 M2 g h wy :=
  ⟨below_next r.bl k, r.pa.below k r.pa.lt, r.pb.below k r.pb.lt, r.pc.below k r.pc.lt, r.pj.below k r.pj.lt, r.pm.below k r.pm.lt⟩
theorem L5.cells {w : World} {la ca lb cb lc cc J1 J2 M1 M2 : Int} {g h : Nat} {wx : World} (r : L5 w la ca lb cb lc cc J1 J2 M1 M2 g h wx) :
    wx.cell? ⟨w.heap.size, 0, none⟩ = some (.int .u8 la) ∧ wx.cell? ⟨w.heap.size, 1, none⟩ = some (.int .u16 ca) ∧ wx.cell? ⟨w.heap.size + 1, 0, none⟩ = some (.int .u8 lb) ∧ wx.cell? ⟨w.heap.size + 1, 1, none⟩ = some (.int .u16 cb) ∧
    wx.cell? ⟨w.heap.size + 1 + 1, 0, none⟩ = some (.int .u8 lc) ∧ wx.cell? ⟨w.heap.size + 1 + 1, 1, none⟩ = some (.int .u16 cc) ∧ wx.cell? ⟨g, 0, none⟩ = some (.int .u8 J1) ∧ wx.cell? ⟨g, 1, none⟩ = some (.int .u16 J2) ∧
    wx.cell? ⟨h, 0, none⟩ = some (.int .u8 M1) ∧ wx.cell? ⟨h, 1, none⟩ = some (.int .u16 M2) :=
  ⟨r.pa.c0, r.pa.c1, r.pb.c0, r.pb.c1, r.pc.c0, r.pc.c1, r.pj.c0, r.pj.c1, r.pm.c0, r.pm.c1⟩
/-- the contract of Leq, its answer known -/
theorem leq_is (la ca lb cb : Int) (b : Bool) (w : World) (h : leqB la ca lb cb = b) : Calls Tryd.prog 16 #[.agg #[.int .u8 la, .int .u16 ca], .agg #[.int .u8 lb, .int .u16 cb]] w fun e w' => e = .returned (.bool b) ∧ Below w.heap.size w w' := h ▸ leq_any la ca lb cb w

structure R8 (wc : World) (la ca : Int) (T : Int × Int) (f : Nat → Bool) (u133 u134 u135 u136 u137 u138 u139 u6 : Value) (wx : World) : Prop where
  lo : ∀ j, j < 51 → f j = true
  bl : Below wc.heap.size wc wx
  f51 : f 51 = true → u133 = .agg #[.int .u8 la, .int .u16 ca]
  f52 : f 52 = true → u134 = .agg #[.int .u8 la, .int .u16 ca]
  f53 : f 53 = true → u135 = .agg #[.int .u8 15, .int .u16 65535]
  f54 : f 55 = false → f 54 = true → Labs wx u136 [(la, ca), (15, 65535)]
  f55 : f 55 = true → u137 = .agg #[.int .u8 T.1, .int .u16 T.2]
  f56 : f 56 = true → u138 = .bool true
  f57 : f 57 = true → u139 = .bool true
  f58 : f 58 = true → u6 = .bool true
theorem R8.mono {wc : World} {la ca : Int} {T : Int × Int} {f : Nat → Bool} {u133 u134 u135 u136 u137 u138 u139 u6 : Value} {wx wy : World} (r : R8 wc la ca T f u133 u134 u135 u136 u137 u138 u139 u6 wx) (h : Below wx.heap.size wx wy) : R8 wc la ca T f u133 u134 u135 u136 u137 u138 u139 u6 wy :=
  { lo := r.lo, bl := below_next r.bl h, f51 := r.f51, f52 := r.f52, f53 := r.f53, f54 := fun m k => (r.f54 m k).below h, f55 := r.f55, f56 := r.f56, f57 := r.f57, f58 := r.f58 }

set_option maxHeartbeats 40000000 in
set_option maxRecDepth 100000 in
theorem laws_walk (la ca lb cb lc cc : Int) (w : World) (ha : 0 ≤ ca ∧ ca < 65536) (hb : 0 ≤ cb ∧ cb < 65536) (hc : 0 ≤ cc ∧ cc < 65536) (hla0 : 0 ≤ la ∧ la < 256) (hlb0 : 0 ≤ lb ∧ lb < 256) :
    Calls Tryd.prog 6 #[.agg #[.int .u8 la, .int .u16 ca], .agg #[.int .u8 lb, .int .u16 cb], .agg #[.int .u8 lc, .int .u16 cc]] w fun e w' => e = .returned (.bool true) ∧ Below w.heap.size w w' := by
  have HF := Lib.hid (lawFacts la ca lb cb lc cc ha hb hc hla0.1 hlb0.1)
  go_enter Tryd.func6, Tryd.ntmps6
  go_wp2_with fail
  refine (awake_any _).mono ?_
  rintro e w1 ⟨rfl, hb1⟩
  have hB1 : Below w.heap.size w w1 := (below_more (below_more (below_more (Below.refl _ w) _) _) _).trans (hb1.mono (by simp; omega))
  have hPa := (((Pair.new w (.int .u8 la) (.int .u16 ca) 25).alloc (.cells #[.int .u8 lb, .int .u16 cb] 25)).alloc (.cells #[.int .u8 lc, .int .u16 cc] 25)).below hb1 (by simp; omega)
  have hPb := ((Pair.new (w.alloc (.cells #[.int .u8 la, .int .u16 ca] 25)) (.int .u8 lb) (.int .u16 cb) 25).alloc (.cells #[.int .u8 lc, .int .u16 cc] 25)).below hb1 (by simp)
  have hPc := (Pair.new ((w.alloc (.cells #[.int .u8 la, .int .u16 ca] 25)).alloc (.cells #[.int .u8 lb, .int .u16 cb] 25)) (.int .u8 lc) (.int .u16 cc) 25).below hb1 (by simp)
  simp only [World.size_alloc] at hPb hPc
  clear hb1
  obtain ⟨hla, a0, a1, -, -⟩ := id hPa
  obtain ⟨hlb, b0, b1, -, -⟩ := id hPb
  have HPa := Lib.hid hPa
  have HPb := Lib.hid hPb
  have HPc := Lib.hid hPc
  clear hPa hPb hPc
  go_upto_region 3 with fail
  go_cut [7, 8] (fun s7 s8 wx => ∃ g h : Nat, s7 = .pointer (some ⟨g, 0, none⟩) ∧ s8 = .pointer (some ⟨h, 0, none⟩) ∧ Below w1.heap.size w1 wx ∧
    Pair wx g (.int .u8 (joinC [(la, ca), (lb, cb)]).1) (.int .u16 (joinC [(la, ca), (lb, cb)]).2) ∧ Pair wx h (.int .u8 (meetC [(la, ca), (lb, cb)]).1) (.int .u16 (meetC [(la, ca), (lb, cb)]).2))
  case first =>
    refine wp_region_inv (by kernel_rfl) (by kernel_rfl) (fun A f a wx => ∃ u7 u8 u11 u12 u13 u14 u15 u16 u17 u18, a = (((((((((A.put (some 7) u7).put (some 8) u8).put (some 11) u11).put (some 12) u12).put (some 13) u13).put (some 14) u14).put (some 15) u15).put (some 16) u16).put (some 17) u17).put (some 18) u18 ∧
      R3 w1 la ca lb cb (joinC [(la, ca), (lb, cb)]).1 (joinC [(la, ca), (lb, cb)]).2 (meetC [(la, ca), (lb, cb)]).1 (meetC [(la, ca), (lb, cb)]).2 f u7 u8 u11 u12 u13 u14 u15 u16 u17 u18 wx) ?_ ?_ ?_
    · refine ⟨undef, undef, undef, undef, undef, undef, undef, undef, undef, undef, by kernel_rfl, ?_⟩
      refine { bl := (Below.refl _ _).drew, f0 := ?_, f1 := ?_, f2 := ?_, f3 := ?_, f4 := ?_, f5 := ?_, f6 := ?_, f7 := ?_, f8 := ?_, f9 := ?_, ne := ?_, o10 := ?_, o11 := ?_ } <;> (first | (intro h; cases h; done) | (intro _ h; cases h))
    · rintro f a wx ⟨u7, u8, u11, u12, u13, u14, u15, u16, u17, u18, rfl, r⟩ i o ho hfi hr
      simp only [Act.put, List.setIfInBounds_toArray, List.set_cons_zero, List.set_cons_succ]
      have e0 := (r.bl.cell (p := ⟨w.heap.size, 0, none⟩) hla).trans a0
      have e1 := (r.bl.cell (p := ⟨w.heap.size, 1, none⟩) hla).trans a1
      have e2 := (r.bl.cell (p := ⟨w.heap.size + 1, 0, none⟩) hlb).trans b0
      have e3 := (r.bl.cell (p := ⟨w.heap.size + 1, 1, none⟩) hlb).trans b1
      match i, ho with
      | 0, ho =>
        refine wpOp_step ho (fun K hK => ?_)
        obtain rfl := Option.some.inj ho
        have HR := Lib.hid r
        clear r
        go_simp
        exact hK _ _ ⟨u7, u8, (.agg #[.int .u8 la, .int .u16 ca]), u12, u13, u14, u15, u16, u17, u18, by kernel_rfl, { HR.out with f0 := fun _ => rfl }⟩
      | 1, ho =>
        refine wpOp_step ho (fun K hK => ?_)
        obtain rfl := Option.some.inj ho
        have HR := Lib.hid r
        clear r
        go_simp
        exact hK _ _ ⟨u7, u8, u11, (.agg #[.int .u8 lb, .int .u16 cb]), u13, u14, u15, u16, u17, u18, by kernel_rfl, { HR.out with f1 := fun _ => rfl }⟩
      | 2, ho =>
        have q0 := r.f0 (hr ⟨0, .data⟩ (by obtain rfl := Option.some.inj ho; simp) rfl)
        have q1 := r.f1 (hr ⟨1, .data⟩ (by obtain rfl := Option.some.inj ho; simp) rfl)
        subst q0 q1
        refine wpOp_step ho (fun K hK => ?_)
        obtain rfl := Option.some.inj ho
        have HR := Lib.hid r
        clear r
        go_simp
        have r := HR.out.mono (below_more (Below.refl _ wx) (.cells #[.int .u8 la, .int .u16 ca, .int .u8 lb, .int .u16 cb] 25))
        exact hK _ _ ⟨u7, u8, (.agg #[.int .u8 la, .int .u16 ca]), (.agg #[.int .u8 lb, .int .u16 cb]), (.slice (some ⟨wx.heap.size, 0, none⟩) 2 2), u14, u15, u16, u17, u18, by kernel_rfl, { r with f2 := fun _ _ => labs_lit wx la ca lb cb }⟩
      | 3, ho =>
        have q0 := r.f2 hfi (hr ⟨2, .data⟩ (by obtain rfl := Option.some.inj ho; simp) rfl)
        refine wpOp_step ho (fun K hK => ?_)
        obtain rfl := Option.some.inj ho
        have HR := Lib.hid r
        clear r
        go_simp
        refine (join_any _ _ _ q0).mono ?_
        rintro e w2 ⟨rfl, hb2⟩
        have r := HR.out.mono hb2
        exact hK _ _ ⟨u7, u8, u11, u12, u13, (.agg #[.int .u8 (joinC [(la, ca), (lb, cb)]).1, .int .u16 (joinC [(la, ca), (lb, cb)]).2]), u15, u16, u17, u18, by kernel_rfl, { r with f3 := fun _ => rfl, f2 := fun h => by simp at h }⟩
      | 4, ho =>
        refine wpOp_step ho (fun K hK => ?_)
        obtain rfl := Option.some.inj ho
        have HR := Lib.hid r
        clear r
        go_simp
        exact hK _ _ ⟨u7, u8, u11, u12, u13, u14, (.agg #[.int .u8 la, .int .u16 ca]), u16, u17, u18, by kernel_rfl, { HR.out with f4 := fun _ => rfl }⟩
      | 5, ho =>
        refine wpOp_step ho (fun K hK => ?_)
        obtain rfl := Option.some.inj ho
        have HR := Lib.hid r
        clear r
        go_simp
        exact hK _ _ ⟨u7, u8, u11, u12, u13, u14, u15, (.agg #[.int .u8 lb, .int .u16 cb]), u17, u18, by kernel_rfl, { HR.out with f5 := fun _ => rfl }⟩
      | 6, ho =>
        have q0 := r.f4 (hr ⟨4, .data⟩ (by obtain rfl := Option.some.inj ho; simp) rfl)
        have q1 := r.f5 (hr ⟨5, .data⟩ (by obtain rfl := Option.some.inj ho; simp) rfl)
        subst q0 q1
        refine wpOp_step ho (fun K hK => ?_)
        obtain rfl := Option.some.inj ho
        have HR := Lib.hid r
        clear r
        go_simp
        have r := HR.out.mono (below_more (Below.refl _ wx) (.cells #[.int .u8 la, .int .u16 ca, .int .u8 lb, .int .u16 cb] 25))
        exact hK _ _ ⟨u7, u8, u11, u12, u13, u14, (.agg #[.int .u8 la, .int .u16 ca]), (.agg #[.int .u8 lb, .int .u16 cb]), (.slice (some ⟨wx.heap.size, 0, none⟩) 2 2), u18, by kernel_rfl, { r with f6 := fun _ _ => labs_lit wx la ca lb cb }⟩
      | 7, ho =>
        have q0 := r.f6 hfi (hr ⟨6, .data⟩ (by obtain rfl := Option.some.inj ho; simp) rfl)
        refine wpOp_step ho (fun K hK => ?_)
        obtain rfl := Option.some.inj ho
        have HR := Lib.hid r
        clear r
        go_simp
        refine (meet_any _ _ _ q0).mono ?_
        rintro e w2 ⟨rfl, hb2⟩
        have r := HR.out.mono hb2
        exact hK _ _ ⟨u7, u8, u11, u12, u13, u14, u15, u16, u17, (.agg #[.int .u8 (meetC [(la, ca), (lb, cb)]).1, .int .u16 (meetC [(la, ca), (lb, cb)]).2]), by kernel_rfl, { r with f7 := fun _ => rfl, f6 := fun h => by simp at h }⟩
      | 8, ho =>
        refine wpOp_step ho (fun K hK => ?_)
        obtain rfl := Option.some.inj ho
        have HR := Lib.hid r
        clear r
        go_simp
        have r := HR.out.mono (below_more (Below.refl _ wx) (.cells #[.int .u8 0, .int .u16 0] 25))
        have hst : f 10 = false := by
          cases hq : f 10 with
          | false => rfl
          | true => have := HR.out.o10 hq; rw [hfi] at this; cases this
        have hfar : ∀ (g : Nat) (x y : Value), Pair wx g x y → (Value.pointer (some ⟨wx.heap.size, 0, none⟩)) ≠ .pointer (some ⟨g, 0, none⟩) := by
          intro g x y hp he
          simp at he
          have := hp.lt
          omega
        refine hK _ _ ⟨(.pointer (some ⟨wx.heap.size, 0, none⟩)), u8, u11, u12, u13, u14, u15, u16, u17, u18, by kernel_rfl, { r with o10 := fun _ => rfl, f8 := fun _ => ⟨wx.heap.size, rfl, HR.out.bl.size, ?_⟩, ne := ?_ }⟩
        · simpa [hst] using Pair.new wx (.int .u8 0) (.int .u16 0) 25
        · intro _ h
          obtain ⟨g, h1, _, h3⟩ := HR.out.f9 (by simpa using h)
          rw [h1]
          exact hfar g _ _ h3
      | 9, ho =>
        refine wpOp_step ho (fun K hK => ?_)
        obtain rfl := Option.some.inj ho
        have HR := Lib.hid r
        clear r
        go_simp
        have r := HR.out.mono (below_more (Below.refl _ wx) (.cells #[.int .u8 0, .int .u16 0] 25))
        have hst : f 11 = false := by
          cases hq : f 11 with
          | false => rfl
          | true => have := HR.out.o11 hq; rw [hfi] at this; cases this
        have hfar : ∀ (g : Nat) (x y : Value), Pair wx g x y → (Value.pointer (some ⟨wx.heap.size, 0, none⟩)) ≠ .pointer (some ⟨g, 0, none⟩) := by
          intro g x y hp he
          simp at he
          have := hp.lt
          omega
        refine hK _ _ ⟨u7, (.pointer (some ⟨wx.heap.size, 0, none⟩)), u11, u12, u13, u14, u15, u16, u17, u18, by kernel_rfl, { r with o11 := fun _ => rfl, f9 := fun _ => ⟨wx.heap.size, rfl, HR.out.bl.size, ?_⟩, ne := ?_ }⟩
        · simpa [hst] using Pair.new wx (.int .u8 0) (.int .u16 0) 25
        · intro h _
          obtain ⟨g, h1, _, h3⟩ := HR.out.f8 (by simpa using h)
          rw [h1]
          exact (hfar g _ _ h3).symm
      | 10, ho =>
        obtain ⟨g, q0, hg, hp⟩ := r.f8 (hr ⟨8, .data⟩ (by obtain rfl := Option.some.inj ho; simp) rfl)
        have q1 := r.f3 (hr ⟨3, .data⟩ (by obtain rfl := Option.some.inj ho; simp) rfl)
        have q3 : f 3 = true := hr ⟨3, .data⟩ (by obtain rfl := Option.some.inj ho; simp) rfl
        have q7 : f 7 = true := hr ⟨7, .chain⟩ (by obtain rfl := Option.some.inj ho; simp) rfl
        have q8 : f 8 = true := hr ⟨8, .data⟩ (by obtain rfl := Option.some.inj ho; simp) rfl
        rw [hfi] at hp
        simp only [Bool.false_eq_true, if_false] at hp
        subst q0 q1
        refine wpOp_step ho (fun K hK => ?_)
        obtain rfl := Option.some.inj ho
        have HR := Lib.hid r
        obtain ⟨-, c0, c1, z0, z1⟩ := id hp
        have HP := Lib.hid hp
        have Q3 := Lib.hid q3
        have Q7 := Lib.hid q7
        have Q8 := Lib.hid q8
        clear r hp q3 q7 q8
        go_simp
        have r := HR.out
        refine hK _ _ ⟨(.pointer (some ⟨g, 0, none⟩)), u8, u11, u12, u13, _, u15, u16, u17, u18, by kernel_rfl, { r with bl := (r.bl.setCell hg _).setCell hg _, f2 := ?_, f6 := ?_, f8 := fun _ => ⟨g, rfl, hg, ?_⟩, f9 := ?_, o10 := fun _ => Q8.out }⟩
        · intro h _; have h' : f 3 = false := h; rw [Q3.out] at h'; cases h'
        · intro h _; have h' : f 7 = false := h; rw [Q7.out] at h'; cases h'
        · simpa using (HP.out.set0 (.int .u8 (joinC [(la, ca), (lb, cb)]).1)).set1 (.int .u16 (joinC [(la, ca), (lb, cb)]).2)
        · intro h
          obtain ⟨g', h1, h2, h3⟩ := r.f9 h
          have hne : g ≠ g' := by
            intro e
            subst e
            exact r.ne Q8.out h h1.symm
          exact ⟨g', h1, h2, (h3.set_far (by simpa using hne) _).set_far (by simpa using hne) _⟩
      | 11, ho =>
        obtain ⟨g, q0, hg, hp⟩ := r.f9 (hr ⟨9, .data⟩ (by obtain rfl := Option.some.inj ho; simp) rfl)
        have q1 := r.f7 (hr ⟨7, .data⟩ (by obtain rfl := Option.some.inj ho; simp) rfl)
        have q3 : f 3 = true := hr ⟨3, .phase⟩ (by obtain rfl := Option.some.inj ho; simp) rfl
        have q7 : f 7 = true := hr ⟨7, .data⟩ (by obtain rfl := Option.some.inj ho; simp) rfl
        have q8 : f 9 = true := hr ⟨9, .data⟩ (by obtain rfl := Option.some.inj ho; simp) rfl
        rw [hfi] at hp
        simp only [Bool.false_eq_true, if_false] at hp
        subst q0 q1
        refine wpOp_step ho (fun K hK => ?_)
        obtain rfl := Option.some.inj ho
        have HR := Lib.hid r
        obtain ⟨-, c0, c1, z0, z1⟩ := id hp
        have HP := Lib.hid hp
        have Q3 := Lib.hid q3
        have Q7 := Lib.hid q7
        have Q8 := Lib.hid q8
        clear r hp q3 q7 q8
        go_simp
        have r := HR.out
        refine hK _ _ ⟨u7, (.pointer (some ⟨g, 0, none⟩)), u11, u12, u13, u14, u15, u16, u17, _, by kernel_rfl, { r with bl := (r.bl.setCell hg _).setCell hg _, f2 := ?_, f6 := ?_, f9 := fun _ => ⟨g, rfl, hg, ?_⟩, f8 := ?_, o11 := fun _ => Q8.out }⟩
        · intro h _; have h' : f 3 = false := h; rw [Q3.out] at h'; cases h'
        · intro h _; have h' : f 7 = false := h; rw [Q7.out] at h'; cases h'
        · intro h
          obtain ⟨g', h1, h2, h3⟩ := r.f8 h
          have hne : g ≠ g' := by
            intro e
            subst e
            exact r.ne h Q8.out h1
          exact ⟨g', h1, h2, (h3.set_far (by simpa using hne) _).set_far (by simpa using hne) _⟩
        · simpa using (HP.out.set0 (.int .u8 (meetC [(la, ca), (lb, cb)]).1)).set1 (.int .u16 (meetC [(la, ca), (lb, cb)]).2)
      | n + 12, ho => simp at ho
    · rintro f a wx hf ⟨u7, u8, u11, u12, u13, u14, u15, u16, u17, u18, rfl, r⟩
      have k8 := hf 8 (by simp)
      have k9 := hf 9 (by simp)
      have k10 := hf 10 (by simp)
      have k11 := hf 11 (by simp)
      obtain ⟨g, p0, _, p2⟩ := r.f8 k8
      obtain ⟨h, q0, _, q2⟩ := r.f9 k9
      have p3 := r.f0 (hf 0 (by simp))
      have p4 := r.f1 (hf 1 (by simp))
      have p5 := r.f3 (hf 3 (by simp))
      have p6 := r.f4 (hf 4 (by simp))
      have p7 := r.f5 (hf 5 (by simp))
      have p8 := r.f7 (hf 7 (by simp))
      rw [if_pos k10, if_pos k10] at p2
      rw [if_pos k11, if_pos k11] at q2
      subst p0 q0 p3 p4 p5 p6 p7 p8
      have HB := Lib.hid r.bl
      have H1 := Lib.hid p2
      have H2 := Lib.hid q2
      clear r p2 q2 k8 k9 k10 k11 hf
      simp only [Act.put, List.setIfInBounds_toArray, List.set_cons_zero, List.set_cons_succ]
      go_wp2_with fail
      go_meet
      exact ⟨g, h, rfl, rfl, HB.out, H1.out, H2.out⟩
  case rest =>
    obtain ⟨g, h, rfl, rfl, hbc, hpj, hpm⟩ := hcut
    have L : L5 w la ca lb cb lc cc _ _ _ _ g h wc := ⟨below_next hB1 hbc, HPa.out.below hbc HPa.out.lt, HPb.out.below hbc HPb.out.lt, HPc.out.below hbc HPc.out.lt, hpj, hpm⟩
    clear hbc hpj hpm a0 a1 b0 b1 HPa HPb HPc hB1 hla hlb
    generalize (joinC [(la, ca), (lb, cb)]).1 = J1 at *
    generalize (joinC [(la, ca), (lb, cb)]).2 = J2 at *
    generalize (meetC [(la, ca), (lb, cb)]).1 = M1 at *
    generalize (meetC [(la, ca), (lb, cb)]).2 = M2 at *
    obtain ⟨a0, a1, b0, b1, c0, c1, j0, j1, m0, m1⟩ := L.cells
    have HL := Lib.hid L
    clear L
    go_upto_region 4 with fail
    go_cut [50] (fun s50 wx => s50 = .bool false ∧ L5 w la ca lb cb lc cc J1 J2 M1 M2 g h wx)
    case first =>
      by_cases h1 : la < 16
      · have d1 : decide (la < 16) = true := by simpa using h1
        by_cases h2 : lb < 16
        · have d2 : decide (lb < 16) = true := by simpa using h2
          go_wp2_with fail
          refine (leq_is la ca J1 J2 true _ HF.out.aj).mono ?_
          rintro e w2 ⟨rfl, hb2⟩
          clear a0 a1 b0 b1 c0 c1 j0 j1 m0 m1
          have L := HL.out.mono hb2
          clear hb2 HL
          obtain ⟨a0, a1, b0, b1, c0, c1, j0, j1, m0, m1⟩ := L.cells
          have HL := Lib.hid L
          clear L
          go_wp2_with fail
          refine (leq_is lb cb J1 J2 true _ HF.out.bj).mono ?_
          rintro e w2 ⟨rfl, hb2⟩
          clear a0 a1 b0 b1 c0 c1 j0 j1 m0 m1
          have L := HL.out.mono hb2
          clear hb2 HL
          obtain ⟨a0, a1, b0, b1, c0, c1, j0, j1, m0, m1⟩ := L.cells
          have HL := Lib.hid L
          clear L
          go_wp2_with fail
          refine (leq_is M1 M2 la ca true _ (HF.out.ma h1)).mono ?_
          rintro e w2 ⟨rfl, hb2⟩
          clear a0 a1 b0 b1 c0 c1 j0 j1 m0 m1
          have L := HL.out.mono hb2
          clear hb2 HL
          obtain ⟨a0, a1, b0, b1, c0, c1, j0, j1, m0, m1⟩ := L.cells
          have HL := Lib.hid L
          clear L
          go_wp2_with fail
          refine (leq_is M1 M2 lb cb true _ (HF.out.mb h2)).mono ?_
          rintro e w2 ⟨rfl, hb2⟩
          clear a0 a1 b0 b1 c0 c1 j0 j1 m0 m1
          have L := HL.out.mono hb2
          clear hb2 HL
          obtain ⟨a0, a1, b0, b1, c0, c1, j0, j1, m0, m1⟩ := L.cells
          have HL := Lib.hid L
          clear L
          go_wp2_with fail
          go_meet
          exact ⟨rfl, HL.out⟩
        · have d2 : decide (lb < 16) = false := by simpa using h2
          go_wp2_with fail
          refine (leq_is la ca J1 J2 true _ HF.out.aj).mono ?_
          rintro e w2 ⟨rfl, hb2⟩
          clear a0 a1 b0 b1 c0 c1 j0 j1 m0 m1
          have L := HL.out.mono hb2
          clear hb2 HL
          obtain ⟨a0, a1, b0, b1, c0, c1, j0, j1, m0, m1⟩ := L.cells
          have HL := Lib.hid L
          clear L
          go_wp2_with fail
          refine (leq_is lb cb J1 J2 true _ HF.out.bj).mono ?_
          rintro e w2 ⟨rfl, hb2⟩
          clear a0 a1 b0 b1 c0 c1 j0 j1 m0 m1
          have L := HL.out.mono hb2
          clear hb2 HL
          obtain ⟨a0, a1, b0, b1, c0, c1, j0, j1, m0, m1⟩ := L.cells
          have HL := Lib.hid L
          clear L
          go_wp2_with fail
          refine (leq_is M1 M2 la ca true _ (HF.out.ma h1)).mono ?_
          rintro e w2 ⟨rfl, hb2⟩
          clear a0 a1 b0 b1 c0 c1 j0 j1 m0 m1
          have L := HL.out.mono hb2
          clear hb2 HL
          obtain ⟨a0, a1, b0, b1, c0, c1, j0, j1, m0, m1⟩ := L.cells
          have HL := Lib.hid L
          clear L
          go_wp2_with fail
          go_meet
          exact ⟨rfl, HL.out⟩
      · have d1 : decide (la < 16) = false := by simpa using h1
        by_cases h2 : lb < 16
        · have d2 : decide (lb < 16) = true := by simpa using h2
          go_wp2_with fail
          refine (leq_is la ca J1 J2 true _ HF.out.aj).mono ?_
          rintro e w2 ⟨rfl, hb2⟩
          clear a0 a1 b0 b1 c0 c1 j0 j1 m0 m1
          have L := HL.out.mono hb2
          clear hb2 HL
          obtain ⟨a0, a1, b0, b1, c0, c1, j0, j1, m0, m1⟩ := L.cells
          have HL := Lib.hid L
          clear L
          go_wp2_with fail
          refine (leq_is lb cb J1 J2 true _ HF.out.bj).mono ?_
          rintro e w2 ⟨rfl, hb2⟩
          clear a0 a1 b0 b1 c0 c1 j0 j1 m0 m1
          have L := HL.out.mono hb2
          clear hb2 HL
          obtain ⟨a0, a1, b0, b1, c0, c1, j0, j1, m0, m1⟩ := L.cells
          have HL := Lib.hid L
          clear L
          go_wp2_with fail
          refine (leq_is M1 M2 lb cb true _ (HF.out.mb h2)).mono ?_
          rintro e w2 ⟨rfl, hb2⟩
          clear a0 a1 b0 b1 c0 c1 j0 j1 m0 m1
          have L := HL.out.mono hb2
          clear hb2 HL
          obtain ⟨a0, a1, b0, b1, c0, c1, j0, j1, m0, m1⟩ := L.cells
          have HL := Lib.hid L
          clear L
          go_wp2_with fail
          go_meet
          exact ⟨rfl, HL.out⟩
        · have d2 : decide (lb < 16) = false := by simpa using h2
          go_wp2_with fail
          refine (leq_is la ca J1 J2 true _ HF.out.aj).mono ?_
          rintro e w2 ⟨rfl, hb2⟩
          clear a0 a1 b0 b1 c0 c1 j0 j1 m0 m1
          have L := HL.out.mono hb2
          clear hb2 HL
          obtain ⟨a0, a1, b0, b1, c0, c1, j0, j1, m0, m1⟩ := L.cells
          have HL := Lib.hid L
          clear L
          go_wp2_with fail
          refine (leq_is lb cb J1 J2 true _ HF.out.bj).mono ?_
          rintro e w2 ⟨rfl, hb2⟩
          clear a0 a1 b0 b1 c0 c1 j0 j1 m0 m1
          have L := HL.out.mono hb2
          clear hb2 HL
          obtain ⟨a0, a1, b0, b1, c0, c1, j0, j1, m0, m1⟩ := L.cells
          have HL := Lib.hid L
          clear L
          go_wp2_with fail
          go_meet
          exact ⟨rfl, HL.out⟩
    case rest =>
      obtain ⟨rfl, L⟩ := hcut
      clear HL
      clear a0 a1 b0 b1 c0 c1 j0 j1 m0 m1
      obtain ⟨a0, a1, b0, b1, c0, c1, j0, j1, m0, m1⟩ := L.cells
      have HL := Lib.hid L
      clear L
      go_wp2_with fail
      go_cut [81] (fun s81 wx => s81 = .bool false ∧ L5 w la ca lb cb lc cc J1 J2 M1 M2 g h wx)
      case first =>
        obtain ⟨x, hx⟩ : ∃ b, leqB la ca lc cc = b := ⟨_, rfl⟩
        obtain ⟨y, hy⟩ : ∃ b, leqB lb cb lc cc = b := ⟨_, rfl⟩
        obtain ⟨z, hz⟩ : ∃ b, leqB J1 J2 lc cc = b := ⟨_, rfl⟩
        have hzy : x = true → z = y := fun e => by rw [← hz, ← hy]; exact HF.out.jc (hx.trans e)
        obtain ⟨p, hp⟩ : ∃ b, leqB lc cc la ca = b := ⟨_, rfl⟩
        obtain ⟨q, hq⟩ : ∃ b, leqB lc cc lb cb = b := ⟨_, rfl⟩
        obtain ⟨r, hr⟩ : ∃ b, leqB lc cc M1 M2 = b := ⟨_, rfl⟩
        have hrq : p = true → lc < 16 → r = q := fun e l => by rw [← hr, ← hq]; exact HF.out.cm (hp.trans e) l
        have Fac := Lib.hid hx
        have Fbc := Lib.hid hy
        have Fjc := Lib.hid hz
        have Fca := Lib.hid hp
        have Fcb := Lib.hid hq
        have Fcm := Lib.hid hr
        clear hx hy hz hp hq hr
        have hcase : (x = false ∨ (x = true ∧ z = y ∧ (y = true ∨ y = false))) := by
          cases x
          · exact .inl rfl
          · exact .inr ⟨rfl, hzy rfl, by cases y <;> simp⟩
        have hcase2 : (p = false ∨ (p = true ∧ decide (lc < 16) = false) ∨ (p = true ∧ decide (lc < 16) = true ∧ r = q ∧ (q = true ∨ q = false))) := by
          cases p
          · exact .inl rfl
          · by_cases hl : lc < 16
            · exact .inr (.inr ⟨rfl, by simpa using hl, hrq rfl hl, by cases q <;> simp⟩)
            · exact .inr (.inl ⟨rfl, by simpa using hl⟩)
        clear hzy hrq
        rcases hcase with rfl | ⟨rfl, rfl, rfl | rfl⟩
        all_goals rcases hcase2 with rfl | ⟨rfl, d3⟩ | ⟨rfl, d3, rfl, rfl | rfl⟩
        all_goals
          have k0 := cell_regrown a0
          have k1 := cell_regrown a1
          have k2 := cell_regrown b0
          have k3 := cell_regrown b1
          have k4 := cell_regrown c0
          have k5 := cell_regrown c1
          have k6 := cell_regrown j0
          have k7 := cell_regrown j1
          have k8 := cell_regrown m0
          have k9 := cell_regrown m1
          have qFac := fun d os => Calls.regrown_of (leq_is la ca lc cc _ (Sort.grow (redrawn wc d) os) Fac.out)
          have qFbc := fun d os => Calls.regrown_of (leq_is lb cb lc cc _ (Sort.grow (redrawn wc d) os) Fbc.out)
          have qFjc := fun d os => Calls.regrown_of (leq_is J1 J2 lc cc _ (Sort.grow (redrawn wc d) os) Fjc.out)
          have qFca := fun d os => Calls.regrown_of (leq_is lc cc la ca _ (Sort.grow (redrawn wc d) os) Fca.out)
          have qFcb := fun d os => Calls.regrown_of (leq_is lc cc lb cb _ (Sort.grow (redrawn wc d) os) Fcb.out)
          have qFcm := fun d os => Calls.regrown_of (leq_is lc cc M1 M2 _ (Sort.grow (redrawn wc d) os) Fcm.out)
          go_wp2_with fail
          refine wp_region_quiet_below (by kernel_rfl) (by kernel_rfl) ?_
          repeat (first | go_big_quiet_step (first | (with_reducible exact qFac _ _) | (with_reducible exact qFbc _ _) | (with_reducible exact qFjc _ _) | (with_reducible exact qFca _ _) | (with_reducible exact qFcb _ _) | (with_reducible exact qFcm _ _)) | quiet_step (first | (with_reducible exact qFac _ _) | (with_reducible exact qFbc _ _) | (with_reducible exact qFjc _ _) | (with_reducible exact qFca _ _) | (with_reducible exact qFcb _ _) | (with_reducible exact qFcm _ _)))
          refine wpQuiet_nil ?_
          intro _ hw'
          obtain ⟨⟨dq, osq⟩, hw''⟩ := hw'
          subst hw''
          go_wp2_with fail
          go_meet
          exact ⟨rfl, HL.out.mono (below_regrown wc dq osq)⟩
      case rest =>
        obtain ⟨rfl, L⟩ := hcut
        clear HL
        clear a0 a1 b0 b1 c0 c1 j0 j1 m0 m1
        obtain ⟨a0, a1, b0, b1, c0, c1, j0, j1, m0, m1⟩ := L.cells
        have HL := Lib.hid L
        clear L
        obtain ⟨x, hx⟩ : ∃ b, leqB la ca lb cb = b := ⟨_, rfl⟩
        obtain ⟨y, hy⟩ : ∃ b, leqB lb cb la ca = b := ⟨_, rfl⟩
        obtain ⟨z, hz⟩ : ∃ b, leqB lb cb lc cc = b := ⟨_, rfl⟩
        obtain ⟨v, hv⟩ : ∃ b, leqB la ca lc cc = b := ⟨_, rfl⟩
        have Faa := Lib.hid HF.out.aa
        have Fab := Lib.hid hx
        have Fba := Lib.hid hy
        have Fbc := Lib.hid hz
        have Fac := Lib.hid hv
        have hcase : x = false ∨ (x = true ∧ decide (la + (catL ca 16).length ≤ lb + (catL cb 16).length) = true ∧ (y = false ∨ (y = true ∧ la = lb ∧ ca = cb)) ∧ (z = false ∨ (z = true ∧ v = true))) := by
          cases x
          · exact .inl rfl
          · refine .inr ⟨rfl, by simpa using HF.out.rank hx, ?_, ?_⟩
            · cases y
              · exact .inl rfl
              · exact .inr ⟨rfl, HF.out.anti hx hy⟩
            · cases z
              · exact .inl rfl
              · exact .inr ⟨rfl, by rw [← hv]; exact HF.out.trans hx hz⟩
        have Ftop := Lib.hid HF.out.top
        clear hx hy hz hv
        rcases hcase with rfl | ⟨rfl, drk, (rfl | ⟨rfl, e1, e2⟩), (rfl | ⟨rfl, rfl⟩)⟩
        all_goals
          try subst e1
          try subst e2
          have k0 := cell_regrown a0
          have k1 := cell_regrown a1
          have k2 := cell_regrown b0
          have k3 := cell_regrown b1
          have k4 := cell_regrown c0
          have k5 := cell_regrown c1
          have qFaa := fun d os => Calls.regrown_of (leq_is _ _ _ _ _ (Sort.grow (redrawn wc d) os) Faa.out)
          have qFab := fun d os => Calls.regrown_of (leq_is _ _ _ _ _ (Sort.grow (redrawn wc d) os) Fab.out)
          have qFba := fun d os => Calls.regrown_of (leq_is _ _ _ _ _ (Sort.grow (redrawn wc d) os) Fba.out)
          have qFbc := fun d os => Calls.regrown_of (leq_is _ _ _ _ _ (Sort.grow (redrawn wc d) os) Fbc.out)
          have qFac := fun d os => Calls.regrown_of (leq_is _ _ _ _ _ (Sort.grow (redrawn wc d) os) Fac.out)
          have qra := fun d os => Calls.regrown_of (rank_any _ _ (Sort.grow (redrawn wc d) os) ha.1 ha.2 hla0.1 hla0.2)
          have qrb := fun d os => Calls.regrown_of (rank_any _ _ (Sort.grow (redrawn wc d) os) hb.1 hb.2 hlb0.1 hlb0.2)
          go_wp2_with fail
          refine wp_region_split (C := fun w' => ∃ p : Regrown, w' = Sort.grow (redrawn wc p.d) p.os) 51 (by kernel_rfl) (of_decide_eq_true (by kernel_rfl)) (by kernel_rfl) (by kernel_rfl) (by kernel_rfl) (regrown_of_below ((Below.refl _ _).drew)) ?_
          simp only [List.take_succ_cons, List.take_zero]
          repeat (first | go_big_quiet_step (first | (with_reducible exact qFaa _ _) | (with_reducible exact qFab _ _) | (with_reducible exact qFba _ _) | (with_reducible exact qFbc _ _) | (with_reducible exact qFac _ _) | (with_reducible exact qra _ _) | (with_reducible exact qrb _ _)) | quiet_step (first | (with_reducible exact qFaa _ _) | (with_reducible exact qFab _ _) | (with_reducible exact qFba _ _) | (with_reducible exact qFbc _ _) | (with_reducible exact qFac _ _) | (with_reducible exact qra _ _) | (with_reducible exact qrb _ _)))
          refine wpQuiet_nil ?_
          intro wy hw'
          obtain ⟨⟨dq, osq⟩, rfl⟩ := hw'
          have hwy := below_regrown wc dq osq
          have HY := Lib.hid hwy
          clear hwy k0 k1 k2 k3 k4 k5 qFaa qFab qFba qFbc qFac qra qrb a0 a1 b0 b1 c0 c1 j0 j1 m0 m1
          refine wpAny_rest 51 (of_decide_eq_true (by kernel_rfl)) (by kernel_rfl) (fun A f a wx => ∃ u133 u134 u135 u136 u137 u138 u139 u6, a = (((((((A.put (some 133) u133).put (some 134) u134).put (some 135) u135).put (some 136) u136).put (some 137) u137).put (some 138) u138).put (some 139) u139).put (some 6) u6 ∧
            R8 wc la ca (joinC [(la, ca), (15, 65535)]) f u133 u134 u135 u136 u137 u138 u139 u6 wx) ?_ ?_ ?_
          · refine ⟨u133, u134, u135, u136, u137, u138, u139, .bool false, by kernel_rfl, ?_⟩
            refine { lo := fun j hj => by simpa using hj, bl := HY.out, f51 := ?_, f52 := ?_, f53 := ?_, f54 := ?_, f55 := ?_, f56 := ?_, f57 := ?_, f58 := ?_ } <;> (first | (intro h; cases h; done) | (intro _ h; cases h))
          · rintro f a wx ⟨u133, u134, u135, u136, u137, u138, u139, u6, rfl, r⟩ i o ho hfi hr
            obtain ⟨k, rfl⟩ : ∃ k, i = 51 + k := by
              rcases Nat.lt_or_ge i 51 with h' | h'
              · rw [r.lo i h'] at hfi; cases hfi
              · exact ⟨i - 51, by omega⟩
            simp only [Act.put, List.setIfInBounds_toArray, List.set_cons_zero, List.set_cons_succ]
            have L := HL.out.mono (below_next HY.out (by exact Below.refl _ _))
            have e0 := (r.bl.cell (p := ⟨w.heap.size, 0, none⟩) HL.out.pa.lt).trans HL.out.pa.c0
            have e1 := (r.bl.cell (p := ⟨w.heap.size, 1, none⟩) HL.out.pa.lt).trans HL.out.pa.c1
            clear L
            match k, ho with
            | 0, ho =>
              refine wpOp_step ho (fun K hK => ?_)
              obtain rfl := Option.some.inj ho
              have HR := Lib.hid r
              clear r
              go_simp
              exact hK _ _ ⟨(.agg #[.int .u8 la, .int .u16 ca]), u134, u135, u136, u137, u138, u139, u6, by kernel_rfl, { HR.out with lo := fun j hj => by rw [HR.out.lo j hj, Bool.or_true], f51 := fun _ => rfl }⟩
            | 1, ho =>
              refine wpOp_step ho (fun K hK => ?_)
              obtain rfl := Option.some.inj ho
              have HR := Lib.hid r
              clear r
              go_simp
              exact hK _ _ ⟨u133, (.agg #[.int .u8 la, .int .u16 ca]), u135, u136, u137, u138, u139, u6, by kernel_rfl, { HR.out with lo := fun j hj => by rw [HR.out.lo j hj, Bool.or_true], f52 := fun _ => rfl }⟩
            | 2, ho =>
              refine wpOp_step ho (fun K hK => ?_)
              obtain rfl := Option.some.inj ho
              have HR := Lib.hid r
              clear r
              go_simp
              refine (top_any _).mono ?_
              rintro e w2 ⟨rfl, hb2⟩
              have r := HR.out.mono hb2
              exact hK _ _ ⟨u133, u134, (.agg #[.int .u8 15, .int .u16 65535]), u136, u137, u138, u139, u6, by kernel_rfl, { r with lo := fun j hj => by rw [HR.out.lo j hj, Bool.or_true], f53 := fun _ => rfl }⟩
            | 3, ho =>
              have q52 := r.f52 (hr ⟨52, .data⟩ (by obtain rfl := Option.some.inj ho; simp) rfl)
              have q53 := r.f53 (hr ⟨53, .data⟩ (by obtain rfl := Option.some.inj ho; simp) rfl)
              subst q52 q53
              refine wpOp_step ho (fun K hK => ?_)
              obtain rfl := Option.some.inj ho
              have HR := Lib.hid r
              clear r
              go_simp
              have r := HR.out.mono (below_more (Below.refl _ wx) (.cells #[.int .u8 la, .int .u16 ca, .int .u8 15, .int .u16 65535] 25))
              exact hK _ _ ⟨u133, (.agg #[.int .u8 la, .int .u16 ca]), (.agg #[.int .u8 15, .int .u16 65535]), (.slice (some ⟨wx.heap.size, 0, none⟩) 2 2), u137, u138, u139, u6, by kernel_rfl, { r with lo := fun j hj => by rw [HR.out.lo j hj, Bool.or_true], f54 := fun _ _ => labs_lit wx la ca 15 65535 }⟩
            | 4, ho =>
              have q54 := r.f54 hfi (hr ⟨54, .data⟩ (by obtain rfl := Option.some.inj ho; simp) rfl)
              refine wpOp_step ho (fun K hK => ?_)
              obtain rfl := Option.some.inj ho
              have HR := Lib.hid r
              clear r
              go_simp
              refine (join_any _ _ _ q54).mono ?_
              rintro e w2 ⟨rfl, hb2⟩
              have r := HR.out.mono hb2
              exact hK _ _ ⟨u133, u134, u135, u136, (.agg #[.int .u8 (joinC [(la, ca), (15, 65535)]).1, .int .u16 (joinC [(la, ca), (15, 65535)]).2]), u138, u139, u6, by kernel_rfl, { r with lo := fun j hj => by rw [HR.out.lo j hj, Bool.or_true], f55 := fun _ => rfl, f54 := fun h => by simp at h }⟩
            | 5, ho =>
              have q51 := r.f51 (hr ⟨51, .data⟩ (by obtain rfl := Option.some.inj ho; simp) rfl)
              have q55 := r.f55 (hr ⟨55, .data⟩ (by obtain rfl := Option.some.inj ho; simp) rfl)
              subst q51 q55
              refine wpOp_step ho (fun K hK => ?_)
              obtain rfl := Option.some.inj ho
              have HR := Lib.hid r
              clear r
              go_simp
              refine (leq_is _ _ _ _ _ _ Ftop.out).mono ?_
              rintro e w2 ⟨rfl, hb2⟩
              have r := HR.out.mono hb2
              exact hK _ _ ⟨(.agg #[.int .u8 la, .int .u16 ca]), u134, u135, u136, (.agg #[.int .u8 (joinC [(la, ca), (15, 65535)]).1, .int .u16 (joinC [(la, ca), (15, 65535)]).2]), (.bool true), u139, u6, by kernel_rfl, { r with lo := fun j hj => by rw [HR.out.lo j hj, Bool.or_true], f56 := fun _ => rfl }⟩
            | 6, ho =>
              have q56 := r.f56 (hr ⟨56, .data⟩ (by obtain rfl := Option.some.inj ho; simp) rfl)
              subst q56
              refine wpOp_step ho (fun K hK => ?_)
              obtain rfl := Option.some.inj ho
              have HR := Lib.hid r
              clear r
              go_simp
              exact hK _ _ ⟨u133, u134, u135, u136, u137, (.bool true), (.bool true), u6, by kernel_rfl, { HR.out with lo := fun j hj => by rw [HR.out.lo j hj, Bool.or_true], f57 := fun _ => rfl }⟩
            | 7, ho =>
              have q57 := r.f57 (hr ⟨57, .data⟩ (by obtain rfl := Option.some.inj ho; simp) rfl)
              subst q57
              refine wpOp_step ho (fun K hK => ?_)
              obtain rfl := Option.some.inj ho
              have HR := Lib.hid r
              clear r
              go_simp
              exact hK _ _ ⟨u133, u134, u135, u136, u137, u138, (.bool true), (.bool true), by kernel_rfl, { HR.out with lo := fun j hj => by rw [HR.out.lo j hj, Bool.or_true], f58 := fun _ => rfl }⟩
            | n + 8, ho => exact absurd (Array.getElem?_eq_some_iff.1 ho).1 (by simp; omega)
          · rintro f a wx hf ⟨u133, u134, u135, u136, u137, u138, u139, u6, rfl, r⟩
            have p57 := r.f57 (hf 57 (by simp))
            have p58 := r.f58 (hf 58 (by simp))
            subst p57 p58
            have HB := Lib.hid r.bl
            clear r hf
            simp only [Act.put, List.setIfInBounds_toArray, List.set_cons_zero, List.set_cons_succ]
            go_wp2
            go_ret
            exact ⟨rfl, (HL.out.mono HB.out).bl⟩
end Go.Proofs.YthifnojdencobaaDoor
