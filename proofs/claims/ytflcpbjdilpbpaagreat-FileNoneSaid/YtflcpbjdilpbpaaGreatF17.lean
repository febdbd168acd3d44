import Derived.Test.YtflcpbjdilpbpaaGreatF16
/- Files: the calls that can't find their file. -/
namespace Go.Proofs.YtflcpbjdilpbpaaGreat
set_option linter.unusedSimpArgs false
set_option linter.unusedVariables false
open Go.RowKit Go.Maps

theorem read_err (vg : Value) (x off many E : Int) (hE : ¬ E = 0) (Q : World → Prop) (w : World) (hO : Calls Tryz.prog 71 #[vg, .int .i64 x] w fun e w' => e = .returned (.tuple #[.pointer none, .int .i64 E]) ∧ Q w') :
    Calls Tryz.prog 34 #[vg, .int .i64 x, .int .i64 off, .int .i64 many] w fun e w' => e = .returned (.tuple #[.slice none 0 0, .int .i64 E]) ∧ Q w' := by
  have HO := Lib.hid hO
  clear hO
  go_enter Tryz.func34, Tryz.ntmps34
  go_wp2_with fail
  refine HO.out.mono ?_
  rintro e w1 ⟨rfl, hq⟩
  have HQ := Lib.hid hq
  clear hq HO
  go_wp2_with fail
  go_ret2
  exact ⟨rfl, HQ.out⟩
theorem write_err (vg : Value) (pv : Option Addr) (vn vc : Nat) (x off E : Int) (hE : ¬ E = 0) (Q : World → Prop) (w : World) (hO : Calls Tryz.prog 71 #[vg, .int .i64 x] w fun e w' => e = .returned (.tuple #[.pointer none, .int .i64 E]) ∧ Q w') :
    Calls Tryz.prog 38 #[vg, .int .i64 x, .int .i64 off, .slice pv vn vc] w fun e w' => e = .returned (.int .i64 E) ∧ Q w' := by
  have HO := Lib.hid hO
  clear hO
  go_enter Tryz.func38, Tryz.ntmps38
  go_wp2_with fail
  refine HO.out.mono ?_
  rintro e w1 ⟨rfl, hq⟩
  have HQ := Lib.hid hq
  clear hq HO
  go_wp2_with fail
  go_ret
  exact ⟨rfl, HQ.out⟩
theorem cut_err (vg : Value) (x size E : Int) (hE : ¬ E = 0) (Q : World → Prop) (w : World) (hO : Calls Tryz.prog 71 #[vg, .int .i64 x] w fun e w' => e = .returned (.tuple #[.pointer none, .int .i64 E]) ∧ Q w') :
    Calls Tryz.prog 32 #[vg, .int .i64 x, .int .i64 size] w fun e w' => e = .returned (.int .i64 E) ∧ Q w' := by
  have HO := Lib.hid hO
  clear hO
  go_enter Tryz.func32, Tryz.ntmps32
  go_wp2_with fail
  refine HO.out.mono ?_
  rintro e w1 ⟨rfl, hq⟩
  have HQ := Lib.hid hq
  clear hq HO
  go_wp2_with fail
  go_ret
  exact ⟨rfl, HQ.out⟩
theorem remove_err (vg : Value) (x E : Int) (hE : ¬ E = 0) (Q : World → Prop) (w : World) (hO : Calls Tryz.prog 71 #[vg, .int .i64 x] w fun e w' => e = .returned (.tuple #[.pointer none, .int .i64 E]) ∧ Q w') :
    Calls Tryz.prog 35 #[vg, .int .i64 x] w fun e w' => e = .returned (.int .i64 E) ∧ Q w' := by
  have HO := Lib.hid hO
  clear hO
  go_enter Tryz.func35, Tryz.ntmps35
  go_wp2_with fail
  refine HO.out.mono ?_
  rintro e w1 ⟨rfl, hq⟩
  have HQ := Lib.hid hq
  clear hq HO
  go_wp2_with fail
  go_ret
  exact ⟨rfl, HQ.out⟩
def nd448 : List Value := [.int .u8 1, .int .u8 1, .int .u16 0, .int .u32 448, .int .u16 0, .int .u16 0, .int .u16 0, .int .u16 0, .int .u16 0, .int .u16 0, .int .u16 1, .int .u16 0]
theorem blocks_nil (w : World) : Calls Tryz.prog 46 #[.pointer none, .agg nd448.toArray] w fun e w' => e = .returned (.tuple #[.slice none 0 0, .slice none 0 0, .int .i64 1]) ∧ Below w.heap.size w w' := by
  go_enter Tryz.func46, Tryz.ntmps46
  go_upto_region 1 with (first | (refine wpList_box_list (w := w) rfl 68 _ rfl nd448 rfl ?_; intro w1 F1 hb1 hz1))
  have HB1 := Lib.hid hb1
  clear hb1 hz1 F1
  go_wp2_with fail
  go_ret3
  exact ⟨rfl, HB1.out⟩
end Go.Proofs.YtflcpbjdilpbpaaGreat
