import Derived.Test.YtdebkifnaiohcaaRows
import Derived.WalkKit
import Derived.WalkSpells
import Derived.WalkLawsBesides
import Derived.Lib.Hide
import Derived.Deep.RegionHeld
import Derived.Deep.Draws
import Derived.Deep.MidRow
import Derived.Laws.MakeOwn
import Derived.Laws.CopyOwn
import Derived.Laws.ResultCell
import Derived.Laws.StructEq
import Derived.ChangeKeysEq
import Derived.IntWalk
/- How many blocks a length takes: the code's Spread and the answer's. -/
namespace Go.Proofs.Ytdebkifnaiohcaa
set_option linter.unusedSimpArgs false
set_option linter.unusedVariables false
open Go.RowKit

theorem ret_int {a b : Int} {k : IntKind} (h : a = b) : Ending.returned (.int k a) = .returned (.int k b) := by rw [h]
theorem ret_bool {a b : Bool} (h : a = b) : Ending.returned (.bool a) = .returned (.bool b) := by rw [h]
/-- so many of 64 are begun -/
def dataS (n : Int) : Int := if n ≤ 0 then 0 else (n - 1) / 64 + 1
def ptrS (d : Int) : Int := if d ≤ 6 then 0 else if d ≤ 38 then 1 else 2 + ((d - 38 - 1) / 32 + 1)
theorem parts_neg (n k : Int) (h : n ≤ 0) (w : World) : Calls Try.prog 38 #[.int .i64 n, .int .i64 k] w fun e w' => e = .returned (.int .i64 0) ∧ w' = w := by
  go_enter Try.func38, Try.ntmps38
  go_wp2
  go_ret
  exact ⟨rfl, rfl⟩
theorem parts_64 (n : Int) (h : 0 < n) (h1 : n < 9223372036854775808) (w : World) : Calls Try.prog 38 #[.int .i64 n, .int .i64 64] w fun e w' => e = .returned (.int .i64 ((n - 1) / 64 + 1)) ∧ w' = w := by
  have h2 : 0 ≤ n := by omega
  have h3 : 0 ≤ n - 1 := by omega
  have hq : IntKind.i64.wrap ((n - 1) / 64) = (n - 1) / 64 := IntWalk.i64_in _ ⟨by omega, by omega⟩
  have H := Lib.hid h
  clear h
  have hn : decide (n ≤ 0) = false := decide_eq_false (by have := H.out; omega)
  go_enter Try.func38, Try.ntmps38
  go_wp2
  go_ret
  exact ⟨ret_int (by omega), rfl⟩
theorem parts_32 (n : Int) (h : 0 < n) (h1 : n < 9223372036854775808) (w : World) : Calls Try.prog 38 #[.int .i64 n, .int .i64 32] w fun e w' => e = .returned (.int .i64 ((n - 1) / 32 + 1)) ∧ w' = w := by
  have h2 : 0 ≤ n := by omega
  have h3 : 0 ≤ n - 1 := by omega
  go_enter Try.func38, Try.ntmps38
  go_wp2
  go_ret
  exact ⟨ret_int (by omega), rfl⟩
end Go.Proofs.Ytdebkifnaiohcaa
