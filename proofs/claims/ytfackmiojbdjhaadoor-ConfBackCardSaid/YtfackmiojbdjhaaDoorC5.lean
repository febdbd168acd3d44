import Derived.Test.YtfackmiojbdjhaaDoorC4
import Derived.Test.YtfackmiojbdjhaaDoorMA
import Derived.Test.YtfackmiojbdjhaaDoorSplit
import Derived.Maps.OwnSet
import Derived.Maps.OwnOps
import Derived.DeepKeys4
import Derived.Deep.QuietTactic
import Derived.BigQuiet
import Derived.Lib.QuietBelow
/- The state of a configuration while its labels are registered; register. -/
namespace Go.Proofs.YtfackmiojbdjhaaDoor
set_option linter.unusedSimpArgs false
set_option linter.unusedVariables false
open Go.RowKit Go.Maps

theorem Tryd.laidOut : laidOutB Tryd.prog = true := by kernel_rfl
theorem Tryd.lawStr : Keyed Tryd.prog 9 := string_keyed Tryd.underlying9
theorem Tryd.lawLab : Keyed Tryd.prog 37 := Keyed.of_law (deep_law_laid Tryd.laidOut (m := 2) (by omega) (of_decide_eq_true (by kernel_rfl)) (by kernel_rfl) (by kernel_rfl))
theorem Tryd.lawMark : Keyed Tryd.prog 34 := Keyed.of_law (deep_law_laid Tryd.laidOut (m := 2) (by omega) (of_decide_eq_true (by kernel_rfl)) (by kernel_rfl) (by kernel_rfl))
theorem Tryd.zero3 (w : World) : (zeroValue 3).run Tryd.prog w = .ok (.int .i64 0) w := by kernel_rfl
theorem Tryd.zero129 (w : World) : (zeroValue 129).run Tryd.prog w = .ok (.agg #[]) w := by kernel_rfl

theorem Tryd.info39 : (Tryd.prog.info? 39).map (fun i => (i.zero, i.size, i.bytes)) = some (some (.agg #[.string ByteArray.empty, .int .u8 0, .int .u16 0, .int .i64 0, .int .i64 0, .int .i64 0, .int .i64 0, .int .i64 0, .int .i64 0]), 9, 72) := by kernel_rfl
theorem Tryd.info34 : (Tryd.prog.info? 34).map (fun i => (i.zero, i.size, i.bytes)) = some (some (.agg #[.int .u8 0, .int .u16 0]), 2, 4) := by kernel_rfl
theorem Tryd.info69 : (Tryd.prog.info? 69).map (fun i => (i.zero, i.size, i.bytes)) = some (some (.agg #[.int .i64 0, .int .i64 0, .int .i64 0, .int .i64 0, .int .i64 0, .int .i64 0]), 6, 48) := by kernel_rfl
/-- what a label, a mark, read as, as a map's key -/
def labKey (lv cs : Int) : Lit := .string (keyBytes [.int .u8 lv, .int .u16 cs])
theorem Tryd.keyType37 : Tryd.prog.keyType 37 = true := by kernel_rfl
theorem Tryd.keyType34 : Tryd.prog.keyType 34 = true := by kernel_rfl
theorem Tryd.cellsOf37 : Tryd.prog.cellsOf 37 = 2 := by kernel_rfl
theorem Tryd.cellsOf34 : Tryd.prog.cellsOf 34 = 2 := by kernel_rfl
theorem Tryd.cellsOf5 : Tryd.prog.cellsOf 5 = 1 := by kernel_rfl
theorem Tryd.cellsOf32 : Tryd.prog.cellsOf 32 = 1 := by kernel_rfl
theorem Tryd.typesSize : Tryd.prog.types.size = 190 := by kernel_rfl
theorem labKey_is (lv cs : Int) (h0 : 0 ≤ lv) (h1 : lv < 256) (h2 : 0 ≤ cs) (h3 : cs < 65536) : keyOf Tryd.prog 37 (.agg #[.int .u8 lv, .int .u16 cs]) = some (labKey lv cs) := by
  have hf : (Value.agg #[.int .u8 lv, .int .u16 cs]).formed Tryd.prog 37 = true := by simp [Value.formed, Tryd.underlying37, Tryd.cellsOf37]
  have w1 : (Lit.int .u8 lv).wf = true := by simp [Lit.wf, IntKind.min, IntKind.max, IntKind.bits, IntKind.signed]; omega
  have w2 : (Lit.int .u16 cs).wf = true := by simp [Lit.wf, IntKind.min, IntKind.max, IntKind.bits, IntKind.signed]; omega
  have hk : ∀ d, Tryd.prog.keyLits (d + 2) 37 [.int .u8 lv, .int .u16 cs] = some [.int .u8 lv, .int .u16 cs] := by
    intro d
    simp [Program.keyLits, Tryd.underlying37, Tryd.cellsOf37, Tryd.underlying5, Tryd.underlying32, Tryd.cellsOf5, Tryd.cellsOf32, w1, w2]
  unfold keyOf
  rw [Tryd.underlying37]
  simp only [Tryd.keyType37, hf, Bool.and_self, if_true, Tryd.typesSize]
  show Option.map _ (Tryd.prog.keyLits (189 + 2) 37 [.int .u8 lv, .int .u16 cs]) = _
  rw [hk 189]
  rfl
theorem markKey_is (lv cs : Int) (h0 : 0 ≤ lv) (h1 : lv < 256) (h2 : 0 ≤ cs) (h3 : cs < 65536) : keyOf Tryd.prog 34 (.agg #[.int .u8 lv, .int .u16 cs]) = some (labKey lv cs) := by
  have hf : (Value.agg #[.int .u8 lv, .int .u16 cs]).formed Tryd.prog 34 = true := by simp [Value.formed, Tryd.underlying34, Tryd.cellsOf34]
  have w1 : (Lit.int .u8 lv).wf = true := by simp [Lit.wf, IntKind.min, IntKind.max, IntKind.bits, IntKind.signed]; omega
  have w2 : (Lit.int .u16 cs).wf = true := by simp [Lit.wf, IntKind.min, IntKind.max, IntKind.bits, IntKind.signed]; omega
  have hk : ∀ d, Tryd.prog.keyLits (d + 2) 34 [.int .u8 lv, .int .u16 cs] = some [.int .u8 lv, .int .u16 cs] := by
    intro d
    simp [Program.keyLits, Tryd.underlying34, Tryd.cellsOf34, Tryd.underlying5, Tryd.underlying32, Tryd.cellsOf5, Tryd.cellsOf32, w1, w2]
  unfold keyOf
  rw [Tryd.underlying34]
  simp only [Tryd.keyType34, hf, Bool.and_self, if_true, Tryd.typesSize]
  show Option.map _ (Tryd.prog.keyLits (189 + 2) 34 [.int .u8 lv, .int .u16 cs]) = _
  rw [hk 189]
  rfl
theorem labKey_inj {a b c d : Int} (ha : 0 ≤ a ∧ a < 256) (hb : 0 ≤ b ∧ b < 65536) (hc : 0 ≤ c ∧ c < 256) (hd : 0 ≤ d ∧ d < 65536) (h : labKey a b = labKey c d) : a = c ∧ b = d := by
  have := Tryd.lawLab.inj (labKey_is a b ha.1 ha.2 hb.1 hb.2) (by rw [h]; exact labKey_is c d hc.1 hc.2 hd.1 hd.2)
  simpa using this
theorem labKey_key (a b : Int) : WideAt.IsKeyLit (labKey a b) := by unfold labKey; trivial
def strKey (s : ByteArray) : Lit := .string s.data.toList
theorem strKey_is (s : ByteArray) (h : s.size ≤ maxLen) : keyOf Tryd.prog 9 (.string s) = some (strKey s) := WideMaps.keyOf_string_mk Tryd.underlying9 h
theorem strKey_key (s : ByteArray) : WideAt.IsKeyLit (strKey s) := by unfold strKey; trivial
theorem strKey_inj {s t : ByteArray} (h : strKey s = strKey t) : s = t := by
  unfold strKey at h
  simp only [Lit.string.injEq] at h
  obtain ⟨⟨a⟩⟩ := s
  obtain ⟨⟨b⟩⟩ := t
  simpa using h
end Go.Proofs.YtfackmiojbdjhaaDoor
