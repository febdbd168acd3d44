import Derived.Test.YtdebkifnaiohcaaD3
import Derived.OwnWalk
/- New, Image, Of. -/
namespace Go.Proofs.Ytdebkifnaiohcaa
set_option linter.unusedSimpArgs false
set_option linter.unusedVariables false
open Go.RowKit

def DS.new (n : Nat) : DS := ⟨n, fun _ => 0, false, 0, false, 0, 0⟩
/-- what a made disk is: in blocks of its own -/
def Made (w : World) (s : DS) (e : Ending) (w' : World) : Prop := ∃ d g, e = .returned (.tuple #[.pointer (some ⟨d, 0, none⟩), .int .i64 0]) ∧ w.heap.size ≤ d ∧ w.heap.size ≤ g ∧ Dk w' d g s ∧ Below w.heap.size w w'
theorem Try.info36i : ∃ i, Try.prog.info? 96 = some i ∧ i.zero = some (.agg (byts 64 fun _ => 0).toArray) ∧ i.size = 64 ∧ i.bytes = 64 := by
  have h := Try.info36
  cases hq : Try.prog.info? 96 with
  | none => simp [hq] at h
  | some i =>
    simp [hq] at h
    exact ⟨i, rfl, h.1, h.2.1, h.2.2⟩
theorem run_make36 (w : World) (c : Nat) (hc : c ≤ 65536) : (Instr.makeSlice 116 (.int .i64 (c : Int)) (.int .i64 (c : Int))).run Try.prog w = .ok (.slice (some ⟨w.heap.size, 0, none⟩) c c) (w.alloc (.cells (madeCells (byts 64 fun _ => 0).toArray (c * 64)) 96)) := by
  obtain ⟨i, hi, hz, hs, hb⟩ := Try.info36i
  have := run_make (P := Try.prog) w 116 96 i _ (by kernel_rfl) hi hz .i64 .i64 c c (by omega) (by omega) (by rw [hb]; omega) (by omega)
  rw [this, hs, Int.toNat_natCast]
  rfl
theorem wpList_make36 {ops : Array Oper} {rest : List Oper} {o : Oper} {a : Act} {w : World} {Q : Exit → Act → World → Prop} (hgd : o.guard = none) (x : Operand) (ho : o.op = .makeSlice 116 x x) (c : Nat) (hx : a.eval x = .int .i64 (c : Int)) (hc : c ≤ 65536)
    (h : ∀ w', Hid (Fl w' w.heap.size (c * 64) fun _ => 0) → Below w.heap.size w w' → w'.heap.size = w.heap.size + 1 → wpList Try.prog ops Q rest (a.put o.dst (.slice (some ⟨w.heap.size, 0, none⟩) c c)) w') : wpList Try.prog ops Q (o :: rest) a w := by
  refine wpList_plain hgd fun K hK => ?_
  have hr := run_make36 w c hc
  unfold Oper.wp
  simp [execOp, ho, hx, hr, Result.andThen]
  exact hK _ _ (h _ (Fl.made w c 96) ((Below.refl _ _).alloc (Nat.le_refl _) _) (by simp))

theorem Dk.new {w : World} {g : Nat} (s : DS) (h : Fl w g (s.n * 64) s.f) : Dk (w.alloc (.cells #[.slice (some ⟨g, 0, none⟩) s.n s.n, .bool s.ar, .int .i64 s.lf, .bool s.de, .int .i64 s.rd, .int .i64 s.wr] 118)) w.heap.size g s := by
  have hlt := h.lt
  refine ⟨by simp, by omega, ?_, ?_, ?_, ?_, ?_, ?_, ?_, ?_, ?_, ?_, ?_, h.below ((Below.refl _ _).alloc (Nat.le_refl _) _) h.lt⟩
  all_goals first | (rw [World.cell?_alloc_at _ _ _ _ rfl]; rfl) | simp

set_option maxHeartbeats 2000000 in
set_option maxRecDepth 100000 in
theorem new_any (n : Nat) (hn : n ≤ 65536) (w : World) : Calls Try.prog 31 #[.int .i64 n] w (Made w (DS.new n)) := by
  have h0 : (0 : Int) ≤ n := by omega
  have h1 : (n : Int) ≤ 65536 := by omega
  go_enter Try.func31, Try.ntmps31
  go_wp2_with (refine wpList_make36 rfl _ rfl n rfl hn ?_; intro w1 F1 hb1 hz1; have hb1' := Lib.hid hb1; clear hb1)
  refine bodyPost_ret (v := .tuple #[.pointer (some ⟨w1.heap.size, 0, none⟩), .int .i64 0]) (by simp [results, Try.results31, go_sem]) rfl ?_
  exact ⟨_, _, rfl, hb1'.out.size, Nat.le_refl _, Dk.new (DS.new n) F1.out, hb1'.out.alloc hb1'.out.size _⟩
theorem new_out (x : Int) (hx : x < 0 ∨ 65536 < x) (w : World) : Calls Try.prog 31 #[.int .i64 x] w fun e w' => e = .returned (.tuple #[.pointer none, .int .i64 27]) ∧ Below w.heap.size w w' := by
  by_cases hx0 : x < 0
  · go_enter Try.func31, Try.ntmps31
    go_wp2
    refine bodyPost_ret (v := .tuple #[.pointer none, .int .i64 27]) (by simp [results, Try.results31, go_sem]) rfl ⟨rfl, Below.refl _ _⟩
  · have hx1 : 65536 < x := by omega
    go_enter Try.func31, Try.ntmps31
    go_wp2
    refine bodyPost_ret (v := .tuple #[.pointer none, .int .i64 27]) (by simp [results, Try.results31, go_sem]) rfl ⟨rfl, Below.refl _ _⟩

theorem Try.size36n : (Try.prog.info? 96).map (·.size) = some 64 := by kernel_rfl

end Go.Proofs.Ytdebkifnaiohcaa
