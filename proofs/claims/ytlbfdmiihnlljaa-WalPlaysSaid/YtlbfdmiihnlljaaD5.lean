import Derived.Test.YtlbfdmiihnlljaaD3
import Derived.OwnWalk
/- New, Image, Of. -/
namespace Go.Proofs.Ytlbfdmiihnlljaa
set_option linter.unusedSimpArgs false
set_option linter.unusedVariables false
open Go.RowKit

def DS.new (n : Nat) : DS := ⟨n, fun _ => 0, false, 0, false, 0, 0⟩
/-- what a made disk is: in blocks of its own -/
def Made (w : World) (s : DS) (e : Ending) (w' : World) : Prop := ∃ d g, e = .returned (.tuple #[.pointer (some ⟨d, 0, none⟩), .int .i64 0]) ∧ w.heap.size ≤ d ∧ w.heap.size ≤ g ∧ Dk w' d g s ∧ Below w.heap.size w w'
theorem Try.info36i : ∃ i, Try.prog.info? 50 = some i ∧ i.zero = some (.agg (byts 64 fun _ => 0).toArray) ∧ i.size = 64 ∧ i.bytes = 64 := by
  have h := Try.info36
  cases hq : Try.prog.info? 50 with
  | none => simp [hq] at h
  | some i =>
    simp [hq] at h
    exact ⟨i, rfl, h.1, h.2.1, h.2.2⟩
theorem run_make36 (w : World) (c : Nat) (hc : c ≤ 65536) : (Instr.makeSlice 34 (.int .i64 (c : Int)) (.int .i64 (c : Int))).run Try.prog w = .ok (.slice (some ⟨w.heap.size, 0, none⟩) c c) (w.alloc (.cells (madeCells (byts 64 fun _ => 0).toArray (c * 64)) 50)) := by
  obtain ⟨i, hi, hz, hs, hb⟩ := Try.info36i
  have := run_make (P := Try.prog) w 34 50 i _ (by kernel_rfl) hi hz .i64 .i64 c c (by omega) (by omega) (by rw [hb]; omega) (by omega)
  rw [this, hs, Int.toNat_natCast]
  rfl
theorem wpList_make36 {ops : Array Oper} {rest : List Oper} {o : Oper} {a : Act} {w : World} {Q : Exit → Act → World → Prop} (hgd : o.guard = none) (x : Operand) (ho : o.op = .makeSlice 34 x x) (c : Nat) (hx : a.eval x = .int .i64 (c : Int)) (hc : c ≤ 65536)
    (h : ∀ w', Hid (Fl w' w.heap.size (c * 64) fun _ => 0) → Below w.heap.size w w' → w'.heap.size = w.heap.size + 1 → wpList Try.prog ops Q rest (a.put o.dst (.slice (some ⟨w.heap.size, 0, none⟩) c c)) w') : wpList Try.prog ops Q (o :: rest) a w := by
  refine wpList_plain hgd fun K hK => ?_
  have hr := run_make36 w c hc
  unfold Oper.wp
  simp [execOp, ho, hx, hr, Result.andThen]
  exact hK _ _ (h _ (Fl.made w c 50) ((Below.refl _ _).alloc (Nat.le_refl _) _) (by simp))

theorem Dk.new {w : World} {g : Nat} (s : DS) (h : Fl w g (s.n * 64) s.f) : Dk (w.alloc (.cells #[.slice (some ⟨g, 0, none⟩) s.n s.n, .bool s.ar, .int .i64 s.lf, .bool s.de, .int .i64 s.rd, .int .i64 s.wr] 75)) w.heap.size g s := by
  have hlt := h.lt
  refine ⟨by simp, by omega, ?_, ?_, ?_, ?_, ?_, ?_, ?_, ?_, ?_, ?_, ?_, h.below ((Below.refl _ _).alloc (Nat.le_refl _) _) h.lt⟩
  all_goals first | (rw [World.cell?_alloc_at _ _ _ _ rfl]; rfl) | simp

set_option maxHeartbeats 2000000 in
set_option maxRecDepth 100000 in
theorem new_any (n : Nat) (hn : n ≤ 65536) (w : World) : Calls Try.prog 9 #[.int .i64 n] w (Made w (DS.new n)) := by
  have h0 : (0 : Int) ≤ n := by omega
  have h1 : (n : Int) ≤ 65536 := by omega
  go_enter Try.func9, Try.ntmps9
  go_wp2_with (refine wpList_make36 rfl _ rfl n rfl hn ?_; intro w1 F1 hb1 hz1; have hb1' := Lib.hid hb1; clear hb1)
  refine bodyPost_ret (v := .tuple #[.pointer (some ⟨w1.heap.size, 0, none⟩), .int .i64 0]) (by simp [results, Try.results9, go_sem]) rfl ?_
  exact ⟨_, _, rfl, hb1'.out.size, Nat.le_refl _, Dk.new (DS.new n) F1.out, hb1'.out.alloc hb1'.out.size _⟩
theorem new_out (x : Int) (hx : x < 0 ∨ 65536 < x) (w : World) : Calls Try.prog 9 #[.int .i64 x] w fun e w' => e = .returned (.tuple #[.pointer none, .int .i64 27]) ∧ Below w.heap.size w w' := by
  by_cases hx0 : x < 0
  · go_enter Try.func9, Try.ntmps9
    go_wp2
    refine bodyPost_ret (v := .tuple #[.pointer none, .int .i64 27]) (by simp [results, Try.results9, go_sem]) rfl ⟨rfl, Below.refl _ _⟩
  · have hx1 : 65536 < x := by omega
    go_enter Try.func9, Try.ntmps9
    go_wp2
    refine bodyPost_ret (v := .tuple #[.pointer none, .int .i64 27]) (by simp [results, Try.results9, go_sem]) rfl ⟨rfl, Below.refl _ _⟩

/-- a slice of n blocks, from its block's head on -/
def Bs (w : World) (v : Value) (n : Nat) (f : Nat → Int) : Prop := ∃ p c, v = .slice p n c ∧ (0 < n → ∃ b, p = some ⟨b, 0, none⟩ ∧ b < w.heap.size ∧ ∀ j, j < n * 64 → w.cell? ⟨b, j, none⟩ = some (.int .u8 (f j)))
theorem Bs.below {w w' : World} {v : Value} {n : Nat} {f : Nat → Int} (h : Bs w v n f) (hb : Below w.heap.size w w') : Bs w' v n f := by
  obtain ⟨p, c, hv, hp⟩ := h
  refine ⟨p, c, hv, fun h0 => ?_⟩
  obtain ⟨b, h1, h2, h3⟩ := hp h0
  exact ⟨b, h1, Nat.lt_of_lt_of_le h2 hb.size, fun j hj => (hb.cell (p := ⟨b, j, none⟩) h2).trans (h3 j hj)⟩
theorem Bs.of_fl {w : World} {g n : Nat} {f : Nat → Int} (h : Fl w g (n * 64) f) (c : Nat) : Bs w (.slice (some ⟨g, 0, none⟩) n c) n f := ⟨_, _, rfl, fun _ => ⟨g, rfl, h.lt, h.c⟩⟩
theorem Bs.src {w : World} {p : Option Addr} {c n : Nat} {f : Nat → Int} (h : 0 < n → ∃ b, p = some ⟨b, 0, none⟩ ∧ b < w.heap.size ∧ ∀ j, j < n * 64 → w.cell? ⟨b, j, none⟩ = some (.int .u8 (f j))) (w' : World) (hb : Below w.heap.size w w') :
    0 < (byts (n * 64) f).length → ∃ ad, p = some ad ∧ ∀ j v, (byts (n * 64) f)[j]? = some v → w'.cell? (ad.add j) = some v := by
  intro h0
  rw [byts_len] at h0
  obtain ⟨b, h1, h2, h3⟩ := h (by omega)
  refine ⟨_, h1, fun j v hj => ?_⟩
  obtain ⟨hj1, rfl⟩ := byts_of hj
  rw [Addr.add_mid, Nat.zero_add]
  exact (hb.cell (p := ⟨b, j, none⟩) h2).trans (h3 j hj1)
theorem Try.size36n : (Try.prog.info? 50).map (·.size) = some 64 := by kernel_rfl

set_option maxHeartbeats 2000000 in
set_option maxRecDepth 100000 in
theorem image_any (d g : Nat) (s : DS) (hn : s.n ≤ 65536) (w : World) (h : Dk w d g s) :
    Calls Try.prog 12 #[.pointer (some ⟨d, 0, none⟩)] w fun e w' => ∃ v, e = .returned v ∧ Bs w' v s.n s.f ∧ Below w.heap.size w w' := by
  have H := Lib.hid h
  have c0 := h.c0
  clear h
  go_enter Try.func12, Try.ntmps12
  go_wp2_with (first | (refine wpList_make36 rfl _ rfl s.n rfl hn ?_; intro w1 F1 hb1 hz1; have H1 := Lib.hid (H.out.keep hb1); have hb1' := Lib.hid hb1; replace c0 := H1.out.c0; clear hb1) | (refine wpList_copy_mid rfl (.tmp 12) (.tmp 16) 34 34 rfl 50 (by kernel_rfl) 64 Try.size36n w.heap.size 0 s.n s.n (some ⟨g, 0, none⟩) s.n s.n rfl rfl (byts (s.n * 64) s.f) (by rw [byts_len, show Nat.min s.n s.n = s.n from Nat.min_self s.n]) (Bs.src (c := s.n) (fun _ => ⟨g, rfl, H1.out.fl.lt, H1.out.fl.c⟩) _ (Below.refl _ _)) (by rw [byts_len]; exact F1.out.there 0 (s.n * 64) (by omega)) (byts_one _ _) ?_))
  go_ret
  exact ⟨_, rfl, Bs.of_fl (F1.out.stored _) _, below_setCells hb1'.out _ _ (Nat.le_refl _) _⟩

end Go.Proofs.Ytlbfdmiihnlljaa
