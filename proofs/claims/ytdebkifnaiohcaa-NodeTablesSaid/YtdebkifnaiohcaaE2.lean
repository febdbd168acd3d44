import Derived.Test.YtdebkifnaiohcaaE1
import Derived.Deep.QuietTactic
/- Where a log stands; the short calls of a log. -/
namespace Go.Proofs.Ytdebkifnaiohcaa
set_option linter.unusedSimpArgs false
set_option linter.unusedVariables false
open Go.RowKit Go.Maps

/-- block l begins with a log: its disk, its head's place -/
structure Lg (w : World) (l d fi : Nat) : Prop where
  lt : l < w.heap.size
  c0 : w.cell? ⟨l, 0, none⟩ = some (.pointer (some ⟨d, 0, none⟩))
  c1 : w.cell? ⟨l, 1, none⟩ = some (.int .i64 fi)
theorem Lg.below {w w' : World} {B l d fi : Nat} (h : Lg w l d fi) (hb : Below B w w') (hl : l < B) : Lg w' l d fi :=
  ⟨Nat.lt_of_lt_of_le h.lt hb.size, (hb.cell (p := ⟨l, 0, none⟩) hl).trans h.c0, (hb.cell (p := ⟨l, 1, none⟩) hl).trans h.c1⟩
theorem Lg.keep {w w' : World} {l d fi : Nat} (h : Lg w l d fi) (hb : Below w.heap.size w w') : Lg w' l d fi := h.below hb h.lt
theorem Lg.kp {w w' : World} {a b l d fi : Nat} (h : Lg w l d fi) (hb : Kp w w' a b) (h1 : l ≠ a) (h2 : l ≠ b) : Lg w' l d fi :=
  ⟨Nat.lt_of_lt_of_le h.lt hb.size, (hb.cell (p := ⟨l, 0, none⟩) h.lt h1 h2).trans h.c0, (hb.cell (p := ⟨l, 1, none⟩) h.lt h1 h2).trans h.c1⟩
theorem Kp.size_le {w w' : World} {a b : Nat} (h : Kp w w' a b) : w.heap.size ≤ w'.heap.size := h.size
theorem Kp.swap {w w' : World} {a b : Nat} (h : Kp w w' a b) : Kp w w' b a := ⟨h.os, h.tape, h.output, h.size, fun k hk h1 h2 => h.block k hk h2 h1⟩

/-- a slice of numbers that are no less than nought -/
def Ns (w : World) (v : Value) (ts : List Nat) : Prop :=
  (∃ a cap, v = .slice a 0 cap ∧ ts = []) ∨ ∃ b off cap, v = .slice (some ⟨b, off, none⟩) ts.length cap ∧ b < w.heap.size ∧ ts.length ≤ maxLen ∧ ∀ i (h : i < ts.length), w.cell? ⟨b, off + i, none⟩ = some (.int .i64 (ts[i] : Nat))
/-- it lies in none of blocks a, b -/
def Ns.off (v : Value) (a b : Nat) : Prop := ∀ k, v.ownBlock = some k → k ≠ a ∧ k ≠ b
theorem Ns.below {w w' : World} {v : Value} {ts : List Nat} (h : Ns w v ts) (hb : Below w.heap.size w w') : Ns w' v ts := by
  rcases h with h | ⟨b, off, cap, hv, hlt, hm, hc⟩
  · exact .inl h
  · exact .inr ⟨b, off, cap, hv, Nat.lt_of_lt_of_le hlt hb.size, hm, fun i hi => (hb.cell (p := ⟨b, off + i, none⟩) hlt).trans (hc i hi)⟩
theorem Ns.form {w : World} {v : Value} {ts : List Nat} (h : Ns w v ts) : ∃ a cap, v = .slice a ts.length cap ∧ ts.length ≤ maxLen := by
  rcases h with ⟨a, cap, rfl, rfl⟩ | ⟨b, off, cap, rfl, _, hm, _⟩
  · exact ⟨a, cap, rfl, by unfold maxLen; simp⟩
  · exact ⟨_, cap, rfl, hm⟩
theorem Ns.at {w : World} {a : Option Addr} {n cap : Nat} {ts : List Nat} (h : Ns w (.slice a n cap) ts) (i : Nat) (hi : i < ts.length) : ∃ b off, a = some ⟨b, off, none⟩ ∧ b < w.heap.size ∧ w.cell? ⟨b, off + i, none⟩ = some (.int .i64 (ts[i] : Nat)) := by
  rcases h with ⟨a', cap', _, rfl⟩ | ⟨b, off, cap', hv, hlt, _, hc⟩
  · simp at hi
  · have : a = some ⟨b, off, none⟩ := by injection hv
    exact ⟨b, off, this, hlt, hc i hi⟩
theorem Ns.kp {w w' : World} {v : Value} {ts : List Nat} {a b : Nat} (h : Ns w v ts) (hk : Kp w w' a b) (ho : Ns.off v a b) : Ns w' v ts := by
  rcases h with h | ⟨g, off, cap, rfl, hlt, hm, hc⟩
  · exact .inl h
  · obtain ⟨h1, h2⟩ := ho g rfl
    exact .inr ⟨g, off, cap, rfl, Nat.lt_of_lt_of_le hlt hk.size, hm, fun i hi => (hk.cell (p := ⟨g, off + i, none⟩) hlt h1 h2).trans (hc i hi)⟩
theorem Ns.nil (w : World) : Ns w (.slice none 0 0) [] := .inl ⟨_, _, rfl, rfl⟩
theorem Ns.off_nil (a b : Nat) : Ns.off (.slice none 0 0) a b := fun k h => by simp [Value.ownBlock] at h

/-- is place x one of a disk of n blocks, and none of the log's whose head is at fi? -/
def outB (n fi : Nat) (x : Int) : Bool := decide (0 ≤ x ∧ x < n) && !decide (fi ≤ x ∧ x ≤ fi + 30)
theorem outB_nat (n fi k : Nat) : outB n fi k = decide (k < n ∧ ¬ (fi ≤ k ∧ k ≤ fi + 30)) := by
  unfold outB
  rw [Bool.eq_iff_iff]
  simp
  omega
set_option maxHeartbeats 4000000 in
set_option maxRecDepth 100000 in
theorem outside_any (l d g fi : Nat) (s : DS) (x : Int) (hx0 : -9223372036854775808 ≤ x) (hx1 : x < 9223372036854775808) (hf : fi ≤ 65536) (hn : s.n ≤ 65536) (w : World) (h : Lg w l d fi) (hd : Dk w d g s) :
    Calls Try.prog 57 #[.pointer (some ⟨l, 0, none⟩), .int .i64 x] w fun e w' => e = .returned (.bool (outB s.n fi x)) ∧ w' = w := by
  have c0 := h.c0
  have c1 := h.c1
  clear h
  have HL := Lib.hid (len_any d g s hn w hd)
  have h0 : (0 : Int) ≤ fi := by omega
  have h2 : (fi : Int) ≤ 65536 := by omega
  clear hd
  have HX0 := Lib.hid hx0
  have HX1 := Lib.hid hx1
  clear hx0 hx1
  obtain ⟨q, hq⟩ : ∃ q, outB s.n fi x = q := ⟨_, rfl⟩
  rw [hq]
  have HQ := Lib.hid hq
  clear hq
  by_cases c1' : (0 : Int) ≤ x
  · by_cases c2 : x < s.n
    · have hx3 : x ≤ 65536 := by omega
      have HB := Lib.hid c2
      by_cases c3 : (fi : Int) ≤ x
      · by_cases c4 : x ≤ (fi : Int) + 30
        · go_enter Try.func57, Try.ntmps57
          go_wp2_with (go_at_call 46; refine HL.out.mono ?_; rintro e w' ⟨rfl, rfl⟩)
          go_ret
          exact ⟨ret_bool (by rw [← HQ.out]; unfold outB; simp; omega), rfl⟩
        · go_enter Try.func57, Try.ntmps57
          go_wp2_with (go_at_call 46; refine HL.out.mono ?_; rintro e w' ⟨rfl, rfl⟩)
          go_ret
          exact ⟨ret_bool (by rw [← HQ.out]; unfold outB; simp; omega), rfl⟩
      · go_enter Try.func57, Try.ntmps57
        go_wp2_with (go_at_call 46; refine HL.out.mono ?_; rintro e w' ⟨rfl, rfl⟩)
        go_ret
        exact ⟨ret_bool (by rw [← HQ.out]; unfold outB; simp; omega), rfl⟩
    · have e1 : q = false := by rw [← HQ.out]; unfold outB; simp; omega
      subst e1
      clear HQ
      have c2' : (s.n : Int) ≤ x := by omega
      by_cases c3 : (fi : Int) ≤ x
      · by_cases c4 : x ≤ (fi : Int) + 30
        · go_enter Try.func57, Try.ntmps57
          go_wp2_with (go_at_call 46; refine HL.out.mono ?_; rintro e w' ⟨rfl, rfl⟩)
          go_ret
          exact ⟨rfl, rfl⟩
        · go_enter Try.func57, Try.ntmps57
          go_wp2_with (go_at_call 46; refine HL.out.mono ?_; rintro e w' ⟨rfl, rfl⟩)
          go_ret
          exact ⟨rfl, rfl⟩
      · go_enter Try.func57, Try.ntmps57
        go_wp2_with (go_at_call 46; refine HL.out.mono ?_; rintro e w' ⟨rfl, rfl⟩)
        go_ret
        exact ⟨rfl, rfl⟩
  · have e1 : q = false := by rw [← HQ.out]; unfold outB; simp; omega
    subst e1
    clear HQ
    have c2 : x < 0 := by omega
    have c3 : ¬ ((fi : Int) ≤ x) := by omega
    go_enter Try.func57, Try.ntmps57
    go_wp2
    go_ret
    exact ⟨rfl, rfl⟩

set_option maxHeartbeats 2000000 in
set_option maxRecDepth 100000 in
theorem open_in (d g : Nat) (s : DS) (fi : Nat) (hf : fi + 31 ≤ s.n) (hn : s.n ≤ 65536) (w : World) (hd : Dk w d g s) :
    Calls Try.prog 33 #[.pointer (some ⟨d, 0, none⟩), .int .i64 fi] w fun e w' => ∃ l, e = .returned (.tuple #[.pointer (some ⟨l, 0, none⟩), .int .i64 0]) ∧ w.heap.size ≤ l ∧ Lg w' l d fi ∧ Below w.heap.size w w' := by
  have HL := Lib.hid (len_any d g s hn w hd)
  clear hd
  have h0 : (0 : Int) ≤ fi := by omega
  have h1 : (0 : Int) ≤ s.n := by omega
  have h2 : (s.n : Int) ≤ 65536 := by omega
  have h3 : (fi : Int) ≤ s.n - 1 - 30 := by omega
  go_enter Try.func33, Try.ntmps33
  go_wp2_with (go_at_call 46; refine HL.out.mono ?_; rintro e w' ⟨rfl, rfl⟩)
  refine bodyPost_ret (v := .tuple #[.pointer (some ⟨w'.heap.size, 0, none⟩), .int .i64 0]) (by simp [results, Try.results33, go_sem]) rfl ⟨w'.heap.size, rfl, Nat.le_refl _, ⟨by simp, ?_, ?_⟩, (Below.refl _ _).alloc (Nat.le_refl _) _⟩
  all_goals rw [World.cell?_alloc_at _ _ _ _ rfl]; rfl
set_option maxHeartbeats 2000000 in
set_option maxRecDepth 100000 in
theorem open_out (d g : Nat) (s : DS) (x : Int) (hx0 : -9223372036854775808 ≤ x) (hx1 : x < 9223372036854775808) (hx : x < 0 ∨ (s.n : Int) - 31 < x) (hn : s.n ≤ 65536) (w : World) (hd : Dk w d g s) :
    Calls Try.prog 33 #[.pointer (some ⟨d, 0, none⟩), .int .i64 x] w fun e w' => e = .returned (.tuple #[.pointer none, .int .i64 27]) ∧ Below w.heap.size w w' := by
  have HL := Lib.hid (len_any d g s hn w hd)
  clear hd
  have HX0 := Lib.hid hx0
  have HX1 := Lib.hid hx1
  clear hx0 hx1
  have h1 : (0 : Int) ≤ s.n := by omega
  have h2 : (s.n : Int) ≤ 65536 := by omega
  by_cases c : x < 0
  · go_enter Try.func33, Try.ntmps33
    go_wp2
    refine bodyPost_ret (v := .tuple #[.pointer none, .int .i64 27]) (by simp [results, Try.results33, go_sem]) rfl ⟨rfl, Below.refl _ _⟩
  · have h3 : (s.n : Int) - 1 - 30 < x := by omega
    go_enter Try.func33, Try.ntmps33
    go_wp2_with (go_at_call 46; refine HL.out.mono ?_; rintro e w' ⟨rfl, rfl⟩)
    refine bodyPost_ret (v := .tuple #[.pointer none, .int .i64 27]) (by simp [results, Try.results33, go_sem]) rfl ⟨rfl, Below.refl _ _⟩
theorem open_nil (x : Int) (w : World) : Calls Try.prog 33 #[.pointer none, .int .i64 x] w fun e w' => e = .returned (.tuple #[.pointer none, .int .i64 1]) ∧ Below w.heap.size w w' := by
  go_enter Try.func33, Try.ntmps33
  go_wp2
  refine bodyPost_ret (v := .tuple #[.pointer none, .int .i64 1]) (by simp [results, Try.results33, go_sem]) rfl ⟨rfl, Below.refl _ _⟩

end Go.Proofs.Ytdebkifnaiohcaa
