import Derived.Test.YtlbfdmiihnlljaaX12
import Derived.Test.YtlbfdmiihnlljaaX13
import Derived.Test.YtlbfdmiihnlljaaX6
import Derived.Test.YtlbfdmiihnlljaaX7
import Derived.Test.YtlbfdmiihnlljaaX9
import Derived.Test.YtlbfdmiihnlljaaX2
import Derived.Test.YtlbfdmiihnlljaaX4
import Derived.Test.YtlbfdmiihnlljaaE13
import Derived.Test.YtlbfdmiihnlljaaH1
/- WalPlays: both transactions, each with what it stands on. -/
namespace Go.Proofs.Ytlbfdmiihnlljaa
set_option linter.unusedSimpArgs false
set_option linter.unusedVariables false
open Go.RowKit Go.Maps

/-- of the world nothing has turned but these blocks, and what was made -/
structure Kf (w w' : World) (L : List Nat) : Prop where
  os : w'.os = w.os
  tape : w'.tape = w.tape
  output : w'.output = w.output
  size : w.heap.size ≤ w'.heap.size
  block : ∀ k, k < w.heap.size → k ∉ L → w'.heap[k]? = w.heap[k]?
theorem Kf.of_below {w w' : World} (h : Below w.heap.size w w') (L : List Nat) : Kf w w' L := ⟨h.os, h.tape, h.output, h.size, fun k hk _ => h.block k hk⟩
theorem Kf.of_kp {w w' : World} {a b : Nat} (h : Kp w w' a b) {L : List Nat} (ha : a ∈ L) (hb : b ∈ L) : Kf w w' L :=
  ⟨h.os, h.tape, h.output, h.size, fun k hk hn => h.block k hk (fun e => hn (e ▸ ha)) (fun e => hn (e ▸ hb))⟩
theorem Kf.trans {w1 w2 w3 : World} {L : List Nat} (h : Kf w1 w2 L) (k : Kf w2 w3 L) : Kf w1 w3 L :=
  ⟨k.os.trans h.os, k.tape.trans h.tape, k.output.trans h.output, Nat.le_trans h.size k.size, fun i hi h1 => (k.block i (Nat.lt_of_lt_of_le hi h.size) h1).trans (h.block i hi h1)⟩
theorem Kf.of_kc {w w' : World} {a b c : Nat} (h : Kc w w' a b c) {L : List Nat} (ha : a ∈ L) (hb : b ∈ L) (hc : c ∈ L) : Kf w w' L := by
  obtain ⟨w1, w2, k1, k2, k3⟩ := h
  exact ((Kf.of_kp k1 ha hb).trans (Kf.of_kp k2 hc hc)).trans (Kf.of_kp k3 ha hb)
theorem Kf.kp {w w' : World} {L : List Nat} (h : Kf w w' L) {a b c : Nat} (ha : a ∉ L) : w.heap.size ≤ w'.heap.size := h.size
theorem Kf.after {B : Nat} {w0 w w' : World} {L : List Nat} (h : Kf w w' L) (hb : Below B w0 w) (hB : B ≤ w0.heap.size) (hL : ∀ a ∈ L, B ≤ a) : Below B w0 w' :=
  hb.trans ⟨h.os, h.tape, h.output, h.size, fun k hk => h.block k (by have := hb.size; omega) (fun hm => by have := hL k hm; omega)⟩
theorem Kf.cell {w w' : World} {L : List Nat} (h : Kf w w' L) {p : Addr} (hp : p.block < w.heap.size) (h1 : p.block ∉ L) : w'.cell? p = w.cell? p := World.cell?_of_block (w := w) (h.block p.block hp h1)
theorem Kf.frozen {w w' : World} {L : List Nat} (h : Kf w w' L) {p : Addr} (hp : p.block < w.heap.size) (h1 : p.block ∉ L) : w'.frozen? p = w.frozen? p := World.frozen?_of_block (w := w) (h.block p.block hp h1)
theorem Fl.kf {w w' : World} {L : List Nat} {g N : Nat} {f : Nat → Int} (h : Fl w g N f) (hb : Kf w w' L) (h1 : g ∉ L) : Fl w' g N f :=
  ⟨Nat.lt_of_lt_of_le h.lt hb.size, fun j hj => (hb.cell (p := ⟨g, j, none⟩) h.lt h1).trans (h.c j hj), fun j hj => (hb.frozen (p := ⟨g, j, none⟩) h.lt h1).trans (h.z j hj)⟩
theorem Lg.kf {w w' : World} {l d fi : Nat} {L : List Nat} (h : Lg w l d fi) (hk : Kf w w' L) (hn : l ∉ L) : Lg w' l d fi :=
  ⟨Nat.lt_of_lt_of_le h.lt hk.size, (hk.cell (p := ⟨l, 0, none⟩) h.lt hn).trans h.c0, (hk.cell (p := ⟨l, 1, none⟩) h.lt hn).trans h.c1⟩
theorem Dk.kf {w w' : World} {d g : Nat} {s : DS} {L : List Nat} (h : Dk w d g s) (hb : Kf w w' L) (h1 : d ∉ L) (h2 : g ∉ L) : Dk w' d g s :=
  ⟨Nat.lt_of_lt_of_le h.lt hb.size, h.ne, (hb.cell (p := ⟨d, 0, none⟩) h.lt h1).trans h.c0, (hb.cell (p := ⟨d, 1, none⟩) h.lt h1).trans h.c1, (hb.cell (p := ⟨d, 2, none⟩) h.lt h1).trans h.c2, (hb.cell (p := ⟨d, 3, none⟩) h.lt h1).trans h.c3, (hb.cell (p := ⟨d, 4, none⟩) h.lt h1).trans h.c4, (hb.cell (p := ⟨d, 5, none⟩) h.lt h1).trans h.c5,
    (hb.frozen (p := ⟨d, 1, none⟩) h.lt h1).trans h.z1, (hb.frozen (p := ⟨d, 2, none⟩) h.lt h1).trans h.z2, (hb.frozen (p := ⟨d, 3, none⟩) h.lt h1).trans h.z3, (hb.frozen (p := ⟨d, 4, none⟩) h.lt h1).trans h.z4, (hb.frozen (p := ⟨d, 5, none⟩) h.lt h1).trans h.z5, h.fl.kf hb h2⟩
theorem Rk.kf {w w' : World} {d g : Nat} {s : DS} {L : List Nat} (h : Rk w d g s) (hb : Kf w w' L) (h1 : d ∉ L) (h2 : g ∉ L) : Rk w' d g s :=
  ⟨Nat.lt_of_lt_of_le h.lt hb.size, h.ne, (hb.cell (p := ⟨d, 0, none⟩) h.lt h1).trans h.c0, (hb.cell (p := ⟨d, 1, none⟩) h.lt h1).trans h.c1, (hb.cell (p := ⟨d, 2, none⟩) h.lt h1).trans h.c2, (hb.cell (p := ⟨d, 3, none⟩) h.lt h1).trans h.c3, (hb.cell (p := ⟨d, 4, none⟩) h.lt h1).trans h.c4,
    (hb.frozen (p := ⟨d, 1, none⟩) h.lt h1).trans h.z1, (hb.frozen (p := ⟨d, 2, none⟩) h.lt h1).trans h.z2, (hb.frozen (p := ⟨d, 3, none⟩) h.lt h1).trans h.z3, (hb.frozen (p := ⟨d, 4, none⟩) h.lt h1).trans h.z4, h.fl.kf hb h2⟩
theorem Tx.kf {w w' : World} {t m d fi : Nat} {T : TS} {fa : Int} {L : List Nat} (h : Tx w t m d fi T fa) (hb : Kf w w' L) (h1 : t ∉ L) (h2 : m ∉ L) : Tx w' t m d fi T fa :=
  ⟨h.lg.kf hb h1, (hb.cell (p := ⟨t, 2, none⟩) h.lg.lt h1).trans h.c2, (hb.cell (p := ⟨t, 3, none⟩) h.lg.lt h1).trans h.c3, (hb.frozen (p := ⟨t, 3, none⟩) h.lg.lt h1).trans h.z3, h.mp.block (hb.block m h.mp.lt h2), h.ne⟩
theorem Rx.kf {w w' : World} {x l : Nat} {va vb : Value} {T : TS} {co : Int} {L : List Nat} (h : Rx w x l va vb T co) (hb : Kf w w' L) (h1 : x ∉ L) (h2 : ∀ k, va.ownBlock = some k → k ∉ L) (h3 : ∀ k, vb.ownBlock = some k → k ∉ L) : Rx w' x l va vb T co := by
  refine ⟨Nat.lt_of_lt_of_le h.lt hb.size, (hb.cell (p := ⟨x, 0, none⟩) h.lt h1).trans h.c0, (hb.cell (p := ⟨x, 1, none⟩) h.lt h1).trans h.c1, (hb.cell (p := ⟨x, 2, none⟩) h.lt h1).trans h.c2, (hb.cell (p := ⟨x, 3, none⟩) h.lt h1).trans h.c3,
    (hb.frozen (p := ⟨x, 1, none⟩) h.lt h1).trans h.z1, (hb.frozen (p := ⟨x, 2, none⟩) h.lt h1).trans h.z2, (hb.frozen (p := ⟨x, 3, none⟩) h.lt h1).trans h.z3, ?_, ?_⟩
  · rcases h.ns with hn | ⟨g, off, cap, rfl, hlt, hm, hc⟩
    · exact .inl hn
    · exact .inr ⟨g, off, cap, rfl, Nat.lt_of_lt_of_le hlt hb.size, hm, fun i hi => (hb.cell (p := ⟨g, off + i, none⟩) hlt (h2 g rfl)).trans (hc i hi)⟩
  · rcases h.bv with hn | ⟨g, cap, rfl, hlt, hc⟩
    · exact .inl hn
    · exact .inr ⟨g, cap, rfl, Nat.lt_of_lt_of_le hlt hb.size, fun i hi j hj => ⟨(hb.cell (p := ⟨g, i * 64 + j, none⟩) hlt (h3 g rfl)).trans (hc i hi j hj).1, (hb.frozen (p := ⟨g, i * 64 + j, none⟩) hlt (h3 g rfl)).trans (hc i hi j hj).2⟩⟩

/-- the code's half -/
structure WC (w : World) (t m e g q : Nat) (T : TS) (co : Int) (s : DS) : Prop where
  tx : Tx w t m e 2 T co
  dk : Dk w e g s
  lg : Lg w q e 2
  n1 : t ≠ e
  n2 : t ≠ g
  n3 : m ≠ e
  n4 : m ≠ g
  n5 : q ≠ e
  n6 : q ≠ g
  n7 : q ≠ t
  n8 : q ≠ m
theorem WC.kf {w w' : World} {t m e g q : Nat} {T : TS} {co : Int} {s : DS} {L : List Nat} (h : WC w t m e g q T co s) (hk : Kf w w' L) (hn : ∀ a ∈ L, a ∉ [t, m, e, g, q]) : WC w' t m e g q T co s := by
  have hh : ∀ b ∈ [t, m, e, g, q], b ∉ L := fun b hb hl => hn b hl hb
  exact ⟨h.tx.kf hk (hh t (by simp)) (hh m (by simp)), h.dk.kf hk (hh e (by simp)) (hh g (by simp)), h.lg.kf hk (hh q (by simp)), h.n1, h.n2, h.n3, h.n4, h.n5, h.n6, h.n7, h.n8⟩
theorem WC.keep {w w' : World} {t m e g q : Nat} {T : TS} {co : Int} {s : DS} (h : WC w t m e g q T co s) (hb : Below w.heap.size w w') : WC w' t m e g q T co s := h.kf (Kf.of_below hb []) (by simp)
theorem WC.lts {w : World} {t m e g q : Nat} {T : TS} {co : Int} {s : DS} (h : WC w t m e g q T co s) : ∀ a ∈ [t, m, e, g, q], a < w.heap.size := by
  intro a ha
  have h1 := h.tx.lg.lt
  have h2 := h.tx.mp.lt
  have h3 := h.dk.lt
  have h4 := h.dk.fl.lt
  have h5 := h.lg.lt
  simp at ha
  omega
theorem c_get {K : Nat} (t m e g q : Nat) (T : TS) (co : Int) (s : DS) (n : Int) (h0 : -9223372036854775808 ≤ n) (h1 : n < 9223372036854775808) (hK : K < 700000) (hs : Sane s 80 K) (w : World) (h : WC w t m e g q T co s) :
    Calls Try.prog 14 #[.pointer (some ⟨t, 0, none⟩), .int .i64 n] w fun r w' => r = .returned (.tuple #[.agg (byts 64 (getT s T n).1.1).toArray, .int .i64 (getT s T n).1.2]) ∧ WC w' t m e g q T co (getT s T n).2 ∧ Kf w w' [t, m, e, g, q] := by
  refine (get_any t m e g 2 80 K T co s n h0 h1 (by decide) (by omega) hs w h.tx h.dk h.n1 h.n2).mono ?_
  rintro r w' ⟨hr, hd, hk⟩
  exact ⟨hr, ⟨h.tx.kp hk h.n1 h.n2 h.n3 h.n4, hd, h.lg.kp hk h.n5 h.n6, h.n1, h.n2, h.n3, h.n4, h.n5, h.n6, h.n7, h.n8⟩, Kf.of_kp hk (by simp) (by simp)⟩
theorem c_put {K : Nat} (t m e g q : Nat) (T : TS) (co : Int) (s : DS) (n : Int) (f : Nat → Int) (h0 : -9223372036854775808 ≤ n) (h1 : n < 9223372036854775808) (hT : T.length ≤ 30) (hK : K < 700000) (hco : 0 ≤ co ∧ co < 100) (hs : Sane s 80 K) (w : World) (h : WC w t m e g q T co s) :
    Calls Try.prog 24 #[.pointer (some ⟨t, 0, none⟩), .int .i64 n, .agg (byts 64 f).toArray] w fun r w' => r = .returned (.int .i64 (putT 80 2 n f T co).1) ∧ WC w' t m e g q (putT 80 2 n f T co).2.1 (putT 80 2 n f T co).2.2 s ∧ Kf w w' [t, m, e, g, q] := by
  refine (put_any t m e g 2 80 K T co s n f h0 h1 (by omega) (by decide) (by decide) hs w h.tx h.dk hco).mono ?_
  rintro r w' ⟨hr, ht, hk⟩
  exact ⟨hr, ⟨ht, h.dk.kp hk (Ne.symm h.n1) (Ne.symm h.n3) (Ne.symm h.n2) (Ne.symm h.n4), h.lg.kp hk h.n7 h.n8, h.n1, h.n2, h.n3, h.n4, h.n5, h.n6, h.n7, h.n8⟩, Kf.of_kp hk (by simp) (by simp)⟩
theorem c_commit {K : Nat} (t m e g q : Nat) (T : TS) (co : Int) (s : DS) (hT : T.length ≤ 30) (hts : ∀ p ∈ T, p.1 < 80 ∧ Byt p.2) (hK : K < 600000) (hco : 0 ≤ co ∧ co < 100) (hs : Sane s 80 K) (w : World) (h : WC w t m e g q T co s) :
    Calls Try.prog 16 #[.pointer (some ⟨t, 0, none⟩)] w fun r w' => r = .returned (.int .i64 (commit 2 T co s).1) ∧ WC w' t m e g q (commit 2 T co s).2.1 co (commit 2 T co s).2.2 ∧ Kf w w' [t, m, e, g, q] := by
  refine (commit_any t m e g 2 80 K T co s hT hts (by decide) (by decide) (by omega) hco hs w h.tx h.dk h.n1 h.n2 h.n3 h.n4).mono ?_
  rintro r w' ⟨hr, ht, hd, hk⟩
  have hkf : Kf w w' [e, g, m] := Kf.of_kc hk (by simp) (by simp) (by simp)
  have h5 := h.n5; have h6 := h.n6; have h8 := h.n8
  exact ⟨hr, ⟨ht, hd, h.lg.kf hkf (by simp; omega), h.n1, h.n2, h.n3, h.n4, h.n5, h.n6, h.n7, h.n8⟩, Kf.of_kc hk (by simp) (by simp) (by simp)⟩
theorem c_drop (t m e g q : Nat) (T : TS) (co : Int) (s : DS) (w : World) (h : WC w t m e g q T co s) :
    Calls Try.prog 18 #[.pointer (some ⟨t, 0, none⟩)] w fun r w' => r = .returned (.tuple #[]) ∧ WC w' t m e g q [] 0 s ∧ Kf w w' [t, m, e, g, q] := by
  refine (drop_any t m e 2 T co w h.tx).mono ?_
  rintro r w' ⟨hr, ht, hk⟩
  exact ⟨hr, ⟨ht, h.dk.kp hk (Ne.symm h.n1) (Ne.symm h.n3) (Ne.symm h.n2) (Ne.symm h.n4), h.lg.kp hk h.n7 h.n8, h.n1, h.n2, h.n3, h.n4, h.n5, h.n6, h.n7, h.n8⟩, Kf.of_kp hk (by simp) (by simp)⟩
theorem c_recover {K : Nat} (t m e g q : Nat) (T : TS) (co : Int) (s : DS) (hK : K < 600000) (hs : Sane s 80 K) (w : World) (h : WC w t m e g q T co s) :
    Calls Try.prog 22 #[.pointer (some ⟨q, 0, none⟩)] w fun r w' => r = .returned (.tuple #[.int .i64 (recover 2 s).1.1, .int .i64 (recover 2 s).1.2]) ∧ WC w' t m e g q T co (recover 2 s).2 ∧ Kf w w' [t, m, e, g, q] := by
  refine (recover_any q e g 2 80 K s (by decide) (by decide) (by omega) hs w h.lg h.dk h.n5 h.n6).mono ?_
  rintro r w' ⟨hr, hd, hk⟩
  exact ⟨hr, ⟨h.tx.kp hk h.n1 h.n2 h.n3 h.n4, hd, h.lg.kp hk h.n5 h.n6, h.n1, h.n2, h.n3, h.n4, h.n5, h.n6, h.n7, h.n8⟩, Kf.of_kp hk (by simp) (by simp)⟩
theorem c_arm (t m e g q : Nat) (T : TS) (co : Int) (s : DS) (y : Int) (w : World) (h : WC w t m e g q T co s) :
    Calls Try.prog 20 #[.pointer (some ⟨e, 0, none⟩), .int .i64 y] w fun r w' => r = .returned (.tuple #[]) ∧ WC w' t m e g q T co { s with ar := decide (0 ≤ y), lf := y } ∧ Kf w w' [t, m, e, g, q] := by
  refine (arm_any e g s y w h.dk).mono ?_
  rintro r w' ⟨hr, hd, hk⟩
  exact ⟨hr, ⟨h.tx.kp hk h.n1 h.n2 h.n3 h.n4, hd, h.lg.kp hk h.n5 h.n6, h.n1, h.n2, h.n3, h.n4, h.n5, h.n6, h.n7, h.n8⟩, Kf.of_kp hk (by simp) (by simp)⟩
theorem c_wake (t m e g q : Nat) (T : TS) (co : Int) (s : DS) (w : World) (h : WC w t m e g q T co s) :
    Calls Try.prog 21 #[.pointer (some ⟨e, 0, none⟩)] w fun r w' => r = .returned (.tuple #[]) ∧ WC w' t m e g q T co { s with de := false, ar := false } ∧ Kf w w' [t, m, e, g, q] := by
  refine (wake_any e g s w h.dk).mono ?_
  rintro r w' ⟨hr, hd, hk⟩
  exact ⟨hr, ⟨h.tx.kp hk h.n1 h.n2 h.n3 h.n4, hd, h.lg.kp hk h.n5 h.n6, h.n1, h.n2, h.n3, h.n4, h.n5, h.n6, h.n7, h.n8⟩, Kf.of_kp hk (by simp) (by simp)⟩

/-- the answer's half; C: blocks that are not its own -/
structure WR (w : World) (B : Nat) (C : List Nat) (x l d h : Nat) (T : TS) (co : Int) (s : DS) : Prop where
  lg : Lg w l d 2
  rk : Rk w d h s
  n1 : x ≠ l
  n2 : x ≠ d
  n3 : x ≠ h
  n4 : l ≠ d
  n5 : l ≠ h
  sep : ∀ a ∈ [x, l, d, h], a ∉ C ∧ B ≤ a
  ex : ∃ va vb, Rx w x l va vb T co ∧ NF va T.length ∧ NF vb T.length ∧ (∀ k, va.ownBlock = some k → k ∉ C ∧ k ∉ [x, l, d, h] ∧ B ≤ k ∧ k < w.heap.size) ∧ ∀ k, vb.ownBlock = some k → k ∉ C ∧ k ∉ [x, l, d, h] ∧ B ≤ k ∧ k < w.heap.size ∧ ∀ j, va.ownBlock = some j → j ≠ k
theorem WR.kf {w w' : World} {B : Nat} {C L : List Nat} {x l d h : Nat} {T : TS} {co : Int} {s : DS} (k : WR w B C x l d h T co s) (hk : Kf w w' L) (hL : ∀ a ∈ L, a ∈ C) : WR w' B C x l d h T co s := by
  have hh : ∀ b, b ∉ C → b ∉ L := fun b hb hl => hb (hL b hl)
  obtain ⟨va, vb, h1, h2, h3, h4, h5⟩ := k.ex
  exact ⟨k.lg.kf hk (hh l (k.sep l (by simp)).1), k.rk.kf hk (hh d (k.sep d (by simp)).1) (hh h (k.sep h (by simp)).1), k.n1, k.n2, k.n3, k.n4, k.n5, k.sep,
    va, vb, h1.kf hk (hh x (k.sep x (by simp)).1) (fun j hj => hh j (h4 j hj).1) (fun j hj => hh j (h5 j hj).1), h2, h3, fun j hj => ⟨(h4 j hj).1, (h4 j hj).2.1, (h4 j hj).2.2.1, Nat.lt_of_lt_of_le (h4 j hj).2.2.2 hk.size⟩, fun j hj => ⟨(h5 j hj).1, (h5 j hj).2.1, (h5 j hj).2.2.1, Nat.lt_of_lt_of_le (h5 j hj).2.2.2.1 hk.size, (h5 j hj).2.2.2.2⟩⟩
theorem WR.keep {w w' : World} {B : Nat} {C : List Nat} {x l d h : Nat} {T : TS} {co : Int} {s : DS} (k : WR w B C x l d h T co s) (hb : Below w.heap.size w w') : WR w' B C x l d h T co s := k.kf (Kf.of_below hb []) (by simp)
/-- what an answer's call may have turned -/
def Kr (w w' : World) (B : Nat) (C : List Nat) : Prop := ∃ L, Kf w w' L ∧ ∀ a ∈ L, a ∉ C ∧ B ≤ a
theorem Kr.wc {w w' : World} {B : Nat} {C : List Nat} {t m e g q : Nat} {T : TS} {co : Int} {s : DS} (h : Kr w w' B C) (hc : WC w t m e g q T co s) (hC : ∀ a ∈ [t, m, e, g, q], a ∈ C) : WC w' t m e g q T co s := by
  obtain ⟨L, hk, hL⟩ := h
  exact hc.kf hk (fun a ha hm => (hL a ha).1 (hC a hm))
theorem Kr.after {B : Nat} {w0 w w' : World} {C : List Nat} (h : Kr w w' B C) (hb : Below B w0 w) (hB : B ≤ w0.heap.size) : Below B w0 w' := by
  obtain ⟨L, hk, hL⟩ := h
  exact hk.after hb hB (fun a ha => (hL a ha).2)
theorem Kr.cell {w w' : World} {B : Nat} {C : List Nat} (h : Kr w w' B C) {p : Addr} (hp : p.block < w.heap.size) (h1 : p.block ∈ C) : w'.cell? p = w.cell? p := by
  obtain ⟨L, hk, hL⟩ := h
  exact hk.cell hp (fun hm => (hL _ hm).1 h1)
theorem Kr.size {w w' : World} {B : Nat} {C : List Nat} (h : Kr w w' B C) : w.heap.size ≤ w'.heap.size := by
  obtain ⟨L, hk, _⟩ := h
  exact hk.size
theorem WR.lts {w : World} {B : Nat} {C : List Nat} {x l d h : Nat} {T : TS} {co : Int} {s : DS} (k : WR w B C x l d h T co s) : ∀ a ∈ [x, l, d, h], a < w.heap.size := by
  intro a ha
  obtain ⟨va, vb, h1, _⟩ := k.ex
  have h2 := h1.lt
  have h3 := k.lg.lt
  have h4 := k.rk.lt
  have h5 := k.rk.fl.lt
  simp at ha
  omega
theorem WR.widen {w : World} {B : Nat} {C : List Nat} {x l d h : Nat} {T : TS} {co : Int} {s : DS} (k : WR w B C x l d h T co s) (a : Nat) (ha : w.heap.size ≤ a) : WR w B (a :: C) x l d h T co s := by
  have hl := k.lts
  obtain ⟨va, vb, h1, h2, h3, h4, h5⟩ := k.ex
  refine ⟨k.lg, k.rk, k.n1, k.n2, k.n3, k.n4, k.n5, fun b hb => ⟨?_, (k.sep b hb).2⟩, va, vb, h1, h2, h3, fun j hj => ⟨?_, (h4 j hj).2⟩, fun j hj => ⟨?_, (h5 j hj).2⟩⟩
  · have := hl b hb
    simp only [List.mem_cons, not_or]
    exact ⟨by omega, (k.sep b hb).1⟩
  · have := (h4 j hj).2.2.2
    simp only [List.mem_cons, not_or]
    exact ⟨by omega, (h4 j hj).1⟩
  · have := (h5 j hj).2.2.2.1
    simp only [List.mem_cons, not_or]
    exact ⟨by omega, (h5 j hj).1⟩
theorem WR.narrow {w : World} {B a : Nat} {C : List Nat} {x l d h : Nat} {T : TS} {co : Int} {s : DS} (k : WR w B (a :: C) x l d h T co s) : WR w B C x l d h T co s := by
  obtain ⟨va, vb, h1, h2, h3, h4, h5⟩ := k.ex
  exact ⟨k.lg, k.rk, k.n1, k.n2, k.n3, k.n4, k.n5, fun b hb => ⟨fun hm => (k.sep b hb).1 (List.mem_cons_of_mem _ hm), (k.sep b hb).2⟩, va, vb, h1, h2, h3, fun j hj => ⟨fun hm => (h4 j hj).1 (List.mem_cons_of_mem _ hm), (h4 j hj).2⟩, fun j hj => ⟨fun hm => (h5 j hj).1 (List.mem_cons_of_mem _ hm), (h5 j hj).2⟩⟩
theorem WR.disk {w w' : World} {B : Nat} {C : List Nat} {x l d h : Nat} {T : TS} {co : Int} {s s' : DS} (k : WR w B C x l d h T co s) (hk : Kp w w' d h) (hr : Rk w' d h s') : WR w' B C x l d h T co s' ∧ Kr w w' B C := by
  have hkf : Kf w w' [d, h] := Kf.of_kp hk (by simp) (by simp)
  obtain ⟨va, vb, h1, h2, h3, h4, h5⟩ := k.ex
  have g1 := k.n2; have g2 := k.n3; have g3 := k.n4; have g4 := k.n5
  refine ⟨⟨k.lg.kf hkf (by simp; omega), hr, k.n1, k.n2, k.n3, k.n4, k.n5, k.sep, va, vb, h1.kf hkf (by simp; omega) (fun j hj => ?_) (fun j hj => ?_), h2, h3, fun j hj => ⟨(h4 j hj).1, (h4 j hj).2.1, (h4 j hj).2.2.1, Nat.lt_of_lt_of_le (h4 j hj).2.2.2 hk.size⟩, fun j hj => ⟨(h5 j hj).1, (h5 j hj).2.1, (h5 j hj).2.2.1, Nat.lt_of_lt_of_le (h5 j hj).2.2.2.1 hk.size, (h5 j hj).2.2.2.2⟩⟩, [d, h], hkf, fun a ha => ?_⟩
  · have := (h4 j hj).2.1
    simp at this ⊢
    omega
  · have := (h5 j hj).2.1
    simp at this ⊢
    omega
  · simp at ha
    rcases ha with rfl | rfl
    · exact k.sep _ (by simp)
    · exact k.sep _ (by simp)
theorem a_get {K B : Nat} {C : List Nat} (x l d h : Nat) (T : TS) (co : Int) (s : DS) (n : Int) (h0 : -9223372036854775808 ≤ n) (h1 : n < 9223372036854775808) (hT : T.length ≤ 30) (hK : K < 700000) (hs : Sane s 80 K) (w : World) (k : WR w B C x l d h T co s) :
    Calls Try.prog 15 #[.pointer (some ⟨x, 0, none⟩), .int .i64 n] w fun r w' => r = .returned (.tuple #[.agg (byts 64 (getT s T n).1.1).toArray, .int .i64 (getT s T n).1.2]) ∧ WR w' B C x l d h T co (getT s T n).2 ∧ Kr w w' B C := by
  obtain ⟨va, vb, hx, _⟩ := k.ex
  refine (rget_any x l d h 2 80 K va vb T co s n (by omega) h0 h1 (by decide) (by omega) hs w hx k.lg k.rk).mono ?_
  rintro r w' ⟨hr, hd, hk⟩
  exact ⟨hr, k.disk hk hd⟩
theorem a_recover {K B : Nat} {C : List Nat} (x l d h : Nat) (T : TS) (co : Int) (s : DS) (hK : K < 600000) (hs : Sane s 80 K) (w : World) (k : WR w B C x l d h T co s) :
    Calls Try.prog 23 #[.pointer (some ⟨l, 0, none⟩)] w fun r w' => r = .returned (.tuple #[.int .i64 (recover 2 s).1.1, .int .i64 (recover 2 s).1.2]) ∧ WR w' B C x l d h T co (recover 2 s).2 ∧ Kr w w' B C := by
  refine (rrecover_any l d h 2 80 K s (by decide) (by decide) (by omega) hs w k.lg k.rk k.n4 k.n5).mono ?_
  rintro r w' ⟨hr, hd, hk⟩
  exact ⟨hr, k.disk hk hd⟩
theorem a_drop {B : Nat} {C : List Nat} (x l d h : Nat) (T : TS) (co : Int) (s : DS) (w : World) (k : WR w B C x l d h T co s) :
    Calls Try.prog 19 #[.pointer (some ⟨x, 0, none⟩)] w fun r w' => r = .returned (.tuple #[]) ∧ WR w' B C x l d h [] 0 s ∧ Kr w w' B C := by
  obtain ⟨va, vb, hx, _⟩ := k.ex
  refine (rdrop_any x l va vb T co w hx).mono ?_
  rintro r w' ⟨hr, hx', hk⟩
  have g1 := k.n1; have g2 := k.n2; have g3 := k.n3
  refine ⟨hr, ⟨k.lg.kp hk (Ne.symm g1) (Ne.symm g1), k.rk.kp hk (Ne.symm g2) (Ne.symm g2) (Ne.symm g3) (Ne.symm g3), k.n1, k.n2, k.n3, k.n4, k.n5, k.sep, _, _, hx', .inl ⟨rfl, rfl⟩, .inl ⟨rfl, rfl⟩, fun j hj => by simp [Value.ownBlock] at hj, fun j hj => by simp [Value.ownBlock] at hj⟩, [x], Kf.of_kp hk (by simp) (by simp), fun a ha => ?_⟩
  simp at ha
  subst ha
  exact k.sep _ (by simp)
end Go.Proofs.Ytlbfdmiihnlljaa
