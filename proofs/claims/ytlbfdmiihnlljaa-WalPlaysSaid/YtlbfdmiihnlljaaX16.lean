import Derived.Test.YtlbfdmiihnlljaaX15
import Derived.Test.YtlbfdmiihnlljaaOpen
/- WalPlays: its argument; what its loop holds. -/
namespace Go.Proofs.Ytlbfdmiihnlljaa
set_option linter.unusedSimpArgs false
set_option linter.unusedVariables false
open Go.RowKit Go.Maps Go.ChangeShapes Go.WideShapes Go.ChangeAt Go.Deep Go.Joins

set_option maxRecDepth 100000 in
theorem Try.cells47 : Try.prog.cellsOf 47 = 4 := by kernel_rfl
set_option maxRecDepth 100000 in
theorem Try.cells3 : Try.prog.cellsOf 3 = 1 := by kernel_rfl
set_option maxRecDepth 100000 in
theorem Try.cells4 : Try.prog.cellsOf 4 = 1 := by kernel_rfl
theorem take_one {L : List Value} {i : Nat} {v : Value} (h : (L.drop i).take 1 = [v]) : L[i]? = some v := by
  have := congrArg (·[0]?) h
  simpa [List.getElem?_take, List.getElem?_drop] using this
structure AC where
  kind : Int
  n : Int
  b : Int
  raw : Bool
structure ActAt (w : World) (b o : Nat) (x : AC) : Prop where
  lt : b < w.heap.size
  c0 : w.cell? ⟨b, o, none⟩ = some (.int .u8 x.kind)
  c1 : w.cell? ⟨b, o + 1, none⟩ = some (.int .i64 x.n)
  c2 : w.cell? ⟨b, o + 2, none⟩ = some (.int .u8 x.b)
  c3 : w.cell? ⟨b, o + 3, none⟩ = some (.bool x.raw)
  k0 : 0 ≤ x.kind ∧ x.kind < 256
  k1 : -9223372036854775808 ≤ x.n ∧ x.n < 9223372036854775808
  k2 : 0 ≤ x.b ∧ x.b < 256
theorem ActAt.below {w w' : World} {B b o : Nat} {x : AC} (h : ActAt w b o x) (hb : Below B w w') (hB : b < B) : ActAt w' b o x :=
  ⟨Nat.lt_of_lt_of_le h.lt hb.size, (hb.cell (p := ⟨b, o, none⟩) hB).trans h.c0, (hb.cell (p := ⟨b, o + 1, none⟩) hB).trans h.c1, (hb.cell (p := ⟨b, o + 2, none⟩) hB).trans h.c2, (hb.cell (p := ⟨b, o + 3, none⟩) hB).trans h.c3, h.k0, h.k1, h.k2⟩
/-- a slice of calls -/
def Acts (w : World) (v : Value) (n : Nat) : Prop := ∃ p c, v = .slice p n c ∧ n ≤ maxLen ∧ ∀ i, i < n → ∃ b o x, p = some ⟨b, o, none⟩ ∧ ActAt w b (o + i * 4) x

set_option maxRecDepth 100000 in
theorem open_acts {H : Type} {enc : TypeId × Value → H} {W : World} {b0 : Nat} {v : Value} {d : DataW H} {p : List MemPlace} (hv : Value.okWide Try.prog W .any b0 22 v)
    (h : DataW.Trod enc Try.prog W 0 (fun _ => true) true 22 v d p) : ∃ n, Acts W v n := by
  obtain ⟨a0, len, cap, rfl⟩ := okWide_slice Try.underlying22 hv
  obtain ⟨fuel, hf⟩ := h
  rcases open_slice Try.underlying22 hf with ⟨hcs, _⟩ | ⟨a, len', cap', m, n, D, Pl, hcs, hb, hl, hm, hmm, _, hx⟩
  · simp only [Value.cells, List.cons.injEq, and_true] at hcs
    injection hcs with h1 h2 h3
    subst h1 h2 h3
    exact ⟨0, none, 0, rfl, Nat.zero_le _, fun i hi => by omega⟩
  · simp only [Value.cells, List.cons.injEq, and_true] at hcs
    injection hcs with h1 h2 h3
    subst h1 h2 h3
    refine ⟨len, _, _, rfl, by omega, fun i hi => ?_⟩
    have hspot : a.spot = none := by
      obtain ⟨cs, hcs, ht⟩ := hx 0 (by rw [hmm]; split <;> omega)
      rw [Try.cells47] at hcs
      obtain ⟨-, hl4, hc⟩ := World.cells?_some hcs
      have h0 := hc 0 (by decide)
      rw [List.getElem?_eq_getElem (show 0 < cs.length by omega)] at h0
      have := World.cell?_spot h0
      rw [Nat.zero_mul] at this
      simpa [Addr.add] using this
    obtain ⟨ab, ao, asp⟩ := a
    simp only at hspot
    subst hspot
    have := hx i (by rw [hmm]; split <;> omega)
    obtain ⟨cs, hcs, ht⟩ := this
    rw [Try.cells47] at hcs
    obtain ⟨-, -, hc⟩ := World.cells?_some hcs
    obtain ⟨y0, y1, y2, y3, n', -, hl4, t0, t1, t2, t3⟩ := trod_struct4 Try.underlying47 ht
    simp only [Try.cells5, Try.cells3, Try.cells4] at t0 t1 t2 t3
    obtain ⟨z0, e0, -, w0⟩ := DataW.trod_int Try.underlying5 t0
    obtain ⟨z1, e1, -, w1⟩ := DataW.trod_int Try.underlying3 t1
    obtain ⟨z2, e2, -, w2⟩ := DataW.trod_int Try.underlying5 t2
    obtain ⟨z3, e3, -⟩ := DataW.trod_bool Try.underlying4 t3
    have g0 := take_one e0
    have g1 := take_one e1
    have g2 := take_one e2
    have g3 := take_one e3
    have b0' := bounds_u8 w0
    have b1' := bounds_i64 w1
    have b2' := bounds_u8 w2
    have h0 := hc 0 (by decide)
    have h1 := hc 1 (by decide)
    have h2 := hc 2 (by decide)
    have h3 := hc 3 (by decide)
    rw [g0] at h0
    rw [g1] at h1
    rw [g2] at h2
    rw [g3] at h3
    simp only [Addr.add_mid, Nat.add_zero] at h0 h1 h2 h3
    have hbl := World.block_lt_of_cell? W _ h0
    exact ⟨ab, ao, ⟨z0, z1, z2, z3⟩, rfl, hbl, h0, h1, h2, h3, ⟨b0'.1, Int.lt_of_le_of_lt b0'.2 (by decide)⟩, ⟨b1'.1, Int.lt_of_le_of_lt b1'.2 (by decide)⟩, ⟨b2'.1, Int.lt_of_le_of_lt b2'.2 (by decide)⟩⟩
/-- both halves; A: blocks that no call turns, as they are in Z -/
structure PP (w1 : World) (B : Nat) (A : List Nat) (Z : World) (t m e g q x l d h : Nat) (T : TS) (co : Int) (s : DS) (T' : TS) (co' : Int) (s' : DS) (w : World) : Prop where
  wc : WC w t m e g q T co s
  wr : WR w B (A ++ [t, m, e, g, q]) x l d h T' co' s'
  be : Below B w1 w
  hB : B ≤ w1.heap.size
  cb : ∀ a ∈ [t, m, e, g, q], B ≤ a
  ha : ∀ a ∈ A, a < w.heap.size ∧ a ∉ [t, m, e, g, q]
  ac : ∀ a ∈ A, w.heap[a]? = Z.heap[a]?
variable {w1 w w' Z : World} {B : Nat} {A : List Nat} {t m e g q x l d h : Nat} {T T' T2 : TS} {co co' co2 : Int} {s s' s2 : DS}
theorem PP.code (p : PP w1 B A Z t m e g q x l d h T co s T' co' s' w) (hc : WC w' t m e g q T2 co2 s2) (hk : Kf w w' [t, m, e, g, q]) : PP w1 B A Z t m e g q x l d h T2 co2 s2 T' co' s' w' :=
  ⟨hc, p.wr.kf hk (fun a ha => List.mem_append_right _ ha), hk.after p.be p.hB p.cb, p.hB, p.cb, fun a ha => ⟨Nat.lt_of_lt_of_le (p.ha a ha).1 hk.size, (p.ha a ha).2⟩, fun a ha => (hk.block a (p.ha a ha).1 (p.ha a ha).2).trans (p.ac a ha)⟩
theorem PP.ans (p : PP w1 B A Z t m e g q x l d h T co s T' co' s' w) (hc : WR w' B (A ++ [t, m, e, g, q]) x l d h T2 co2 s2 ∧ Kr w w' B (A ++ [t, m, e, g, q])) : PP w1 B A Z t m e g q x l d h T co s T2 co2 s2 w' := by
  obtain ⟨hr, hk⟩ := hc
  refine ⟨hk.wc p.wc (fun a ha => List.mem_append_right _ ha), hr, hk.after p.be p.hB, p.hB, p.cb, fun a ha => ⟨Nat.lt_of_lt_of_le (p.ha a ha).1 hk.size, (p.ha a ha).2⟩, fun a ha => ?_⟩
  obtain ⟨L, h1, h2⟩ := hk
  exact (h1.block a (p.ha a ha).1 (fun hm => (h2 a hm).1 (List.mem_append_left _ ha))).trans (p.ac a ha)
theorem PP.keep (p : PP w1 B A Z t m e g q x l d h T co s T' co' s' w) (hb : Below w.heap.size w w') : PP w1 B A Z t m e g q x l d h T co s T' co' s' w' :=
  p.code (p.wc.keep hb) (Kf.of_below hb _)
theorem PP.add (p : PP w1 B A Z t m e g q x l d h T co s T' co' s' w) (hb : Below w.heap.size w w') (a : Nat) (ha : w.heap.size ≤ a) (ha' : a < w'.heap.size) : PP w1 B (a :: A) w' t m e g q x l d h T co s T' co' s' w' := by
  have p' := p.keep hb
  refine ⟨p'.wc, (p.wr.widen a ha).keep hb, p'.be, p.hB, p.cb, fun b hm => ?_, fun b _ => rfl⟩
  rcases List.mem_cons.1 hm with rfl | hm
  · exact ⟨ha', fun hm => by have := p.wc.lts b hm; omega⟩
  · exact p'.ha b hm
theorem PP.less {a : Nat} (p : PP w1 B (a :: A) Z t m e g q x l d h T co s T' co' s' w) : PP w1 B A Z t m e g q x l d h T co s T' co' s' w :=
  ⟨p.wc, p.wr.narrow, p.be, p.hB, p.cb, fun b hm => p.ha b (List.mem_cons_of_mem _ hm), fun b hm => p.ac b (List.mem_cons_of_mem _ hm)⟩
theorem PP.cell (p : PP w1 B A Z t m e g q x l d h T co s T' co' s' w) {r : Addr} (hr : r.block ∈ A) : w.cell? r = Z.cell? r := World.cell?_of_block (w := Z) (p.ac _ hr)
theorem PP.frozen (p : PP w1 B A Z t m e g q x l d h T co s T' co' s' w) {r : Addr} (hr : r.block ∈ A) : w.frozen? r = Z.frozen? r := World.frozen?_of_block (w := Z) (p.ac _ hr)
theorem PP.fl (p : PP w1 B A Z t m e g q x l d h T co s T' co' s' w) {b N : Nat} {f : Nat → Int} (hb : b ∈ A) (hf : Fl Z b N f) : Fl w b N f :=
  ⟨(p.ha b hb).1, fun j hj => (p.cell (r := ⟨b, j, none⟩) hb).trans (hf.c j hj), fun j hj => (p.frozen (r := ⟨b, j, none⟩) hb).trans (hf.z j hj)⟩
theorem PP.hC (p : PP w1 B A Z t m e g q x l d h T co s T' co' s' w) : ∀ a ∈ A ++ [t, m, e, g, q], a < w.heap.size := by
  intro a ha
  rcases List.mem_append.1 ha with ha | ha
  · exact (p.ha a ha).1
  · exact p.wc.lts a ha
theorem PP.hz (p : PP w1 B A Z t m e g q x l d h T co s T' co' s' w) : B ≤ w.heap.size := Nat.le_trans p.hB p.be.size
/-- between two acts: both stand alike -/
structure PL (w1 : World) (B : Nat) (t m e g q x l d h K : Nat) (w : World) : Prop where
  ex : ∃ T co s s', PP w1 B [] w t m e g q x l d h T co s T co s' w ∧ Eqv s s' ∧ TG T co ∧ Sane s 80 K ∧ Sane s' 80 K
theorem PP.done {a K : Nat} (p : PP w1 B [a] Z t m e g q x l d h T co s T co s' w) (he : Eqv s s') (ht : TG T co) (h1 : Sane s 80 K) (h2 : Sane s' 80 K) : PL w1 B t m e g q x l d h K w := by
  have q := p.less
  exact ⟨T, co, s, s', ⟨q.wc, q.wr, q.be, q.hB, q.cb, (fun b hm => by cases hm), (fun b hm => by cases hm)⟩, he, ht, h1, h2⟩
theorem Sane.getT {K : Nat} (h : Sane s 80 K) (T : TS) (n : Int) : Sane (getT s T n).2 80 (K + 100) := by
  unfold Ytlbfdmiihnlljaa.getT
  cases find T n with
  | some f => exact h.mono (by omega)
  | none =>
    simp only [Option.elim_none]
    split
    · exact h.rdd.mono (by omega)
    · exact h.mono (by omega)
theorem Sane.arm {K : Nat} (h : Sane s 80 K) (y : Int) (h0 : 0 ≤ y) (h1 : y < 256) : Sane { s with ar := decide (0 ≤ y), lf := y } 80 (K + 100) :=
  have h := h.mono (Nat.le_add_right K 100)
  ⟨h.n, h.r0, h.r1, h.w0, h.w1, (fun _ => h0), (by show y < _; omega), h.byt⟩
theorem Sane.wake {K : Nat} (h : Sane s 80 K) : Sane { s with de := false, ar := false } 80 K := ⟨h.n, h.r0, h.r1, h.w0, h.w1, (fun h => by cases h), h.l1, h.byt⟩
/-- what the law looks at when an act is over -/
theorem PP.ends (p : PP w1 B A Z t m e g q x l d h T co s T co s' w) (he : Eqv s s') (hs : s.n = 80) : ∃ a cap vb, Rx w x l (.slice a T.length cap) vb T co ∧ w.cell? ⟨d, 0, none⟩ = some (.slice (some ⟨h, 0, none⟩) 80 80) ∧ w.cell? ⟨d, 2, none⟩ = some (.bool s.de) ∧ Fl w h (80 * 64) s.f ∧ Lg w l d 2 ∧ Tx w t m e 2 T co ∧ Dk w e g s := by
  obtain ⟨va, vb, hx, _⟩ := p.wr.ex
  obtain ⟨a, cap, rfl, _⟩ := hx.ns.form
  rw [keys_len] at hx
  have hn : s'.n = 80 := he.n ▸ hs
  have c0 := p.wr.rk.c0
  have c2 := p.wr.rk.c2
  have fl := p.wr.rk.fl
  rw [hn] at c0 fl
  rw [← he.de] at c2
  rw [← he.f] at fl
  exact ⟨a, cap, vb, hx, c0, c2, fl, p.wr.lg, p.wc.tx, p.wc.dk⟩
theorem Rx.made (w : World) (l : Nat) : Rx (w.alloc (.cells #[.pointer (some ⟨l, 0, none⟩), .slice none 0 0, .slice none 0 0, .int .i64 0] 45)) w.heap.size l (.slice none 0 0) (.slice none 0 0) [] 0 := by
  refine ⟨by simp, ?_, ?_, ?_, ?_, ?_, ?_, ?_, .inl ⟨none, 0, rfl, rfl⟩, .inl ⟨none, 0, rfl, rfl⟩⟩
  all_goals first | (rw [World.cell?_alloc_at _ _ _ _ rfl]; rfl) | simp
theorem wrap64_rng (x : Int) : -9223372036854775808 ≤ wrap64 x ∧ wrap64 x < 9223372036854775808 := by
  unfold wrap64
  omega
theorem PL.keep {K : Nat} (p : PL w1 B t m e g q x l d h K w) (hb : Below w.heap.size w w') : PL w1 B t m e g q x l d h K w' := by
  obtain ⟨T, co, s, s', hp, he, ht, h1, h2⟩ := p.ex
  have k := hp.keep hb
  exact ⟨T, co, s, s', ⟨k.wc, k.wr, k.be, k.hB, k.cb, (fun b hm => by cases hm), (fun b hm => by cases hm)⟩, he, ht, h1, h2⟩
end Go.Proofs.Ytlbfdmiihnlljaa
