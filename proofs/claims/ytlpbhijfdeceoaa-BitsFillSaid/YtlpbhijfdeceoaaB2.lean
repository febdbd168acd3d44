import Derived.Test.YtlpbhijfdeceoaaB1
import Derived.Test.YtlpbhijfdeceoaaE9
import Derived.Laws.ShiftsVarLaws
/- The map of bits: its short calls. -/
namespace Go.Proofs.Ytlpbhijfdeceoaa
set_option linter.unusedSimpArgs false
set_option linter.unusedVariables false
open Go.RowKit Go.Maps


/-- of the world nothing has turned but these blocks, and what was made -/
structure Kf (w w' : World) (L : List Nat) : Prop where
  os : w'.os = w.os
  tape : w'.tape = w.tape
  output : w'.output = w.output
  size : w.heap.size ≤ w'.heap.size
  block : ∀ k, k < w.heap.size → k ∉ L → w'.heap[k]? = w.heap[k]?
theorem Kf.refl (w : World) (L : List Nat) : Kf w w L := ⟨rfl, rfl, rfl, Nat.le_refl _, fun _ _ _ => rfl⟩
theorem Kf.trans {w1 w2 w3 : World} {L : List Nat} (h : Kf w1 w2 L) (k : Kf w2 w3 L) : Kf w1 w3 L :=
  ⟨k.os.trans h.os, k.tape.trans h.tape, k.output.trans h.output, Nat.le_trans h.size k.size, fun i hi h1 => (k.block i (Nat.lt_of_lt_of_le hi h.size) h1).trans (h.block i hi h1)⟩
theorem Kf.of_below {w w' : World} (h : Below w.heap.size w w') (L : List Nat) : Kf w w' L := ⟨h.os, h.tape, h.output, h.size, fun k hk _ => h.block k hk⟩
theorem Kf.of_kp {w w' : World} {a b : Nat} (h : Kp w w' a b) {L : List Nat} (ha : a ∈ L) (hb : b ∈ L) : Kf w w' L :=
  ⟨h.os, h.tape, h.output, h.size, fun k hk hn => h.block k hk (fun e => hn (e ▸ ha)) (fun e => hn (e ▸ hb))⟩
theorem Kf.below {w w' : World} {L : List Nat} {B : Nat} (h : Kf w w' L) (hL : ∀ a ∈ L, B ≤ a) (hB : B ≤ w.heap.size) : Below B w w' :=
  ⟨h.os, h.tape, h.output, h.size, fun k hk => h.block k (by omega) (fun hm => by have := hL k hm; omega)⟩
theorem Kf.cell {w w' : World} {L : List Nat} (h : Kf w w' L) {p : Addr} (hp : p.block < w.heap.size) (h1 : p.block ∉ L) : w'.cell? p = w.cell? p := World.cell?_of_block (w := w) (h.block p.block hp h1)
theorem Kf.frozen {w w' : World} {L : List Nat} (h : Kf w w' L) {p : Addr} (hp : p.block < w.heap.size) (h1 : p.block ∉ L) : w'.frozen? p = w.frozen? p := World.frozen?_of_block (w := w) (h.block p.block hp h1)
theorem Fl.kf {w w' : World} {L : List Nat} {g N : Nat} {f : Nat → Int} (h : Fl w g N f) (hb : Kf w w' L) (h1 : g ∉ L) : Fl w' g N f :=
  ⟨Nat.lt_of_lt_of_le h.lt hb.size, fun j hj => (hb.cell (p := ⟨g, j, none⟩) h.lt h1).trans (h.c j hj), fun j hj => (hb.frozen (p := ⟨g, j, none⟩) h.lt h1).trans (h.z j hj)⟩

/-- block p holds a map of n bits from block fi on, over transaction t -/
structure Mb (w : World) (p t fi n : Nat) : Prop where
  lt : p < w.heap.size
  c0 : w.cell? ⟨p, 0, none⟩ = some (.iface 26 (.pointer (some ⟨t, 0, none⟩)))
  c1 : w.cell? ⟨p, 1, none⟩ = some (.int .i64 fi)
  c2 : w.cell? ⟨p, 2, none⟩ = some (.int .i64 n)
theorem Mb.below {w w' : World} {B p t fi n : Nat} (h : Mb w p t fi n) (hb : Below B w w') (hl : p < B) : Mb w' p t fi n :=
  ⟨Nat.lt_of_lt_of_le h.lt hb.size, (hb.cell (p := ⟨p, 0, none⟩) hl).trans h.c0, (hb.cell (p := ⟨p, 1, none⟩) hl).trans h.c1, (hb.cell (p := ⟨p, 2, none⟩) hl).trans h.c2⟩
theorem Mb.keep {w w' : World} {p t fi n : Nat} (h : Mb w p t fi n) (hb : Below w.heap.size w w') : Mb w' p t fi n := h.below hb h.lt
theorem Mb.kf {w w' : World} {L : List Nat} {p t fi n : Nat} (h : Mb w p t fi n) (hb : Kf w w' L) (h1 : p ∉ L) : Mb w' p t fi n :=
  ⟨Nat.lt_of_lt_of_le h.lt hb.size, (hb.cell (p := ⟨p, 0, none⟩) h.lt h1).trans h.c0, (hb.cell (p := ⟨p, 1, none⟩) h.lt h1).trans h.c1, (hb.cell (p := ⟨p, 2, none⟩) h.lt h1).trans h.c2⟩

/-! ### what the transactions of these laws hold -/
/-- a disk that has been formatted -/
def f0 : Nat → Int := upd (fun _ => 0) 0 64 (headF [])
def S0 (r : Nat) : DS := ⟨40, f0, false, 0, false, r, 1⟩
theorem f0_byt (j : Nat) : 0 ≤ f0 j ∧ f0 j < 256 := by
  unfold f0 upd
  split
  · exact headF_byt _ _ (by omega)
  · exact ⟨Int.le_refl _, by show (0 : Int) < 256; decide⟩
theorem S0_sane (r : Nat) : Sane (S0 r) 40 (r + 1) :=
  ⟨rfl, by show (0 : Int) ≤ (r : Int); omega, by show (r : Int) ≤ ((r + 1 : Nat) : Int); omega, by show (0 : Int) ≤ 1; decide, by show (1 : Int) ≤ ((r + 1 : Nat) : Int); omega, (fun h => by cases h), (by show (0 : Int) < 9223372036854775808; decide), f0_byt⟩
/-- block x, as it will be -/
def vw (T : TS) (x : Nat) : Nat → Int := (find T x).getD fun j => f0 (x * 64 + j)
theorem vw_zero {T : TS} {x : Nat} (hx : 1 ≤ x) (h : find T x = none) : vw T x = fun _ => 0 := by
  unfold vw
  rw [h]
  funext j
  show f0 (x * 64 + j) = 0
  unfold f0 upd
  rw [if_neg (by omega)]
/-- blocks of bytes alone -/
def TB (T : TS) : Prop := ∀ p ∈ T, Byt p.2
theorem vw_byt {T : TS} (h : TB T) (x : Nat) : Byt (vw T x) := by
  unfold vw
  cases hf : find T x with
  | none => exact fun j _ => f0_byt _
  | some f =>
    obtain ⟨p, hp, _, rfl⟩ := find_mem hf
    exact h p hp
theorem TB.put {T : TS} (h : TB T) (k : Nat) {f : Nat → Int} (hf : Byt f) : TB (put k f T) := by
  intro p hp
  rcases mem_put k f T p hp with rfl | hp
  · exact hf
  · exact h p hp
structure Rd (w : World) (t m d g : Nat) (T : TS) (K : Nat) : Prop where
  tx : Tx w t m d 0 T 0
  dk : ∃ r, r ≤ K ∧ Dk w d g (S0 r)
  n1 : t ≠ d
  n2 : t ≠ g
  n3 : m ≠ d
  n4 : m ≠ g
  tb : TB T
theorem Rd.mono {w : World} {t m d g : Nat} {T : TS} {K K' : Nat} (h : Rd w t m d g T K) (hk : K ≤ K') : Rd w t m d g T K' := by
  obtain ⟨r, hr, hd⟩ := h.dk
  exact ⟨h.tx, ⟨r, by omega, hd⟩, h.n1, h.n2, h.n3, h.n4, h.tb⟩
theorem Rd.lts {w : World} {t m d g : Nat} {T : TS} {K : Nat} (h : Rd w t m d g T K) : t < w.heap.size ∧ m < w.heap.size ∧ d < w.heap.size ∧ g < w.heap.size := by
  obtain ⟨r, hr, hd⟩ := h.dk
  exact ⟨h.tx.lg.lt, h.tx.mp.lt, hd.lt, hd.fl.lt⟩
theorem Rd.keep {w w' : World} {t m d g : Nat} {T : TS} {K : Nat} (h : Rd w t m d g T K) (hb : Below w.heap.size w w') : Rd w' t m d g T K := by
  obtain ⟨r, hr, hd⟩ := h.dk
  exact ⟨h.tx.keep hb, ⟨r, hr, hd.keep hb⟩, h.n1, h.n2, h.n3, h.n4, h.tb⟩
theorem Rd.kp {w w' : World} {a b t m d g : Nat} {T : TS} {K : Nat} (h : Rd w t m d g T K) (hb : Kp w w' a b) (ha : a ∉ [t, m, d, g]) (hb' : b ∉ [t, m, d, g]) : Rd w' t m d g T K := by
  obtain ⟨r, hr, hd⟩ := h.dk
  simp only [List.mem_cons, List.not_mem_nil, or_false, not_or] at ha hb'
  exact ⟨h.tx.kp hb (by omega) (by omega) (by omega) (by omega), ⟨r, hr, hd.kp hb (by omega) (by omega) (by omega) (by omega)⟩, h.n1, h.n2, h.n3, h.n4, h.tb⟩
theorem Rd.below {w w' : World} {B t m d g : Nat} {T : TS} {K : Nat} (h : Rd w t m d g T K) (hb : Below B w w') (h1 : t < B) (h2 : m < B) (h3 : d < B) (h4 : g < B) : Rd w' t m d g T K := by
  obtain ⟨r, hr, hd⟩ := h.dk
  exact ⟨h.tx.below hb h1 h2, ⟨r, hr, hd.below hb h3 h4⟩, h.n1, h.n2, h.n3, h.n4, h.tb⟩
theorem get5 (t m d g K : Nat) (T : TS) (x : Nat) (hx : x < 40) (hK : K < 700000) (w : World) (h : Rd w t m d g T K) :
    Calls Try.prog 17 #[.pointer (some ⟨t, 0, none⟩), .int .i64 x] w fun e w' => e = .returned (.tuple #[.agg (byts 64 (vw T x)).toArray, .int .i64 0]) ∧ Rd w' t m d g T (K + 1) ∧ Kf w w' [t, m, d, g] := by
  obtain ⟨r, hr, hd⟩ := h.dk
  refine (get_any t m d g 0 40 (r + 1) T 0 (S0 r) x (by omega) (by omega) (by decide) (by omega) (S0_sane r) w h.tx hd h.n1 h.n2).mono ?_
  rintro e w' ⟨rfl, hd', hk⟩
  have hv : (getT (S0 r) T x).1 = (vw T x, 0) ∧ ((getT (S0 r) T x).2 = S0 r ∨ (getT (S0 r) T x).2 = S0 (r + 1)) := by
    unfold getT vw
    cases hf : find T x with
    | none =>
      simp only [Option.elim_none, Option.getD_none]
      rw [if_pos ⟨by omega, by show (x : Int) < ((40 : Nat) : Int); omega⟩]
      exact ⟨rfl, .inr (by simp [S0, DS.rdd])⟩
    | some f => exact ⟨rfl, .inl rfl⟩
  refine ⟨by rw [hv.1], ?_, Kf.of_kp hk (by simp) (by simp)⟩
  have hne := h.n1
  have hne2 := h.n2
  have hne3 := h.n3
  have hne4 := h.n4
  refine ⟨h.tx.kp hk (by omega) (by omega) (by omega) (by omega), ?_, h.n1, h.n2, h.n3, h.n4, h.tb⟩
  rcases hv.2 with e | e
  · exact ⟨r, by omega, by rwa [e] at hd'⟩
  · exact ⟨r + 1, by omega, by rwa [e] at hd'⟩
theorem get5_out (t m d g K : Nat) (T : TS) (x : Int) (hx : x < 0 ∨ 40 ≤ x) (hx0 : -9223372036854775808 ≤ x) (hx1 : x < 9223372036854775808) (hf : find T x = none) (hK : K < 700000) (w : World) (h : Rd w t m d g T K) :
    Calls Try.prog 17 #[.pointer (some ⟨t, 0, none⟩), .int .i64 x] w fun e w' => e = .returned (.tuple #[.agg (byts 64 fun _ => 0).toArray, .int .i64 27]) ∧ Rd w' t m d g T K ∧ Kf w w' [t, m, d, g] := by
  obtain ⟨r, hr, hd⟩ := h.dk
  refine (get_any t m d g 0 40 (r + 1) T 0 (S0 r) x hx0 hx1 (by decide) (by omega) (S0_sane r) w h.tx hd h.n1 h.n2).mono ?_
  rintro e w' ⟨rfl, hd', hk⟩
  have hv : getT (S0 r) T x = ((fun _ => 0, 27), S0 r) := by
    unfold getT
    rw [hf, Option.elim_none, if_neg (by show ¬ (0 ≤ x ∧ x < ((40 : Nat) : Int)); omega)]
  rw [hv] at hd' ⊢
  have hne := h.n1
  have hne2 := h.n2
  have hne3 := h.n3
  have hne4 := h.n4
  exact ⟨rfl, ⟨h.tx.kp hk (by omega) (by omega) (by omega) (by omega), ⟨r, hr, hd'⟩, h.n1, h.n2, h.n3, h.n4, h.tb⟩, Kf.of_kp hk (by simp) (by simp)⟩
theorem put5 (t m d g K : Nat) (T : TS) (x : Nat) (f : Nat → Int) (hf : Byt f) (hx0 : 31 ≤ x) (hx : x < 40) (hT : T.length < 30) (hK : K ≤ 700000) (w : World) (h : Rd w t m d g T K) :
    Calls Try.prog 20 #[.pointer (some ⟨t, 0, none⟩), .int .i64 x, .agg (byts 64 f).toArray] w fun e w' => e = .returned (.int .i64 0) ∧ Rd w' t m d g (put x f T) K ∧ Kf w w' [t, m, d, g] := by
  obtain ⟨r, hr, hd⟩ := h.dk
  have hm : mayB 40 0 T x = 0 := by
    unfold mayB
    rw [if_neg (by rw [outB_nat]; simp; omega), if_neg (by omega)]
  have hp : putT 40 0 x f T 0 = (0, put x f T, 0) := by
    unfold putT
    rw [if_pos hm, Int.toNat_natCast]
  have := put_any t m d g 0 40 (r + 1) T 0 (S0 r) x f (by omega) (by omega) (by omega) (by omega) (by decide) (S0_sane r) w h.tx hd (by omega)
  rw [hp] at this
  refine this.mono ?_
  rintro e w' ⟨rfl, ht, hk⟩
  have hne := h.n1
  have hne2 := h.n2
  have hne3 := h.n3
  have hne4 := h.n4
  exact ⟨rfl, ⟨ht, ⟨r, hr, hd.kp hk (by omega) (by omega) (by omega) (by omega)⟩, h.n1, h.n2, h.n3, h.n4, h.tb.put x hf⟩, Kf.of_kp hk (by simp) (by simp)⟩
end Go.Proofs.Ytlpbhijfdeceoaa
