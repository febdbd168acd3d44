import Derived.Test.YtnfadmifdncjoaaGreatEC
import Derived.Test.YtnfadmifdncjoaaGreatGB
import Derived.Test.YtnfadmifdncjoaaGreatKJ
/- A transaction on a disk of a configuration: the blocks behind the log, as they will be; where a node stands. -/
namespace Go.Proofs.YtnfadmifdncjoaaGreat
set_option linter.unusedSimpArgs false
set_option linter.unusedVariables false
open Go.RowKit Go.Maps

/-- of the world nothing has turned but these blocks, and what was made -/
structure Kf (w w' : World) (L : List Nat) : Prop where
  os : w'.os = w.os
  tape : w'.tape = w.tape
  output : w'.output = w.output
  size : w.heap.size ≤ w'.heap.size
  block : ∀ k, k < w.heap.size → k ∉ L → w'.heap[k]? = w.heap[k]?
theorem Kf.refl (w : World) (L : List Nat) : Kf w w L := ⟨rfl, rfl, rfl, Nat.le_refl _, fun _ _ _ => rfl⟩
theorem Kf.trans {w1 w2 w3 : World} {L : List Nat} (h : Kf w1 w2 L) (k : Kf w2 w3 L) : Kf w1 w3 L :=
  ⟨k.os.trans h.os, k.tape.trans h.tape, k.output.trans h.output, Nat.le_trans h.size k.size, fun i hi h1 => (k.block i (Nat.lt_of_lt_of_le hi h.size) h1).trans (h.block i hi h1)⟩
theorem Kf.of_below {w w' : World} (h : Below w.heap.size w w') (L : List Nat) : Kf w w' L := ⟨h.os, h.tape, h.output, h.size, fun k hk _ => h.block k hk⟩
theorem Kf.of_kp {w w' : World} {a b : Nat} (h : Kp w w' a b) {L : List Nat} (ha : a ∈ L) (hb : b ∈ L) : Kf w w' L :=
  ⟨h.os, h.tape, h.output, h.size, fun k hk hn => h.block k hk (fun e => hn (e ▸ ha)) (fun e => hn (e ▸ hb))⟩
theorem Kf.below {w w' : World} {L : List Nat} {B : Nat} (h : Kf w w' L) (hL : ∀ a ∈ L, B ≤ a) (hB : B ≤ w.heap.size) : Below B w w' :=
  ⟨h.os, h.tape, h.output, h.size, fun k hk => h.block k (by omega) (fun hm => by have := hL k hm; omega)⟩
theorem Kf.cell {w w' : World} {L : List Nat} (h : Kf w w' L) {p : Addr} (hp : p.block < w.heap.size) (h1 : p.block ∉ L) : w'.cell? p = w.cell? p := World.cell?_of_block (w := w) (h.block p.block hp h1)
theorem Kf.frozen {w w' : World} {L : List Nat} (h : Kf w w' L) {p : Addr} (hp : p.block < w.heap.size) (h1 : p.block ∉ L) : w'.frozen? p = w.frozen? p := World.frozen?_of_block (w := w) (h.block p.block hp h1)
theorem Fl.kf {w w' : World} {L : List Nat} {g N : Nat} {f : Nat → Int} (h : Fl w g N f) (hb : Kf w w' L) (h1 : g ∉ L) : Fl w' g N f :=
  ⟨Nat.lt_of_lt_of_le h.lt hb.size, fun j hj => (hb.cell (p := ⟨g, j, none⟩) h.lt h1).trans (h.c j hj), fun j hj => (hb.frozen (p := ⟨g, j, none⟩) h.lt h1).trans (h.z j hj)⟩

theorem Vl.kf {w w' : World} {L : List Nat} {g : Nat} {cs : List Value} (h : Vl w g cs) (hb : Kf w w' L) (h1 : g ∉ L) : Vl w' g cs :=
  ⟨Nat.lt_of_lt_of_le h.lt hb.size, fun j v hj => (hb.cell (p := ⟨g, j, none⟩) h.lt h1).trans (h.c j v hj), fun j hj => (hb.frozen (p := ⟨g, j, none⟩) h.lt h1).trans (h.z j hj)⟩
theorem Kf.low {w w1 w2 : World} {L : List Nat} {B : Nat} (h : Kf w w1 L) (hb : Below B w1 w2) (hB : w.heap.size ≤ B) : Kf w w2 L :=
  ⟨hb.os.trans h.os, hb.tape.trans h.tape, hb.output.trans h.output, Nat.le_trans h.size hb.size, fun k hk hn => (hb.block k (by omega)).trans (h.block k hk hn)⟩
theorem Kf.fresh {w w1 w2 : World} {L : List Nat} {b : Nat} (h : Kf w w1 L) (hk : Kp w1 w2 b b) (hb : w.heap.size ≤ b) : Kf w w2 L :=
  ⟨hk.os.trans h.os, hk.tape.trans h.tape, hk.output.trans h.output, Nat.le_trans h.size hk.size, fun k hk' hn => (hk.block k (Nat.lt_of_lt_of_le hk' h.size) (by omega) (by omega)).trans (h.block k hk' hn)⟩
theorem Kf.wide {w w' : World} {L L' : List Nat} (h : Kf w w' L) (hl : ∀ k ∈ L, k ∈ L') : Kf w w' L' := ⟨h.os, h.tape, h.output, h.size, fun k hk hn => h.block k hk (fun hm => hn (hl k hm))⟩
theorem find_cons (p : Nat × (Nat → Int)) (r : TS) (x : Int) : find (p :: r) x = if (p.1 : Int) = x then some p.2 else find r x := by
  unfold find
  rw [List.find?_cons]
  by_cases h : (p.1 : Int) = x <;> simp [h]
theorem find_put (k : Nat) (f : Nat → Int) (x : Int) : ∀ T : TS, find (put k f T) x = if (k : Int) = x then some f else find T x
  | [] => by
    unfold put
    rw [find_cons]
  | p :: r => by
    have ih := find_put k f x r
    unfold put
    split
    · rw [find_cons]
    · split
      · rename_i h
        rw [find_cons, find_cons]
        by_cases c : (k : Int) = x
        · rw [if_pos c, if_pos c]
        · rw [if_neg c, if_neg c, if_neg (by omega)]
      · rw [find_cons, find_cons, ih]
        by_cases c : (p.1 : Int) = x
        · rw [if_pos c, if_pos c, if_neg (by omega)]
        · rw [if_neg c, if_neg c]
/-- a block that is to be so -/
def vput (k : Nat) (f : Nat → Int) (Y : Nat → Nat → Int) : Nat → Nat → Int := fun x => if k = x then f else Y x
theorem over_put (k : Nat) (f : Nat → Int) (T : TS) (D : Nat → Nat → Int) : over (put k f T) D = vput k f (over T D) := by
  funext x
  unfold over vput
  rw [find_put]
  by_cases c : k = x
  · rw [if_pos (by omega), if_pos c]; rfl
  · rw [if_neg (by omega), if_neg c]
theorem vput_at (k : Nat) (f : Nat → Int) (Y : Nat → Nat → Int) : vput k f Y k = f := if_pos rfl
theorem vput_ne {k x : Nat} (f : Nat → Int) (Y : Nat → Nat → Int) (h : k ≠ x) : vput k f Y x = Y x := if_neg h
theorem Rise.put_len_le {k : Nat} {f : Nat → Int} {T : TS} (h : Rise T) : (put k f T).length ≤ T.length + 1 := by
  rw [put_len k f T h]
  split <;> omega
/-- which blocks may wait, and what the disk holds -/
structure Lm where
  l : List Nat
  D : Nat → Nat → Int
def Has (L : Lm) (x : Nat) : Prop := x ∈ L.l ∧ L.l.length ≤ 30
theorem Has.of {L : Lm} {x : Nat} (h : x ∈ L.l) (hl : L.l.length ≤ 30) : Has L x := ⟨h, hl⟩
def Lm.Le (a b : Lm) : Prop := (∀ x ∈ a.l, x ∈ b.l) ∧ a.D = b.D
theorem Lm.le_refl (L : Lm) : Lm.Le L L := ⟨fun _ h => h, rfl⟩
theorem Lm.nil_le (L : List Nat) (D : Nat → Nat → Int) : Lm.Le ⟨[], D⟩ ⟨L, D⟩ := ⟨(fun x h => by cases h), rfl⟩
theorem nodup_le : ∀ (A S : List Nat), A.Nodup → (∀ a ∈ A, a ∈ S) → A.length ≤ S.length
  | [], _, _, _ => Nat.zero_le _
  | a :: A, S, hn, hs => by
    have ha : a ∈ S := hs a (List.mem_cons_self ..)
    have hn' := List.nodup_cons.1 hn
    have := nodup_le A (S.erase a) hn'.2 (fun b hb => (List.mem_erase_of_ne (fun (e : b = a) => hn'.1 (by rw [← e]; exact hb))).2 (hs b (List.mem_cons_of_mem _ hb)))
    have hl := List.length_erase_of_mem ha
    have := List.length_pos_of_mem ha
    simp only [List.length_cons]
    omega
theorem Rise.nodup {T : TS} (h : Rise T) : (T.map (·.1)).Nodup := by
  unfold List.Nodup
  rw [List.pairwise_map]
  exact h.imp fun hab => Nat.ne_of_lt hab
theorem Rise.le {T : TS} (h : Rise T) {L : List Nat} (hs : ∀ p ∈ T, p.1 ∈ L) : T.length ≤ L.length := by
  have := nodup_le (T.map (·.1)) L h.nodup (fun a ha => by
    obtain ⟨p, hp, rfl⟩ := List.mem_map.1 ha
    exact hs p hp)
  simpa using this
theorem find_no {T : TS} {x : Nat} (h : (find T (x : Int)).isSome = false) : x ∉ T.map (·.1) := by
  intro hx
  obtain ⟨p, hp, he⟩ := List.mem_map.1 hx
  unfold find at h
  rw [Option.isSome_map, List.find?_isSome.2 ⟨p, hp, by simp [he]⟩] at h
  cases h
theorem Rise.lt {T : TS} (h : Rise T) {L : List Nat} (hs : ∀ p ∈ T, p.1 ∈ L) {x : Nat} (hx : x ∈ L) (hn : (find T (x : Int)).isSome = false) : T.length < L.length := by
  have := nodup_le (x :: T.map (·.1)) L (List.nodup_cons.2 ⟨find_no hn, h.nodup⟩) (fun a ha => by
    rcases List.mem_cons.1 ha with rfl | ha
    · exact hx
    · obtain ⟨p, hp, rfl⟩ := List.mem_map.1 ha
      exact hs p hp)
  simp at this
  omega
/-- transaction t (its map m) on disk d (its blocks g) of N blocks: block x will be Y x; no blocks wait but some of ln; K bounds what was counted -/
structure Rd (w : World) (t m d g N : Nat) (ln : Lm) (Y : Nat → Nat → Int) (K : Nat) : Prop where
  ex : ∃ (T : TS) (D : Nat → Nat → Int) (s : DS), Tx w t m d 1 T 0 ∧ Dk w d g s ∧ Sane s N K ∧ Awk s ∧ StA s N 1 D ∧ over T D = Y ∧ ((∀ p ∈ T, p.1 ∈ ln.l) ∧ D = ln.D ∧ ∀ x, Byt (ln.D x)) ∧ ∀ p ∈ T, Out N 1 p.1 ∧ Byt p.2
  n1 : t ≠ d
  n2 : t ≠ g
  n3 : m ≠ d
  n4 : m ≠ g
  vb : ∀ x, Byt (Y x)
  h32 : 32 ≤ N
  hN : N ≤ 65536
theorem Rd.mono2 {w : World} {t m d g N K K' : Nat} {ln ln' : Lm} {Y : Nat → Nat → Int} (h : Rd w t m d g N ln Y K) (hl : Lm.Le ln ln') (hk : K ≤ K') : Rd w t m d g N ln' Y K' := by
  obtain ⟨T, D, s, ht, hd, hs, ha, hA, hY, hl', hT⟩ := h.ex
  exact ⟨⟨T, D, s, ht, hd, hs.mono hk, ha, hA, hY, ⟨fun p hp => hl.1 _ (hl'.1 p hp), hl'.2.1.trans hl.2, fun x => hl.2 ▸ hl'.2.2 x⟩, hT⟩, h.n1, h.n2, h.n3, h.n4, h.vb, h.h32, h.hN⟩
theorem Rd.mono {w : World} {t m d g N K K' : Nat} {ln : Lm} {Y : Nat → Nat → Int} (h : Rd w t m d g N ln Y K) (hk : K ≤ K') : Rd w t m d g N ln Y K' := h.mono2 ⟨fun _ h => h, rfl⟩ hk
theorem Rd.wide {w : World} {t m d g N K : Nat} {ln ln' : Lm} {Y : Nat → Nat → Int} (h : Rd w t m d g N ln Y K) (hl : Lm.Le ln ln') : Rd w t m d g N ln' Y K := h.mono2 hl (Nat.le_refl _)
theorem Rd.lts {w : World} {t m d g N K : Nat} {ln : Lm} {Y : Nat → Nat → Int} (h : Rd w t m d g N ln Y K) : t < w.heap.size ∧ m < w.heap.size ∧ d < w.heap.size ∧ g < w.heap.size := by
  obtain ⟨T, D, s, ht, hd, hs, ha, hA, hY, hl', hT⟩ := h.ex
  exact ⟨ht.lg.lt, ht.mp.lt, hd.lt, hd.fl.lt⟩
theorem Rd.keep {w w' : World} {t m d g N K : Nat} {ln : Lm} {Y : Nat → Nat → Int} (h : Rd w t m d g N ln Y K) (hb : Below w.heap.size w w') : Rd w' t m d g N ln Y K := by
  obtain ⟨T, D, s, ht, hd, hs, ha, hA, hY, hl', hT⟩ := h.ex
  exact ⟨⟨T, D, s, ht.keep hb, hd.keep hb, hs, ha, hA, hY, hl', hT⟩, h.n1, h.n2, h.n3, h.n4, h.vb, h.h32, h.hN⟩
theorem Rd.low {w w' : World} {t m d g N K : Nat} {ln : Lm} {Y : Nat → Nat → Int} (h : Rd w t m d g N ln Y K) (hb : Below w.heap.size w w') : Rd w' t m d g N ln Y K := h.keep hb
theorem Rd.below {w w' : World} {B t m d g N K : Nat} {ln : Lm} {Y : Nat → Nat → Int} (h : Rd w t m d g N ln Y K) (hb : Below B w w') (h1 : t < B) (h2 : m < B) (h3 : d < B) (h4 : g < B) : Rd w' t m d g N ln Y K := by
  obtain ⟨T, D, s, ht, hd, hs, ha, hA, hY, hl', hT⟩ := h.ex
  exact ⟨⟨T, D, s, ht.below hb h1 h2, hd.below hb h3 h4, hs, ha, hA, hY, hl', hT⟩, h.n1, h.n2, h.n3, h.n4, h.vb, h.h32, h.hN⟩
theorem Rd.kp {w w' : World} {a b t m d g N K : Nat} {ln : Lm} {Y : Nat → Nat → Int} (h : Rd w t m d g N ln Y K) (hb : Kp w w' a b) (ha : a ∉ [t, m, d, g]) (hb' : b ∉ [t, m, d, g]) : Rd w' t m d g N ln Y K := by
  obtain ⟨T, D, s, ht, hd, hs, ha', hA, hY, hl', hT⟩ := h.ex
  simp only [List.mem_cons, List.not_mem_nil, or_false, not_or] at ha hb'
  exact ⟨⟨T, D, s, ht.kp hb (by omega) (by omega) (by omega) (by omega), hd.kp hb (by omega) (by omega) (by omega) (by omega), hs, ha', hA, hY, hl', hT⟩, h.n1, h.n2, h.n3, h.n4, h.vb, h.h32, h.hN⟩
theorem Rd.notin {w : World} {t m d g N K p : Nat} {ln : Lm} {Y : Nat → Nat → Int} (h : Rd w t m d g N ln Y K) (hp : w.heap.size ≤ p) : p ∉ [t, m, d, g] := by
  obtain ⟨h1, h2, h3, h4⟩ := h.lts
  simp
  omega
theorem nin4 {B t m d g b : Nat} (h1 : t < B) (h2 : m < B) (h3 : d < B) (h4 : g < B) (hb : B ≤ b) : b ∉ [t, m, d, g] := by
  simp
  omega
theorem upd_zero (n : Nat) (f : Nat → Int) (j : Nat) (hj : j < n) (z : Nat → Int) : upd z 0 n f j = f j := by
  unfold upd
  rw [if_pos (by omega), Nat.sub_zero]
theorem get6 {N : Nat} {ln : Lm} (t m d g K : Nat) (Y : Nat → Nat → Int) (x : Nat) (hx0 : 32 ≤ x) (hx : x < N) (hK : K < 700000000) (w : World) (h : Rd w t m d g N ln Y K) :
    Calls Tryz.prog 58 #[.pointer (some ⟨t, 0, none⟩), .int .i64 x] w fun e w' => e = .returned (.tuple #[.agg (byts 64 (Y x)).toArray, .int .i64 0]) ∧ Rd w' t m d g N ln Y (K + 1) ∧ Kf w w' [t, m, d, g] := by
  obtain ⟨T, D, s, ht, hd, hs, ha, hA, hY, hl, hT⟩ := h.ex
  have hNN := h.hN
  refine (get_any t m d g 1 N K T 0 s x (by omega) (by omega) h.hN (by omega) hs w ht hd h.n1 h.n2).mono ?_
  rintro e w' ⟨rfl, hd', hk⟩
  have hv : byts 64 (getT s T x).1.1 = byts 64 (Y x) ∧ (getT s T x).1.2 = 0 ∧ ((getT s T x).2 = s ∨ (getT s T x).2 = s.rdd) := by
    have hn := hA.n
    subst hY
    unfold getT over
    cases hf : find T (x : Int) with
    | none =>
      simp only [Option.elim_none, Option.getD_none]
      rw [if_pos ⟨by omega, by omega⟩]
      refine ⟨byts_congr fun i hi => ?_, rfl, .inr rfl⟩
      show s.f (Int.toNat (x : Int) * 64 + i) = _
      rw [Int.toNat_natCast]
      exact hA.out x ⟨hx, by omega⟩ i hi
    | some f => exact ⟨rfl, rfl, .inl rfl⟩
  have hne := h.n1
  have hne2 := h.n2
  have hne3 := h.n3
  have hne4 := h.n4
  refine ⟨by rw [hv.1, hv.2.1], ?_, Kf.of_kp hk (by simp) (by simp)⟩
  have ht' := ht.kp hk (by omega) (by omega) (by omega) (by omega)
  rcases hv.2.2 with e | e
  · rw [e] at hd'
    exact ⟨⟨T, D, s, ht', hd', hs.mono (by omega), ha, hA, hY, hl, hT⟩, h.n1, h.n2, h.n3, h.n4, h.vb, h.h32, h.hN⟩
  · rw [e] at hd'
    exact ⟨⟨T, D, s.rdd, ht', hd', hs.rdd, ⟨ha.1, ha.2⟩, hA.rdd, hY, hl, hT⟩, h.n1, h.n2, h.n3, h.n4, h.vb, h.h32, h.hN⟩
theorem put6 {N : Nat} {ln : Lm} (t m d g K : Nat) (Y : Nat → Nat → Int) (x : Nat) (f : Nat → Int) (hf : Byt f) (hx0 : 32 ≤ x) (hx : x < N) (hT : Has ln x) (w : World) (h : Rd w t m d g N ln Y K) :
    Calls Tryz.prog 53 #[.pointer (some ⟨t, 0, none⟩), .int .i64 x, .agg (byts 64 f).toArray] w fun e w' => e = .returned (.int .i64 0) ∧ Rd w' t m d g N ln (vput x f Y) K ∧ Kf w w' [t, m, d, g] := by
  obtain ⟨T, D, s, ht, hd, hs, ha, hA, hY, hl, hTT⟩ := h.ex
  have hNN := h.hN
  have hm : mayB N 1 T x = 0 := by
    unfold mayB
    rw [if_neg (by rw [outB_nat]; simp; omega), if_neg (fun hc => by have := Rise.lt ht.mp.2 hl.1 hT.1 hc.1; have := hT.2; omega)]
  have hp : putT N 1 x f T 0 = (0, put x f T, 0) := by
    unfold putT
    rw [if_pos hm, Int.toNat_natCast]
  have hle := Rise.le ht.mp.2 hl.1
  have hle2 := hT.2
  have := put_any t m d g 1 N K T 0 s x f (by omega) (by omega) (by omega) (by omega) h.hN hs w ht hd (by omega)
  rw [hp] at this
  refine this.mono ?_
  rintro e w' ⟨rfl, ht', hk⟩
  have hne := h.n1
  have hne2 := h.n2
  have hne3 := h.n3
  have hne4 := h.n4
  refine ⟨rfl, ⟨⟨put x f T, D, s, ht', hd.kp hk (by omega) (by omega) (by omega) (by omega), hs, ha, hA, by rw [over_put, hY], ⟨fun p hp' => ?_, hl.2⟩, fun p hp' => ?_⟩, h.n1, h.n2, h.n3, h.n4, fun y => ?_, h.h32, h.hN⟩, Kf.of_kp hk (by simp) (by simp)⟩
  · rcases mem_put x f T p hp' with rfl | hp'
    · exact hT.1
    · exact hl.1 p hp'
  · rcases mem_put x f T p hp' with rfl | hp'
    · exact ⟨⟨hx, by show ¬ (1 ≤ x ∧ x ≤ 1 + 30); omega⟩, hf⟩
    · exact hTT p hp'
  · unfold vput
    split
    · exact hf
    · exact h.vb y
theorem over_nil (D : Nat → Nat → Int) : over [] D = D := rfl
theorem commit7 {N : Nat} {ln : Lm} (t m d g K : Nat) (Y : Nat → Nat → Int) (hT : ln.l.length ≤ 30) (hK : K < 700000000) (w : World) (h : Rd w t m d g N ln Y K) :
    Calls Tryz.prog 22 #[.pointer (some ⟨t, 0, none⟩)] w fun e w' => e = .returned (.int .i64 0) ∧ Rd w' t m d g N ⟨[], Y⟩ Y (K + 92) ∧ Kf w w' [t, m, d, g] := by
  obtain ⟨T, D, s, ht, hd, hs, ha, hA, hY, hl, hTT⟩ := h.ex
  have h32 := h.h32
  have hle := Rise.le ht.mp.2 hl.1
  rcases commit_whole (fi := 1) ⟨ht.mp.2, by omega, fun p hp => (hTT p hp).1, fun p hp => (hTT p hp).2⟩ D (by omega) s hA with ⟨c1, c2, c3, c4⟩ | ⟨_, _, h'⟩
  · refine (commit_any t m d g 1 N K T 0 s (by omega) (fun p hp => ⟨(hTT p hp).1.1, (hTT p hp).2⟩) (by omega) h.hN (by omega) ⟨by decide, by decide⟩ hs w ht hd h.n1 h.n2 h.n3 h.n4).mono ?_
    rintro e w' ⟨rfl, ht', hd', w1, w2, k1, k2, k3⟩
    rw [c2] at ht'
    exact ⟨by rw [c1], ⟨⟨[], over T D, _, ht', hd', Sane.commit T 0 K s (by omega) (fun p hp => (hTT p hp).2) hs, c4 ha, c3, hY, ⟨(fun p hp => by cases hp), hY, fun x => h.vb x⟩, fun p hp => by cases hp⟩, h.n1, h.n2, h.n3, h.n4, h.vb, h.h32, h.hN⟩, ((Kf.of_kp k1 (by simp) (by simp)).trans (Kf.of_kp k2 (by simp) (by simp))).trans (Kf.of_kp k3 (by simp) (by simp))⟩
  · exact absurd ha h'
theorem begin8 {N : Nat} {ln : Lm} (l t m d g K : Nat) (Y : Nat → Nat → Int) (w : World) (h : Rd w t m d g N ln Y K) (hl : Lg w l d 1) :
    Calls Tryz.prog 12 #[.pointer (some ⟨l, 0, none⟩)] w fun e w' => ∃ t' m', e = .returned (.pointer (some ⟨t', 0, none⟩)) ∧ w.heap.size ≤ t' ∧ w.heap.size ≤ m' ∧ Rd w' t' m' d g N ⟨[], ln.D⟩ ln.D K ∧ Below w.heap.size w w' := by
  obtain ⟨T, D, s, ht, hd, hs, ha, hA, hY, hl', hTT⟩ := h.ex
  obtain ⟨-, rfl, hD⟩ := hl'
  refine (begin_any l d 1 (by decide) w hl).mono ?_
  rintro e w' ⟨t', m', rfl, ht1, hm1, hT', hb⟩
  obtain ⟨-, -, l3, l4⟩ := h.lts
  exact ⟨t', m', rfl, ht1, hm1, ⟨⟨[], _, s, hT', hd.keep hb, hs, ha, hA, rfl, ⟨(fun p hp => by cases hp), rfl, hD⟩, fun p hp => by cases hp⟩, by omega, by omega, by omega, by omega, hD, h.h32, h.hN⟩, hb⟩
theorem begin7 {N : Nat} (l t m d g K : Nat) (Y : Nat → Nat → Int) (w : World) (h : Rd w t m d g N ⟨[], Y⟩ Y K) (hl : Lg w l d 1) :
    Calls Tryz.prog 12 #[.pointer (some ⟨l, 0, none⟩)] w fun e w' => ∃ t' m', e = .returned (.pointer (some ⟨t', 0, none⟩)) ∧ w.heap.size ≤ t' ∧ w.heap.size ≤ m' ∧ Rd w' t' m' d g N ⟨[], Y⟩ Y K ∧ Below w.heap.size w w' := begin8 l t m d g K Y w h hl
/-- all four of a transaction's blocks lie from B on -/
def From (B t m d g : Nat) : Prop := B ≤ t ∧ B ≤ m ∧ B ≤ d ∧ B ≤ g
theorem From.notin {B t m d g p : Nat} (h : From B t m d g) (hp : p < B) : p ∉ [t, m, d, g] := by
  obtain ⟨h1, h2, h3, h4⟩ := h
  simp
  omega
theorem Kf.after {B : Nat} {w0 w w' : World} {t m d g : Nat} (h : Kf w w' [t, m, d, g]) (hb : Below B w0 w) (hf : From B t m d g) (hB : B ≤ w.heap.size) : Below B w0 w' := by
  obtain ⟨h1, h2, h3, h4⟩ := hf
  refine hb.trans ⟨h.os, h.tape, h.output, h.size, fun k hk => h.block k (by omega) (by simp; omega)⟩
/-- a disk that has been formatted, its log from block 1 on -/
def f0 : Nat → Int := upd (fun _ => 0) 64 64 (headF [])
def S0 (N r : Nat) : DS := ⟨N, f0, false, 0, false, r, 1⟩
theorem f0_byt (j : Nat) : 0 ≤ f0 j ∧ f0 j < 256 := by
  unfold f0 upd
  split
  · exact headF_byt _ _ (by omega)
  · exact ⟨Int.le_refl _, by show (0 : Int) < 256; decide⟩
theorem S0_sane (N r : Nat) : Sane (S0 N r) N (r + 1) :=
  ⟨rfl, by show (0 : Int) ≤ (r : Int); omega, by show (r : Int) ≤ ((r + 1 : Nat) : Int); omega, by show (0 : Int) ≤ 1; decide, by show (1 : Int) ≤ ((r + 1 : Nat) : Int); omega, (fun h => by cases h), (by show (0 : Int) < 9223372036854775808; decide), f0_byt⟩
theorem S0_sta (N r : Nat) : StA (S0 N r) N 1 (fun _ _ => 0) :=
  ⟨rfl, SB.upd_same _ 1 _, fun k hk i hi => by
    obtain ⟨h1, h2⟩ := hk
    show f0 (k * 64 + i) = 0
    unfold f0 upd
    rw [if_neg (by omega)]⟩
theorem Sane.new (n : Nat) : Sane (DS.new n) n 0 := ⟨rfl, Int.le_refl _, Int.le_refl _, Int.le_refl _, Int.le_refl _, (fun h => by cases h), (by show (0 : Int) < 9223372036854775808; decide), fun j => ⟨Int.le_refl _, (by show (0 : Int) < 256; decide)⟩⟩
set_option maxHeartbeats 4000000 in
set_option maxRecDepth 100000 in
theorem begun_any (n : Nat) (vr vm vg : Value) (rs : List Cf.Rg) (ms : List (Int × Int)) (hs : ∀ r ∈ rs, Cf.Small r) (h0 : 0 < rs.length) (h64 : rs.length ≤ 64) (N : Nat) (hN : (Cf.layF rs).2 = N) (hN0 : 32 ≤ N) (hN1 : N ≤ 65536) (w : World) (h : Cf.CF n w vr vm vg rs ms) : Calls Tryz.prog 9 #[.pointer (some ⟨n + 3, 0, none⟩)] w fun e w' => ∃ t m d g l, e = .returned (.tuple #[.pointer (some ⟨d, 0, none⟩), .pointer (some ⟨l, 0, none⟩), .pointer (some ⟨t, 0, none⟩)]) ∧ From w.heap.size t m d g ∧ w.heap.size ≤ l ∧ l ∉ [t, m, d, g] ∧ Lg w' l d 1 ∧ Rd w' t m d g N ⟨[], (fun _ _ => 0)⟩ (fun _ _ => 0) 1 ∧ Below w.heap.size w w' := by
  have HT := Lib.hid (Cf.total_any n vr vm vg rs ms hs h0 h64 w h)
  rw [hN] at HT
  clear h hs h64 h0 hN
  go_enter Tryz.func9, Tryz.ntmps9
  go_wp2_with fail
  refine HT.out.mono ?_
  rintro e wa ⟨rfl, hba⟩
  have HBa := Lib.hid hba
  clear hba HT
  have HN := Lib.hid (new_any N hN1 wa)
  go_wp2_with fail
  refine HN.out.mono ?_
  rintro e w1 ⟨d, g, rfl, hd, hg, hD, hb⟩
  have HD1 := Lib.hid hD
  have hda := HBa.out.size
  have HB1 := Lib.hid (HBa.out.trans (hb.mono hda))
  have hdl := hD.lt
  have hgl := hD.fl.lt
  clear hD hb HN HBa
  have HO := Lib.hid (open_in d g _ 1 (by show 1 + 31 ≤ N; omega) (by show N ≤ 65536; omega) w1 HD1.out)
  go_wp2_with fail
  refine HO.out.mono ?_
  rintro e w2 ⟨l, rfl, hl, hL, hb⟩
  have HL2 := Lib.hid hL
  have HD2 := Lib.hid (HD1.out.keep hb)
  have HB2 := Lib.hid (HB1.out.trans (hb.mono HB1.out.size))
  have h12 := hb.size
  clear hL hb HD1 HB1 HO
  have hS0 : Sane (DS.new N) N 0 := Sane.new N
  have HF := Lib.hid (format_any l d g 1 N 0 _ (by omega) hN1 (by decide) hS0 w2 HL2.out HD2.out (by omega) (by omega))
  have hw0 : (DS.new N).write 1 (headF []) = (0, S0 N 0) := by simp [DS.write, DS.new, S0, f0]
  rw [hw0] at HF
  clear hw0 hS0
  go_wp2_with fail
  refine HF.out.mono ?_
  rintro e w3 ⟨rfl, hD3, hk3⟩
  have HD3 := Lib.hid hD3
  have HL3 := Lib.hid (HL2.out.kp hk3 (by omega) (by omega))
  have HB3 := Lib.hid (HB2.out.trans (hk3.below (Nat.le_trans hda hd) (Nat.le_trans hda hg) HB2.out.size))
  have h23 := hk3.size
  have hl3 := HL3.out.lt
  clear hD3 hk3 HD2 HB2 HL2 HF
  go_wp2_with fail
  refine (begin_any l d 1 (by decide) w3 HL3.out).mono ?_
  rintro e w4 ⟨t, m, rfl, ht, hm, hT, hb⟩
  have HT4 := Lib.hid hT
  have HD4 := Lib.hid (HD3.out.keep hb)
  have HL4 := Lib.hid (HL3.out.keep hb)
  have HB4 := Lib.hid (HB3.out.trans (hb.mono HB3.out.size))
  clear hT hb HD3 HB3 HL3
  go_wp2_with fail
  refine bodyPost_ret (v := .tuple #[.pointer (some ⟨d, 0, none⟩), .pointer (some ⟨l, 0, none⟩), .pointer (some ⟨t, 0, none⟩)]) (by simp [results, Tryz.results9, go_sem]) rfl ⟨t, m, d, g, l, rfl, ⟨by omega, by omega, by omega, by omega⟩, by omega, (by simp; omega), HL4.out, ⟨⟨[], fun _ _ => 0, S0 N 0, HT4.out, HD4.out, S0_sane N 0, ⟨rfl, rfl⟩, S0_sta N 0, rfl, ⟨(fun p hp => by cases hp), rfl, fun x j hj => ⟨Int.le_refl _, (by show (0 : Int) < 256; decide)⟩⟩, fun p hp => by cases hp⟩, by omega, by omega, by omega, by omega, fun x j hj => ⟨Int.le_refl _, (by show (0 : Int) < 256; decide)⟩, hN0, hN1⟩, HB4.out⟩
/-! ### where a node stands -/
def inP (g : Cf.Ge) (x : Int) : Prop := 1 ≤ x ∧ x ≤ g.nd
instance (g : Cf.Ge) (x : Int) : Decidable (inP g x) := inferInstanceAs (Decidable (1 ≤ x ∧ x ≤ g.nd))
set_option maxHeartbeats 4000000 in
theorem place_in (g : Cf.Ge) (x : Int) (hx : inP g x) (hb0 : 0 ≤ g.base) (hb1 : g.base < 100000) (hm0 : 0 ≤ g.bm) (hm1 : g.bm < 100000) (hn1 : g.nd ≤ 128) (w : World) : Calls Tryz.prog 97 #[g.val, .int .i64 x] w fun e w' => e = .returned (.tuple #[.int .i64 (g.base + g.bm + (x - 1) / 2), .int .i64 ((x - 1) % 2 * 32), .bool true]) ∧ Below w.heap.size w w' := by
  obtain ⟨bs, bm, tb, da, bl, nd⟩ := g
  obtain ⟨h1, h2⟩ := hx
  simp only [Cf.Ge.val] at *
  have hlo : 1 ≤ x := h1
  have hq : Int.tdiv (x - 1) 2 = (x - 1) / 2 := Int.tdiv_eq_ediv_of_nonneg (by omega)
  have hr : Int.tmod (x - 1) 2 = (x - 1) % 2 := Int.tmod_eq_emod_of_nonneg (by omega)
  go_enter Tryz.func97, Tryz.ntmps97
  go_wp2_with fail
  refine bodyPost_ret (v := .tuple #[.int .i64 (bs + bm + (x - 1) / 2), .int .i64 ((x - 1) % 2 * 32), .bool true]) (by simp [results, Tryz.results97, go_sem]) rfl ⟨rfl, (Below.refl _ _).alloc (Nat.le_refl _) _⟩
set_option maxHeartbeats 4000000 in
theorem place_out (g : Cf.Ge) (x : Int) (hx : ¬ inP g x) (hn0 : 0 ≤ g.nd) (hn1 : g.nd ≤ 128) (w : World) : Calls Tryz.prog 97 #[g.val, .int .i64 x] w fun e w' => e = .returned (.tuple #[.int .i64 0, .int .i64 0, .bool false]) ∧ Below w.heap.size w w' := by
  obtain ⟨bs, bm, tb, da, bl, nd⟩ := g
  simp only [Cf.Ge.val] at *
  have hx' : ¬ (1 ≤ x ∧ x ≤ nd) := hx
  by_cases h1 : x < 1
  · clear hx hx'
    go_enter Tryz.func97, Tryz.ntmps97
    go_wp2_with fail
    refine bodyPost_ret (v := .tuple #[.int .i64 0, .int .i64 0, .bool false]) (by simp [results, Tryz.results97, go_sem]) rfl ⟨rfl, (Below.refl _ _).alloc (Nat.le_refl _) _⟩
  · have h2 : nd < x := by omega
    clear hx hx'
    go_enter Tryz.func97, Tryz.ntmps97
    go_wp2_with fail
    refine bodyPost_ret (v := .tuple #[.int .i64 0, .int .i64 0, .bool false]) (by simp [results, Tryz.results97, go_sem]) rfl ⟨rfl, (Below.refl _ _).alloc (Nat.le_refl _) _⟩
end Go.Proofs.YtnfadmifdncjoaaGreat
