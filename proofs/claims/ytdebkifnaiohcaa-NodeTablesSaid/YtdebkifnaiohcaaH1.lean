import Derived.Test.YtdebkifnaiohcaaE9
import Derived.Test.YtdebkifnaiohcaaG7
import Derived.Test.YtdebkifnaiohcaaKJ
/- A transaction on a disk of a configuration; where a node stands. -/
namespace Go.Proofs.Ytdebkifnaiohcaa
set_option linter.unusedSimpArgs false
set_option linter.unusedVariables false
open Go.RowKit Go.Maps

/-- of the world nothing has turned but these blocks, and what was made -/
structure Kf (w w' : World) (L : List Nat) : Prop where
  os : w'.os = w.os
  tape : w'.tape = w.tape
  output : w'.output = w.output
  size : w.heap.size ≤ w'.heap.size
  block : ∀ k, k < w.heap.size → k ∉ L → w'.heap[k]? = w.heap[k]?
theorem Kf.refl (w : World) (L : List Nat) : Kf w w L := ⟨rfl, rfl, rfl, Nat.le_refl _, fun _ _ _ => rfl⟩
theorem Kf.trans {w1 w2 w3 : World} {L : List Nat} (h : Kf w1 w2 L) (k : Kf w2 w3 L) : Kf w1 w3 L :=
  ⟨k.os.trans h.os, k.tape.trans h.tape, k.output.trans h.output, Nat.le_trans h.size k.size, fun i hi h1 => (k.block i (Nat.lt_of_lt_of_le hi h.size) h1).trans (h.block i hi h1)⟩
theorem Kf.of_below {w w' : World} (h : Below w.heap.size w w') (L : List Nat) : Kf w w' L := ⟨h.os, h.tape, h.output, h.size, fun k hk _ => h.block k hk⟩
theorem Kf.of_kp {w w' : World} {a b : Nat} (h : Kp w w' a b) {L : List Nat} (ha : a ∈ L) (hb : b ∈ L) : Kf w w' L :=
  ⟨h.os, h.tape, h.output, h.size, fun k hk hn => h.block k hk (fun e => hn (e ▸ ha)) (fun e => hn (e ▸ hb))⟩
theorem Kf.below {w w' : World} {L : List Nat} {B : Nat} (h : Kf w w' L) (hL : ∀ a ∈ L, B ≤ a) (hB : B ≤ w.heap.size) : Below B w w' :=
  ⟨h.os, h.tape, h.output, h.size, fun k hk => h.block k (by omega) (fun hm => by have := hL k hm; omega)⟩
theorem Kf.cell {w w' : World} {L : List Nat} (h : Kf w w' L) {p : Addr} (hp : p.block < w.heap.size) (h1 : p.block ∉ L) : w'.cell? p = w.cell? p := World.cell?_of_block (w := w) (h.block p.block hp h1)
theorem Kf.frozen {w w' : World} {L : List Nat} (h : Kf w w' L) {p : Addr} (hp : p.block < w.heap.size) (h1 : p.block ∉ L) : w'.frozen? p = w.frozen? p := World.frozen?_of_block (w := w) (h.block p.block hp h1)
theorem Fl.kf {w w' : World} {L : List Nat} {g N : Nat} {f : Nat → Int} (h : Fl w g N f) (hb : Kf w w' L) (h1 : g ∉ L) : Fl w' g N f :=
  ⟨Nat.lt_of_lt_of_le h.lt hb.size, fun j hj => (hb.cell (p := ⟨g, j, none⟩) h.lt h1).trans (h.c j hj), fun j hj => (hb.frozen (p := ⟨g, j, none⟩) h.lt h1).trans (h.z j hj)⟩

theorem Vl.kf {w w' : World} {L : List Nat} {g : Nat} {cs : List Value} (h : Vl w g cs) (hb : Kf w w' L) (h1 : g ∉ L) : Vl w' g cs :=
  ⟨Nat.lt_of_lt_of_le h.lt hb.size, fun j v hj => (hb.cell (p := ⟨g, j, none⟩) h.lt h1).trans (h.c j v hj), fun j hj => (hb.frozen (p := ⟨g, j, none⟩) h.lt h1).trans (h.z j hj)⟩
/-- a disk that has been formatted, its log from block 1 on -/
def f0 : Nat → Int := upd (fun _ => 0) 64 64 (headF [])
def S0 (N r : Nat) : DS := ⟨N, f0, false, 0, false, r, 1⟩
theorem f0_byt (j : Nat) : 0 ≤ f0 j ∧ f0 j < 256 := by
  unfold f0 upd
  split
  · exact headF_byt _ _ (by omega)
  · exact ⟨Int.le_refl _, by show (0 : Int) < 256; decide⟩
theorem S0_sane (N r : Nat) : Sane (S0 N r) N (r + 1) :=
  ⟨rfl, by show (0 : Int) ≤ (r : Int); omega, by show (r : Int) ≤ ((r + 1 : Nat) : Int); omega, by show (0 : Int) ≤ 1; decide, by show (1 : Int) ≤ ((r + 1 : Nat) : Int); omega, (fun h => by cases h), (by show (0 : Int) < 9223372036854775808; decide), f0_byt⟩
theorem Sane.new (n : Nat) : Sane (DS.new n) n 0 := ⟨rfl, Int.le_refl _, Int.le_refl _, Int.le_refl _, Int.le_refl _, (fun h => by cases h), (by show (0 : Int) < 9223372036854775808; decide), fun j => ⟨Int.le_refl _, (by show (0 : Int) < 256; decide)⟩⟩
/-- block x, as it will be -/
def vw (T : TS) (x : Nat) : Nat → Int := (find T x).getD fun j => f0 (x * 64 + j)
theorem vw_zero {T : TS} {x : Nat} (hx : 2 ≤ x) (h : find T x = none) : vw T x = fun _ => 0 := by
  unfold vw
  rw [h]
  funext j
  show f0 (x * 64 + j) = 0
  unfold f0 upd
  rw [if_neg (by omega)]
/-- blocks of bytes alone -/
def TB (T : TS) : Prop := ∀ p ∈ T, Byt p.2
theorem vw_byt {T : TS} (h : TB T) (x : Nat) : Byt (vw T x) := by
  unfold vw
  cases hf : find T x with
  | none => exact fun j _ => f0_byt _
  | some f =>
    obtain ⟨p, hp, _, rfl⟩ := find_mem hf
    exact h p hp
theorem TB.put {T : TS} (h : TB T) (k : Nat) {f : Nat → Int} (hf : Byt f) : TB (put k f T) := by
  intro p hp
  rcases mem_put k f T p hp with rfl | hp
  · exact hf
  · exact h p hp
structure Rd (w : World) (t m d g N : Nat) (T : TS) (K : Nat) : Prop where
  tx : Tx w t m d 1 T 0
  dk : ∃ r, r ≤ K ∧ Dk w d g (S0 N r)
  n1 : t ≠ d
  n2 : t ≠ g
  n3 : m ≠ d
  n4 : m ≠ g
  tb : TB T
theorem Rd.mono {w : World} {t m d g N : Nat} {T : TS} {K K' : Nat} (h : Rd w t m d g N T K) (hk : K ≤ K') : Rd w t m d g N T K' := by
  obtain ⟨r, hr, hd⟩ := h.dk
  exact ⟨h.tx, ⟨r, by omega, hd⟩, h.n1, h.n2, h.n3, h.n4, h.tb⟩
theorem Rd.lts {w : World} {t m d g N : Nat} {T : TS} {K : Nat} (h : Rd w t m d g N T K) : t < w.heap.size ∧ m < w.heap.size ∧ d < w.heap.size ∧ g < w.heap.size := by
  obtain ⟨r, hr, hd⟩ := h.dk
  exact ⟨h.tx.lg.lt, h.tx.mp.lt, hd.lt, hd.fl.lt⟩
theorem Rd.keep {w w' : World} {t m d g N : Nat} {T : TS} {K : Nat} (h : Rd w t m d g N T K) (hb : Below w.heap.size w w') : Rd w' t m d g N T K := by
  obtain ⟨r, hr, hd⟩ := h.dk
  exact ⟨h.tx.keep hb, ⟨r, hr, hd.keep hb⟩, h.n1, h.n2, h.n3, h.n4, h.tb⟩
theorem Rd.kp {w w' : World} {a b t m d g N : Nat} {T : TS} {K : Nat} (h : Rd w t m d g N T K) (hb : Kp w w' a b) (ha : a ∉ [t, m, d, g]) (hb' : b ∉ [t, m, d, g]) : Rd w' t m d g N T K := by
  obtain ⟨r, hr, hd⟩ := h.dk
  simp only [List.mem_cons, List.not_mem_nil, or_false, not_or] at ha hb'
  exact ⟨h.tx.kp hb (by omega) (by omega) (by omega) (by omega), ⟨r, hr, hd.kp hb (by omega) (by omega) (by omega) (by omega)⟩, h.n1, h.n2, h.n3, h.n4, h.tb⟩
theorem Rd.notin {w : World} {t m d g N K p : Nat} {T : TS} (h : Rd w t m d g N T K) (hp : w.heap.size ≤ p) : p ∉ [t, m, d, g] := by
  obtain ⟨h1, h2, h3, h4⟩ := h.lts
  simp
  omega
theorem get6 (t m d g N K : Nat) (T : TS) (x : Nat) (hx : x < N) (hN : N ≤ 65536) (hK : K < 700000) (w : World) (h : Rd w t m d g N T K) :
    Calls Try.prog 36 #[.pointer (some ⟨t, 0, none⟩), .int .i64 x] w fun e w' => e = .returned (.tuple #[.agg (byts 64 (vw T x)).toArray, .int .i64 0]) ∧ Rd w' t m d g N T (K + 1) ∧ Kf w w' [t, m, d, g] := by
  obtain ⟨r, hr, hd⟩ := h.dk
  refine (get_any t m d g 1 N (r + 1) T 0 (S0 N r) x (by omega) (by omega) hN (by omega) (S0_sane N r) w h.tx hd h.n1 h.n2).mono ?_
  rintro e w' ⟨rfl, hd', hk⟩
  have hv : (getT (S0 N r) T x).1 = (vw T x, 0) ∧ ((getT (S0 N r) T x).2 = S0 N r ∨ (getT (S0 N r) T x).2 = S0 N (r + 1)) := by
    unfold getT vw
    cases hf : find T x with
    | none =>
      simp only [Option.elim_none, Option.getD_none]
      rw [if_pos ⟨by omega, by show (x : Int) < ((N : Nat) : Int); omega⟩]
      exact ⟨rfl, .inr (by simp [S0, DS.rdd])⟩
    | some f => exact ⟨rfl, .inl rfl⟩
  refine ⟨by rw [hv.1], ?_, Kf.of_kp hk (by simp) (by simp)⟩
  have hne := h.n1
  have hne2 := h.n2
  have hne3 := h.n3
  have hne4 := h.n4
  refine ⟨h.tx.kp hk (by omega) (by omega) (by omega) (by omega), ?_, h.n1, h.n2, h.n3, h.n4, h.tb⟩
  rcases hv.2 with e | e
  · exact ⟨r, by omega, by rwa [e] at hd'⟩
  · exact ⟨r + 1, by omega, by rwa [e] at hd'⟩
theorem put6 (t m d g N K : Nat) (T : TS) (x : Nat) (f : Nat → Int) (hf : Byt f) (hx0 : 32 ≤ x) (hx : x < N) (hN : N ≤ 65536) (hT : T.length < 30) (hK : K ≤ 700000) (w : World) (h : Rd w t m d g N T K) :
    Calls Try.prog 37 #[.pointer (some ⟨t, 0, none⟩), .int .i64 x, .agg (byts 64 f).toArray] w fun e w' => e = .returned (.int .i64 0) ∧ Rd w' t m d g N (put x f T) K ∧ Kf w w' [t, m, d, g] := by
  obtain ⟨r, hr, hd⟩ := h.dk
  have hm : mayB N 1 T x = 0 := by
    unfold mayB
    rw [if_neg (by rw [outB_nat]; simp; omega), if_neg (by omega)]
  have hp : putT N 1 x f T 0 = (0, put x f T, 0) := by
    unfold putT
    rw [if_pos hm, Int.toNat_natCast]
  have := put_any t m d g 1 N (r + 1) T 0 (S0 N r) x f (by omega) (by omega) (by omega) (by omega) hN (S0_sane N r) w h.tx hd (by omega)
  rw [hp] at this
  refine this.mono ?_
  rintro e w' ⟨rfl, ht, hk⟩
  have hne := h.n1
  have hne2 := h.n2
  have hne3 := h.n3
  have hne4 := h.n4
  exact ⟨rfl, ⟨ht, ⟨r, hr, hd.kp hk (by omega) (by omega) (by omega) (by omega)⟩, h.n1, h.n2, h.n3, h.n4, h.tb.put x hf⟩, Kf.of_kp hk (by simp) (by simp)⟩
/-- all four of a transaction's blocks lie from B on -/
def From (B t m d g : Nat) : Prop := B ≤ t ∧ B ≤ m ∧ B ≤ d ∧ B ≤ g
theorem From.notin {B t m d g p : Nat} (h : From B t m d g) (hp : p < B) : p ∉ [t, m, d, g] := by
  obtain ⟨h1, h2, h3, h4⟩ := h
  simp
  omega
theorem Kf.after {B : Nat} {w0 w w' : World} {t m d g : Nat} (h : Kf w w' [t, m, d, g]) (hb : Below B w0 w) (hf : From B t m d g) (hB : B ≤ w.heap.size) : Below B w0 w' := by
  obtain ⟨h1, h2, h3, h4⟩ := hf
  refine hb.trans ⟨h.os, h.tape, h.output, h.size, fun k hk => h.block k (by omega) (by simp; omega)⟩
set_option maxHeartbeats 4000000 in
set_option maxRecDepth 100000 in
theorem begun_any (n : Nat) (vr vm vg : Value) (rs : List Cf.Rg) (ms : List (Int × Int)) (hs : ∀ r ∈ rs, Cf.Small r) (h0 : 0 < rs.length) (h64 : rs.length ≤ 64) (N : Nat) (hN : (Cf.layF rs).2 = N) (hN0 : 32 ≤ N) (hN1 : N ≤ 65536) (w : World) (h : Cf.CF n w vr vm vg rs ms) : Calls Try.prog 15 #[.pointer (some ⟨n + 3, 0, none⟩)] w fun e w' => ∃ t m d g l, e = .returned (.tuple #[.pointer (some ⟨d, 0, none⟩), .pointer (some ⟨l, 0, none⟩), .pointer (some ⟨t, 0, none⟩)]) ∧ From w.heap.size t m d g ∧ Rd w' t m d g N [] 0 ∧ Below w.heap.size w w' := by
  have HT := Lib.hid (Cf.total_any n vr vm vg rs ms hs h0 h64 w h)
  rw [hN] at HT
  clear h hs h64 h0 hN
  go_enter Try.func15, Try.ntmps15
  go_wp2_with fail
  refine HT.out.mono ?_
  rintro e wa ⟨rfl, hba⟩
  have HBa := Lib.hid hba
  clear hba HT
  have HN := Lib.hid (new_any N hN1 wa)
  go_wp2_with fail
  refine HN.out.mono ?_
  rintro e w1 ⟨d, g, rfl, hd, hg, hD, hb⟩
  have HD1 := Lib.hid hD
  have hda := HBa.out.size
  have HB1 := Lib.hid (HBa.out.trans (hb.mono hda))
  have hdl := hD.lt
  have hgl := hD.fl.lt
  clear hD hb HN HBa
  have HO := Lib.hid (open_in d g _ 1 (by show 1 + 31 ≤ N; omega) (by show N ≤ 65536; omega) w1 HD1.out)
  go_wp2_with fail
  refine HO.out.mono ?_
  rintro e w2 ⟨l, rfl, hl, hL, hb⟩
  have HL2 := Lib.hid hL
  have HD2 := Lib.hid (HD1.out.keep hb)
  have HB2 := Lib.hid (HB1.out.trans (hb.mono HB1.out.size))
  have h12 := hb.size
  clear hL hb HD1 HB1 HO
  have hS0 : Sane (DS.new N) N 0 := Sane.new N
  have HF := Lib.hid (format_any l d g 1 N 0 _ (by omega) hN1 (by decide) hS0 w2 HL2.out HD2.out (by omega) (by omega))
  have hw0 : (DS.new N).write 1 (headF []) = (0, S0 N 0) := by simp [DS.write, DS.new, S0, f0]
  rw [hw0] at HF
  clear hw0 hS0
  go_wp2_with fail
  refine HF.out.mono ?_
  rintro e w3 ⟨rfl, hD3, hk3⟩
  have HD3 := Lib.hid hD3
  have HL3 := Lib.hid (HL2.out.kp hk3 (by omega) (by omega))
  have HB3 := Lib.hid (HB2.out.trans (hk3.below (Nat.le_trans hda hd) (Nat.le_trans hda hg) HB2.out.size))
  have h23 := hk3.size
  clear hD3 hk3 HD2 HB2 HL2 HF
  go_wp2_with fail
  refine (begin_any l d 1 (by decide) w3 HL3.out).mono ?_
  rintro e w4 ⟨t, m, rfl, ht, hm, hT, hb⟩
  have HT4 := Lib.hid hT
  have HD4 := Lib.hid (HD3.out.keep hb)
  have HB4 := Lib.hid (HB3.out.trans (hb.mono HB3.out.size))
  clear hT hb HD3 HB3 HL3
  go_wp2_with fail
  refine bodyPost_ret (v := .tuple #[.pointer (some ⟨d, 0, none⟩), .pointer (some ⟨l, 0, none⟩), .pointer (some ⟨t, 0, none⟩)]) (by simp [results, Try.results15, go_sem]) rfl ⟨t, m, d, g, l, rfl, ⟨by omega, by omega, by omega, by omega⟩, ⟨HT4.out, ⟨0, Nat.le_refl _, HD4.out⟩, by omega, by omega, by omega, by omega, fun p hp => by cases hp⟩, HB4.out⟩

/-! ### where a node stands -/
def inP (g : Cf.Ge) (x : Int) : Prop := 1 ≤ x ∧ x ≤ g.nd
instance (g : Cf.Ge) (x : Int) : Decidable (inP g x) := inferInstanceAs (Decidable (1 ≤ x ∧ x ≤ g.nd))
set_option maxHeartbeats 4000000 in
theorem place_in (g : Cf.Ge) (x : Int) (hx : inP g x) (hb0 : 0 ≤ g.base) (hb1 : g.base < 100000) (hm0 : 0 ≤ g.bm) (hm1 : g.bm < 100000) (hn1 : g.nd ≤ 128) (w : World) : Calls Try.prog 19 #[g.val, .int .i64 x] w fun e w' => e = .returned (.tuple #[.int .i64 (g.base + g.bm + (x - 1) / 2), .int .i64 ((x - 1) % 2 * 32), .bool true]) ∧ Below w.heap.size w w' := by
  obtain ⟨bs, bm, tb, da, bl, nd⟩ := g
  obtain ⟨h1, h2⟩ := hx
  simp only [Cf.Ge.val] at *
  have hlo : 1 ≤ x := h1
  have hq : Int.tdiv (x - 1) 2 = (x - 1) / 2 := Int.tdiv_eq_ediv_of_nonneg (by omega)
  have hr : Int.tmod (x - 1) 2 = (x - 1) % 2 := Int.tmod_eq_emod_of_nonneg (by omega)
  go_enter Try.func19, Try.ntmps19
  go_wp2_with fail
  refine bodyPost_ret (v := .tuple #[.int .i64 (bs + bm + (x - 1) / 2), .int .i64 ((x - 1) % 2 * 32), .bool true]) (by simp [results, Try.results19, go_sem]) rfl ⟨rfl, (Below.refl _ _).alloc (Nat.le_refl _) _⟩
set_option maxHeartbeats 4000000 in
theorem place_out (g : Cf.Ge) (x : Int) (hx : ¬ inP g x) (hn0 : 0 ≤ g.nd) (hn1 : g.nd ≤ 128) (w : World) : Calls Try.prog 19 #[g.val, .int .i64 x] w fun e w' => e = .returned (.tuple #[.int .i64 0, .int .i64 0, .bool false]) ∧ Below w.heap.size w w' := by
  obtain ⟨bs, bm, tb, da, bl, nd⟩ := g
  simp only [Cf.Ge.val] at *
  have hx' : ¬ (1 ≤ x ∧ x ≤ nd) := hx
  by_cases h1 : x < 1
  · clear hx hx'
    go_enter Try.func19, Try.ntmps19
    go_wp2_with fail
    refine bodyPost_ret (v := .tuple #[.int .i64 0, .int .i64 0, .bool false]) (by simp [results, Try.results19, go_sem]) rfl ⟨rfl, (Below.refl _ _).alloc (Nat.le_refl _) _⟩
  · have h2 : nd < x := by omega
    clear hx hx'
    go_enter Try.func19, Try.ntmps19
    go_wp2_with fail
    refine bodyPost_ret (v := .tuple #[.int .i64 0, .int .i64 0, .bool false]) (by simp [results, Try.results19, go_sem]) rfl ⟨rfl, (Below.refl _ _).alloc (Nat.le_refl _) _⟩
end Go.Proofs.Ytdebkifnaiohcaa
