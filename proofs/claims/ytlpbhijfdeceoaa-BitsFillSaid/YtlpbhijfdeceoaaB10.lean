import Derived.Test.YtlpbhijfdeceoaaB9
/- begun; Awake. -/
namespace Go.Proofs.Ytlpbhijfdeceoaa
set_option linter.unusedSimpArgs false
set_option linter.unusedVariables false
open Go.RowKit Go.Maps


theorem Sane.new (n : Nat) : Sane (DS.new n) n 0 := ⟨rfl, Int.le_refl _, Int.le_refl _, Int.le_refl _, Int.le_refl _, (fun h => by cases h), (by show (0 : Int) < 9223372036854775808; decide), fun j => ⟨Int.le_refl _, (by show (0 : Int) < 256; decide)⟩⟩
/-- all four of a transaction's blocks lie from B on -/
def From (B t m d g : Nat) : Prop := B ≤ t ∧ B ≤ m ∧ B ≤ d ∧ B ≤ g
set_option maxHeartbeats 4000000 in
set_option maxRecDepth 100000 in
theorem begun_any (w : World) : Calls Try.prog 9 #[.int .i64 40] w fun e w' => ∃ t m d g, e = .returned (.tuple #[.pointer (some ⟨d, 0, none⟩), .pointer (some ⟨t, 0, none⟩)]) ∧ From w.heap.size t m d g ∧ Rd w' t m d g [] 0 ∧ Below w.heap.size w w' := by
  have HN := Lib.hid (new_any 40 (by decide) w)
  go_enter Try.func9, Try.ntmps9
  go_wp2_with fail
  refine HN.out.mono ?_
  rintro e w1 ⟨d, g, rfl, hd, hg, hD, hb⟩
  have HD1 := Lib.hid hD
  have HB1 := Lib.hid hb
  have hdl := hD.lt
  have hgl := hD.fl.lt
  clear hD hb HN
  go_wp2_with fail
  refine (open_in d g _ 0 (by decide) (by decide) w1 HD1.out).mono ?_
  rintro e w2 ⟨l, rfl, hl, hL, hb⟩
  have HL2 := Lib.hid hL
  have HD2 := Lib.hid (HD1.out.keep hb)
  have HB2 := Lib.hid (HB1.out.trans (hb.mono HB1.out.size))
  have h12 := hb.size
  clear hL hb HD1 HB1
  have hS0 : Sane (DS.new 40) 40 0 := Sane.new 40
  go_wp2_with fail
  refine (format_any l d g 0 40 0 _ (by decide) (by decide) (by decide) hS0 w2 HL2.out HD2.out (by omega) (by omega)).mono ?_
  have hw0 : (DS.new 40).write 0 (headF []) = (0, S0 0) := by simp [DS.write, DS.new, S0, f0]
  rw [hw0]
  rintro e w3 ⟨rfl, hD3, hk3⟩
  have HD3 := Lib.hid hD3
  have HL3 := Lib.hid (HL2.out.kp hk3 (by omega) (by omega))
  have HB3 := Lib.hid (HB2.out.trans (hk3.below hd hg HB2.out.size))
  have h23 := hk3.size
  clear hD3 hk3 HD2 HB2 hw0 hS0 HL2
  go_wp2_with fail
  refine (begin_any l d 0 (by decide) w3 HL3.out).mono ?_
  rintro e w4 ⟨t, m, rfl, ht, hm, hT, hb⟩
  have HT4 := Lib.hid hT
  have HD4 := Lib.hid (HD3.out.keep hb)
  have HB4 := Lib.hid (HB3.out.trans (hb.mono HB3.out.size))
  clear hT hb HD3 HB3 HL3
  go_wp2_with fail
  refine bodyPost_ret (v := .tuple #[.pointer (some ⟨d, 0, none⟩), .pointer (some ⟨t, 0, none⟩)]) (by simp [results, Try.results9, go_sem]) rfl ⟨t, m, d, g, rfl, ⟨by omega, by omega, by omega, by omega⟩, ⟨HT4.out, ⟨0, Nat.le_refl _, HD4.out⟩, by omega, by omega, by omega, by omega, fun p hp => by cases hp⟩, HB4.out⟩
theorem From.notin {B t m d g p : Nat} (h : From B t m d g) (hp : p < B) : p ∉ [t, m, d, g] := by
  obtain ⟨h1, h2, h3, h4⟩ := h
  simp
  omega
theorem Rd.notin {w : World} {t m d g K p : Nat} {T : TS} (h : Rd w t m d g T K) (hp : w.heap.size ≤ p) : p ∉ [t, m, d, g] := by
  obtain ⟨h1, h2, h3, h4⟩ := h.lts
  simp
  omega
theorem Kf.after {w0 w w' : World} {t m d g : Nat} (h : Kf w w' [t, m, d, g]) (hb : Below w0.heap.size w0 w) (hf : From w0.heap.size t m d g) : Below w0.heap.size w0 w' := by
  obtain ⟨h1, h2, h3, h4⟩ := hf
  refine hb.trans ⟨h.os, h.tape, h.output, h.size, fun k hk => h.block k (Nat.lt_of_lt_of_le hk hb.size) (by simp; omega)⟩
/-- a row of cells that lie there -/
structure Li (w : World) (b : Nat) (vs : List Value) : Prop where
  lt : b < w.heap.size
  c : ∀ j v, vs[j]? = some v → w.cell? ⟨b, j, none⟩ = some v
theorem Li.kf {w w' : World} {b : Nat} {vs : List Value} {L : List Nat} (h : Li w b vs) (hk : Kf w w' L) (hn : b ∉ L) : Li w' b vs :=
  ⟨Nat.lt_of_lt_of_le h.lt hk.size, fun j v hj => (hk.cell (p := ⟨b, j, none⟩) h.lt hn).trans (h.c j v hj)⟩
theorem Li.new (w : World) (vs : Array Value) (ty : TypeId) : Li (w.alloc (.cells vs ty)) w.heap.size vs.toList :=
  ⟨by simp, fun j v hj => by rw [World.cell?_alloc_at _ _ _ _ rfl]; simpa using hj⟩
/-- the bits of the example -/
def ab (k j : Nat) : Bool := decide (j ∈ ([0, 1, 3] : List Nat).take k)
set_option maxHeartbeats 20000000 in
set_option maxRecDepth 100000 in
theorem awake_any (w : World) : Calls Try.prog 8 #[] w fun e w' => e = .returned (.bool true) ∧ Below w.heap.size w w' := by
  go_enter Try.func8, Try.ntmps8
  go_wp2_with fail
  refine (begun_any w).mono ?_
  rintro e w1 ⟨t, m, d, g, rfl, hFr, hR, hb⟩
  have HR1 := Lib.hid hR
  have HB1 := Lib.hid hb
  have HFr := Lib.hid hFr
  have hlts := hR.lts
  clear hR hb hFr
  go_wp2_with fail
  refine (new5 t 35 8 (by decide) (by decide) w1).mono ?_
  rintro e w2 ⟨p, rfl, hp, hM, hb⟩
  have HM2 := Lib.hid hM
  have HPn := Lib.hid (HR1.out.notin hp)
  have HR2 := Lib.hid (HR1.out.keep hb)
  have HB2 := Lib.hid (HB1.out.trans (hb.mono HB1.out.size))
  clear hM hb HR1 HB1
  go_wp2_with fail
  have HL2 := Lib.hid (Li.new w2 #[Value.int IntKind.i64 0, Value.int IntKind.i64 1, Value.int IntKind.i64 3] 3)
  have hb3 : Below w2.heap.size w2 (w2.alloc (Obj.cells #[Value.int IntKind.i64 0, Value.int IntKind.i64 1, Value.int IntKind.i64 3] 3)) := (Below.refl _ _).alloc (Nat.le_refl _) _
  have HM3 := Lib.hid (HM2.out.keep hb3)
  have HR3 := Lib.hid (HR2.out.keep hb3)
  have HB3 := Lib.hid (HB2.out.trans (hb3.mono HB2.out.size))
  have HBn := Lib.hid (HR2.out.notin (p := w2.heap.size) (Nat.le_refl _))
  obtain ⟨w3, hw3⟩ : ∃ x, w2.alloc (Obj.cells #[Value.int IntKind.i64 0, Value.int IntKind.i64 1, Value.int IntKind.i64 3] 3) = x := ⟨_, rfl⟩
  obtain ⟨b, hbq⟩ : ∃ b, w2.heap.size = b := ⟨_, rfl⟩
  rw [hw3] at HL2 HM3 HR3 HB3 ⊢
  rw [hbq] at HL2 HBn ⊢
  clear hw3 hb3 hbq HM2 HR2 HB2 hlts hp
  go_loopw [6, 22] (fun _ i wr => ∃ k : Nat, k ≤ 3 ∧ i = .int .i64 k ∧ Mb wr p t 35 8 ∧ (∃ T, Rd wr t m d g T k ∧ In T 35 1 ∧ ∀ j, j < 8 → bt T 35 j = ab k j) ∧ Li wr b [Value.int IntKind.i64 0, Value.int IntKind.i64 1, Value.int IntKind.i64 3] ∧ Below w.heap.size w wr) (fun _ i _ => 3 - (Go.RowKit.intOf i).toNat)
  case atStart => exact ⟨0, by decide, rfl, HM3.out, ⟨[], HR3.out, (fun p hp => by cases hp), (fun j hj => by rw [bt_nil 35 j (by decide)]; simp [ab])⟩, HL2.out, HB3.out⟩
  case round =>
    obtain ⟨k, hk, rfl, hM, ⟨T, hR, hIn, hA⟩, hL, hB⟩ := hrel
    have HM := Lib.hid hM
    have HR := Lib.hid hR
    have HIn := Lib.hid hIn
    have HA := Lib.hid hA
    have HL := Lib.hid hL
    have HB := Lib.hid hB
    clear hM hR hIn hA hL hB HM3 HR3 HL2 HB3
    have hkk : k = 0 ∨ k = 1 ∨ k = 2 ∨ k = 3 := by omega
    clear hk
    obtain ⟨wX, rfl⟩ : ∃ x, x = wr := ⟨wr, rfl⟩
    rcases hkk with hk0 | hk1 | hk2 | hk3
    · subst hk0
      have HS : Hid (∀ W, Mb W p t 35 8 → Rd W t m d g T 0 → Calls Try.prog 11 #[.pointer (some ⟨p, 0, none⟩), .int .i64 0, .bool true] W fun e w' => e = .returned (.int .i64 0) ∧ Rd w' t m d g (setT T 35 0 true) 1 ∧ Kf W w' [t, m, d, g]) := fun W h1 h2 => by
        exact set_any p t m d g 35 8 0 0 T true (by decide) (by decide) (by decide) (by decide) (by decide) (by have := In.len h2.tx.mp.2 HIn.out; omega) (by decide) W h1 h2 HPn.out
      have cx := HL.out.c 0 (.int .i64 0) rfl
      go_wp2_with fail
      clear cx
      refine (HS.out wX HM.out HR.out).mono ?_
      rintro e w5 ⟨rfl, hR5, hk5⟩
      have HR5 := Lib.hid hR5
      have HM5 := Lib.hid (HM.out.kf hk5 HPn.out)
      have HL5 := Lib.hid (HL.out.kf hk5 HBn.out)
      have HB5 := Lib.hid (hk5.after HB.out HFr.out)
      have HA5 : Hid (∀ j, j < 8 → bt (setT T 35 0 true) 35 j = ab 1 j) := fun j hj => by
        have := bt_set HR.out.tb 35 0 j true
        rw [show 35 + 0 / 512 = 35 from rfl] at this
        rw [this, HA.out j hj]
        have : j = 0 ∨ j = 1 ∨ j = 2 ∨ j = 3 ∨ j = 4 ∨ j = 5 ∨ j = 6 ∨ j = 7 := by omega
        rcases this with rfl | rfl | rfl | rfl | rfl | rfl | rfl | rfl <;> decide
      have HIn5 := Lib.hid (HIn.out.set 35 0 true (by decide) (by decide))
      clear hR5 hk5 HS HM HR HL HB HA HIn
      go_wp2_with fail
      go_roundw
      case rel => exact ⟨1, by decide, by go_num, HM5.out, ⟨_, HR5.out, HIn5.out, HA5.out⟩, HL5.out, HB5.out⟩
      case measure => simp [Go.RowKit.intOf]
    · subst hk1
      have HS : Hid (∀ W, Mb W p t 35 8 → Rd W t m d g T 1 → Calls Try.prog 11 #[.pointer (some ⟨p, 0, none⟩), .int .i64 1, .bool true] W fun e w' => e = .returned (.int .i64 0) ∧ Rd w' t m d g (setT T 35 1 true) 2 ∧ Kf W w' [t, m, d, g]) := fun W h1 h2 => by
        exact set_any p t m d g 35 8 1 1 T true (by decide) (by decide) (by decide) (by decide) (by decide) (by have := In.len h2.tx.mp.2 HIn.out; omega) (by decide) W h1 h2 HPn.out
      have cx := HL.out.c 1 (.int .i64 1) rfl
      go_wp2_with fail
      clear cx
      refine (HS.out wX HM.out HR.out).mono ?_
      rintro e w5 ⟨rfl, hR5, hk5⟩
      have HR5 := Lib.hid hR5
      have HM5 := Lib.hid (HM.out.kf hk5 HPn.out)
      have HL5 := Lib.hid (HL.out.kf hk5 HBn.out)
      have HB5 := Lib.hid (hk5.after HB.out HFr.out)
      have HA5 : Hid (∀ j, j < 8 → bt (setT T 35 1 true) 35 j = ab 2 j) := fun j hj => by
        have := bt_set HR.out.tb 35 1 j true
        rw [show 35 + 1 / 512 = 35 from rfl] at this
        rw [this, HA.out j hj]
        have : j = 0 ∨ j = 1 ∨ j = 2 ∨ j = 3 ∨ j = 4 ∨ j = 5 ∨ j = 6 ∨ j = 7 := by omega
        rcases this with rfl | rfl | rfl | rfl | rfl | rfl | rfl | rfl <;> decide
      have HIn5 := Lib.hid (HIn.out.set 35 1 true (by decide) (by decide))
      clear hR5 hk5 HS HM HR HL HB HA HIn
      go_wp2_with fail
      go_roundw
      case rel => exact ⟨2, by decide, by go_num, HM5.out, ⟨_, HR5.out, HIn5.out, HA5.out⟩, HL5.out, HB5.out⟩
      case measure => simp [Go.RowKit.intOf]
    · subst hk2
      have HS : Hid (∀ W, Mb W p t 35 8 → Rd W t m d g T 2 → Calls Try.prog 11 #[.pointer (some ⟨p, 0, none⟩), .int .i64 3, .bool true] W fun e w' => e = .returned (.int .i64 0) ∧ Rd w' t m d g (setT T 35 3 true) 3 ∧ Kf W w' [t, m, d, g]) := fun W h1 h2 => by
        exact set_any p t m d g 35 8 2 3 T true (by decide) (by decide) (by decide) (by decide) (by decide) (by have := In.len h2.tx.mp.2 HIn.out; omega) (by decide) W h1 h2 HPn.out
      have cx := HL.out.c 2 (.int .i64 3) rfl
      go_wp2_with fail
      clear cx
      refine (HS.out wX HM.out HR.out).mono ?_
      rintro e w5 ⟨rfl, hR5, hk5⟩
      have HR5 := Lib.hid hR5
      have HM5 := Lib.hid (HM.out.kf hk5 HPn.out)
      have HL5 := Lib.hid (HL.out.kf hk5 HBn.out)
      have HB5 := Lib.hid (hk5.after HB.out HFr.out)
      have HA5 : Hid (∀ j, j < 8 → bt (setT T 35 3 true) 35 j = ab 3 j) := fun j hj => by
        have := bt_set HR.out.tb 35 3 j true
        rw [show 35 + 3 / 512 = 35 from rfl] at this
        rw [this, HA.out j hj]
        have : j = 0 ∨ j = 1 ∨ j = 2 ∨ j = 3 ∨ j = 4 ∨ j = 5 ∨ j = 6 ∨ j = 7 := by omega
        rcases this with rfl | rfl | rfl | rfl | rfl | rfl | rfl | rfl <;> decide
      have HIn5 := Lib.hid (HIn.out.set 35 3 true (by decide) (by decide))
      clear hR5 hk5 HS HM HR HL HB HA HIn
      go_wp2_with fail
      go_roundw
      case rel => exact ⟨3, by decide, by go_num, HM5.out, ⟨_, HR5.out, HIn5.out, HA5.out⟩, HL5.out, HB5.out⟩
      case measure => simp [Go.RowKit.intOf]
    · subst hk3
      have HFa := Lib.hid (free_any p t m d g 35 8 3 T (by decide) (by decide) (fun i hi => by omega) (by decide) wX HM.out HR.out HPn.out)
      go_wp2_with fail
      refine HFa.out.mono ?_
      rintro e w5 ⟨v, rfl, hF, hR5, hk5⟩
      have hv : v = 2 := hF.uniq (.inr ⟨2, by decide, rfl, (by rw [HA.out 2 (by decide)]; decide), fun j hj => (by
        rw [HA.out j (by omega)]
        have : j = 0 ∨ j = 1 := by omega
        rcases this with rfl | rfl <;> decide)⟩)
      subst hv
      have HR5 := Lib.hid hR5
      have HM5 := Lib.hid (HM.out.kf hk5 HPn.out)
      have HB5 := Lib.hid (hk5.after HB.out HFr.out)
      clear hR5 hk5 HM HR HB HL HFa hF
      have HC : Hid (Calls Try.prog 15 #[.pointer (some ⟨p, 0, none⟩)] w5 fun e w' => e = .returned (.tuple #[.int .i64 3, .int .i64 0]) ∧ Rd w' t m d g T (3 + 200 + 200) ∧ Kf w5 w' [t, m, d, g]) := by
        have h := count_any p t m d g 35 8 203 T (by decide) (by decide) (fun i hi => by omega) (by decide) w5 HM5.out HR5.out HPn.out
        have hl : (setL (bt T 35) 8).length = 3 := by rw [setL_congr HA.out]; decide
        rw [hl] at h
        exact h
      go_wp2_with fail
      refine HC.out.mono ?_
      rintro e w6 ⟨rfl, hR6, hk6⟩
      have HB6 := Lib.hid (hk6.after HB5.out HFr.out)
      clear hR6 hk6 HC HB5
      go_wp2_with fail
      go_ret
      exact ⟨rfl, HB6.out⟩
end Go.Proofs.Ytlpbhijfdeceoaa
