import Derived.Test.YtdebkifnaiohcaaKC7
import Derived.Laws.MakeOwn
import Derived.Deep.RegionHeld
/- Where groups lie: lay. -/
/- What New answers, in plain words; the maps that it fills. -/
/- New. -/
/- Small sizes of configurations: names, labels. -/
/- A variable of a label's nine cells that is stored as a whole; a cell of an owned row that is set. -/
/- Size.Regs. -/

namespace Go.Proofs.Ytdebkifnaiohcaa.Cf
set_option linter.unusedSimpArgs false
set_option linter.unusedVariables false
open Go.RowKit Go.Maps

structure Ge where
  base : Int
  bm : Int
  tb : Int
  da : Int
  bl : Int
  nd : Int
def Ge.cells (g : Ge) : List Value := [.int .i64 g.base, .int .i64 g.bm, .int .i64 g.tb, .int .i64 g.da, .int .i64 g.bl, .int .i64 g.nd]
def geoAt (b : Int) (r : Rg) : Ge := ⟨b, ((r.bl + 7) / 8 + 63) / 64, (r.nd * 32 + 63) / 64, b + ((r.bl + 7) / 8 + 63) / 64 + (r.nd * 32 + 63) / 64, r.bl, r.nd⟩
def Ge.fin (g : Ge) : Int := g.da + g.bl
def layStep (a : List Ge × Int) (r : Rg) : List Ge × Int := (a.1 ++ [geoAt a.2 r], (geoAt a.2 r).fin)
def layF (rs : List Rg) : List Ge × Int := rs.foldl layStep ([], 32)
def flatG (gs : List Ge) : List Value := gs.flatMap Ge.cells
def Small (r : Rg) : Prop := 4 ≤ r.bl ∧ r.bl ≤ 512 ∧ 4 ≤ r.nd ∧ r.nd ≤ 128

theorem layF_take (rs : List Rg) (k : Nat) (h : k < rs.length) : layF (rs.take (k + 1)) = layStep (layF (rs.take k)) rs[k] := fold_take _ _ _ _ h
theorem layF_len (rs : List Rg) : ∀ k, k ≤ rs.length → (layF (rs.take k)).1.length = k
  | 0, _ => by simp [layF]
  | k + 1, h => by
    rw [layF_take rs k (by omega), layStep]
    simp only [List.length_append, List.length_singleton]
    rw [layF_len rs k (by omega)]
theorem layF_range (rs : List Rg) (hs : ∀ r ∈ rs, Small r) : ∀ k : Nat, k ≤ rs.length → 32 ≤ (layF (rs.take k)).2 ∧ (layF (rs.take k)).2 ≤ 32 + 600 * k
  | 0, _ => by simp [layF]
  | k + 1, h => by
    obtain ⟨h1, h2⟩ := layF_range rs hs k (by omega)
    obtain ⟨s1, s2, s3, s4⟩ := hs rs[k] (List.getElem_mem _)
    rw [layF_take rs k (by omega), layStep]
    simp only [geoAt, Ge.fin]
    omega

theorem blocks_any (n : Int) (w : World) (h0 : 0 ≤ n) (h1 : n < 1000000) : Calls Try.prog 54 #[.int .i64 n] w fun e w' => e = .returned (.int .i64 ((n + 63) / 64)) ∧ w' = w := by
  go_enter Try.func54, Try.ntmps54
  go_wp2
  go_ret
  exact ⟨ret_int (by congr 1; omega), rfl⟩
theorem end_any (b bm tb da bl nd : Int) (w : World) (h0 : 0 ≤ da) (h1 : da < 1000000) (h2 : 0 ≤ bl) (h3 : bl < 1000000) : Calls Try.prog 45 #[.agg #[.int .i64 b, .int .i64 bm, .int .i64 tb, .int .i64 da, .int .i64 bl, .int .i64 nd]] w fun e w' => e = .returned (.int .i64 (da + bl)) ∧ Below w.heap.size w w' := by
  go_enter Try.func45, Try.ntmps45
  go_wp2
  go_ret
  exact ⟨rfl, (Below.refl _ _).alloc (Nat.le_refl _) _⟩

set_option maxHeartbeats 2000000 in
set_option maxRecDepth 100000 in
theorem lay_some (b off cap : Nat) (rs : List Rg) (w : World) (hbl : b < w.heap.size) (hm : rs.length ≤ 64) (hs : ∀ r ∈ rs, Small r) (hr : Row9 w b off rs) :
    Calls Try.prog 42 #[.slice (some ⟨b, off, none⟩) rs.length cap] w fun e w' => ∃ v, e = .returned v ∧ w'.ownsRow w.heap.size 53 6 v rs.length (flatG (layF rs).1) ∧ Below w.heap.size w w' := by
  obtain ⟨i0, hi, hz0, hz1, hz2⟩ := info_parts Try.info69
  obtain ⟨W0, hmk, hown0, hg0⟩ := run_make_own (P := Try.prog) w w.heap.size 89 53 i0 _ 6 Try.underlying89 hi hz0 hz1 .i64 .i64 rs.length (by rw [hz2]; omega) (by unfold maxLen; omega) (Nat.le_refl _)
  have hb0 : Below w.heap.size w W0 := (Below.refl _ w).grown hg0 (Nat.le_refl _) (fun k hk => by cases hk)
  have HR := Lib.hid hr
  have HS := Lib.hid hs
  have HO := Lib.hid hown0
  clear hr hs hown0 hg0
  go_enter Try.func42, Try.ntmps42
  go_wp2
  go_loopw [3, 4, 13] (fun v bs i wr => ∃ k : Nat, k ≤ rs.length ∧ i = .int .i64 k ∧ bs = .int .i64 (layF (rs.take k)).2 ∧ wr.ownsRow w.heap.size 53 6 v k (flatG (layF (rs.take k)).1) ∧ Below w.heap.size w wr) (fun _ _ i _ => rs.length - (intOf i).toNat)
  case atStart => exact ⟨0, by omega, rfl, by simp [layF], by simpa [layF, flatG] using HO.out, hb0⟩
  case round =>
    obtain ⟨k, hk, rfl, rfl, hown, hb⟩ := hrel
    have HW := Lib.hid hown
    clear hown
    have hwz := hb.size
    by_cases hlt : k < rs.length
    · have HL := Lib.hid (layF_take rs k hlt)
      have e0 := (hb.cell (p := ⟨b, off + k * 9, none⟩) hbl).trans (HR.out.k0 k hlt)
      have e1 := (hb.cell (p := ⟨b, off + k * 9 + 1, none⟩) hbl).trans (HR.out.k1 k hlt)
      have e2 := (hb.cell (p := ⟨b, off + k * 9 + 2, none⟩) hbl).trans (HR.out.k2 k hlt)
      have e3 := (hb.cell (p := ⟨b, off + k * 9 + 3, none⟩) hbl).trans (HR.out.k3 k hlt)
      have e4 := (hb.cell (p := ⟨b, off + k * 9 + 4, none⟩) hbl).trans (HR.out.k4 k hlt)
      have e5 := (hb.cell (p := ⟨b, off + k * 9 + 5, none⟩) hbl).trans (HR.out.k5 k hlt)
      have e6 := (hb.cell (p := ⟨b, off + k * 9 + 6, none⟩) hbl).trans (HR.out.k6 k hlt)
      have e7 := (hb.cell (p := ⟨b, off + k * 9 + 7, none⟩) hbl).trans (HR.out.k7 k hlt)
      have e8 := (hb.cell (p := ⟨b, off + k * 9 + 8, none⟩) hbl).trans (HR.out.k8 k hlt)
      obtain ⟨r1, r2⟩ := layF_range rs HS.out k hk
      obtain ⟨s1, s2, s3, s4⟩ := HS.out rs[k] (List.getElem_mem _)
      generalize rs[k] = r at *
      obtain ⟨nm, lv, cs, bl, nd, fr, pr, op, cl⟩ := r
      obtain ⟨bs, hbs⟩ : ∃ x, (layF (rs.take k)).2 = x := ⟨_, rfl⟩
      rw [hbs] at r1 r2 ⊢
      have HBS := Lib.hid hbs
      clear hbs
      simp only at s1 s2 s3 s4 e0 e1 e2 e3 e4 e5 e6 e7 e8
      have hB := Lib.hid hb
      clear hb hmk HO hb0
      go_wp2_with fail
      refine (blocks_any _ _ (by omega) (by omega)).mono ?_
      rintro e w1 ⟨rfl, rfl⟩
      go_wp2_with fail
      refine (blocks_any _ _ (by omega) (by omega)).mono ?_
      rintro e w1 ⟨rfl, rfl⟩
      go_wp2_with fail
      obtain ⟨X, hX⟩ : ∃ x, ((bl + 7) / 8 + 63) / 64 = x := ⟨_, rfl⟩
      obtain ⟨Y, hY⟩ : ∃ x, (nd * 32 + 63) / 64 = x := ⟨_, rfl⟩
      have hX0 : 0 ≤ X ∧ X ≤ 2 := by omega
      have hY0 : 0 ≤ Y ∧ Y ≤ 70 := by omega
      have HG : Hid (geoAt bs ⟨nm, lv, cs, bl, nd, fr, pr, op, cl⟩ = ⟨bs, X, Y, bs + X + Y, bl, nd⟩) := by
        show geoAt _ _ = _
        simp only [geoAt, hX, hY]
      rw [hX, hY]
      clear hX hY
      refine (end_any bs X Y (bs + X + Y) bl nd _ (by omega) (by omega) (by omega) (by omega)).mono ?_
      rintro e w1 ⟨rfl, hb1⟩
      have hzw := hb1.size
      simp at hzw
      have hlt1 : wr.heap.size + 1 < w1.heap.size := by omega
      have g0 : w1.cell? ⟨wr.heap.size + 1, 0, none⟩ = some (.int .i64 bs) := (hb1.cell (p := ⟨wr.heap.size + 1, 0, none⟩) (by simp)).trans (by simp)
      have g1 : w1.cell? ⟨wr.heap.size + 1, 1, none⟩ = some (.int .i64 X) := (hb1.cell (p := ⟨wr.heap.size + 1, 1, none⟩) (by simp)).trans (by simp)
      have g2 : w1.cell? ⟨wr.heap.size + 1, 2, none⟩ = some (.int .i64 Y) := (hb1.cell (p := ⟨wr.heap.size + 1, 2, none⟩) (by simp)).trans (by simp)
      have g3 : w1.cell? ⟨wr.heap.size + 1, 3, none⟩ = some (.int .i64 (bs + X + Y)) := (hb1.cell (p := ⟨wr.heap.size + 1, 3, none⟩) (by simp)).trans (by simp)
      have g4 : w1.cell? ⟨wr.heap.size + 1, 4, none⟩ = some (.int .i64 bl) := (hb1.cell (p := ⟨wr.heap.size + 1, 4, none⟩) (by simp)).trans (by simp)
      have g5 : w1.cell? ⟨wr.heap.size + 1, 5, none⟩ = some (.int .i64 nd) := (hb1.cell (p := ⟨wr.heap.size + 1, 5, none⟩) (by simp)).trans (by simp)
      have hB01 : Below wr.heap.size wr w1 := (((Below.refl _ wr).alloc (Nat.le_refl _) _).alloc (by simp) _).trans (hb1.mono (by simp; omega))
      have HB1 := Lib.hid (hB.out.trans (hB01.mono hwz))
      have HO1 := Lib.hid (ownsRow_below HW.out hB01)
      clear hb1 hB01 e0 e1 e2 e3 e4 e5 e6 e7 e8 HW hB
      go_wp2_with (first | (at_builtin; refine wpList_append_own _ rfl _ _ 89 rfl w.heap.size 53 i0 _ 6 48 Try.underlying89 hi hz0 hz1 hz2 rfl (by decide) _ _ _ rfl (HO1.out.alloc _) ⟨w1.heap.size, 0, none⟩ 1 1 [.int .i64 bs, .int .i64 X, .int .i64 Y, .int .i64 (bs + X + Y), .int .i64 bl, .int .i64 nd] rfl rfl (cells_new w1 _ 53) (by simp [Value.oneCell']) (by unfold maxLen; omega) (by omega) (by simp; omega) ?_))
      intro v' w2 hown' hgrow _
      have hb2 := Lib.hid ((HB1.out.alloc (by omega) (.cells #[.int .i64 bs, .int .i64 X, .int .i64 Y, .int .i64 (bs + X + Y), .int .i64 bl, .int .i64 nd] 53)).grown hgrow (by simp; omega) (ownsRow_block HO1.out))
      have HO2 := Lib.hid hown'
      clear hown' hgrow HO1 HB1 g0 g1 g2 g3 g4 g5
      go_wp2
      go_roundw
      case rel =>
        refine ⟨k + 1, by omega, by go_num, ?_, ?_, hb2.out⟩
        · rw [HL.out, layStep, HBS.out, HG.out]; rfl
        · rw [HL.out, layStep, HBS.out, HG.out]
          simpa [flatG, Ge.cells] using HO2.out
      case measure => simp [intOf]; omega
    · obtain rfl : k = rs.length := by omega
      go_wp2
      go_ret
      refine ⟨_, rfl, ?_, hb⟩
      have := HW.out
      rwa [List.take_length] at this
end Go.Proofs.Ytdebkifnaiohcaa.Cf

namespace Go.Proofs.Ytdebkifnaiohcaa.Cf
set_option linter.unusedSimpArgs false
set_option linter.unusedVariables false
open Go.RowKit Go.Maps

def putAt (key : Rg → Lit) (a : DataW Unit × Nat) (r : Rg) : DataW Unit × Nat := (a.1.put (key r) (.lit (.int .i64 a.2)), a.2 + 1)
/-- a map filled with the places of a list's members -/
def gF (key : Rg → Lit) (rs : List Rg) : DataW Unit × Nat := rs.foldl (putAt key) (.map [], 0)
def gD (key : Rg → Lit) (rs : List Rg) : DataW Unit := (gF key rs).1
theorem gF_snd (key : Rg → Lit) : ∀ (rs : List Rg) (a : DataW Unit × Nat), (rs.foldl (putAt key) a).2 = a.2 + rs.length
  | [], a => by simp
  | r :: rs, a => by rw [List.foldl_cons, gF_snd key rs]; simp [putAt]; omega
theorem gD_snoc (key : Rg → Lit) (rs : List Rg) (r : Rg) : gD key (rs ++ [r]) = (gD key rs).put (key r) (.lit (.int .i64 rs.length)) := by
  unfold gD gF
  rw [List.foldl_append, List.foldl_cons, List.foldl_nil, putAt, gF_snd]
  simp
theorem gD_isMap (key : Rg → Lit) (rs : List Rg) : IsMap (gD key rs) := by
  have : ∀ (rs : List Rg) (a : DataW Unit × Nat), IsMap a.1 → IsMap (rs.foldl (putAt key) a).1 := by
    intro rs
    induction rs with
    | nil => intro a h; exact h
    | cons r rs ih => intro a h; rw [List.foldl_cons]; exact ih _ (h.put _ _)
  exact this rs _ isMap_empty
theorem list_snoc_rec {α : Type} {P : List α → Prop} (h0 : P []) (h1 : ∀ l a, P l → P (l ++ [a])) (l : List α) : P l := by
  have : ∀ n (l : List α), l.length = n → P l := by
    intro n
    induction n with
    | zero => intro l hl; obtain rfl := List.eq_nil_of_length_eq_zero hl; exact h0
    | succ n ih =>
      intro l hl
      have hne : l ≠ [] := by intro e; subst e; simp at hl
      rw [← List.dropLast_concat_getLast hne]
      exact h1 _ _ (ih _ (by simp [hl]))
  exact this _ l rfl
theorem gD_has (key : Rg → Lit) (hk : ∀ r, WideAt.IsKeyLit (key r)) (kl : Lit) (rs : List Rg) : Maps.has (gD key rs) kl = rs.any (fun r => (key r).sameKey kl) := by
  induction rs using list_snoc_rec with
  | h0 => rfl
  | h1 rs r ih =>
    rw [gD_snoc, List.any_append]
    by_cases e : key r = kl
    · subst e
      rw [has_put_same (gD_isMap key rs) (hk r)]
      simp [WideAt.sameKey_self (hk r)]
    · rw [has_put_other (fun h => e h.symm), ih]
      simp [sameKey_ne e]
theorem gD_at (key : Rg → Lit) (hk : ∀ r, WideAt.IsKeyLit (key r)) (rs : List Rg) (hd : ∀ i j (hi : i < rs.length) (hj : j < rs.length), key rs[i] = key rs[j] → i = j) (i : Nat) (hi : i < rs.length) : atI (gD key rs) (key rs[i]) = i := by
  induction rs using list_snoc_rec with
  | h0 => simp at hi
  | h1 rs r ih =>
    rw [gD_snoc]
    have hl : (rs ++ [r]).length = rs.length + 1 := by simp
    by_cases e : i = rs.length
    · subst e
      have : (rs ++ [r])[rs.length] = r := by simp
      rw [this]
      unfold atI
      rw [atKey_put_same (gD_isMap key rs) (hk r)]
    · have hi' : i < rs.length := by omega
      have e1 : (rs ++ [r])[i] = rs[i] := by rw [List.getElem_append_left hi']
      have e2 : (rs ++ [r])[rs.length]'(by omega) = r := by simp
      rw [e1]
      have hne : key rs[i] ≠ key r := by
        intro h
        have := hd i rs.length hi (by omega) (by rw [e1, e2]; exact h)
        omega
      have : atI ((gD key rs).put (key r) (.lit (.int .i64 rs.length))) (key rs[i]) = atI (gD key rs) (key rs[i]) := by
        unfold atI
        rw [atKey_put_other hne]
      rw [this]
      refine ih (fun a b ha hb h => hd a b (by omega) (by omega) ?_) hi'
      rw [List.getElem_append_left ha, List.getElem_append_left hb]
      exact h

/-- the mistake of the k-th label, as its own sentence says -/
def oneE (rs : List Rg) (k : Nat) : Int :=
  let r := rs.getD k zeroRg
  if nameB r.nm = false then 30 else if (haveB r && decide (0 ≤ r.cl) && decide (r.cl < rs.length)) = false then 27
  else if ((rs.take k).any fun x => decide (x.nm = r.nm) || (decide (x.lv = r.lv) && decide (x.cs = r.cs))) = true then 29 else 0
def regsE (rs : List Rg) : Nat → Int
  | 0 => 0
  | k + 1 => if regsE rs k = 0 then oneE rs k else regsE rs k
theorem regsE_bad (rs : List Rg) (k : Nat) (h : regsE rs k ≠ 0) : ∀ n, k ≤ n → regsE rs n = regsE rs k := by
  intro n hn
  induction n with
  | zero => obtain rfl : k = 0 := by omega
            rfl
  | succ n ih =>
    rcases Nat.lt_or_ge n k with h' | h'
    · obtain rfl : k = n + 1 := by omega
      rfl
    · rw [regsE, ih h', if_neg h]
def permB (rs : List Rg) : Nat → Bool
  | 0 => true
  | k + 1 => permB rs k && leqAt rs k (rs.getD k zeroRg).cl
theorem permB_bad (rs : List Rg) (k : Nat) (h : permB rs k = false) : ∀ n, k ≤ n → permB rs n = false := by
  intro n hn
  induction n with
  | zero => obtain rfl : k = 0 := by omega
            exact h
  | succ n ih =>
    rcases Nat.lt_or_ge n k with h' | h'
    · obtain rfl : k = n + 1 := by omega
      exact h
    · rw [permB, ih h']; rfl
def markOne (rs : List Rg) (ms : List (Int × Int)) (k : Nat) : Int :=
  let m := ms.getD k (0, 0)
  if ((regAt rs m.1).2 && decide (1 ≤ m.2) && decide (m.2 ≤ (regAt rs m.1).1.nd)) = false then 27 else if ((ms.take k).any fun x => decide (x.1 = m.1) && decide (x.2 = m.2)) = true then 29 else 0
def marksE (rs : List Rg) (ms : List (Int × Int)) : Nat → Int
  | 0 => 0
  | k + 1 => if marksE rs ms k = 0 then markOne rs ms k else marksE rs ms k
theorem marksE_bad (rs : List Rg) (ms : List (Int × Int)) (k : Nat) (h : marksE rs ms k ≠ 0) : ∀ n, k ≤ n → marksE rs ms n = marksE rs ms k := by
  intro n hn
  induction n with
  | zero => obtain rfl : k = 0 := by omega
            rfl
  | succ n ih =>
    rcases Nat.lt_or_ge n k with h' | h'
    · obtain rfl : k = n + 1 := by omega
      rfl
    · rw [marksE, ih h', if_neg h]
/-- New's error -/
def newE (rs : List Rg) (ms : List (Int × Int)) : Int :=
  if rs.length < 1 ∨ 64 < rs.length then 23
  else if regsE rs rs.length ≠ 0 then regsE rs rs.length
  else if (decide ((rs.getD 0 zeroRg).lv = 0) && decide ((rs.getD 0 zeroRg).cs = 0)) = false then 25
  else if permB rs rs.length = false then 2
  else marksE rs ms ms.length

theorem any_or2 {α : Type} (p q : α → Bool) : ∀ l : List α, (l.any p || l.any q) = l.any fun x => p x || q x
  | [] => rfl
  | x :: l => by
    rw [List.any_cons, List.any_cons, List.any_cons, ← any_or2 p q l]
    cases p x <;> cases q x <;> cases l.any p <;> rfl
def nmKey (r : Rg) : Lit := strKey r.nm
def lbKey (r : Rg) : Lit := labKey r.lv r.cs
theorem regE_one (rs : List Rg) (hok : ∀ r ∈ rs, r.ok) (k : Nat) (hk : k < rs.length) : regE (gD nmKey (rs.take k)) (gD lbKey (rs.take k)) rs.length rs[k] = oneE rs k := by
  unfold regE oneE
  have e : rs.getD k zeroRg = rs[k] := by rw [List.getD_eq_getElem?_getD, List.getElem?_eq_getElem hk]; rfl
  simp only [e]
  rw [gD_has nmKey (fun r => strKey_key _), gD_has lbKey (fun r => labKey_key _ _)]
  have e1 : (List.any (rs.take k) fun r => (nmKey r).sameKey (strKey rs[k].nm)) = (List.any (rs.take k) fun r => decide (r.nm = rs[k].nm)) := by
    apply List.any_congr rfl
    intro r
    rw [Bool.eq_iff_iff, WideAt.sameKey_iff (strKey_key _), decide_eq_true_iff]
    exact ⟨fun h => strKey_inj h, fun h => by unfold nmKey; rw [h]⟩
  have e2 : (List.any (rs.take k) fun r => (lbKey r).sameKey (labKey rs[k].lv rs[k].cs)) = (List.any (rs.take k) fun x => (decide (x.lv = rs[k].lv) && decide (x.cs = rs[k].cs))) := by
    rw [Bool.eq_iff_iff, List.any_eq_true, List.any_eq_true]
    have hkok := hok rs[k] (List.getElem_mem _)
    constructor
    · rintro ⟨x, hx, h⟩
      have hxok := hok x (List.mem_of_mem_take hx)
      obtain ⟨h1, h2⟩ := labKey_inj ⟨hxok.2.1, hxok.2.2.1⟩ ⟨hxok.2.2.2.1, hxok.2.2.2.2⟩ ⟨hkok.2.1, hkok.2.2.1⟩ ⟨hkok.2.2.2.1, hkok.2.2.2.2⟩ ((WideAt.sameKey_iff (labKey_key _ _)).1 h)
      exact ⟨x, hx, by simp [h1, h2]⟩
    · rintro ⟨x, hx, h⟩
      refine ⟨x, hx, ?_⟩
      simp only [Bool.and_eq_true, decide_eq_true_eq] at h
      rw [WideAt.sameKey_iff (labKey_key _ _)]
      unfold lbKey
      rw [h.1, h.2]
  rw [e1, e2, any_or2]
end Go.Proofs.Ytdebkifnaiohcaa.Cf

namespace Go.Proofs.Ytdebkifnaiohcaa.Cf
set_option linter.unusedSimpArgs false
set_option linter.unusedVariables false
open Go.RowKit Go.Maps

/-- a slice of marks -/
structure Row2 (w : World) (b off : Nat) (ms : List (Int × Int)) : Prop where
  k0 : ∀ i (h : i < ms.length), w.cell? ⟨b, off + i * 2, none⟩ = some (.int .u8 ms[i].1)
  k1 : ∀ i (h : i < ms.length), w.cell? ⟨b, off + i * 2 + 1, none⟩ = some (.int .u16 ms[i].2)
theorem Row2.below {w w' : World} {B b off : Nat} {ms : List (Int × Int)} (h : Row2 w b off ms) (hb : Below B w w') (hB : b < B) : Row2 w' b off ms :=
  ⟨fun i hi => (hb.cell (p := ⟨b, off + i * 2, none⟩) hB).trans (h.k0 i hi), fun i hi => (hb.cell (p := ⟨b, off + i * 2 + 1, none⟩) hB).trans (h.k1 i hi)⟩
def Mks (w : World) (v : Value) (ms : List (Int × Int)) : Prop :=
  (∃ a cap, v = .slice a 0 cap ∧ ms = []) ∨ ∃ b off cap, v = .slice (some ⟨b, off, none⟩) ms.length cap ∧ b < w.heap.size ∧ ms.length ≤ maxLen ∧ Row2 w b off ms
theorem Mks.below {w w' : World} {v : Value} {ms : List (Int × Int)} (h : Mks w v ms) (hb : Below w.heap.size w w') : Mks w' v ms := by
  rcases h with h | ⟨b, off, cap, hv, hl, hm, hr⟩
  · exact .inl h
  · exact .inr ⟨b, off, cap, hv, Nat.lt_of_lt_of_le hl hb.size, hm, hr.below hb hl⟩
theorem Mks.form {w : World} {v : Value} {ms : List (Int × Int)} (h : Mks w v ms) : ∃ a cap, v = .slice a ms.length cap := by
  rcases h with ⟨a, cap, rfl, rfl⟩ | ⟨b, off, cap, rfl, _⟩
  · exact ⟨a, cap, rfl⟩
  · exact ⟨_, cap, rfl⟩
theorem Mks.row {w : World} {v : Value} {ms : List (Int × Int)} (h : Mks w v ms) (h0 : 0 < ms.length) : ∃ b off cap, v = .slice (some ⟨b, off, none⟩) ms.length cap ∧ b < w.heap.size ∧ ms.length ≤ maxLen ∧ Row2 w b off ms := by
  rcases h with ⟨a, cap, rfl, rfl⟩ | h
  · exact absurd h0 (Nat.lt_irrefl _)
  · exact h
def markOk (m : Int × Int) : Prop := 0 ≤ m.1 ∧ m.1 < 256 ∧ 0 ≤ m.2 ∧ m.2 < 65536
/-- the set of marks, as a map -/
def tD (ms : List (Int × Int)) : DataW Unit := ms.foldl (fun D m => D.put (labKey m.1 m.2) (.agg [])) (.map [])
theorem tD_snoc (ms : List (Int × Int)) (m : Int × Int) : tD (ms ++ [m]) = (tD ms).put (labKey m.1 m.2) (.agg []) := by
  unfold tD; rw [List.foldl_append]; rfl
theorem tD_isMap (ms : List (Int × Int)) : IsMap (tD ms) := by
  induction ms using list_snoc_rec with
  | h0 => exact isMap_empty
  | h1 ms m ih => rw [tD_snoc]; exact ih.put _ _
theorem tD_has (kl : Lit) (ms : List (Int × Int)) : Maps.has (tD ms) kl = ms.any (fun m => (labKey m.1 m.2).sameKey kl) := by
  induction ms using list_snoc_rec with
  | h0 => rfl
  | h1 ms m ih =>
    rw [tD_snoc, List.any_append]
    by_cases e : labKey m.1 m.2 = kl
    · subst e
      rw [has_put_same (tD_isMap ms) (labKey_key _ _)]
      simp [WideAt.sameKey_self (labKey_key _ _)]
    · rw [has_put_other (fun h => e h.symm), ih]
      simp [sameKey_ne e]
theorem tD_has2 (a b : Int) (ms : List (Int × Int)) (hok : ∀ m ∈ ms, markOk m) (h : markOk (a, b)) : Maps.has (tD ms) (labKey a b) = ms.any (fun m => decide (m.1 = a) && decide (m.2 = b)) := by
  rw [tD_has, Bool.eq_iff_iff, List.any_eq_true, List.any_eq_true]
  constructor
  · rintro ⟨x, hx, h'⟩
    have hxok := hok x hx
    obtain ⟨h1, h2⟩ := labKey_inj ⟨hxok.1, hxok.2.1⟩ ⟨hxok.2.2.1, hxok.2.2.2⟩ ⟨h.1, h.2.1⟩ ⟨h.2.2.1, h.2.2.2⟩ ((WideAt.sameKey_iff (labKey_key _ _)).1 h')
    exact ⟨x, hx, by simp [h1, h2]⟩
  · rintro ⟨x, hx, h'⟩
    simp only [Bool.and_eq_true, decide_eq_true_eq] at h'
    refine ⟨x, hx, ?_⟩
    rw [WideAt.sameKey_iff (labKey_key _ _), h'.1, h'.2]
theorem markE_one (rs : List Rg) (ms : List (Int × Int)) (hok : ∀ m ∈ ms, markOk m) (k : Nat) (hk : k < ms.length) : markE rs (tD (ms.take k)) ms[k] = markOne rs ms k := by
  unfold markE markOne
  have e : ms.getD k (0, 0) = ms[k] := by rw [List.getD_eq_getElem?_getD, List.getElem?_eq_getElem hk]; rfl
  simp only [e]
  rw [tD_has2 ms[k].1 ms[k].2 _ (fun m hm => hok m (List.mem_of_mem_take hm)) (hok ms[k] (List.getElem_mem _))]
/-- a configuration as New leaves it -/
structure CF (n : Nat) (w : World) (vr vm vg : Value) (rs : List Rg) (ms : List (Int × Int)) : Prop where
  cb : CB n w vr vm vg
  row : w.ownsRow (n + 4) 105 9 vr rs.length (flatR rs)
  rm : w.ownsRow (n + 4) 109 2 vm ms.length (flatM ms)
  rg : w.ownsRow (n + 4) 53 6 vg rs.length (flatG (layF rs).1)
  mn : w.ownsMap Try.prog 9 (plainElem Try.prog 3) n rs.length (gD nmKey rs)
  ml : w.ownsMap Try.prog 103 (plainElem Try.prog 3) (n + 1) rs.length (gD lbKey rs)
  mt : w.ownsMap Try.prog 109 (unitElem (H := Unit)) (n + 2) ms.length (tD ms)
theorem CF.below {n : Nat} {w w' : World} {vr vm vg : Value} {rs : List Rg} {ms : List (Int × Int)} (h : CF n w vr vm vg rs ms) (hb : Below w.heap.size w w') : CF n w' vr vm vg rs ms := by
  have := h.cb.lt
  exact ⟨h.cb.below hb this, ownsRow_below h.row hb, ownsRow_below h.rm hb, ownsRow_below h.rg hb, ownsMap_below h.mn hb (by omega), ownsMap_below h.ml hb (by omega), ownsMap_below h.mt hb (by omega)⟩
/-- what New leaves -/
def NewPost (rs : List Rg) (ms : List (Int × Int)) (w : World) (e : Ending) (w' : World) : Prop :=
  (newE rs ms ≠ 0 → e = .returned (.tuple #[.pointer none, .int .i64 (newE rs ms)]) ∧ Below w.heap.size w w') ∧
  (newE rs ms = 0 → ∃ n vr vm vg, e = .returned (.tuple #[.pointer (some ⟨n + 3, 0, none⟩), .int .i64 0]) ∧ w.heap.size ≤ n ∧ Below w.heap.size w w' ∧ CF n w' vr vm vg rs ms)
theorem NewPost.bad {rs : List Rg} {ms : List (Int × Int)} {w w' : World} {e : Ending} (E : Int) (hE : newE rs ms = E) (h0 : E ≠ 0) (he : e = .returned (.tuple #[.pointer none, .int .i64 E])) (hb : Below w.heap.size w w') : NewPost rs ms w e w' := by
  subst hE
  exact ⟨fun _ => ⟨he, hb⟩, fun h => absurd h h0⟩
end Go.Proofs.Ytdebkifnaiohcaa.Cf

namespace Go.Proofs.Ytdebkifnaiohcaa.Cf
set_option linter.unusedSimpArgs false
set_option linter.unusedVariables false
open Go.RowKit Go.Maps

theorem wpAnyH_mono {P : Program} {md : Region.Mode} {ops : Array Oper} {Q : Exit → Act → World → Prop} {S S' : World → Prop} (h : ∀ w, S' w → S w) :
    ∀ (fuel : Nat) (listed : Array Bool) (a : Act) (w : World), wpAnyH P md ops Q S' fuel listed a w → wpAnyH P md ops Q S fuel listed a w
  | 0, _, _, _, hh => hh
  | fuel + 1, listed, a, w, hh => ⟨hh.1, fun i hi => wpOp_mono (fun a' w' h' => ⟨h w' h'.1, wpAnyH_mono h fuel _ a' w' h'.2⟩) (hh.2 i hi)⟩

def nmL (i : Nat) : ByteArray := if i = 0 then ⟨#[108, 111, 119]⟩ else if i = 1 then ⟨#[114, 101, 100]⟩ else if i = 2 then ⟨#[98, 108, 117, 101]⟩ else if i = 3 then ⟨#[116, 111, 112]⟩ else ⟨#[104, 105, 103, 104]⟩
def lvL (i : Nat) : Int := if i = 0 then 0 else if i = 1 then 1 else if i = 2 then 1 else if i = 3 then 2 else 9
def csL (i : Nat) : Int := if i = 0 then 0 else if i = 1 then 1 else if i = 2 then 2 else if i = 3 then 3 else 7

theorem lawnames_any (w : World) : Calls Try.prog 43 #[] w fun e w' => ∃ A, e = .returned (.slice (some ⟨A, 0, none⟩) 5 5) ∧ w.heap.size ≤ A ∧ A < w'.heap.size ∧ (∀ i, i < 5 → w'.cell? ⟨A, i, none⟩ = some (.string (nmL i))) ∧ Below w.heap.size w w' := by
  go_enter Try.func43, Try.ntmps43
  go_wp2
  go_ret
  refine ⟨w.heap.size, rfl, Nat.le_refl _, by simp, fun i hi => ?_, (Below.refl _ _).alloc (Nat.le_refl _) _⟩
  match i, hi with
  | 0, _ | 1, _ | 2, _ | 3, _ | 4, _ => simp [World.cell?_alloc_new, nmL]
theorem lawlabels_any (w : World) : Calls Try.prog 44 #[] w fun e w' => ∃ A, e = .returned (.slice (some ⟨A, 0, none⟩) 5 5) ∧ w.heap.size ≤ A ∧ A < w'.heap.size ∧ (∀ i, i < 5 → w'.cell? ⟨A, i * 2, none⟩ = some (.int .u8 (lvL i))) ∧ (∀ i, i < 5 → w'.cell? ⟨A, i * 2 + 1, none⟩ = some (.int .u16 (csL i))) ∧ Below w.heap.size w w' := by
  go_enter Try.func44, Try.ntmps44
  go_wp2
  go_ret
  refine ⟨w.heap.size, rfl, Nat.le_refl _, by simp, fun i hi => ?_, fun i hi => ?_, (Below.refl _ _).alloc (Nat.le_refl _) _⟩
  all_goals
    match i, hi with
    | 0, _ | 1, _ | 2, _ | 3, _ | 4, _ => simp [World.cell?_alloc_new, lvL, csL]

/-- what a size says of one label -/
def sizeRg (many : Nat) (H : Nat → Nat → Int) (i : Nat) : Rg :=
  ⟨nmL i, lvL i, csL i, 8 + H i 0 % 60, 8 + 2 * (H i 1 % 12), 4 + H i 2 % 40, 1 + H i 3 % 6, 2 + H i 4 % 14, if many = 2 then 1 else if many < 4 ∧ 0 < i then (i : Int) else (many : Int) - 1⟩
def sizeR0 (many : Nat) (H : Nat → Nat → Int) : List Rg := (List.range many).map (sizeRg many H)
/-- .. and of all of them -/
def sizeRs (many : Nat) (H : Nat → Nat → Int) : List Rg := if many = 3 then (sizeR0 many H).set 0 { sizeRg many H 0 with cl := 1 } else sizeR0 many H
def sizeMk (many : Nat) (x : Int) : Int × Int := (x % (many : Int), 4 + x / 8 % 4)
def sizeMStep (many : Nat) (a : List (Int × Int) × Nat) (x : Int) : List (Int × Int) × Nat :=
  (if 8 < a.2 ∨ sizeMk many x ∈ a.1 then a.1 else a.1 ++ [sizeMk many x], a.2 + 1)
def sizeMs (many : Nat) (ts : List Int) : List (Int × Int) := (ts.foldl (sizeMStep many) ([], 0)).1
end Go.Proofs.Ytdebkifnaiohcaa.Cf

namespace Go.Proofs.Ytdebkifnaiohcaa.Cf
set_option linter.unusedSimpArgs false
set_option linter.unusedVariables false
open Go.RowKit Go.Maps

/-- block g has nine cells that may be written -/
structure Free9 (w : World) (g : Nat) : Prop where
  lt : g < w.heap.size
  c0 : ∃ v, w.cell? ⟨g, 0, none⟩ = some v
  c1 : ∃ v, w.cell? ⟨g, 1, none⟩ = some v
  c2 : ∃ v, w.cell? ⟨g, 2, none⟩ = some v
  c3 : ∃ v, w.cell? ⟨g, 3, none⟩ = some v
  c4 : ∃ v, w.cell? ⟨g, 4, none⟩ = some v
  c5 : ∃ v, w.cell? ⟨g, 5, none⟩ = some v
  c6 : ∃ v, w.cell? ⟨g, 6, none⟩ = some v
  c7 : ∃ v, w.cell? ⟨g, 7, none⟩ = some v
  c8 : ∃ v, w.cell? ⟨g, 8, none⟩ = some v
  f0 : w.frozen? ⟨g, 0, none⟩ = false
  f1 : w.frozen? ⟨g, 1, none⟩ = false
  f2 : w.frozen? ⟨g, 2, none⟩ = false
  f3 : w.frozen? ⟨g, 3, none⟩ = false
  f4 : w.frozen? ⟨g, 4, none⟩ = false
  f5 : w.frozen? ⟨g, 5, none⟩ = false
  f6 : w.frozen? ⟨g, 6, none⟩ = false
  f7 : w.frozen? ⟨g, 7, none⟩ = false
  f8 : w.frozen? ⟨g, 8, none⟩ = false
theorem Free9.below {w w' : World} {B g : Nat} (h : Free9 w g) (hb : Below B w w') (hg : g < B) : Free9 w' g :=
  ⟨Nat.lt_of_lt_of_le h.lt hb.size, (by obtain ⟨v, hv⟩ := h.c0; exact ⟨v, (hb.cell (p := ⟨g, 0, none⟩) hg).trans hv⟩), (by obtain ⟨v, hv⟩ := h.c1; exact ⟨v, (hb.cell (p := ⟨g, 1, none⟩) hg).trans hv⟩), (by obtain ⟨v, hv⟩ := h.c2; exact ⟨v, (hb.cell (p := ⟨g, 2, none⟩) hg).trans hv⟩), (by obtain ⟨v, hv⟩ := h.c3; exact ⟨v, (hb.cell (p := ⟨g, 3, none⟩) hg).trans hv⟩), (by obtain ⟨v, hv⟩ := h.c4; exact ⟨v, (hb.cell (p := ⟨g, 4, none⟩) hg).trans hv⟩), (by obtain ⟨v, hv⟩ := h.c5; exact ⟨v, (hb.cell (p := ⟨g, 5, none⟩) hg).trans hv⟩), (by obtain ⟨v, hv⟩ := h.c6; exact ⟨v, (hb.cell (p := ⟨g, 6, none⟩) hg).trans hv⟩), (by obtain ⟨v, hv⟩ := h.c7; exact ⟨v, (hb.cell (p := ⟨g, 7, none⟩) hg).trans hv⟩), (by obtain ⟨v, hv⟩ := h.c8; exact ⟨v, (hb.cell (p := ⟨g, 8, none⟩) hg).trans hv⟩), (hb.frozen (p := ⟨g, 0, none⟩) hg).trans h.f0, (hb.frozen (p := ⟨g, 1, none⟩) hg).trans h.f1, (hb.frozen (p := ⟨g, 2, none⟩) hg).trans h.f2, (hb.frozen (p := ⟨g, 3, none⟩) hg).trans h.f3, (hb.frozen (p := ⟨g, 4, none⟩) hg).trans h.f4, (hb.frozen (p := ⟨g, 5, none⟩) hg).trans h.f5, (hb.frozen (p := ⟨g, 6, none⟩) hg).trans h.f6, (hb.frozen (p := ⟨g, 7, none⟩) hg).trans h.f7, (hb.frozen (p := ⟨g, 8, none⟩) hg).trans h.f8⟩
theorem Free9.new (w : World) (a0 a1 a2 a3 a4 a5 a6 a7 a8 : Value) (t : TypeId) : Free9 (w.alloc (.cells #[a0, a1, a2, a3, a4, a5, a6, a7, a8] t)) w.heap.size := by
  refine ⟨by simp, ⟨a0, ?_⟩, ⟨a1, ?_⟩, ⟨a2, ?_⟩, ⟨a3, ?_⟩, ⟨a4, ?_⟩, ⟨a5, ?_⟩, ⟨a6, ?_⟩, ⟨a7, ?_⟩, ⟨a8, ?_⟩, ?_, ?_, ?_, ?_, ?_, ?_, ?_, ?_, ?_⟩
  all_goals first | (simp [World.cell?_alloc_new]; done) | (simp; done)
/-- nine cells, stored one behind the other -/
def set9 (w : World) (g : Nat) (r : Rg) : World := (((((((((w.setCell ⟨g, 0, none⟩ (.string r.nm)).setCell ⟨g, 1, none⟩ (.int .u8 r.lv)).setCell ⟨g, 2, none⟩ (.int .u16 r.cs)).setCell ⟨g, 3, none⟩ (.int .i64 r.bl)).setCell ⟨g, 4, none⟩ (.int .i64 r.nd)).setCell ⟨g, 5, none⟩ (.int .i64 r.fr)).setCell ⟨g, 6, none⟩ (.int .i64 r.pr)).setCell ⟨g, 7, none⟩ (.int .i64 r.op)).setCell ⟨g, 8, none⟩ (.int .i64 r.cl))
theorem set9_box {w : World} {g : Nat} (h : Free9 w g) (r : Rg) : Box9 (set9 w g r) g r := by
  obtain ⟨lt, ⟨v0, c0⟩, ⟨v1, c1⟩, ⟨v2, c2⟩, ⟨v3, c3⟩, ⟨v4, c4⟩, ⟨v5, c5⟩, ⟨v6, c6⟩, ⟨v7, c7⟩, ⟨v8, c8⟩, -, -, -, -, -, -, -, -, -⟩ := h
  unfold set9
  refine ⟨by simp only [size_set]; exact lt, ?_, ?_, ?_, ?_, ?_, ?_, ?_, ?_, ?_⟩
  · rw [World.cell?_setCell_other _ _ _ _ (by simp)]; rw [World.cell?_setCell_other _ _ _ _ (by simp)]; rw [World.cell?_setCell_other _ _ _ _ (by simp)]; rw [World.cell?_setCell_other _ _ _ _ (by simp)]; rw [World.cell?_setCell_other _ _ _ _ (by simp)]; rw [World.cell?_setCell_other _ _ _ _ (by simp)]; rw [World.cell?_setCell_other _ _ _ _ (by simp)]; rw [World.cell?_setCell_other _ _ _ _ (by simp)]; exact World.cell?_setCell_same _ _ _ (show _ = some v0 from by exact c0)
  · rw [World.cell?_setCell_other _ _ _ _ (by simp)]; rw [World.cell?_setCell_other _ _ _ _ (by simp)]; rw [World.cell?_setCell_other _ _ _ _ (by simp)]; rw [World.cell?_setCell_other _ _ _ _ (by simp)]; rw [World.cell?_setCell_other _ _ _ _ (by simp)]; rw [World.cell?_setCell_other _ _ _ _ (by simp)]; rw [World.cell?_setCell_other _ _ _ _ (by simp)]; exact World.cell?_setCell_same _ _ _ (show _ = some v1 from by rw [World.cell?_setCell_other _ _ _ _ (by simp)]; exact c1)
  · rw [World.cell?_setCell_other _ _ _ _ (by simp)]; rw [World.cell?_setCell_other _ _ _ _ (by simp)]; rw [World.cell?_setCell_other _ _ _ _ (by simp)]; rw [World.cell?_setCell_other _ _ _ _ (by simp)]; rw [World.cell?_setCell_other _ _ _ _ (by simp)]; rw [World.cell?_setCell_other _ _ _ _ (by simp)]; exact World.cell?_setCell_same _ _ _ (show _ = some v2 from by rw [World.cell?_setCell_other _ _ _ _ (by simp)]; rw [World.cell?_setCell_other _ _ _ _ (by simp)]; exact c2)
  · rw [World.cell?_setCell_other _ _ _ _ (by simp)]; rw [World.cell?_setCell_other _ _ _ _ (by simp)]; rw [World.cell?_setCell_other _ _ _ _ (by simp)]; rw [World.cell?_setCell_other _ _ _ _ (by simp)]; rw [World.cell?_setCell_other _ _ _ _ (by simp)]; exact World.cell?_setCell_same _ _ _ (show _ = some v3 from by rw [World.cell?_setCell_other _ _ _ _ (by simp)]; rw [World.cell?_setCell_other _ _ _ _ (by simp)]; rw [World.cell?_setCell_other _ _ _ _ (by simp)]; exact c3)
  · rw [World.cell?_setCell_other _ _ _ _ (by simp)]; rw [World.cell?_setCell_other _ _ _ _ (by simp)]; rw [World.cell?_setCell_other _ _ _ _ (by simp)]; rw [World.cell?_setCell_other _ _ _ _ (by simp)]; exact World.cell?_setCell_same _ _ _ (show _ = some v4 from by rw [World.cell?_setCell_other _ _ _ _ (by simp)]; rw [World.cell?_setCell_other _ _ _ _ (by simp)]; rw [World.cell?_setCell_other _ _ _ _ (by simp)]; rw [World.cell?_setCell_other _ _ _ _ (by simp)]; exact c4)
  · rw [World.cell?_setCell_other _ _ _ _ (by simp)]; rw [World.cell?_setCell_other _ _ _ _ (by simp)]; rw [World.cell?_setCell_other _ _ _ _ (by simp)]; exact World.cell?_setCell_same _ _ _ (show _ = some v5 from by rw [World.cell?_setCell_other _ _ _ _ (by simp)]; rw [World.cell?_setCell_other _ _ _ _ (by simp)]; rw [World.cell?_setCell_other _ _ _ _ (by simp)]; rw [World.cell?_setCell_other _ _ _ _ (by simp)]; rw [World.cell?_setCell_other _ _ _ _ (by simp)]; exact c5)
  · rw [World.cell?_setCell_other _ _ _ _ (by simp)]; rw [World.cell?_setCell_other _ _ _ _ (by simp)]; exact World.cell?_setCell_same _ _ _ (show _ = some v6 from by rw [World.cell?_setCell_other _ _ _ _ (by simp)]; rw [World.cell?_setCell_other _ _ _ _ (by simp)]; rw [World.cell?_setCell_other _ _ _ _ (by simp)]; rw [World.cell?_setCell_other _ _ _ _ (by simp)]; rw [World.cell?_setCell_other _ _ _ _ (by simp)]; rw [World.cell?_setCell_other _ _ _ _ (by simp)]; exact c6)
  · rw [World.cell?_setCell_other _ _ _ _ (by simp)]; exact World.cell?_setCell_same _ _ _ (show _ = some v7 from by rw [World.cell?_setCell_other _ _ _ _ (by simp)]; rw [World.cell?_setCell_other _ _ _ _ (by simp)]; rw [World.cell?_setCell_other _ _ _ _ (by simp)]; rw [World.cell?_setCell_other _ _ _ _ (by simp)]; rw [World.cell?_setCell_other _ _ _ _ (by simp)]; rw [World.cell?_setCell_other _ _ _ _ (by simp)]; rw [World.cell?_setCell_other _ _ _ _ (by simp)]; exact c7)
  · exact World.cell?_setCell_same _ _ _ (show _ = some v8 from by rw [World.cell?_setCell_other _ _ _ _ (by simp)]; rw [World.cell?_setCell_other _ _ _ _ (by simp)]; rw [World.cell?_setCell_other _ _ _ _ (by simp)]; rw [World.cell?_setCell_other _ _ _ _ (by simp)]; rw [World.cell?_setCell_other _ _ _ _ (by simp)]; rw [World.cell?_setCell_other _ _ _ _ (by simp)]; rw [World.cell?_setCell_other _ _ _ _ (by simp)]; rw [World.cell?_setCell_other _ _ _ _ (by simp)]; exact c8)
theorem set9_free {w : World} {g : Nat} (h : Free9 w g) (r : Rg) (j : Nat) (hj : w.frozen? ⟨g, j, none⟩ = false) : (set9 w g r).frozen? ⟨g, j, none⟩ = false := by
  unfold set9
  simp only [World.frozen?_setCell]
  exact hj
theorem set9_below {B : Nat} {a w : World} (h : Below B a w) {g : Nat} (hg : B ≤ g) (r : Rg) : Below B a (set9 w g r) := by
  unfold set9
  exact ((((((((h.setCell hg _).setCell hg _).setCell hg _).setCell hg _).setCell hg _).setCell hg _).setCell hg _).setCell hg _).setCell hg _
theorem set9_size (w : World) (g : Nat) (r : Rg) : (set9 w g r).heap.size = w.heap.size := by unfold set9; simp only [size_set]

theorem ownsRow_set {w : World} {base : Nat} {e : TypeId} {size g cap n : Nat} {xs : List Value} (h : w.ownsRow base e size (.slice (some ⟨g, 0, none⟩) n cap) n xs) (i : Nat) (u : Value) (hi : i < xs.length) :
    (w.setCell ⟨g, i, none⟩ u).ownsRow base e size (.slice (some ⟨g, 0, none⟩) n cap) n (xs.set i u) := by
  obtain ⟨hl, ⟨hv, _⟩ | ⟨g', cap', cur, hv, hg, hh, hc, hm, hs, ht⟩⟩ := h
  · cases hv
  · obtain ⟨rfl, rfl⟩ : g = g' ∧ cap = cap' := by simpa using hv
    refine ⟨by simpa using hl, .inr ⟨g, cap, cur.setIfInBounds i u, rfl, hg, ?_, hc, hm, by simpa using hs, ?_⟩⟩
    · simp only [World.setCell, Array.getElem?_modify, hh]
      simp
    · rw [Array.toList_setIfInBounds, List.take_set, ht]
end Go.Proofs.Ytdebkifnaiohcaa.Cf

namespace Go.Proofs.Ytdebkifnaiohcaa.Cf
set_option linter.unusedSimpArgs false
set_option linter.unusedVariables false
open Go.RowKit Go.Maps

/-- a size, as a value -/
def sizeVal (m : Int) (H : Nat → Nat → Int) (tv : Value) : Value := .agg #[.int .u8 m, .int .u8 (H 0 0), .int .u8 (H 0 1), .int .u8 (H 0 2), .int .u8 (H 0 3), .int .u8 (H 0 4), .int .u8 (H 1 0), .int .u8 (H 1 1), .int .u8 (H 1 2), .int .u8 (H 1 3), .int .u8 (H 1 4), .int .u8 (H 2 0), .int .u8 (H 2 1), .int .u8 (H 2 2), .int .u8 (H 2 3), .int .u8 (H 2 4), .int .u8 (H 3 0), .int .u8 (H 3 1), .int .u8 (H 3 2), .int .u8 (H 3 3), .int .u8 (H 3 4), .int .u8 (H 4 0), .int .u8 (H 4 1), .int .u8 (H 4 2), .int .u8 (H 4 3), .int .u8 (H 4 4), tv]
/-- a slice of small numbers -/
def U8s (w : World) (v : Value) (ts : List Int) : Prop :=
  (∃ a cap, v = .slice a 0 cap ∧ ts = []) ∨ ∃ b off cap, v = .slice (some ⟨b, off, none⟩) ts.length cap ∧ b < w.heap.size ∧ ts.length ≤ maxLen ∧ ∀ i (h : i < ts.length), w.cell? ⟨b, off + i, none⟩ = some (.int .u8 ts[i])
def Hok (H : Nat → Nat → Int) : Prop := ∀ i j, i < 5 → j < 5 → 0 ≤ H i j ∧ H i j < 256
structure BoxS (w : World) (b : Nat) (m : Int) (H : Nat → Nat → Int) (tv : Value) : Prop where
  lt : b < w.heap.size
  c0 : w.cell? ⟨b, 0, none⟩ = some (.int .u8 m)
  ch : ∀ i j, i < 5 → j < 5 → w.cell? ⟨b, 1 + i * 5 + j, none⟩ = some (.int .u8 (H i j))
  c26 : w.cell? ⟨b, 26, none⟩ = some tv
theorem BoxS.below {w w' : World} {B b : Nat} {m : Int} {H : Nat → Nat → Int} {tv : Value} (h : BoxS w b m H tv) (hb : Below B w w') (hB : b < B) : BoxS w' b m H tv :=
  ⟨Nat.lt_of_lt_of_le h.lt hb.size, (hb.cell (p := ⟨b, 0, none⟩) hB).trans h.c0, fun i j hi hj => (hb.cell (p := ⟨b, 1 + i * 5 + j, none⟩) hB).trans (h.ch i j hi hj), (hb.cell (p := ⟨b, 26, none⟩) hB).trans h.c26⟩
theorem BoxS.new (w : World) (m : Int) (H : Nat → Nat → Int) (tv : Value) (t : TypeId) : BoxS (w.alloc (.cells #[.int .u8 m, .int .u8 (H 0 0), .int .u8 (H 0 1), .int .u8 (H 0 2), .int .u8 (H 0 3), .int .u8 (H 0 4), .int .u8 (H 1 0), .int .u8 (H 1 1), .int .u8 (H 1 2), .int .u8 (H 1 3), .int .u8 (H 1 4), .int .u8 (H 2 0), .int .u8 (H 2 1), .int .u8 (H 2 2), .int .u8 (H 2 3), .int .u8 (H 2 4), .int .u8 (H 3 0), .int .u8 (H 3 1), .int .u8 (H 3 2), .int .u8 (H 3 3), .int .u8 (H 3 4), .int .u8 (H 4 0), .int .u8 (H 4 1), .int .u8 (H 4 2), .int .u8 (H 4 3), .int .u8 (H 4 4), tv] t)) w.heap.size m H tv := by
  refine ⟨by simp, by simp [World.cell?_alloc_new], fun i j hi hj => ?_, by simp [World.cell?_alloc_new]⟩
  match i, j, hi, hj with
  | 0, 0, _, _
  | 0, 1, _, _
  | 0, 2, _, _
  | 0, 3, _, _
  | 0, 4, _, _
  | 1, 0, _, _
  | 1, 1, _, _
  | 1, 2, _, _
  | 1, 3, _, _
  | 1, 4, _, _
  | 2, 0, _, _
  | 2, 1, _, _
  | 2, 2, _, _
  | 2, 3, _, _
  | 2, 4, _, _
  | 3, 0, _, _
  | 3, 1, _, _
  | 3, 2, _, _
  | 3, 3, _, _
  | 3, 4, _, _
  | 4, 0, _, _
  | 4, 1, _, _
  | 4, 2, _, _
  | 4, 3, _, _
  | 4, 4, _, _ =>
    simp [World.cell?_alloc_new]
end Go.Proofs.Ytdebkifnaiohcaa.Cf
