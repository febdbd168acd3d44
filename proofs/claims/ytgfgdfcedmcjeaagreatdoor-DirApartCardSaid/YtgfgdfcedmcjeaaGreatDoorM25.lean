import Derived.Test.YtgfgdfcedmcjeaaGreatDoorM24
import Derived.Test.YtgfgdfcedmcjeaaGreatDoorM1
import Derived.Deep.DeepHandedRow
import Derived.Lib.SmallJoins
import Derived.Lib.LaidTab
/- Directories: the laws: configurations, the only directory of a group. -/
/- Directories: Awake. -/
/- Directories: an act of the laws. -/
/- A world in which the listed tables hold what their initialisers lay, for the witnesses; an act as handed in. -/
/- Directories: many names, one by one. -/
/- Directories: many names, the walk. -/

namespace Go.Proofs.YtgfgdfcedmcjeaaGreatDoor
set_option linter.unusedSimpArgs false
set_option linter.unusedVariables false
open Go.RowKit Go.Maps

def H9 (b n : Nat) : Nat → Nat → Int := fun i j => if i = 0 ∧ j = 0 then b else if i = 1 ∧ j = 0 then n else 0
theorem H9_ok (b n : Nat) (hb : b < 256) (hn : n < 256) : Cf.Hok (H9 b n) := fun i j _ _ => by
  unfold H9
  split
  · omega
  · split
    · omega
    · decide
/-- what is known of a configuration of these laws, and of its first label's group -/
structure C9 (R : List Cf.Rg) (NB N : Nat) (g : Cf.Ge) (B0 P0 DA : Nat) : Prop where
  l2 : R.length = 2
  sm : ∀ r ∈ R, Cf.Small r
  hN : (Cf.layF R).2 = N
  n0 : 32 ≤ N
  n1 : N ≤ 65536
  hg : (Cf.layF R).1[0]'(by rw [Cf.lay_len, l2]; decide) = g
  gg : GG g B0 P0 8 DA NB N
theorem c9 (b n : Nat) (hb : b < 256) (hn : n < 256) : ∃ N g B0 P0 DA, C9 (Cf.sizeRs 2 (H9 b n)) (8 + b % 60) N g B0 P0 DA := by
  have hl : (Cf.sizeRs 2 (H9 b n)).length = 2 := Cf.sizeRs_len 2 (.inl rfl) _
  have hsm : ∀ r ∈ Cf.sizeRs 2 (H9 b n), Cf.Small r := Cf.size_small 2 (.inl rfl) _ (H9_ok b n hb hn)
  have e1 : ((Cf.sizeRs 2 (H9 b n))[0]'(by rw [hl]; decide)).bl = 8 + (b : Int) % 60 := rfl
  have e2 : ((Cf.sizeRs 2 (H9 b n))[0]'(by rw [hl]; decide)).nd = 8 := rfl
  obtain ⟨R, hR⟩ : ∃ R, Cf.sizeRs 2 (H9 b n) = R := ⟨_, rfl⟩
  simp only [hR] at hl hsm e1 e2 ⊢
  have hT := Cf.layF_range R hsm R.length (Nat.le_refl _)
  rw [List.take_length] at hT
  obtain ⟨N, hN⟩ := Int.eq_ofNat_of_zero_le (show 0 ≤ (Cf.layF R).2 by omega)
  obtain ⟨g, hgi⟩ : ∃ g, (Cf.layF R).1[0]'(by rw [Cf.lay_len, hl]; decide) = g := ⟨_, rfl⟩
  obtain ⟨B0, P0, M, DA, NB, hg, hbl, hnd⟩ := geo_gg R hsm (by rw [hl]; decide) N hN 0 (by rw [hl]; decide) g hgi
  rw [e1] at hbl
  rw [e2] at hnd
  obtain rfl : NB = 8 + b % 60 := by omega
  obtain rfl : M = 8 := by omega
  exact ⟨N, g, B0, P0, DA, hl, hsm, hN, by omega, by omega, hgi, hg⟩
theorem fresh9 {R : List Cf.Rg} {NB N : Nat} {g : Cf.Ge} {B0 P0 DA : Nat} (hc : C9 R NB N g B0 P0 DA) (n : Nat) (vr vm vg : Value) (w : World) (h : Cf.CF n w vr vm vg R []) :
    Calls Tryz.prog 9 #[.pointer (some ⟨n + 3, 0, none⟩)] w fun e w' => ∃ t m d g' l Y, e = .returned (.tuple #[.pointer (some ⟨d, 0, none⟩), .pointer (some ⟨l, 0, none⟩), .pointer (some ⟨t, 0, none⟩)]) ∧ From w.heap.size t m d g' ∧ w.heap.size ≤ l ∧ l ∉ [t, m, d, g'] ∧ Lg w' l d 1 ∧ Rd w' t m d g' N ⟨[], Y⟩ Y 7000 ∧ Tab P0 8 Y (VF 3) ∧ (∀ j, j < 512 → bt Y B0 j = false) ∧ Below w.heap.size w w' := by
  have hl := hc.l2
  refine (fresh_any n vr vm vg R [] hc.sm (by rw [hl]; decide) (by rw [hl]; decide) N hc.hN hc.n0 hc.n1 w h).mono ?_
  rintro e w' ⟨t, m, d, g', l, Y, he, h1, h2, h3, h4, h5, h6, h7⟩
  have h8 := h6.done 0 (by rw [hl]; decide) (by rw [hl]; decide)
  rw [hc.hg] at h8
  obtain ⟨h9, h10⟩ := h8 B0 P0 8 DA NB hc.gg
  exact ⟨t, m, d, g', l, Y, he, h1, h2, h3, h4, h5, h9, h10, h7⟩
theorem open9 {R : List Cf.Rg} {NB N : Nat} {g : Cf.Ge} {B0 P0 DA : Nat} (hc : C9 R NB N g B0 P0 DA) (ln : Lm) (t m d gg n K : Nat) (Y : Nat → Nat → Int) (vr vm vg : Value) (w : World) (h : Cf.CF n w vr vm vg R []) (hr : Rd w t m d gg N ln Y K) :
    Calls Tryz.prog 13 #[.pointer (some ⟨t, 0, none⟩), .pointer (some ⟨n + 3, 0, none⟩), .int .i64 0] w fun e w' => ∃ q p, e = .returned (.tuple #[.pointer (some ⟨q, 0, none⟩), .int .i64 0]) ∧ w.heap.size ≤ q ∧ w.heap.size ≤ p ∧ Gr w' q p t m d gg 0 g B0 NB N ln Y K ∧ Below w.heap.size w w' :=
  gopen_in (ln := ln) t m d gg n B0 P0 8 DA NB N K Y vr vm vg R [] 0 (by rw [hc.l2]; decide) g hc.hg hc.gg w h hr
/-- the only directory of a group: its table, its places, the bits that are set -/
structure S1 (B0 P0 DA NB : Nat) (Y V : Nat → Nat → Int) (b : Nat → Nat) (E : List En) : Prop where
  tab : Tab P0 8 Y V
  dir : Dir B0 DA NB Y (V 1) b E
  u : ∀ j, j < NB → (bt Y B0 j = true ↔ ∃ c, ndS (nbE E.length) c = true ∧ b c = j + 1)
theorem S1.fresh {B0 P0 DA NB : Nat} {Y : Nat → Nat → Int} (hT : Tab P0 8 Y (VF 3)) (hb : ∀ j, j < 512 → bt Y B0 j = false) (hN : NB ≤ 512) : S1 B0 P0 DA NB Y (VF 3) (fun _ => 0) [] := by
  have hV : VF 3 1 = own 2 := by
    unfold VF
    rw [if_pos (by decide)]
    rfl
  refine ⟨hT, ?_, fun j hj => ?_⟩
  · rw [hV]
    refine ⟨rfl, by decide, rfl, by decide, ?_, (fun e he => by cases he), fun i hi => absurd hi (Nat.not_lt_zero _)⟩
    exact Fu.none B0 DA NB Y (own 2) _ (fun i h4 _ => own_noblocks 2 i h4)
  · rw [hb j (by omega)]
    constructor
    · intro h
      cases h
    · rintro ⟨c, hc, -⟩
      rw [ndS_iff] at hc
      unfold nbE at hc
      simp at hc
theorem S1.move {B0 P0 TB DA NB : Nat} {Y0 V0 Y V : Nat → Nat → Int} {b0 b : Nat → Nat} {E0 E : List En} (h : S1 B0 P0 DA NB Y0 V0 b0 E0) (hT : Tab P0 8 Y V) (hD : Dir B0 DA NB Y (V 1) b E) (hM : Mv B0 TB DA NB Y0 (nbE E0.length) b0 Y (nbE E.length) b) : S1 B0 P0 DA NB Y V b E := by
  refine ⟨hT, hD, fun j hj => ?_⟩
  rw [hM.u j hj, h.u j hj]
  constructor
  · rintro (⟨⟨c, h1, h2⟩, h3⟩ | ⟨c, h1, -, h2⟩)
    · cases hn : ndS (nbE E.length) c
      · exact absurd ⟨c, h1, hn, h2⟩ h3
      · exact ⟨c, hn, (hM.bb c h1 hn).trans h2⟩
    · exact ⟨c, h1, h2⟩
  · rintro ⟨c, h1, h2⟩
    cases hn : ndS (nbE E0.length) c
    · exact .inr ⟨c, h1, hn, h2⟩
    · refine .inl ⟨⟨c, hn, (hM.bb c hn h1).symm.trans h2⟩, fun ⟨c', k1, k2, k3⟩ => ?_⟩
      have := h.dir.fu.fi.inj c' c k1 hn (by rw [k3, ← hM.bb c hn h1, h2])
      rw [this, h1] at k2
      cases k2
/-- the slots that a directory of some hundred places touches -/
def L9 : List Nat := 2000 :: List.range 26
theorem L9_len : L9.length = 27 := rfl
theorem L9_mem (c : Nat) : c ∈ L9 ↔ c = 2000 ∨ c < 26 := by
  unfold L9
  simp
theorem L9_has (c : Nat) (hc : c < 26) (i : Nat) (hi : i ≤ lenC c) : chS c i ∈ L9 := by
  have := (chS_cases c (by omega) (chS c i)).1 ⟨i, hi, rfl⟩
  rw [L9_mem]
  omega
theorem L9_nd (n c : Nat) (hn : n ≤ 26) (h : ndS n c = true) : c ∈ L9 := by
  rw [ndS_iff] at h
  rw [L9_mem]
  omega
def roomN : List En → Nat
  | [] => 0
  | e :: E => if vacE e = true then 0 else roomN E + 1
theorem room_eq : ∀ (E : List En) (i : Nat), isRoom E i → i = roomN E
  | [], i, h => by
    have := h.1
    show i = 0
    simpa using this
  | e :: E, i, ⟨h1, h2, h3⟩ => by
    unfold roomN
    cases hv : vacE e
    · rw [if_neg (by decide)]
      cases i with
      | zero =>
        rcases h3 with h3 | ⟨e', he, hv'⟩
        · simp at h3
        · simp only [List.getElem?_cons_zero, Option.some.injEq] at he
          rw [← he, hv] at hv'
          cases hv'
      | succ i =>
        rw [← room_eq E i ⟨by simpa using h1, fun j e' hj he => h2 (j + 1) e' (by omega) (by rw [List.getElem?_cons_succ]; exact he), h3.imp (fun h => by simpa using h) (fun ⟨e', he, hv'⟩ => ⟨e', by rw [List.getElem?_cons_succ] at he; exact he, hv'⟩)⟩]
    · rw [if_pos rfl]
      cases i with
      | zero => rfl
      | succ i =>
        have := h2 0 e (Nat.zero_lt_succ _) rfl
        rw [hv] at this
        cases this
def usedN : List En → Nat
  | [] => 0
  | e :: E => if usedN E = 0 then (if vacE e = true then 0 else 1) else usedN E + 1
theorem used_eq : ∀ (E : List En) (u : Nat), isUsed E u → u = usedN E
  | [], u, h => by
    have := h.1
    show u = 0
    simpa using this
  | e :: E, u, ⟨h1, h2, h3⟩ => by
    unfold usedN
    cases u with
    | zero =>
      rw [← used_eq E 0 ⟨Nat.zero_le _, fun j e' hj he => h2 (j + 1) e' (Nat.zero_le _) (by rw [List.getElem?_cons_succ]; exact he), .inl rfl⟩, if_pos rfl, if_pos (h2 0 e (Nat.le_refl _) rfl)]
    | succ u =>
      have h3' := h3.resolve_left (by omega)
      obtain ⟨e', he, hv⟩ := h3'
      rw [Nat.add_sub_cancel] at he
      have hu : isUsed E u := ⟨by simpa using h1, fun j e' hj he => h2 (j + 1) e' (by omega) (by rw [List.getElem?_cons_succ]; exact he), by
        cases u with
        | zero => exact .inl rfl
        | succ u => exact .inr ⟨e', by rw [List.getElem?_cons_succ] at he; exact he, hv⟩⟩
      rw [← used_eq E u hu]
      cases u with
      | zero =>
        simp only [List.getElem?_cons_zero, Option.some.injEq] at he
        rw [if_pos rfl, if_neg (by rw [he, hv]; decide)]
      | succ u => rw [if_neg (by omega)]
def findN (s : ByteArray) : List En → Nat
  | [] => 0
  | e :: E => if mtE s e = true then 0 else findN s E + 1
theorem find_eq (s : ByteArray) : ∀ (E : List En) (i : Nat) (e : En), E[i]? = some e → mtE s e = true → (∀ (j : Nat) (e' : En), j < i → E[j]? = some e' → mtE s e' = false) → i = findN s E
  | [], i, e, he, _, _ => by simp at he
  | a :: E, i, e, he, hm, hf => by
    unfold findN
    cases i with
    | zero =>
      simp only [List.getElem?_cons_zero, Option.some.injEq] at he
      rw [he, if_pos hm]
    | succ i =>
      rw [if_neg (by rw [hf 0 a (Nat.zero_lt_succ _) rfl]; decide), ← find_eq s E i e (by rw [List.getElem?_cons_succ] at he; exact he) hm (fun j e' hj he' => hf (j + 1) e' (by omega) (by rw [List.getElem?_cons_succ]; exact he'))]
theorem add1 {N : Nat} {g : Cf.Ge} {B0 P0 DA NB : Nat} (hg : GG g B0 P0 8 DA NB N) (hNB : 28 ≤ NB) (q p t m d gg K : Nat) (Y V D : Nat → Nat → Int) (b : Nat → Nat) (E : List En) (hS : S1 B0 P0 DA NB Y V b E) (hE : E.length ≤ 99) (hK : K < 150000000) (x : En) (hx : x.2 < 65536) (w : World) (h : Gr w q p t m d gg 0 g B0 NB N ⟨dl B0 P0 DA b (ndS (nbE E.length)) L9, D⟩ Y K) :
    Calls Tryz.prog 22 #[.pointer (some ⟨q, 0, none⟩), .int .i64 1, .agg (enc x).toArray] w fun r w' => r = .returned (.int .i64 (addC E x)) ∧ Kf w w' [t, m, d, gg] ∧ ((¬ addC E x = 0 ∧ Gr w' q p t m d gg 0 g B0 NB N ⟨dl B0 P0 DA b (ndS (nbE E.length)) L9, D⟩ Y (K + 30000)) ∨
      (addC E x = 0 ∧ ∃ Y' V' b', Gr w' q p t m d gg 0 g B0 NB N ⟨dl B0 P0 DA b' (ndS (nbE (setE E (roomN E) x).length)) L9, D⟩ Y' (K + 30000) ∧ S1 B0 P0 DA NB Y' V' b' (setE E (roomN E) x))) := by
  have hlts := h.lts
  refine (dadd_any (ln := ⟨dl B0 P0 DA b (ndS (nbE E.length)) L9, D⟩) q p t m d gg 0 B0 P0 8 DA NB N K g Y V 1 (by decide) (by decide) b E hS.dir hS.tab (by omega) hg w h x hx (fun c w' => c = 0 ∧ Kf w w' [t, m, d, gg] ∧ ∃ Y' V' b', Gr w' q p t m d gg 0 g B0 NB N ⟨dl B0 P0 DA b' (ndS (nbE (setE E (roomN E) x).length)) L9, D⟩ Y' (K + 30000) ∧ S1 B0 P0 DA NB Y' V' b' (setE E (roomN E) x)) (fun hn hx0 hno i hi W sb hG hk hsb hF => ?_)).mono ?_
  · have hir := room_eq E i hi
    have hi1 := hi.1
    have hl := setE_len E i x hi1
    have he : okE x := ⟨by omega, hx, hn⟩
    refine (dwrite_in q p t m d gg 0 B0 P0 8 DA NB N (K + 1001) P0 g Y V b L9 D (by rw [L9_len]; decide) 1 (by omega) (by decide) (by decide) E hS.dir hS.tab (by omega) hg W hG i hi1 (by omega) x (.inr he) (fun j hj => L9_has (i / 4) (by omega) j hj) sb hF (fun ha => by
      simp only [List.mem_cons, List.not_mem_nil, or_false] at ha
      omega)).mono ?_
    rintro r w' (⟨Y', f, B, rfl, hG', hk', hT, hDd, hMv⟩ | ⟨Y', ln, B, n, -, -, -, -, hall, hn1, -, hB, hu⟩)
    · rw [← hir]
      exact ⟨0, rfl, hk', rfl, hk.trans hk', Y', vput 1 f V, B, hG'.mono (Lm.le_refl _) (by omega), hS.move hT (by rw [vput_at]; exact hDd) hMv⟩
    · exfalso
      have := no_space NB n B L9 (fun c hc => L9_nd _ c (by unfold nbE; omega) (hn1 c hc)) (fun j hj => by
        have := (hu j hj).1 (hall j hj)
        rw [hS.u j hj] at this
        rcases this with ⟨c, h1, h2⟩ | ⟨c, h1, -, h2⟩
        · obtain ⟨h3, h4⟩ := hB c h1
          exact ⟨c, h3, by rw [h4]; exact h2⟩
        · exact ⟨c, h1, h2⟩)
      rw [L9_len] at this
      omega
  · rintro r w' ⟨c, rfl, (⟨h1, h2, h3, h4⟩ | ⟨h1, rfl, h3, h4⟩)⟩
    · exact ⟨by rw [h2], h4, .inl ⟨h1, h3.mono (Lm.le_refl _) (by omega)⟩⟩
    · exact ⟨by rw [h1], h3, .inr ⟨h1, h4⟩⟩
theorem drop1 {N : Nat} {g : Cf.Ge} {B0 P0 DA NB : Nat} (hg : GG g B0 P0 8 DA NB N) (q p t m d gg K : Nat) (Y V D : Nat → Nat → Int) (b : Nat → Nat) (E : List En) (hS : S1 B0 P0 DA NB Y V b E) (hE : E.length ≤ 100) (hK : K < 150000000) (s : ByteArray) (w : World) (h : Gr w q p t m d gg 0 g B0 NB N ⟨dl B0 P0 DA b (ndS (nbE E.length)) L9, D⟩ Y K) :
    Calls Tryz.prog 16 #[.pointer (some ⟨q, 0, none⟩), .int .i64 1, .string s] w fun r w' => Kf w w' [t, m, d, gg] ∧ (((∀ e ∈ E, mtE s e = false) ∧ r = .returned (.int .i64 3) ∧ Gr w' q p t m d gg 0 g B0 NB N ⟨dl B0 P0 DA b (ndS (nbE E.length)) L9, D⟩ Y (K + 40000)) ∨
      (E.any (mtE s) = true ∧ r = .returned (.int .i64 0) ∧ ∃ Y' V' b', Gr w' q p t m d gg 0 g B0 NB N ⟨dl B0 P0 DA b' (ndS (nbE E.length)) L9, D⟩ Y' (K + 40000) ∧ S1 B0 P0 DA NB Y' V' b' ((E.set (findN s E) zE).take (usedN (E.set (findN s E) zE))))) := by
  refine (ddrop_in q p t m d gg 0 B0 P0 8 DA NB N K P0 g Y V b L9 D (by rw [L9_len]; decide) 1 (by omega) (by decide) (by decide) E hS.dir hS.tab hK hg (fun c hc j hj => L9_has c (by omega) j hj) w h s).mono ?_
  rintro r w' ⟨hk, (⟨h1, rfl, h3⟩ | ⟨i, e, u, Y', f, B, hie, hme, hfi, hu, rfl, hG, hT, hDd, hMv⟩)⟩
  · exact ⟨hk, .inl ⟨h1, rfl, h3.mono (Lm.le_refl _) (by omega)⟩⟩
  · have hii := find_eq s E i e hie hme hfi
    have huu := used_eq _ u hu
    have hul := hu.1
    have hlen : ((E.set i zE).take u).length = u := by rw [List.length_take]; omega
    rw [hii] at huu
    rw [← hlen] at hMv
    have := hS.move hT (by rw [vput_at]; exact hDd) hMv
    rw [hii, huu] at this
    exact ⟨hk, .inr ⟨List.any_eq_true.2 ⟨e, List.mem_of_getElem? hie, hme⟩, rfl, Y', vput 1 f V, B, hG, this⟩⟩
end Go.Proofs.YtgfgdfcedmcjeaaGreatDoor

namespace Go.Proofs.YtgfgdfcedmcjeaaGreatDoor
set_option linter.unusedSimpArgs false
set_option linter.unusedVariables false
open Go.RowKit Go.Maps

set_option maxHeartbeats 40000000 in
set_option maxRecDepth 200000 in
theorem awake9 (w : World) : Calls Tryz.prog 7 #[] w fun e w' => e = .returned (.bool true) ∧ Below w.heap.size w w' := by
  have hSz := Lib.hid (fun W => Cf.sizeconf_two 0 (by decide) (by decide) (H9 30 10) (H9_ok 30 10 (by decide) (by decide)) (.slice none 0 0) [] (fun x hx => by cases hx) W (u8s_none W) (by decide) rfl)
  have eSz : Cf.sizeVal 0 (H9 30 10) (.slice none 0 0) = (.agg #[.int .u8 0, .int .u8 30, .int .u8 0, .int .u8 0, .int .u8 0, .int .u8 0, .int .u8 10, .int .u8 0, .int .u8 0, .int .u8 0, .int .u8 0, .int .u8 0, .int .u8 0, .int .u8 0, .int .u8 0, .int .u8 0, .int .u8 0, .int .u8 0, .int .u8 0, .int .u8 0, .int .u8 0, .int .u8 0, .int .u8 0, .int .u8 0, .int .u8 0, .int .u8 0, .slice none 0 0]) := by kernel_rfl
  rw [eSz] at hSz
  clear eSz
  obtain ⟨N, g, B0, P0, DA, hc9⟩ := c9 30 10 (by decide) (by decide)
  obtain ⟨R9, hR9⟩ : ∃ x, Cf.sizeRs 2 (H9 30 10) = x := ⟨_, rfl⟩
  rw [hR9] at hSz hc9
  have HC9 := Lib.hid hc9
  have HGG := Lib.hid hc9.gg
  clear hc9 hR9
  go_enter Tryz.func7, Tryz.ntmps7
  go_wp2_with fail
  refine (hSz.out w).mono ?_
  rintro e w2 ⟨n, vr, vm, vg, rfl, -, hb2, hCF⟩
  have HB2 := Lib.hid hb2
  have HCF := Lib.hid hCF
  clear hb2 hCF hSz
  go_wp2_with fail
  refine (fresh9 HC9.out n vr vm vg w2 HCF.out).mono ?_
  rintro e w3 ⟨t, mm, dd, gg, l, Y0, rfl, hFr, hll, hln, hLg, hRd, hTab, hbit, hb3⟩
  have HR3 := Lib.hid hRd
  have HL3 := Lib.hid hLg
  have HS3 := Lib.hid (S1.fresh (P0 := P0) (DA := DA) hTab hbit HGG.out.n512)
  have HTab := Lib.hid hTab
  have HBit := Lib.hid hbit
  have HCF3 := Lib.hid (HCF.out.below hb3)
  have HNl := Lib.hid (show l ∉ [dd, gg] from fun h => hln (by simp only [List.mem_cons, List.not_mem_nil, or_false] at h ⊢; omega))
  have HNt := Lib.hid hln
  have hdd : w2.heap.size ≤ dd := hFr.2.2.1
  have hgg : w2.heap.size ≤ gg := hFr.2.2.2
  have hdt : w2.heap.size ≤ t := hFr.1
  have hdm : w2.heap.size ≤ mm := hFr.2.1
  have hw2 : w.heap.size ≤ w2.heap.size := HB2.out.size
  have hw3 := hb3.size
  have HCFx : Hid (∀ W, Below w2.heap.size w2 W → Cf.CF n W vr vm vg R9 []) := Lib.hid (fun W hk => HCF.out.below hk)
  have HZ3 := Lib.hid hb3
  clear hFr hll hln hLg hRd hTab hbit hb3 HCF
  have HOp := Lib.hid (open9 HC9.out ⟨dl B0 P0 DA (fun _ => 0) (ndS (nbE 0)) L9, Y0⟩ t mm dd gg n 7000 Y0 vr vm vg w3 HCF3.out (HR3.out.wide (Lm.nil_le _ _)))
  go_wp2_with fail
  refine HOp.out.mono ?_
  rintro e w4 ⟨q, p, rfl, hq, hp, hG, hb⟩
  have HG4 := Lib.hid hG
  have HB4 := Lib.hid (HZ3.out.trans (hb.mono hw3))
  have HL4 := Lib.hid (HL3.out.keep hb)
  have hsz4 := HB4.out.size
  clear hG hb HOp HR3 HCF3
  go_upto_region 5 with fail
  have F5 := Lib.hid (Vl.new w4 [.string ⟨#[97]⟩, .string ⟨#[98]⟩, .string ⟨#[99]⟩] 9)
  have hb5 : Below w4.heap.size w4 (w4.alloc (.cells [.string ⟨#[97]⟩, .string ⟨#[98]⟩, .string ⟨#[99]⟩].toArray 9)) := (Below.refl _ _).alloc (Nat.le_refl _) _
  have HG5 := Lib.hid (HG4.out.keep hb5)
  have HB5 := Lib.hid (HB4.out.trans (hb5.mono hsz4))
  obtain ⟨bN, hbN⟩ : ∃ x, w4.heap.size = x := ⟨_, rfl⟩
  have hNw : w2.heap.size ≤ bN := by omega
  have hNt : bN ∉ [t, mm, dd, gg] := hbN ▸ HG4.out.rd.notin (Nat.le_refl _)
  obtain ⟨w5, hw5⟩ : ∃ x, w4.alloc (.cells [.string ⟨#[97]⟩, .string ⟨#[98]⟩, .string ⟨#[99]⟩].toArray 9) = x := ⟨_, rfl⟩
  rw [hw5] at F5 HG5 HB5
  try (change wp _ _ _ _ (w4.alloc (.cells [.string ⟨#[97]⟩, .string ⟨#[98]⟩, .string ⟨#[99]⟩].toArray 9)))
  rw [hw5]
  rw [hbN] at F5
  try rw [hbN]
  have HNt5 := Lib.hid hNt
  clear hw5 hb5 hbN hNt HG4 HB4
  go_loopw [8, 32] (fun _ iv wr => ∃ k : Nat, k ≤ 3 ∧ iv = .int .i64 k ∧ Below w2.heap.size w2 wr ∧ Vl wr bN [.string ⟨#[97]⟩, .string ⟨#[98]⟩, .string ⟨#[99]⟩] ∧ ∃ Y V b, Gr wr q p t mm dd gg 0 g B0 (8 + 30 % 60) N ⟨dl B0 P0 DA b (ndS (nbE k)) L9, Y0⟩ Y (7000 + 30000 * k) ∧ S1 B0 P0 DA (8 + 30 % 60) Y V b (List.take k [(⟨#[97]⟩, 5), (⟨#[98]⟩, 5), (⟨#[99]⟩, 5)])) (fun _ iv _ => 3 - (Go.RowKit.intOf iv).toNat)
  case atStart => exact ⟨0, Nat.zero_le _, rfl, HB5.out, F5.out, Y0, VF 3, fun _ => 0, HG5.out, HS3.out⟩
  case round =>
    obtain ⟨k, hk, rfl, hb, hF, Y, V, b, hG, hS⟩ := hrel
    have HBX := Lib.hid hb
    have FX := Lib.hid hF
    have HGX := Lib.hid hG
    have HSX := Lib.hid hS
    clear hb hF hG hS HB5 F5 HG5
    have hk4 : k = 0 ∨ k = 1 ∨ k = 2 ∨ k = 3 := by omega
    rcases hk4 with rfl | rfl | rfl | rfl
    · have HAd := Lib.hid (add1 HGG.out (by decide) q p t mm dd gg (7000 + 30000 * 0) Y V Y0 b (List.take 0 [(⟨#[97]⟩, 5), (⟨#[98]⟩, 5), (⟨#[99]⟩, 5)]) HSX.out (by decide) (by decide) (⟨#[97]⟩, 5) (by decide) wr HGX.out)
      have ha0 : addC (List.take 0 [(⟨#[97]⟩, 5), (⟨#[98]⟩, 5), (⟨#[99]⟩, 5)]) (⟨#[97]⟩, 5) = 0 := by kernel_rfl
      have he1 : setE (List.take 0 [(⟨#[97]⟩, 5), (⟨#[98]⟩, 5), (⟨#[99]⟩, 5)]) (roomN (List.take 0 [(⟨#[97]⟩, 5), (⟨#[98]⟩, 5), (⟨#[99]⟩, 5)])) (⟨#[97]⟩, 5) = List.take 1 [(⟨#[97]⟩, 5), (⟨#[98]⟩, 5), (⟨#[99]⟩, 5)] := by kernel_rfl
      rw [ha0, he1] at HAd
      have cN := FX.out.c 0 _ rfl
      clear HGX ha0 he1
      go_wp2_with fail
      refine HAd.out.mono ?_
      rintro e w6 ⟨rfl, hk, (⟨hh, -⟩ | ⟨-, Y', V', b', hG, hS⟩)⟩
      · exact absurd trivial hh
      · have HB6 := Lib.hid (HBX.out.trans (hk.below (B := w2.heap.size) (fun a ha => by
          simp only [List.mem_cons, List.not_mem_nil, or_false] at ha
          omega) HBX.out.size))
        have F6 := Lib.hid (FX.out.kf hk HNt5.out)
        have HG6 := Lib.hid hG
        have HS6 := Lib.hid hS
        clear hk hG hS HAd cN
        go_wp2_with fail
        go_roundw
        case rel => exact ⟨1, by decide, by go_num, HB6.out, F6.out, Y', V', b', HG6.out, HS6.out⟩
        case measure => decide
    · have HAd := Lib.hid (add1 HGG.out (by decide) q p t mm dd gg (7000 + 30000 * 1) Y V Y0 b (List.take 1 [(⟨#[97]⟩, 5), (⟨#[98]⟩, 5), (⟨#[99]⟩, 5)]) HSX.out (by decide) (by decide) (⟨#[98]⟩, 5) (by decide) wr HGX.out)
      have ha0 : addC (List.take 1 [(⟨#[97]⟩, 5), (⟨#[98]⟩, 5), (⟨#[99]⟩, 5)]) (⟨#[98]⟩, 5) = 0 := by kernel_rfl
      have he1 : setE (List.take 1 [(⟨#[97]⟩, 5), (⟨#[98]⟩, 5), (⟨#[99]⟩, 5)]) (roomN (List.take 1 [(⟨#[97]⟩, 5), (⟨#[98]⟩, 5), (⟨#[99]⟩, 5)])) (⟨#[98]⟩, 5) = List.take 2 [(⟨#[97]⟩, 5), (⟨#[98]⟩, 5), (⟨#[99]⟩, 5)] := by kernel_rfl
      rw [ha0, he1] at HAd
      have cN := FX.out.c 1 _ rfl
      clear HGX ha0 he1
      go_wp2_with fail
      refine HAd.out.mono ?_
      rintro e w6 ⟨rfl, hk, (⟨hh, -⟩ | ⟨-, Y', V', b', hG, hS⟩)⟩
      · exact absurd trivial hh
      · have HB6 := Lib.hid (HBX.out.trans (hk.below (B := w2.heap.size) (fun a ha => by
          simp only [List.mem_cons, List.not_mem_nil, or_false] at ha
          omega) HBX.out.size))
        have F6 := Lib.hid (FX.out.kf hk HNt5.out)
        have HG6 := Lib.hid hG
        have HS6 := Lib.hid hS
        clear hk hG hS HAd cN
        go_wp2_with fail
        go_roundw
        case rel => exact ⟨2, by decide, by go_num, HB6.out, F6.out, Y', V', b', HG6.out, HS6.out⟩
        case measure => decide
    · have HAd := Lib.hid (add1 HGG.out (by decide) q p t mm dd gg (7000 + 30000 * 2) Y V Y0 b (List.take 2 [(⟨#[97]⟩, 5), (⟨#[98]⟩, 5), (⟨#[99]⟩, 5)]) HSX.out (by decide) (by decide) (⟨#[99]⟩, 5) (by decide) wr HGX.out)
      have ha0 : addC (List.take 2 [(⟨#[97]⟩, 5), (⟨#[98]⟩, 5), (⟨#[99]⟩, 5)]) (⟨#[99]⟩, 5) = 0 := by kernel_rfl
      have he1 : setE (List.take 2 [(⟨#[97]⟩, 5), (⟨#[98]⟩, 5), (⟨#[99]⟩, 5)]) (roomN (List.take 2 [(⟨#[97]⟩, 5), (⟨#[98]⟩, 5), (⟨#[99]⟩, 5)])) (⟨#[99]⟩, 5) = List.take 3 [(⟨#[97]⟩, 5), (⟨#[98]⟩, 5), (⟨#[99]⟩, 5)] := by kernel_rfl
      rw [ha0, he1] at HAd
      have cN := FX.out.c 2 _ rfl
      clear HGX ha0 he1
      go_wp2_with fail
      refine HAd.out.mono ?_
      rintro e w6 ⟨rfl, hk, (⟨hh, -⟩ | ⟨-, Y', V', b', hG, hS⟩)⟩
      · exact absurd trivial hh
      · have HB6 := Lib.hid (HBX.out.trans (hk.below (B := w2.heap.size) (fun a ha => by
          simp only [List.mem_cons, List.not_mem_nil, or_false] at ha
          omega) HBX.out.size))
        have F6 := Lib.hid (FX.out.kf hk HNt5.out)
        have HG6 := Lib.hid hG
        have HS6 := Lib.hid hS
        clear hk hG hS HAd cN
        go_wp2_with fail
        go_roundw
        case rel => exact ⟨3, by decide, by go_num, HB6.out, F6.out, Y', V', b', HG6.out, HS6.out⟩
        case measure => decide
    · have HDr := Lib.hid (drop1 HGG.out q p t mm dd gg (7000 + 30000 * 3) Y V Y0 b [(⟨#[97]⟩, 5), (⟨#[98]⟩, 5), (⟨#[99]⟩, 5)] HSX.out (by decide) (by decide) ⟨#[98]⟩ wr HGX.out)
      have he1 : (List.set [(⟨#[97]⟩, 5), (⟨#[98]⟩, 5), (⟨#[99]⟩, 5)] (findN ⟨#[98]⟩ [(⟨#[97]⟩, 5), (⟨#[98]⟩, 5), (⟨#[99]⟩, 5)]) zE).take (usedN (List.set [(⟨#[97]⟩, 5), (⟨#[98]⟩, 5), (⟨#[99]⟩, 5)] (findN ⟨#[98]⟩ [(⟨#[97]⟩, 5), (⟨#[98]⟩, 5), (⟨#[99]⟩, 5)]) zE)) = [(⟨#[97]⟩, 5), zE, (⟨#[99]⟩, 5)] := by kernel_rfl
      rw [he1] at HDr
      clear HGX he1
      go_wp2_with fail
      refine HDr.out.mono ?_
      rintro e w6 ⟨hk, (⟨hno, -⟩ | ⟨-, rfl, Y', V', b', hG, hS⟩)⟩
      · exact absurd (hno (⟨#[98]⟩, 5) (by simp)) (by decide +kernel)
      have HB6 := Lib.hid (HBX.out.trans (hk.below (B := w2.heap.size) (fun a ha => by
        simp only [List.mem_cons, List.not_mem_nil, or_false] at ha
        omega) HBX.out.size))
      have HG6 := Lib.hid hG
      have HS6 := Lib.hid hS
      clear hk hG hS HDr HBX
      have HAd := Lib.hid (add1 HGG.out (by decide) q p t mm dd gg (7000 + 30000 * 3 + 40000) Y' V' Y0 b' [(⟨#[97]⟩, 5), zE, (⟨#[99]⟩, 5)] HS6.out (by decide) (by decide) (⟨#[100]⟩, 6) (by decide) w6 HG6.out)
      have ha0 : addC [(⟨#[97]⟩, 5), zE, (⟨#[99]⟩, 5)] (⟨#[100]⟩, 6) = 0 := by kernel_rfl
      have he1 : setE [(⟨#[97]⟩, 5), zE, (⟨#[99]⟩, 5)] (roomN [(⟨#[97]⟩, 5), zE, (⟨#[99]⟩, 5)]) (⟨#[100]⟩, 6) = [(⟨#[97]⟩, 5), (⟨#[100]⟩, 6), (⟨#[99]⟩, 5)] := by kernel_rfl
      rw [ha0, he1] at HAd
      clear HG6 ha0 he1
      go_wp2_with fail
      refine HAd.out.mono ?_
      rintro e w7 ⟨rfl, hk, (⟨hh, -⟩ | ⟨-, Y2, V2, b2, hG, hS⟩)⟩
      · exact absurd trivial hh
      have HB7 := Lib.hid (HB6.out.trans (hk.below (B := w2.heap.size) (fun a ha => by
        simp only [List.mem_cons, List.not_mem_nil, or_false] at ha
        omega) HB6.out.size))
      have HLi := Lib.hid (dlist_any (ln := ⟨dl B0 P0 DA b2 (ndS (nbE 3)) L9, Y0⟩) q p t mm dd gg 0 B0 P0 8 DA (8 + 30 % 60) N (7000 + 30000 * 3 + 40000 + 30000) g Y2 V2 1 (by decide) (by decide) b2 [(⟨#[97]⟩, 5), (⟨#[100]⟩, 6), (⟨#[99]⟩, 5)] hS.dir hS.tab (by decide) HGG.out w7 hG)
      have hlv : liveE [(⟨#[97]⟩, 5), (⟨#[100]⟩, 6), (⟨#[99]⟩, 5)] = [(⟨#[97]⟩, 5), (⟨#[100]⟩, 6), (⟨#[99]⟩, 5)] := by kernel_rfl
      rw [hlv] at HLi
      clear hk hG hS HAd HB6 hlv
      go_wp2_with fail
      refine HLi.out.mono ?_
      rintro e w8 ⟨v', base, rfl, hbs, hO, -, hk⟩
      have HB8 := Lib.hid (HB7.out.trans (hk.below (B := w2.heap.size) (fun a ha => by
        simp only [List.mem_cons, List.not_mem_nil, or_false] at ha
        omega) HB7.out.size))
      obtain ⟨pa, cap, hv⟩ := Cf.ownsRow_form hO
      subst hv
      obtain ⟨g0, rfl, -, -⟩ := own_some hO (by decide)
      have hra := own_at hO rfl (k := 1) rfl
      have cA : w8.cell? ⟨g0, 2, none⟩ = some (.string ⟨#[100]⟩) := hra 0 _ rfl
      have cB : w8.cell? ⟨g0, 3, none⟩ = some (.int .u16 6) := hra 1 _ rfl
      clear hk hO hra HLi hbs HB7
      have HEQ := Lib.hid (fun W => eqEn (⟨#[100]⟩, 6) (⟨#[100]⟩, 6) (by decide) (by decide) (by decide) (by decide) W)
      rw [decide_eq_true rfl] at HEQ
      go_wp2_with (first | (refine wpList_yields (.agg (enc (⟨#[100]⟩, 6)).toArray) (yields_bld2 (by rfl) 58 0 1 _ _ rfl (.string ⟨#[100]⟩) (.int .u16 6) rfl rfl _ (fun W => Tryz.buildEn2 ⟨#[100]⟩ 6 W)) ?_) | (refine wpList_yields (.bool true) (yields_eql (by rfl) 58 58 _ _ rfl (enc (⟨#[100]⟩, 6)).toArray (enc (⟨#[100]⟩, 6)).toArray rfl rfl true Tryz.guardEn (fun W _ => HEQ.out W)) ?_))
      go_ret
      exact ⟨rfl, HB2.out.trans (HB8.out.mono hw2)⟩
end Go.Proofs.YtgfgdfcedmcjeaaGreatDoor

namespace Go.Proofs.YtgfgdfcedmcjeaaGreatDoor
set_option linter.unusedSimpArgs false
set_option linter.unusedVariables false
open Go.RowKit Go.Maps

end Go.Proofs.YtgfgdfcedmcjeaaGreatDoor

namespace Go.Proofs.YtgfgdfcedmcjeaaGreatDoor
set_option linter.unusedSimpArgs false
set_option linter.unusedVariables false
open Go.ChangeShapes Go.WideShapes Go.ChangeAt Go.RowKit Go.Deep

set_option maxRecDepth 100000 in
theorem Tryz.own : ownKnob Tryz.prog.godebug = none := by kernel_rfl
set_option maxRecDepth 100000 in
theorem Tryz.laidOut : laidOutB Tryz.prog = true := by kernel_rfl
def litV : Lit → Value
  | .int k z => .int k z
  | .string bs => .string ⟨bs.toArray⟩
  | _ => undef
def oneV : DataW Unit → Value
  | .lit l => litV l
  | _ => undef
def rowV : DataW Unit → List Value
  | .agg ds => ds.map oneV
  | _ => []
def gridV : DataW Unit → List Value
  | .agg ds => ds.flatMap rowV
  | _ => []
def putTab (c : Array Value) : Obj → Obj
  | .cells _ t frozen => .cells c t frozen
  | o => o
noncomputable def laidWorld (os : Os) : World :=
  { World.holding Tryz.prog os ⟨#[], #[], []⟩ with heap := (((World.holding Tryz.prog os ⟨#[], #[], []⟩).heap.modify 0 (putTab (rowV Rows.laid_unicode_utf8_first).toArray)).modify 1 (putTab (gridV Rows.laid_unicode_utf8_acceptRanges).toArray)) }

end Go.Proofs.YtgfgdfcedmcjeaaGreatDoor

namespace Go.Proofs.YtgfgdfcedmcjeaaGreatDoor
set_option linter.unusedSimpArgs false
set_option linter.unusedVariables false
open Go.RowKit Go.Maps

/-- the names that are given one by one -/
def nmM (i : Nat) : ByteArray := ⟨#[UInt8.ofNat (97 + i % 26), UInt8.ofNat (97 + i / 26)]⟩
def enM (i : Nat) : En := (nmM i, i + 4)
def EM (n : Nat) : List En := (List.range n).map enM
/-- what is left when j of n names are dropped, from behind or from before -/
def SE (back : Bool) (n j : Nat) : List En := if back = true then EM (n - j) else if j < n then List.replicate j zE ++ (EM n).drop j else []
/-- the number that is dropped j-th -/
def kM (back : Bool) (n j : Nat) : Nat := if back = true then n - 1 - j else j
theorem u8_inj {a b : Nat} (ha : a < 256) (hb : b < 256) (h : UInt8.ofNat a = UInt8.ofNat b) : a = b := by
  have := congrArg UInt8.toNat h
  rw [UInt8.toNat_ofNat', UInt8.toNat_ofNat', Nat.mod_eq_of_lt ha, Nat.mod_eq_of_lt hb] at this
  exact this
theorem nmM_inj {i j : Nat} (hi : i < 100) (hj : j < 100) (h : nmM i = nmM j) : i = j := by
  unfold nmM at h
  have h1 := congrArg ByteArray.data h
  have h2 := congrArg Array.toList h1
  simp only [List.cons.injEq, and_true] at h2
  have h3 := u8_inj (by omega) (by omega) h2.1
  have h4 := u8_inj (by omega) (by omega) h2.2
  omega
theorem nmM_code (i : Nat) (hi : i < 100) : nameC (nmM i) = 0 := by
  have : ∀ i, i < 100 → nameC (nmM i) = 0 := by decide +kernel
  exact this i hi
theorem enM_live (i : Nat) : vacE (enM i) = false := by
  unfold vacE
  rw [decide_eq_false]
  intro h
  have := congrArg Prod.snd h
  change i + 4 = 0 at this
  omega
theorem zE_vac : vacE zE = true := by
  unfold vacE
  rw [decide_eq_true rfl]
theorem bl_inj {a b : ByteArray} (h : (a.toList == b.toList) = true) : a = b := by
  have h1 := eq_of_beq h
  rw [ByteArray.toList_eq, ByteArray.toList_eq] at h1
  exact Go.WideShapes.bytes_inj h1
theorem mtM (i j : Nat) (hi : i < 100) (hj : j < 100) : mtE (nmM i) (enM j) = decide (i = j) := by
  unfold mtE
  rw [enM_live]
  by_cases h : i = j
  · subst h
    rw [decide_eq_true rfl]
    simp [enM]
  · rw [decide_eq_false h]
    cases hh : ((enM j).1.toList == (nmM i).toList)
    · rfl
    · exact absurd (nmM_inj hj hi (bl_inj hh)).symm h
theorem mtz (s : ByteArray) : mtE s zE = false := by
  unfold mtE
  rw [zE_vac]
  rfl
theorem EM_len (n : Nat) : (EM n).length = n := by simp [EM]
theorem EM_get (n i : Nat) (hi : i < n) : (EM n)[i]? = some (enM i) := by
  unfold EM
  rw [List.getElem?_map, List.getElem?_range hi]
  rfl
theorem EM_mem (n : Nat) (e : En) : e ∈ EM n ↔ ∃ i, i < n ∧ e = enM i := by
  unfold EM
  simp only [List.mem_map, List.mem_range]
  exact ⟨fun ⟨i, h1, h2⟩ => ⟨i, h1, h2.symm⟩, fun ⟨i, h1, h2⟩ => ⟨i, h1, h2.symm⟩⟩
theorem EM_succ (n : Nat) : EM (n + 1) = EM n ++ [enM n] := by
  unfold EM
  rw [List.range_succ, List.map_append]
  rfl
theorem addM (n : Nat) (hn : n < 100) : addC (EM n) (nmM n, n + 4) = 0 := addC_ok (nmM_code n hn) (by show ¬ n + 4 = 0; omega) (fun e he => by
  obtain ⟨i, hi, rfl⟩ := (EM_mem n e).1 he
  show mtE (nmM n) (enM i) = false
  rw [mtM n i hn (by omega), decide_eq_false (by omega)])
theorem roomN_all : ∀ (E : List En), (∀ e ∈ E, vacE e = false) → roomN E = E.length
  | [], _ => rfl
  | e :: E, h => by
    unfold roomN
    rw [h e (List.mem_cons_self ..), if_neg (by decide), roomN_all E (fun e he => h e (List.mem_cons_of_mem _ he))]
    rfl
theorem setM (n : Nat) : setE (EM n) (roomN (EM n)) (nmM n, n + 4) = EM (n + 1) := by
  rw [roomN_all _ (fun e he => by
    obtain ⟨i, -, rfl⟩ := (EM_mem n e).1 he
    exact enM_live i)]
  unfold setE
  rw [if_neg (by omega), EM_succ]
  rfl
theorem SE_get (n j i : Nat) (hj : j < n) : (SE false n j)[i]? = if i < j then some zE else if i < n then some (enM i) else none := by
  unfold SE
  rw [if_neg (by decide), if_pos hj]
  by_cases h : i < j
  · rw [if_pos h, List.getElem?_append_left (by rw [List.length_replicate]; exact h), List.getElem?_replicate, if_pos h]
  · rw [if_neg h, List.getElem?_append_right (by rw [List.length_replicate]; omega), List.length_replicate, List.getElem?_drop]
    by_cases h2 : i < n
    · rw [if_pos h2, EM_get _ _ (by omega), show j + (i - j) = i by omega]
    · rw [if_neg h2, List.getElem?_eq_none (by rw [EM_len]; omega)]
theorem SE_len (back : Bool) (n j : Nat) : (SE back n j).length = if back = true then n - j else if j < n then n else 0 := by
  unfold SE
  cases back
  · rw [if_neg (show ¬ false = true by decide), if_neg (show ¬ false = true by decide)]
    split
    · rw [List.length_append, List.length_replicate, List.length_drop, EM_len]
      omega
    · rfl
  · rw [if_pos rfl, if_pos rfl, EM_len]
theorem SE_le (back : Bool) (n j : Nat) : (SE back n j).length ≤ n := by
  rw [SE_len]
  split
  · omega
  · split <;> omega
theorem SE_zero (back : Bool) (n : Nat) : SE back n 0 = EM n := by
  unfold SE
  cases back
  · rw [if_neg (by decide)]
    cases n with
    | zero => rfl
    | succ n =>
      rw [if_pos (Nat.zero_lt_succ _)]
      rfl
  · rw [if_pos rfl]
    rfl
theorem kM_lt (back : Bool) (n j : Nat) (h : j < n) : kM back n j < n := by
  unfold kM
  split <;> omega
/-- the place of the name that is dropped, and that no earlier place holds it -/
theorem SE_at (back : Bool) (n j : Nat) (h : j < n) : (SE back n j)[kM back n j]? = some (enM (kM back n j)) := by
  cases back
  · rw [SE_get n j _ h]
    have hk : kM false n j = j := rfl
    rw [hk, if_neg (by omega), if_pos h]
  · unfold SE kM
    rw [if_pos rfl, if_pos rfl, EM_get _ _ (by omega)]
theorem SE_all (back : Bool) (n j i : Nat) (hn : n < 100) (h : j < n) (e : En) (he : (SE back n j)[i]? = some e) : mtE (nmM (kM back n j)) e = decide (i = kM back n j) := by
  have hk := kM_lt back n j h
  cases back
  · rw [SE_get n j i h] at he
    have hkk : kM false n j = j := rfl
    rw [hkk]
    split at he
    · injection he with he
      rw [← he, mtz, decide_eq_false (by omega)]
    · split at he
      · injection he with he
        rw [← he, mtM j i (by omega) (by omega)]
        by_cases hh : i = j
        · rw [decide_eq_true hh, decide_eq_true hh.symm]
        · rw [decide_eq_false hh, decide_eq_false (fun h => hh h.symm)]
      · cases he
  · have hin : i < n - j := by
      have := (List.getElem?_eq_some_iff.1 he).1
      rw [SE_len, if_pos rfl] at this
      exact this
    unfold SE at he
    rw [if_pos rfl, EM_get _ _ hin] at he
    injection he with he
    rw [← he, mtM _ _ (by omega) (by omega)]
    by_cases hh : i = kM true n j
    · rw [decide_eq_true hh, decide_eq_true hh.symm]
    · rw [decide_eq_false hh, decide_eq_false (fun h => hh h.symm)]
theorem SE_find (back : Bool) (n j : Nat) (hn : n < 100) (h : j < n) : findN (nmM (kM back n j)) (SE back n j) = kM back n j := by
  refine (find_eq _ (SE back n j) (kM back n j) (enM (kM back n j)) (SE_at back n j h) ?_ (fun i e hi he => ?_)).symm
  · rw [SE_all back n j _ hn h _ (SE_at back n j h), decide_eq_true rfl]
  · rw [SE_all back n j i hn h e he, decide_eq_false (by omega)]
theorem SE_any (back : Bool) (n j : Nat) (hn : n < 100) (h : j < n) (e : En) (he : e ∈ SE back n j) (hm : mtE (nmM (kM back n j)) e = true) : e.2 = kM back n j + 4 := by
  obtain ⟨i, hi⟩ := List.mem_iff_getElem?.1 he
  rw [SE_all back n j i hn h e hi] at hm
  have := of_decide_eq_true hm
  rw [this, SE_at back n j h] at hi
  injection hi with hi
  rw [← hi]
  rfl
theorem SE_has (back : Bool) (n j : Nat) (hn : n < 100) (h : j < n) : ¬ ∀ e ∈ SE back n j, mtE (nmM (kM back n j)) e = false := by
  intro hh
  have h1 := hh _ (List.mem_of_getElem? (SE_at back n j h))
  rw [SE_all back n j _ hn h _ (SE_at back n j h), decide_eq_true rfl] at h1
  cases h1
theorem SE_drop (back : Bool) (n j : Nat) (hn : n < 100) (h : j < n) : ((SE back n j).set (findN (nmM (kM back n j)) (SE back n j)) zE).take (usedN ((SE back n j).set (findN (nmM (kM back n j)) (SE back n j)) zE)) = SE back n (j + 1) := by
  rw [SE_find back n j hn h]
  have hl := SE_len back n j
  cases back
  · rw [if_neg (by decide), if_pos h] at hl
    have hk : kM false n j = j := rfl
    rw [hk]
    have hg : ∀ i, ((SE false n j).set j zE)[i]? = if i < j + 1 then (if i < n then some zE else none) else if i < n then some (enM i) else none := by
      intro i
      rw [List.getElem?_set, SE_get n j i h, hl]
      by_cases h1 : j = i
      · rw [if_pos h1, if_pos h, if_pos (by omega), if_pos (by omega)]
      · rw [if_neg h1]
        by_cases h2 : i < j
        · rw [if_pos h2, if_pos (by omega), if_pos (by omega)]
        · rw [if_neg h2, if_neg (show ¬ i < j + 1 by omega)]
    by_cases h1 : j + 1 < n
    · have hu : n = usedN ((SE false n j).set j zE) := by
        refine used_eq _ n ⟨by rw [List.length_set, hl]; exact Nat.le_refl _, fun i e hi he => ?_, .inr ⟨enM (n - 1), by rw [hg, if_neg (by omega), if_pos (by omega)], enM_live _⟩⟩
        rw [hg i, if_neg (by omega), if_neg (by omega)] at he
        cases he
      rw [← hu, List.take_of_length_le (by rw [List.length_set, hl]; exact Nat.le_refl _)]
      apply List.ext_getElem?
      intro i
      rw [hg i, SE_get n (j + 1) i h1]
      by_cases h2 : i < j + 1
      · rw [if_pos h2, if_pos h2, if_pos (by omega)]
      · rw [if_neg h2, if_neg h2]
    · have hu : 0 = usedN ((SE false n j).set j zE) := by
        refine used_eq _ 0 ⟨Nat.zero_le _, fun i e hi he => ?_, .inl rfl⟩
        rw [hg i] at he
        split at he
        · split at he
          · injection he with he
            rw [← he]
            exact zE_vac
          · cases he
        · rw [if_neg (by omega)] at he
          cases he
      rw [← hu]
      unfold SE
      rw [if_neg (by decide), if_neg h1]
      rfl
  · rw [if_pos rfl] at hl
    have hk : kM true n j = n - 1 - j := rfl
    rw [hk]
    have hg : ∀ i, i < n - 1 - j → ((SE true n j).set (n - 1 - j) zE)[i]? = some (enM i) := by
      intro i hi
      rw [List.getElem?_set, if_neg (by omega)]
      unfold SE
      rw [if_pos rfl, EM_get _ _ (by omega)]
    have hu : n - 1 - j = usedN ((SE true n j).set (n - 1 - j) zE) := by
      refine used_eq _ _ ⟨by rw [List.length_set, hl]; omega, fun i e hi he => ?_, ?_⟩
      · have hi2 := (List.getElem?_eq_some_iff.1 he).1
        rw [List.length_set, hl] at hi2
        obtain rfl : i = n - 1 - j := by omega
        rw [List.getElem?_set, if_pos rfl, if_pos (by rw [hl]; omega)] at he
        injection he with he
        rw [← he]
        exact zE_vac
      · by_cases h0 : n - 1 - j = 0
        · exact .inl h0
        · exact .inr ⟨enM (n - 1 - j - 1), hg _ (by omega), enM_live _⟩
    rw [← hu]
    apply List.ext_getElem?
    intro i
    have e1 : SE true n (j + 1) = EM (n - 1 - j) := by
      unfold SE
      rw [if_pos rfl, show n - (j + 1) = n - 1 - j by omega]
    rw [e1]
    by_cases hi : i < n - 1 - j
    · rw [List.getElem?_take_of_lt hi, hg i hi, EM_get _ _ hi]
    · rw [List.getElem?_eq_none (by rw [List.length_take]; omega), List.getElem?_eq_none (by rw [EM_len]; omega)]
end Go.Proofs.YtgfgdfcedmcjeaaGreatDoor

namespace Go.Proofs.YtgfgdfcedmcjeaaGreatDoor
set_option linter.unusedSimpArgs false
set_option linter.unusedVariables false
open Go.RowKit Go.Maps

set_option maxHeartbeats 4000000 in
set_option maxRecDepth 100000 in
theorem many_any (i : Nat) (hi : i < 100) (w : World) : Calls Tryz.prog 30 #[.int .i64 (i : Int)] w fun e w' => e = .returned (.string (nmM i)) ∧ Below w.heap.size w w' := by
  have hs : strOf 2 (fun j => if j = 0 then 97 + (i : Int) % 26 else 97 + (i : Int) / 26) = nmM i := by
    unfold strOf nmM
    apply Go.WideShapes.bytes_inj
    simp only [List.range_succ, List.range_zero, List.nil_append, List.map_append, List.map_cons, List.map_nil, List.cons_append, if_true, Nat.one_ne_zero, if_false, List.cons.injEq, and_true]
    rw [show (97 + (i : Int) % 26).toNat = 97 + i % 26 by omega, show (97 + (i : Int) / 26).toNat = 97 + i / 26 by omega]
    exact ⟨rfl, rfl⟩
  go_enter Tryz.func30, Tryz.ntmps30
  go_wp2_with fail
  rw [str_cells (s := fun j => if j = 0 then 97 + (i : Int) % 26 else 97 + (i : Int) / 26) (fun j hj => by
    split <;> omega) (fun j hj => by
    have hj2 : j = 0 ∨ j = 1 := by omega
    rcases hj2 with rfl | rfl
    · rw [World.cell?_alloc_at _ _ _ _ rfl]
      rfl
    · rw [World.cell?_alloc_at _ _ _ _ rfl]
      rfl), hs]
  go_wp2_with fail
  go_ret
  exact ⟨rfl, (Below.refl _ _).alloc (Nat.le_refl _) _⟩
end Go.Proofs.YtgfgdfcedmcjeaaGreatDoor
