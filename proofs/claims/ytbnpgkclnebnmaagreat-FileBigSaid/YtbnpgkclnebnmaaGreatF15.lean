import Derived.Test.YtbnpgkclnebnmaaGreatF14
import Derived.Test.YtbnpgkclnebnmaaGreatQ8
import Derived.Test.YtbnpgkclnebnmaaGreatL1
/- Files: the laws: a small configuration, Awake. -/
namespace Go.Proofs.YtbnpgkclnebnmaaGreat
set_option linter.unusedSimpArgs false
set_option linter.unusedVariables false
open Go.RowKit Go.Maps

def H8 : Nat → Nat → Int := fun i j => if i = 0 ∧ j = 0 then 59 else if i = 1 ∧ j = 0 then 10 else 0
theorem H8_ok : Cf.Hok H8 := fun i j _ _ => by
  unfold H8
  split
  · decide
  · split <;> decide
def R8 : List Cf.Rg := Cf.sizeRs 2 H8
theorem R8_len : R8.length = 2 := Cf.sizeRs_len 2 (.inl rfl) H8
theorem R8_small : ∀ r ∈ R8, Cf.Small r := Cf.size_small 2 (.inl rfl) H8 H8_ok
theorem small_any (w : World) : Calls Tryz.prog 66 #[] w fun e w' => ∃ n vr vm vg, e = .returned (.pointer (some ⟨n + 3, 0, none⟩)) ∧ w.heap.size ≤ n ∧ Below w.heap.size w w' ∧ Cf.CF n w' vr vm vg R8 [] := by
  have hP := Lib.hid (fun W => Cf.sizeconf_two 0 (by decide) (by decide) H8 H8_ok (.slice none 0 0) [] (fun x hx => by cases hx) W (u8s_none W) (by decide) rfl)
  have e : Cf.sizeVal 0 H8 (.slice none 0 0) = .agg #[.int .u8 0, .int .u8 59, .int .u8 0, .int .u8 0, .int .u8 0, .int .u8 0, .int .u8 10, .int .u8 0, .int .u8 0, .int .u8 0, .int .u8 0, .int .u8 0, .int .u8 0, .int .u8 0, .int .u8 0, .int .u8 0, .int .u8 0, .int .u8 0, .int .u8 0, .int .u8 0, .int .u8 0, .int .u8 0, .int .u8 0, .int .u8 0, .int .u8 0, .int .u8 0, .slice none 0 0] := by kernel_rfl
  rw [e] at hP
  clear e
  go_enter Tryz.func66, Tryz.ntmps66
  go_wp2_with fail
  refine (hP.out w).mono ?_
  rintro e w1 ⟨n, vr, vm, vg, rfl, hn, hb, hCF⟩
  have HCF := Lib.hid hCF
  have HB := Lib.hid hb
  clear hCF hb hP
  go_wp2_with fail
  go_ret
  exact ⟨n, vr, vm, vg, rfl, hn, HB.out, HCF.out⟩
/-- what is known of that configuration, and of its first label's group -/
structure C8 (N : Nat) (g : Cf.Ge) (B0 P0 DA : Nat) : Prop where
  hN : (Cf.layF R8).2 = N
  n0 : 32 ≤ N
  n1 : N ≤ 65536
  hg : (Cf.layF R8).1[0]'(by rw [Cf.lay_len, R8_len]; decide) = g
  gg : GG g B0 P0 8 DA 67 N
theorem c8 : ∃ N g B0 P0 DA, C8 N g B0 P0 DA := by
  have hT := Cf.layF_range R8 R8_small R8.length (Nat.le_refl _)
  rw [List.take_length] at hT
  have hl := R8_len
  obtain ⟨N, hN⟩ := Int.eq_ofNat_of_zero_le (show 0 ≤ (Cf.layF R8).2 by omega)
  obtain ⟨g, hgi⟩ : ∃ g, (Cf.layF R8).1[0]'(by rw [Cf.lay_len, R8_len]; decide) = g := ⟨_, rfl⟩
  obtain ⟨B0, P0, M, DA, NB, hg, hbl, hnd⟩ := geo_gg R8 R8_small (by rw [hl]; decide) N hN 0 (by rw [hl]; decide) g hgi
  have e1 : (R8[0]'(by rw [hl]; decide)).bl = 67 := by kernel_rfl
  have e2 : (R8[0]'(by rw [hl]; decide)).nd = 8 := by kernel_rfl
  rw [e1] at hbl
  rw [e2] at hnd
  obtain rfl : NB = 67 := by omega
  obtain rfl : M = 8 := by omega
  exact ⟨N, g, B0, P0, DA, hN, by omega, by omega, hgi, hg⟩
theorem fresh8 {N : Nat} {g : Cf.Ge} {B0 P0 DA : Nat} (hc : C8 N g B0 P0 DA) (n : Nat) (vr vm vg : Value) (w : World) (h : Cf.CF n w vr vm vg R8 []) :
    Calls Tryz.prog 25 #[.pointer (some ⟨n + 3, 0, none⟩)] w fun e w' => ∃ t m d g' l Y, e = .returned (.tuple #[.pointer (some ⟨d, 0, none⟩), .pointer (some ⟨l, 0, none⟩), .pointer (some ⟨t, 0, none⟩)]) ∧ From w.heap.size t m d g' ∧ w.heap.size ≤ l ∧ l ∉ [t, m, d, g'] ∧ Lg w' l d 1 ∧ Rd w' t m d g' N ⟨[], Y⟩ Y 7000 ∧ Tab P0 8 Y (VF 3) ∧ (∀ j, j < 512 → bt Y B0 j = false) ∧ Below w.heap.size w w' := by
  have hl := R8_len
  refine (fresh_any n vr vm vg R8 [] R8_small (by rw [hl]; decide) (by rw [hl]; decide) N hc.hN hc.n0 hc.n1 w h).mono ?_
  rintro e w' ⟨t, m, d, g', l, Y, he, h1, h2, h3, h4, h5, h6, h7⟩
  have h8 := h6.done 0 (by rw [hl]; decide) (by rw [hl]; decide)
  rw [hc.hg] at h8
  obtain ⟨h9, h10⟩ := h8 B0 P0 8 DA 67 hc.gg
  exact ⟨t, m, d, g', l, Y, he, h1, h2, h3, h4, h5, h9, h10, h7⟩
theorem open8 {N : Nat} {g : Cf.Ge} {B0 P0 DA : Nat} (hc : C8 N g B0 P0 DA) (ln : Lm) (t m d gg n K : Nat) (Y : Nat → Nat → Int) (vr vm vg : Value) (w : World) (h : Cf.CF n w vr vm vg R8 []) (hr : Rd w t m d gg N ln Y K) :
    Calls Tryz.prog 13 #[.pointer (some ⟨t, 0, none⟩), .pointer (some ⟨n + 3, 0, none⟩), .int .i64 0] w fun e w' => ∃ q p, e = .returned (.tuple #[.pointer (some ⟨q, 0, none⟩), .int .i64 0]) ∧ w.heap.size ≤ q ∧ w.heap.size ≤ p ∧ Gr w' q p t m d gg 0 g B0 67 N ln Y K ∧ Below w.heap.size w w' :=
  gopen_in (ln := ln) t m d gg n B0 P0 8 DA 67 N K Y vr vm vg R8 [] 0 (by rw [R8_len]; decide) g hc.hg hc.gg w h hr
/-- a node that has no blocks -/
theorem Fu.none (B0 DA NB : Nat) (Y : Nat → Nat → Int) (f : Nat → Int) (b : Nat → Nat) (hf : ∀ i, 4 ≤ i → i < 12 → f i = 0) : Fu B0 DA NB Y f (ndS 0) b := by
  have hno : ∀ c, ndS 0 c = true → False := fun c hc => by
    rw [ndS_iff] at hc
    omega
  refine ⟨⟨fun c hc => (hno c hc).elim, fun c hc => ?_, fun c _ _ hc => (hno _ hc).elim, fun c _ hc => (hno c hc).elim, fun c hc => (hno c hc).elim, fun c c' hc => (hno c hc).elim⟩, fun c hc => (hno c hc).elim⟩
  rw [if_neg (fun hh => hno c hh)]
  exact hf _ (rtI_lt c hc).1 (rtI_lt c hc).2
theorem own_noblocks (k : Int) (i : Nat) (h4 : 4 ≤ i) : own k i = 0 := by
  unfold own
  rw [if_neg (by omega), if_neg (by omega), if_neg (by omega)]
theorem VF3 : VF 3 3 = own 1 := by
  unfold VF
  rw [if_pos (by decide)]
  rfl
/-- blocks that lack, though few are wanted: that can't be -/
theorem no_space (NB : Nat) (n : Nat → Bool) (B : Nat → Nat) (Ls : List Nat) (hLs : ∀ c, n c = true → c ∈ Ls) (hall : ∀ j, j < NB → ∃ c, n c = true ∧ B c = j + 1) : NB ≤ Ls.length := by
  have hch : ∃ f : Nat → Nat, ∀ j, j < NB → n (f j) = true ∧ B (f j) = j + 1 := by
    refine ⟨fun j => if h : j < NB then Classical.choose (hall j h) else 0, fun j hj => ?_⟩
    simp only [dif_pos hj]
    exact Classical.choose_spec (hall j hj)
  obtain ⟨f, hf⟩ := hch
  have h1 : ((List.range NB).map f).Nodup := by
    unfold List.Nodup
    rw [List.pairwise_map]
    refine List.Pairwise.imp_of_mem (R := fun a b => a ≠ b) (fun {a b} ha hb hab he => hab ?_) (List.nodup_range (n := NB))
    have h1 := (hf a (List.mem_range.1 ha)).2
    have h2 := (hf b (List.mem_range.1 hb)).2
    rw [he] at h1
    omega
  have := nodup_le _ Ls h1 (fun a ha => by
    obtain ⟨j, hj, rfl⟩ := List.mem_map.1 ha
    exact hLs _ (hf j (List.mem_range.1 hj)).1)
  simpa using this
end Go.Proofs.YtbnpgkclnebnmaaGreat
