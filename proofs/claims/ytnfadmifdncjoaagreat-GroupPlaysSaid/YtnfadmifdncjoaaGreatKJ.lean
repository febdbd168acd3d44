import Derived.Test.YtnfadmifdncjoaaGreatKM2
import Derived.Deep.MidRow
/- Configurations: Size.Conf. -/
namespace Go.Proofs.YtnfadmifdncjoaaGreat.Cf
set_option linter.unusedSimpArgs false
set_option linter.unusedVariables false
open Go.RowKit Go.Maps
end Go.Proofs.YtnfadmifdncjoaaGreat.Cf

namespace Go.Proofs.YtnfadmifdncjoaaGreat.Cf
set_option linter.unusedSimpArgs false
set_option linter.unusedVariables false
open Go.RowKit Go.Maps

def clN (M i : Nat) : Nat := if M = 2 then 1 else if M = 3 then (if i = 0 then 1 else i) else M - 1
def rsN (M : Nat) (H : Nat → Nat → Int) (i : Nat) : Rg := { sizeRg M H i with cl := (clN M i : Int) }
theorem sizeRs_map (M : Nat) (hM : M = 2 ∨ M = 3 ∨ M = 4 ∨ M = 5) (H : Nat → Nat → Int) : sizeRs M H = (List.range M).map (rsN M H) := by
  rcases hM with rfl | rfl | rfl | rfl <;> rfl
theorem sizeRs_len (M : Nat) (hM : M = 2 ∨ M = 3 ∨ M = 4 ∨ M = 5) (H : Nat → Nat → Int) : (sizeRs M H).length = M := by
  rw [sizeRs_map M hM]; simp
theorem sizeRs_get (M : Nat) (hM : M = 2 ∨ M = 3 ∨ M = 4 ∨ M = 5) (H : Nat → Nat → Int) (i : Nat) (hi : i < M) : (sizeRs M H)[i]? = some (rsN M H i) := by
  rw [sizeRs_map M hM]; simp [hi]
theorem rsN_have (M : Nat) (H : Nat → Nat → Int) (hH : Hok H) (i : Nat) (hi : i < 5) : haveB (rsN M H i) = true := by
  have h0 := hH i 0 hi (by omega)
  have h1 := hH i 1 hi (by omega)
  have h2 := hH i 2 hi (by omega)
  have h3 := hH i 3 hi (by omega)
  have h4 := hH i 4 hi (by omega)
  have hl : lvL i < 16 := by
    match i, hi with
    | 0, _ | 1, _ | 2, _ | 3, _ | 4, _ => decide
  simp only [haveB, rsN, sizeRg, Bool.and_eq_true, decide_eq_true_eq]
  repeat' apply And.intro
  all_goals exact decide_eq_true (by omega)
theorem nmL_ne : ∀ i, i < 5 → ∀ j, j < 5 → i ≠ j → nmL i ≠ nmL j := by decide +kernel
theorem lbL_ne : ∀ i, i < 5 → ∀ j, j < 5 → i ≠ j → ¬ (lvL i = lvL j ∧ csL i = csL j) := by decide +kernel
theorem nmL_name : ∀ i, i < 5 → nameB (nmL i) = true := by decide +kernel
theorem clN_lt (M : Nat) (hM : M = 2 ∨ M = 3 ∨ M = 4 ∨ M = 5) (i : Nat) (hi : i < M) : clN M i < M := by
  rcases hM with rfl | rfl | rfl | rfl <;> simp only [clN] <;> split <;> (try split) <;> (try split) <;> omega
theorem clN_leq (M : Nat) (hM : M = 2 ∨ M = 3 ∨ M = 4 ∨ M = 5) : ∀ i, i < M → leqB (lvL i) (csL i) (lvL (clN M i)) (csL (clN M i)) = true := by
  rcases hM with rfl | rfl | rfl | rfl <;> decide +kernel
theorem getD_of {α : Type} {l : List α} {i : Nat} {a d : α} (h : l[i]? = some a) : l.getD i d = a := by rw [List.getD_eq_getElem?_getD, h]; rfl
theorem size_oneE (M : Nat) (hM : M = 2 ∨ M = 3 ∨ M = 4 ∨ M = 5) (H : Nat → Nat → Int) (hH : Hok H) (i : Nat) (hi : i < M) : oneE (sizeRs M H) i = 0 := by
  have hi5 : i < 5 := by omega
  have h2 := rsN_have M H hH i hi5
  have h3 := clN_lt M hM i hi
  unfold oneE
  simp only [getD_of (sizeRs_get M hM H i hi), sizeRs_len M hM]
  rw [if_neg (by rw [show (rsN M H i).nm = nmL i from rfl, nmL_name i hi5]; decide), if_neg, if_neg]
  · intro h
    rw [List.any_eq_true] at h
    obtain ⟨x, hx, hp⟩ := h
    obtain ⟨j, hj, rfl⟩ := List.mem_iff_getElem.1 hx
    simp only [List.length_take] at hj
    have hji : j < i := by omega
    have hjM : j < M := by omega
    have hg := sizeRs_get M hM H j hjM
    have e : ((sizeRs M H).take i)[j]'(by simpa using hj) = rsN M H j := by
      rw [List.getElem_take]
      have := List.getElem?_eq_some_iff.1 hg
      exact this.2
    rw [e] at hp
    simp only [Bool.or_eq_true, Bool.and_eq_true, decide_eq_true_eq] at hp
    rcases hp with hp | hp
    · exact nmL_ne j (by omega) i hi5 (by omega) hp
    · exact lbL_ne j (by omega) i hi5 (by omega) hp
  · rw [h2]
    have e1 : decide (0 ≤ (rsN M H i).cl) = true := by
      rw [decide_eq_true_eq]; show (0 : Int) ≤ (clN M i : Int); omega
    have e2 : decide ((rsN M H i).cl < (M : Int)) = true := by
      rw [decide_eq_true_eq]; show (clN M i : Int) < (M : Int); omega
    rw [e1, e2]
    decide
theorem size_regsE (M : Nat) (hM : M = 2 ∨ M = 3 ∨ M = 4 ∨ M = 5) (H : Nat → Nat → Int) (hH : Hok H) : ∀ k, k ≤ M → regsE (sizeRs M H) k = 0
  | 0, _ => rfl
  | k + 1, h => by
    rw [regsE, if_pos (size_regsE M hM H hH k (by omega)), size_oneE M hM H hH k (by omega)]
theorem regAt_size (M : Nat) (hM : M = 2 ∨ M = 3 ∨ M = 4 ∨ M = 5) (H : Nat → Nat → Int) (i : Nat) (hi : i < M) : regAt (sizeRs M H) (i : Int) = (rsN M H i, true) := by
  rw [regAt_in _ i (by rw [sizeRs_len M hM]; exact hi)]
  have := List.getElem?_eq_some_iff.1 (sizeRs_get M hM H i hi)
  rw [this.2]
theorem size_permB (M : Nat) (hM : M = 2 ∨ M = 3 ∨ M = 4 ∨ M = 5) (H : Nat → Nat → Int) : ∀ k, k ≤ M → permB (sizeRs M H) k = true
  | 0, _ => rfl
  | k + 1, h => by
    have hk : k < M := by omega
    rw [permB, size_permB M hM H k (by omega), getD_of (sizeRs_get M hM H k hk)]
    show (true && leqAt (sizeRs M H) k ((clN M k : Nat) : Int)) = true
    unfold leqAt
    rw [regAt_size M hM H k hk, regAt_size M hM H _ (clN_lt M hM k hk)]
    show (true && (true && true && leqB (lvL k) (csL k) (lvL (clN M k)) (csL (clN M k)))) = true
    rw [clN_leq M hM k hk]
    rfl
theorem acM_good (M : Nat) (hM : 2 ≤ M) (ts : List Int) : ∀ j, j ≤ ts.length → (acM M ts j).Nodup ∧ ∀ y ∈ acM M ts j, 0 ≤ y.1 ∧ y.1 < M ∧ 4 ≤ y.2 ∧ y.2 < 8
  | 0, _ => by rw [acM_zero]; exact ⟨List.nodup_nil, fun y h => by cases h⟩
  | j + 1, h => by
    obtain ⟨hn, hb⟩ := acM_good M hM ts j (by omega)
    rw [acM_succ M ts j (by omega)]
    split
    · exact ⟨hn, hb⟩
    · rename_i hc
      refine ⟨?_, ?_⟩
      · rw [List.nodup_append]
        refine ⟨hn, by simp, fun a ha b hb' => ?_⟩
        simp only [List.mem_singleton] at hb'
        subst hb'
        intro e
        subst e
        exact hc (.inr ha)
      · intro y hy
        rw [List.mem_append] at hy
        rcases hy with hy | hy
        · exact hb y hy
        · simp only [List.mem_singleton] at hy
          subst hy
          have hM0 : (0 : Int) < M := by omega
          have a1 := Int.emod_nonneg ts[j] (show (M : Int) ≠ 0 by omega)
          have a2 := Int.emod_lt_of_pos ts[j] hM0
          refine ⟨a1, a2, ?_, ?_⟩
          · show 4 ≤ 4 + ts[j] / 8 % 4; omega
          · show 4 + ts[j] / 8 % 4 < 8; omega
theorem size_marksE (M : Nat) (hM : M = 2 ∨ M = 3 ∨ M = 4 ∨ M = 5) (H : Nat → Nat → Int) (hH : Hok H) (ts : List Int) : ∀ k, k ≤ (sizeMs M ts).length → marksE (sizeRs M H) (sizeMs M ts) k = 0
  | 0, _ => rfl
  | k + 1, h => by
    have hg := acM_good M (by omega) ts ts.length (Nat.le_refl _)
    rw [acM_all] at hg
    rw [marksE, if_pos (size_marksE M hM H hH ts k (by omega))]
    have hk : k < (sizeMs M ts).length := by omega
    unfold markOne
    simp only [getD_of (List.getElem?_eq_getElem hk)]
    obtain ⟨b0, b1, b2, b3⟩ := hg.2 _ (List.getElem_mem hk)
    have hn := hg.1
    obtain ⟨p, hp⟩ : ∃ p : Nat, ((sizeMs M ts)[k]).1 = (p : Int) := ⟨((sizeMs M ts)[k]).1.toNat, by omega⟩
    rw [if_neg, if_neg]
    · intro h'
      rw [List.any_eq_true] at h'
      obtain ⟨x, hx, hq⟩ := h'
      simp only [Bool.and_eq_true, decide_eq_true_eq] at hq
      obtain ⟨j, hj, rfl⟩ := List.mem_iff_getElem.1 hx
      simp only [List.length_take] at hj
      rw [List.getElem_take] at hq
      have : (sizeMs M ts)[j] = (sizeMs M ts)[k] := Prod.ext hq.1 hq.2
      exact (List.pairwise_iff_getElem.1 hn) j k (by omega) hk (by omega) this
    · rw [hp, regAt_size M hM H p (by omega)]
      have h1 := hH p 1 (by omega) (by omega)
      have e1 : decide (1 ≤ ((sizeMs M ts)[k]).2) = true := by rw [decide_eq_true_eq]; omega
      have e2 : decide (((sizeMs M ts)[k]).2 ≤ (rsN M H p).nd) = true := by
        rw [decide_eq_true_eq]
        show _ ≤ 8 + 2 * (H p 1 % 12)
        omega
      rw [e1, e2]
      exact Bool.noConfusion
theorem size_newE (M : Nat) (hM : M = 2 ∨ M = 3 ∨ M = 4 ∨ M = 5) (H : Nat → Nat → Int) (hH : Hok H) (ts : List Int) : newE (sizeRs M H) (sizeMs M ts) = 0 := by
  unfold newE
  rw [sizeRs_len M hM, if_neg (by omega), size_regsE M hM H hH M (Nat.le_refl _), if_neg (by decide), getD_of (sizeRs_get M hM H 0 (by omega)), if_neg (show ¬ (decide ((rsN M H 0).lv = 0) && decide ((rsN M H 0).cs = 0)) = false from (by decide : ¬ (decide (lvL 0 = 0) && decide (csL 0 = 0)) = false)), size_permB M hM H M (Nat.le_refl _), if_neg (by decide), size_marksE M hM H hH ts _ (Nat.le_refl _)]
theorem new_any (vr0 vm0 : Value) (rs : List Rg) (ms : List (Int × Int)) (w : World) (hr : Regs w vr0 rs) (hok : ∀ r ∈ rs, r.ok) (hm : Mks w vm0 ms) (hmk : ∀ m ∈ ms, markOk m) (hml : ms.length ≤ 5000) :
    Calls Tryz.prog 38 #[vr0, vm0] w (NewPost rs ms w) := by
  by_cases h1 : rs.length = 0
  · obtain ⟨a, cap, rfl⟩ := hr.form
    have HE : Hid (newE rs ms = 23) := by show newE rs ms = 23; unfold newE; rw [if_pos (Or.inl (by omega))]
    rw [h1]
    clear hr hok hm hmk h1
    go_enter Tryz.func38, Tryz.ntmps38
    go_wp2
    refine bodyPost_ret (v := .tuple #[.pointer none, .int .i64 23]) (by simp [results, Tryz.results38, go_sem]) rfl (NewPost.bad 23 HE.out (by decide) rfl (Below.refl _ _))
  · by_cases h64 : rs.length ≤ 64
    · obtain ⟨b, off, cap, rfl, hbl, -, hrow⟩ := hr.row (by omega)
      exact new_some b off cap rs vm0 ms w hbl (by omega) h64 hrow hok hm hmk hml
    · have hx := hr.max
      obtain ⟨a, cap, rfl⟩ := hr.form
      have HE : Hid (newE rs ms = 23) := by show newE rs ms = 23; unfold newE; rw [if_pos (Or.inr (by omega))]
      obtain ⟨N, hN⟩ : ∃ N, rs.length = N := ⟨_, rfl⟩
      rw [hN] at h1 h64 hx ⊢
      have i1 : ¬ ((N : Int) = 0) := by omega
      have i2 : 64 < (N : Int) := by omega
      unfold maxLen at hx
      clear hr hok hm hmk hN
      go_enter Tryz.func38, Tryz.ntmps38
      go_wp2
      refine bodyPost_ret (v := .tuple #[.pointer none, .int .i64 23]) (by simp [results, Tryz.results38, go_sem]) rfl (NewPost.bad 23 HE.out (by decide) rfl (Below.refl _ _))

end Go.Proofs.YtnfadmifdncjoaaGreat.Cf

namespace Go.Proofs.YtnfadmifdncjoaaGreat.Cf
set_option linter.unusedSimpArgs false
set_option linter.unusedVariables false
open Go.RowKit Go.Maps

theorem size_ok (M : Nat) (hM : M = 2 ∨ M = 3 ∨ M = 4 ∨ M = 5) (H : Nat → Nat → Int) : ∀ r ∈ sizeRs M H, r.ok := by
  intro r hr
  rw [sizeRs_map M hM, List.mem_map] at hr
  obtain ⟨i, hi, rfl⟩ := hr
  have hi : i < 5 := by have := List.mem_range.1 hi; omega
  have h1 : (nmL i).size ≤ 4 ∧ 0 ≤ lvL i ∧ lvL i < 256 ∧ 0 ≤ csL i ∧ csL i < 65536 := by
    match i, hi with
    | 0, _ | 1, _ | 2, _ | 3, _ | 4, _ => decide +kernel
  exact ⟨Nat.le_trans h1.1 (by unfold maxLen; omega), h1.2.1, h1.2.2.1, h1.2.2.2.1, h1.2.2.2.2⟩
theorem size_mkOk (M : Nat) (hM : M = 2 ∨ M = 3 ∨ M = 4 ∨ M = 5) (ts : List Int) : ∀ y ∈ sizeMs M ts, markOk y := by
  intro y hy
  have hg := (acM_good M (by omega) ts ts.length (Nat.le_refl _)).2
  rw [acM_all] at hg
  have := hg y hy
  unfold markOk
  omega
theorem size_small (M : Nat) (hM : M = 2 ∨ M = 3 ∨ M = 4 ∨ M = 5) (H : Nat → Nat → Int) (hH : Hok H) : ∀ r ∈ sizeRs M H, Small r := by
  intro r hr
  rw [sizeRs_map M hM, List.mem_map] at hr
  obtain ⟨i, hi, rfl⟩ := hr
  have hi : i < 5 := by have := List.mem_range.1 hi; omega
  have h0 := hH i 0 hi (by omega)
  have h1 := hH i 1 hi (by omega)
  show 4 ≤ 8 + H i 0 % 60 ∧ 8 + H i 0 % 60 ≤ 512 ∧ 4 ≤ 8 + 2 * (H i 1 % 12) ∧ 8 + 2 * (H i 1 % 12) ≤ 128
  omega
theorem sizeMs_len (M : Nat) (ts : List Int) : (sizeMs M ts).length ≤ 9 := by
  rw [← acM_all]; exact acM_nine M ts _ (Nat.le_refl _)

set_option maxHeartbeats 4000000 in
set_option maxRecDepth 100000 in
theorem sizeconf_of (m : Int) (m0 : 0 ≤ m) (m1 : m < 256) (H : Nat → Nat → Int) (hH : Hok H) (tv : Value) (ts : List Int) (hts : ∀ x ∈ ts, 0 ≤ x ∧ x < 256) (w : World) (htv : U8s w tv ts) (hl : ts.length ≤ maxLen) (M : Nat) (hM : 2 + m.toNat % 4 = M)
    (hRg : ∀ W, U8s W tv ts → Calls Tryz.prog 42 #[sizeVal m H tv] W fun e w' => ∃ v1 v2, e = .returned (.tuple #[v1, v2]) ∧ Below W.heap.size W w' ∧ Regs w' v1 (sizeRs M H) ∧ Mks w' v2 (sizeMs M ts)) :
    Calls Tryz.prog 8 #[sizeVal m H tv] w fun e w' => ∃ n vr vm vg, e = .returned (.pointer (some ⟨n + 3, 0, none⟩)) ∧ w.heap.size ≤ n ∧ Below w.heap.size w w' ∧ CF n w' vr vm vg (sizeRs M H) (sizeMs M ts) := by
  have hM4 : M = 2 ∨ M = 3 ∨ M = 4 ∨ M = 5 := by omega
  have hP := hRg
  have hN := fun v1 v2 W (h1 : Regs W v1 (sizeRs M H)) (h2 : Mks W v2 (sizeMs M ts)) => new_any v1 v2 (sizeRs M H) (sizeMs M ts) W h1 (size_ok M hM4 H) h2 (size_mkOk M hM4 ts) (by have := sizeMs_len M ts; omega)
  have hE := Lib.hid (size_newE M hM4 H hH ts)
  have HTV := Lib.hid htv
  have hP := Lib.hid hP
  have hN := Lib.hid hN
  unfold sizeVal at hP ⊢
  clear htv hts hH hM hM4 hRg
  have hc : (w.alloc (.cells #[.int .u8 m, .int .u8 (H 0 0), .int .u8 (H 0 1), .int .u8 (H 0 2), .int .u8 (H 0 3), .int .u8 (H 0 4), .int .u8 (H 1 0), .int .u8 (H 1 1), .int .u8 (H 1 2), .int .u8 (H 1 3), .int .u8 (H 1 4), .int .u8 (H 2 0), .int .u8 (H 2 1), .int .u8 (H 2 2), .int .u8 (H 2 3), .int .u8 (H 2 4), .int .u8 (H 3 0), .int .u8 (H 3 1), .int .u8 (H 3 2), .int .u8 (H 3 3), .int .u8 (H 3 4), .int .u8 (H 4 0), .int .u8 (H 4 1), .int .u8 (H 4 2), .int .u8 (H 4 3), .int .u8 (H 4 4), tv] 26)).rangeAt w.heap.size 0 [.int .u8 m, .int .u8 (H 0 0), .int .u8 (H 0 1), .int .u8 (H 0 2), .int .u8 (H 0 3), .int .u8 (H 0 4), .int .u8 (H 1 0), .int .u8 (H 1 1), .int .u8 (H 1 2), .int .u8 (H 1 3), .int .u8 (H 1 4), .int .u8 (H 2 0), .int .u8 (H 2 1), .int .u8 (H 2 2), .int .u8 (H 2 3), .int .u8 (H 2 4), .int .u8 (H 3 0), .int .u8 (H 3 1), .int .u8 (H 3 2), .int .u8 (H 3 3), .int .u8 (H 3 4), .int .u8 (H 4 0), .int .u8 (H 4 1), .int .u8 (H 4 2), .int .u8 (H 4 3), .int .u8 (H 4 4), tv] := by
    intro j u hj
    have := cells_new w [.int .u8 m, .int .u8 (H 0 0), .int .u8 (H 0 1), .int .u8 (H 0 2), .int .u8 (H 0 3), .int .u8 (H 0 4), .int .u8 (H 1 0), .int .u8 (H 1 1), .int .u8 (H 1 2), .int .u8 (H 1 3), .int .u8 (H 1 4), .int .u8 (H 2 0), .int .u8 (H 2 1), .int .u8 (H 2 2), .int .u8 (H 2 3), .int .u8 (H 2 4), .int .u8 (H 3 0), .int .u8 (H 3 1), .int .u8 (H 3 2), .int .u8 (H 3 3), .int .u8 (H 3 4), .int .u8 (H 4 0), .int .u8 (H 4 1), .int .u8 (H 4 2), .int .u8 (H 4 3), .int .u8 (H 4 4), tv] 26 j u hj
    rw [Addr.add_mid] at this
    exact this
  have hq : (Tryz.prog.underlying 26).map (·.isRow) = some true := by kernel_rfl
  obtain ⟨d, hu, hd⟩ := Option.map_eq_some_iff.1 hq
  have hi : (Tryz.prog.info? 26).map (·.size) = some ([.int .u8 m, .int .u8 (H 0 0), .int .u8 (H 0 1), .int .u8 (H 0 2), .int .u8 (H 0 3), .int .u8 (H 0 4), .int .u8 (H 1 0), .int .u8 (H 1 1), .int .u8 (H 1 2), .int .u8 (H 1 3), .int .u8 (H 1 4), .int .u8 (H 2 0), .int .u8 (H 2 1), .int .u8 (H 2 2), .int .u8 (H 2 3), .int .u8 (H 2 4), .int .u8 (H 3 0), .int .u8 (H 3 1), .int .u8 (H 3 2), .int .u8 (H 3 3), .int .u8 (H 3 4), .int .u8 (H 4 0), .int .u8 (H 4 1), .int .u8 (H 4 2), .int .u8 (H 4 3), .int .u8 (H 4 4), tv] : List Value).length := by kernel_rfl
  have HC := Lib.hid hc
  have HU := Lib.hid hu
  have HD := Lib.hid hd
  have HI := Lib.hid hi
  clear hc hu hd hi hq
  go_enter Tryz.func8, Tryz.ntmps8
  go_wp2_with (refine wpList_load_mid rfl 26 _ rfl w.heap.size 0 rfl [.int .u8 m, .int .u8 (H 0 0), .int .u8 (H 0 1), .int .u8 (H 0 2), .int .u8 (H 0 3), .int .u8 (H 0 4), .int .u8 (H 1 0), .int .u8 (H 1 1), .int .u8 (H 1 2), .int .u8 (H 1 3), .int .u8 (H 1 4), .int .u8 (H 2 0), .int .u8 (H 2 1), .int .u8 (H 2 2), .int .u8 (H 2 3), .int .u8 (H 2 4), .int .u8 (H 3 0), .int .u8 (H 3 1), .int .u8 (H 3 2), .int .u8 (H 3 3), .int .u8 (H 3 4), .int .u8 (H 4 0), .int .u8 (H 4 1), .int .u8 (H 4 2), .int .u8 (H 4 3), .int .u8 (H 4 4), tv] d HC.out HU.out HD.out HI.out ?_)
  obtain ⟨W, hW⟩ : ∃ z, w.alloc (.cells #[.int .u8 m, .int .u8 (H 0 0), .int .u8 (H 0 1), .int .u8 (H 0 2), .int .u8 (H 0 3), .int .u8 (H 0 4), .int .u8 (H 1 0), .int .u8 (H 1 1), .int .u8 (H 1 2), .int .u8 (H 1 3), .int .u8 (H 1 4), .int .u8 (H 2 0), .int .u8 (H 2 1), .int .u8 (H 2 2), .int .u8 (H 2 3), .int .u8 (H 2 4), .int .u8 (H 3 0), .int .u8 (H 3 1), .int .u8 (H 3 2), .int .u8 (H 3 3), .int .u8 (H 3 4), .int .u8 (H 4 0), .int .u8 (H 4 1), .int .u8 (H 4 2), .int .u8 (H 4 3), .int .u8 (H 4 4), tv] 26) = z := ⟨_, rfl⟩
  have hbW : Below w.heap.size w W := by rw [← hW]; exact (Below.refl _ _).alloc (Nat.le_refl _) _
  rw [hW]
  clear hW HC HU HD HI
  refine (hP.out W (HTV.out.below hbW)).mono ?_
  rintro e w1 ⟨v1, v2, rfl, hb1, hr1, hk1⟩
  have HB1 := Lib.hid (hbW.trans (hb1.mono hbW.size))
  have HR1 := Lib.hid hr1
  have HK1 := Lib.hid hk1
  clear hb1 hr1 hk1 hbW
  go_wp2_with fail
  refine (hN.out v1 v2 w1 HR1.out HK1.out).mono ?_
  rintro e w2 ⟨-, hgood⟩
  obtain ⟨n, vr, vm, vg, rfl, hn, hb2, hCF⟩ := hgood hE.out
  have HCF := Lib.hid hCF
  have HB2 := Lib.hid (HB1.out.trans (hb2.mono HB1.out.size))
  have hn2 := Nat.le_trans HB1.out.size hn
  clear hgood hCF hb2 hn
  go_wp2
  go_ret
  exact ⟨n, vr, vm, vg, rfl, hn2, HB2.out, HCF.out⟩
theorem sizeconf_two (m : Int) (m0 : 0 ≤ m) (m1 : m < 256) (H : Nat → Nat → Int) (hH : Hok H) (tv : Value) (ts : List Int) (hts : ∀ x ∈ ts, 0 ≤ x ∧ x < 256) (w : World) (htv : U8s w tv ts) (hl : ts.length ≤ maxLen) (hM : 2 + m.toNat % 4 = 2) :
    Calls Tryz.prog 8 #[sizeVal m H tv] w fun e w' => ∃ n vr vm vg, e = .returned (.pointer (some ⟨n + 3, 0, none⟩)) ∧ w.heap.size ≤ n ∧ Below w.heap.size w w' ∧ CF n w' vr vm vg (sizeRs 2 H) (sizeMs 2 ts) :=
  sizeconf_of m m0 m1 H hH tv ts hts w htv hl 2 hM fun W h => sizelabs_2 m hM m0 m1 H hH tv ts hts W h hl
end Go.Proofs.YtnfadmifdncjoaaGreat.Cf
