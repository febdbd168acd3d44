import Derived.Test.YtbnpgkclnebnmaaGreatZ11
import Derived.Deep.MidRow
import Derived.Test.YtbnpgkclnebnmaaGreatZ6
import Derived.Test.YtbnpgkclnebnmaaGreatZ7
/- Configurations: Size.Conf. -/
/- A transaction on a disk of a configuration: the blocks behind the log, as they will be; where a node stands. -/

namespace Go.Proofs.YtbnpgkclnebnmaaGreat.Cf
set_option linter.unusedSimpArgs false
set_option linter.unusedVariables false
open Go.RowKit Go.Maps
end Go.Proofs.YtbnpgkclnebnmaaGreat.Cf

namespace Go.Proofs.YtbnpgkclnebnmaaGreat.Cf
set_option linter.unusedSimpArgs false
set_option linter.unusedVariables false
open Go.RowKit Go.Maps

def clN (M i : Nat) : Nat := if M = 2 then 1 else if M = 3 then (if i = 0 then 1 else i) else M - 1
def rsN (M : Nat) (H : Nat → Nat → Int) (i : Nat) : Rg := { sizeRg M H i with cl := (clN M i : Int) }
theorem sizeRs_map (M : Nat) (hM : M = 2 ∨ M = 3 ∨ M = 4 ∨ M = 5) (H : Nat → Nat → Int) : sizeRs M H = (List.range M).map (rsN M H) := by
  rcases hM with rfl | rfl | rfl | rfl <;> rfl
theorem sizeRs_len (M : Nat) (hM : M = 2 ∨ M = 3 ∨ M = 4 ∨ M = 5) (H : Nat → Nat → Int) : (sizeRs M H).length = M := by
  rw [sizeRs_map M hM]; simp
theorem sizeRs_get (M : Nat) (hM : M = 2 ∨ M = 3 ∨ M = 4 ∨ M = 5) (H : Nat → Nat → Int) (i : Nat) (hi : i < M) : (sizeRs M H)[i]? = some (rsN M H i) := by
  rw [sizeRs_map M hM]; simp [hi]
theorem rsN_have (M : Nat) (H : Nat → Nat → Int) (hH : Hok H) (i : Nat) (hi : i < 5) : haveB (rsN M H i) = true := by
  have h0 := hH i 0 hi (by omega)
  have h1 := hH i 1 hi (by omega)
  have h2 := hH i 2 hi (by omega)
  have h3 := hH i 3 hi (by omega)
  have h4 := hH i 4 hi (by omega)
  have hl : lvL i < 16 := by
    match i, hi with
    | 0, _ | 1, _ | 2, _ | 3, _ | 4, _ => decide
  simp only [haveB, rsN, sizeRg, Bool.and_eq_true, decide_eq_true_eq]
  repeat' apply And.intro
  all_goals exact decide_eq_true (by omega)
theorem nmL_ne : ∀ i, i < 5 → ∀ j, j < 5 → i ≠ j → nmL i ≠ nmL j := by decide +kernel
theorem lbL_ne : ∀ i, i < 5 → ∀ j, j < 5 → i ≠ j → ¬ (lvL i = lvL j ∧ csL i = csL j) := by decide +kernel
theorem nmL_name : ∀ i, i < 5 → nameB (nmL i) = true := by decide +kernel
theorem clN_lt (M : Nat) (hM : M = 2 ∨ M = 3 ∨ M = 4 ∨ M = 5) (i : Nat) (hi : i < M) : clN M i < M := by
  rcases hM with rfl | rfl | rfl | rfl <;> simp only [clN] <;> split <;> (try split) <;> (try split) <;> omega
theorem clN_leq (M : Nat) (hM : M = 2 ∨ M = 3 ∨ M = 4 ∨ M = 5) : ∀ i, i < M → leqB (lvL i) (csL i) (lvL (clN M i)) (csL (clN M i)) = true := by
  rcases hM with rfl | rfl | rfl | rfl <;> decide +kernel
theorem getD_of {α : Type} {l : List α} {i : Nat} {a d : α} (h : l[i]? = some a) : l.getD i d = a := by rw [List.getD_eq_getElem?_getD, h]; rfl
theorem size_oneE (M : Nat) (hM : M = 2 ∨ M = 3 ∨ M = 4 ∨ M = 5) (H : Nat → Nat → Int) (hH : Hok H) (i : Nat) (hi : i < M) : oneE (sizeRs M H) i = 0 := by
  have hi5 : i < 5 := by omega
  have h2 := rsN_have M H hH i hi5
  have h3 := clN_lt M hM i hi
  unfold oneE
  simp only [getD_of (sizeRs_get M hM H i hi), sizeRs_len M hM]
  rw [if_neg (by rw [show (rsN M H i).nm = nmL i from rfl, nmL_name i hi5]; decide), if_neg, if_neg]
  · intro h
    rw [List.any_eq_true] at h
    obtain ⟨x, hx, hp⟩ := h
    obtain ⟨j, hj, rfl⟩ := List.mem_iff_getElem.1 hx
    simp only [List.length_take] at hj
    have hji : j < i := by omega
    have hjM : j < M := by omega
    have hg := sizeRs_get M hM H j hjM
    have e : ((sizeRs M H).take i)[j]'(by simpa using hj) = rsN M H j := by
      rw [List.getElem_take]
      have := List.getElem?_eq_some_iff.1 hg
      exact this.2
    rw [e] at hp
    simp only [Bool.or_eq_true, Bool.and_eq_true, decide_eq_true_eq] at hp
    rcases hp with hp | hp
    · exact nmL_ne j (by omega) i hi5 (by omega) hp
    · exact lbL_ne j (by omega) i hi5 (by omega) hp
  · rw [h2]
    have e1 : decide (0 ≤ (rsN M H i).cl) = true := by
      rw [decide_eq_true_eq]; show (0 : Int) ≤ (clN M i : Int); omega
    have e2 : decide ((rsN M H i).cl < (M : Int)) = true := by
      rw [decide_eq_true_eq]; show (clN M i : Int) < (M : Int); omega
    rw [e1, e2]
    decide
theorem size_regsE (M : Nat) (hM : M = 2 ∨ M = 3 ∨ M = 4 ∨ M = 5) (H : Nat → Nat → Int) (hH : Hok H) : ∀ k, k ≤ M → regsE (sizeRs M H) k = 0
  | 0, _ => rfl
  | k + 1, h => by
    rw [regsE, if_pos (size_regsE M hM H hH k (by omega)), size_oneE M hM H hH k (by omega)]
theorem regAt_size (M : Nat) (hM : M = 2 ∨ M = 3 ∨ M = 4 ∨ M = 5) (H : Nat → Nat → Int) (i : Nat) (hi : i < M) : regAt (sizeRs M H) (i : Int) = (rsN M H i, true) := by
  rw [regAt_in _ i (by rw [sizeRs_len M hM]; exact hi)]
  have := List.getElem?_eq_some_iff.1 (sizeRs_get M hM H i hi)
  rw [this.2]
theorem size_permB (M : Nat) (hM : M = 2 ∨ M = 3 ∨ M = 4 ∨ M = 5) (H : Nat → Nat → Int) : ∀ k, k ≤ M → permB (sizeRs M H) k = true
  | 0, _ => rfl
  | k + 1, h => by
    have hk : k < M := by omega
    rw [permB, size_permB M hM H k (by omega), getD_of (sizeRs_get M hM H k hk)]
    show (true && leqAt (sizeRs M H) k ((clN M k : Nat) : Int)) = true
    unfold leqAt
    rw [regAt_size M hM H k hk, regAt_size M hM H _ (clN_lt M hM k hk)]
    show (true && (true && true && leqB (lvL k) (csL k) (lvL (clN M k)) (csL (clN M k)))) = true
    rw [clN_leq M hM k hk]
    rfl
theorem acM_good (M : Nat) (hM : 2 ≤ M) (ts : List Int) : ∀ j, j ≤ ts.length → (acM M ts j).Nodup ∧ ∀ y ∈ acM M ts j, 0 ≤ y.1 ∧ y.1 < M ∧ 4 ≤ y.2 ∧ y.2 < 8
  | 0, _ => by rw [acM_zero]; exact ⟨List.nodup_nil, fun y h => by cases h⟩
  | j + 1, h => by
    obtain ⟨hn, hb⟩ := acM_good M hM ts j (by omega)
    rw [acM_succ M ts j (by omega)]
    split
    · exact ⟨hn, hb⟩
    · rename_i hc
      refine ⟨?_, ?_⟩
      · rw [List.nodup_append]
        refine ⟨hn, by simp, fun a ha b hb' => ?_⟩
        simp only [List.mem_singleton] at hb'
        subst hb'
        intro e
        subst e
        exact hc (.inr ha)
      · intro y hy
        rw [List.mem_append] at hy
        rcases hy with hy | hy
        · exact hb y hy
        · simp only [List.mem_singleton] at hy
          subst hy
          have hM0 : (0 : Int) < M := by omega
          have a1 := Int.emod_nonneg ts[j] (show (M : Int) ≠ 0 by omega)
          have a2 := Int.emod_lt_of_pos ts[j] hM0
          refine ⟨a1, a2, ?_, ?_⟩
          · show 4 ≤ 4 + ts[j] / 8 % 4; omega
          · show 4 + ts[j] / 8 % 4 < 8; omega
theorem size_marksE (M : Nat) (hM : M = 2 ∨ M = 3 ∨ M = 4 ∨ M = 5) (H : Nat → Nat → Int) (hH : Hok H) (ts : List Int) : ∀ k, k ≤ (sizeMs M ts).length → marksE (sizeRs M H) (sizeMs M ts) k = 0
  | 0, _ => rfl
  | k + 1, h => by
    have hg := acM_good M (by omega) ts ts.length (Nat.le_refl _)
    rw [acM_all] at hg
    rw [marksE, if_pos (size_marksE M hM H hH ts k (by omega))]
    have hk : k < (sizeMs M ts).length := by omega
    unfold markOne
    simp only [getD_of (List.getElem?_eq_getElem hk)]
    obtain ⟨b0, b1, b2, b3⟩ := hg.2 _ (List.getElem_mem hk)
    have hn := hg.1
    obtain ⟨p, hp⟩ : ∃ p : Nat, ((sizeMs M ts)[k]).1 = (p : Int) := ⟨((sizeMs M ts)[k]).1.toNat, by omega⟩
    rw [if_neg, if_neg]
    · intro h'
      rw [List.any_eq_true] at h'
      obtain ⟨x, hx, hq⟩ := h'
      simp only [Bool.and_eq_true, decide_eq_true_eq] at hq
      obtain ⟨j, hj, rfl⟩ := List.mem_iff_getElem.1 hx
      simp only [List.length_take] at hj
      rw [List.getElem_take] at hq
      have : (sizeMs M ts)[j] = (sizeMs M ts)[k] := Prod.ext hq.1 hq.2
      exact (List.pairwise_iff_getElem.1 hn) j k (by omega) hk (by omega) this
    · rw [hp, regAt_size M hM H p (by omega)]
      have h1 := hH p 1 (by omega) (by omega)
      have e1 : decide (1 ≤ ((sizeMs M ts)[k]).2) = true := by rw [decide_eq_true_eq]; omega
      have e2 : decide (((sizeMs M ts)[k]).2 ≤ (rsN M H p).nd) = true := by
        rw [decide_eq_true_eq]
        show _ ≤ 8 + 2 * (H p 1 % 12)
        omega
      rw [e1, e2]
      exact Bool.noConfusion
theorem size_newE (M : Nat) (hM : M = 2 ∨ M = 3 ∨ M = 4 ∨ M = 5) (H : Nat → Nat → Int) (hH : Hok H) (ts : List Int) : newE (sizeRs M H) (sizeMs M ts) = 0 := by
  unfold newE
  rw [sizeRs_len M hM, if_neg (by omega), size_regsE M hM H hH M (Nat.le_refl _), if_neg (by decide), getD_of (sizeRs_get M hM H 0 (by omega)), if_neg (show ¬ (decide ((rsN M H 0).lv = 0) && decide ((rsN M H 0).cs = 0)) = false from (by decide : ¬ (decide (lvL 0 = 0) && decide (csL 0 = 0)) = false)), size_permB M hM H M (Nat.le_refl _), if_neg (by decide), size_marksE M hM H hH ts _ (Nat.le_refl _)]
theorem new_any (vr0 vm0 : Value) (rs : List Rg) (ms : List (Int × Int)) (w : World) (hr : Regs w vr0 rs) (hok : ∀ r ∈ rs, r.ok) (hm : Mks w vm0 ms) (hmk : ∀ m ∈ ms, markOk m) (hml : ms.length ≤ 5000) :
    Calls Tryz.prog 38 #[vr0, vm0] w (NewPost rs ms w) := by
  by_cases h1 : rs.length = 0
  · obtain ⟨a, cap, rfl⟩ := hr.form
    have HE : Hid (newE rs ms = 23) := by show newE rs ms = 23; unfold newE; rw [if_pos (Or.inl (by omega))]
    rw [h1]
    clear hr hok hm hmk h1
    go_enter Tryz.func38, Tryz.ntmps38
    go_wp2
    refine bodyPost_ret (v := .tuple #[.pointer none, .int .i64 23]) (by simp [results, Tryz.results38, go_sem]) rfl (NewPost.bad 23 HE.out (by decide) rfl (Below.refl _ _))
  · by_cases h64 : rs.length ≤ 64
    · obtain ⟨b, off, cap, rfl, hbl, -, hrow⟩ := hr.row (by omega)
      exact new_some b off cap rs vm0 ms w hbl (by omega) h64 hrow hok hm hmk hml
    · have hx := hr.max
      obtain ⟨a, cap, rfl⟩ := hr.form
      have HE : Hid (newE rs ms = 23) := by show newE rs ms = 23; unfold newE; rw [if_pos (Or.inr (by omega))]
      obtain ⟨N, hN⟩ : ∃ N, rs.length = N := ⟨_, rfl⟩
      rw [hN] at h1 h64 hx ⊢
      have i1 : ¬ ((N : Int) = 0) := by omega
      have i2 : 64 < (N : Int) := by omega
      unfold maxLen at hx
      clear hr hok hm hmk hN
      go_enter Tryz.func38, Tryz.ntmps38
      go_wp2
      refine bodyPost_ret (v := .tuple #[.pointer none, .int .i64 23]) (by simp [results, Tryz.results38, go_sem]) rfl (NewPost.bad 23 HE.out (by decide) rfl (Below.refl _ _))

end Go.Proofs.YtbnpgkclnebnmaaGreat.Cf

namespace Go.Proofs.YtbnpgkclnebnmaaGreat.Cf
set_option linter.unusedSimpArgs false
set_option linter.unusedVariables false
open Go.RowKit Go.Maps

theorem size_ok (M : Nat) (hM : M = 2 ∨ M = 3 ∨ M = 4 ∨ M = 5) (H : Nat → Nat → Int) : ∀ r ∈ sizeRs M H, r.ok := by
  intro r hr
  rw [sizeRs_map M hM, List.mem_map] at hr
  obtain ⟨i, hi, rfl⟩ := hr
  have hi : i < 5 := by have := List.mem_range.1 hi; omega
  have h1 : (nmL i).size ≤ 4 ∧ 0 ≤ lvL i ∧ lvL i < 256 ∧ 0 ≤ csL i ∧ csL i < 65536 := by
    match i, hi with
    | 0, _ | 1, _ | 2, _ | 3, _ | 4, _ => decide +kernel
  exact ⟨Nat.le_trans h1.1 (by unfold maxLen; omega), h1.2.1, h1.2.2.1, h1.2.2.2.1, h1.2.2.2.2⟩
theorem size_mkOk (M : Nat) (hM : M = 2 ∨ M = 3 ∨ M = 4 ∨ M = 5) (ts : List Int) : ∀ y ∈ sizeMs M ts, markOk y := by
  intro y hy
  have hg := (acM_good M (by omega) ts ts.length (Nat.le_refl _)).2
  rw [acM_all] at hg
  have := hg y hy
  unfold markOk
  omega
theorem size_small (M : Nat) (hM : M = 2 ∨ M = 3 ∨ M = 4 ∨ M = 5) (H : Nat → Nat → Int) (hH : Hok H) : ∀ r ∈ sizeRs M H, Small r := by
  intro r hr
  rw [sizeRs_map M hM, List.mem_map] at hr
  obtain ⟨i, hi, rfl⟩ := hr
  have hi : i < 5 := by have := List.mem_range.1 hi; omega
  have h0 := hH i 0 hi (by omega)
  have h1 := hH i 1 hi (by omega)
  show 4 ≤ 8 + H i 0 % 60 ∧ 8 + H i 0 % 60 ≤ 512 ∧ 4 ≤ 8 + 2 * (H i 1 % 12) ∧ 8 + 2 * (H i 1 % 12) ≤ 128
  omega
theorem sizeMs_len (M : Nat) (ts : List Int) : (sizeMs M ts).length ≤ 9 := by
  rw [← acM_all]; exact acM_nine M ts _ (Nat.le_refl _)

set_option maxHeartbeats 4000000 in
set_option maxRecDepth 100000 in
theorem sizeconf_of (m : Int) (m0 : 0 ≤ m) (m1 : m < 256) (H : Nat → Nat → Int) (hH : Hok H) (tv : Value) (ts : List Int) (hts : ∀ x ∈ ts, 0 ≤ x ∧ x < 256) (w : World) (htv : U8s w tv ts) (hl : ts.length ≤ maxLen) (M : Nat) (hM : 2 + m.toNat % 4 = M)
    (hRg : ∀ W, U8s W tv ts → Calls Tryz.prog 42 #[sizeVal m H tv] W fun e w' => ∃ v1 v2, e = .returned (.tuple #[v1, v2]) ∧ Below W.heap.size W w' ∧ Regs w' v1 (sizeRs M H) ∧ Mks w' v2 (sizeMs M ts)) :
    Calls Tryz.prog 8 #[sizeVal m H tv] w fun e w' => ∃ n vr vm vg, e = .returned (.pointer (some ⟨n + 3, 0, none⟩)) ∧ w.heap.size ≤ n ∧ Below w.heap.size w w' ∧ CF n w' vr vm vg (sizeRs M H) (sizeMs M ts) := by
  have hM4 : M = 2 ∨ M = 3 ∨ M = 4 ∨ M = 5 := by omega
  have hP := hRg
  have hN := fun v1 v2 W (h1 : Regs W v1 (sizeRs M H)) (h2 : Mks W v2 (sizeMs M ts)) => new_any v1 v2 (sizeRs M H) (sizeMs M ts) W h1 (size_ok M hM4 H) h2 (size_mkOk M hM4 ts) (by have := sizeMs_len M ts; omega)
  have hE := Lib.hid (size_newE M hM4 H hH ts)
  have HTV := Lib.hid htv
  have hP := Lib.hid hP
  have hN := Lib.hid hN
  unfold sizeVal at hP ⊢
  clear htv hts hH hM hM4 hRg
  have hc : (w.alloc (.cells #[.int .u8 m, .int .u8 (H 0 0), .int .u8 (H 0 1), .int .u8 (H 0 2), .int .u8 (H 0 3), .int .u8 (H 0 4), .int .u8 (H 1 0), .int .u8 (H 1 1), .int .u8 (H 1 2), .int .u8 (H 1 3), .int .u8 (H 1 4), .int .u8 (H 2 0), .int .u8 (H 2 1), .int .u8 (H 2 2), .int .u8 (H 2 3), .int .u8 (H 2 4), .int .u8 (H 3 0), .int .u8 (H 3 1), .int .u8 (H 3 2), .int .u8 (H 3 3), .int .u8 (H 3 4), .int .u8 (H 4 0), .int .u8 (H 4 1), .int .u8 (H 4 2), .int .u8 (H 4 3), .int .u8 (H 4 4), tv] 26)).rangeAt w.heap.size 0 [.int .u8 m, .int .u8 (H 0 0), .int .u8 (H 0 1), .int .u8 (H 0 2), .int .u8 (H 0 3), .int .u8 (H 0 4), .int .u8 (H 1 0), .int .u8 (H 1 1), .int .u8 (H 1 2), .int .u8 (H 1 3), .int .u8 (H 1 4), .int .u8 (H 2 0), .int .u8 (H 2 1), .int .u8 (H 2 2), .int .u8 (H 2 3), .int .u8 (H 2 4), .int .u8 (H 3 0), .int .u8 (H 3 1), .int .u8 (H 3 2), .int .u8 (H 3 3), .int .u8 (H 3 4), .int .u8 (H 4 0), .int .u8 (H 4 1), .int .u8 (H 4 2), .int .u8 (H 4 3), .int .u8 (H 4 4), tv] := by
    intro j u hj
    have := cells_new w [.int .u8 m, .int .u8 (H 0 0), .int .u8 (H 0 1), .int .u8 (H 0 2), .int .u8 (H 0 3), .int .u8 (H 0 4), .int .u8 (H 1 0), .int .u8 (H 1 1), .int .u8 (H 1 2), .int .u8 (H 1 3), .int .u8 (H 1 4), .int .u8 (H 2 0), .int .u8 (H 2 1), .int .u8 (H 2 2), .int .u8 (H 2 3), .int .u8 (H 2 4), .int .u8 (H 3 0), .int .u8 (H 3 1), .int .u8 (H 3 2), .int .u8 (H 3 3), .int .u8 (H 3 4), .int .u8 (H 4 0), .int .u8 (H 4 1), .int .u8 (H 4 2), .int .u8 (H 4 3), .int .u8 (H 4 4), tv] 26 j u hj
    rw [Addr.add_mid] at this
    exact this
  have hq : (Tryz.prog.underlying 26).map (·.isRow) = some true := by kernel_rfl
  obtain ⟨d, hu, hd⟩ := Option.map_eq_some_iff.1 hq
  have hi : (Tryz.prog.info? 26).map (·.size) = some ([.int .u8 m, .int .u8 (H 0 0), .int .u8 (H 0 1), .int .u8 (H 0 2), .int .u8 (H 0 3), .int .u8 (H 0 4), .int .u8 (H 1 0), .int .u8 (H 1 1), .int .u8 (H 1 2), .int .u8 (H 1 3), .int .u8 (H 1 4), .int .u8 (H 2 0), .int .u8 (H 2 1), .int .u8 (H 2 2), .int .u8 (H 2 3), .int .u8 (H 2 4), .int .u8 (H 3 0), .int .u8 (H 3 1), .int .u8 (H 3 2), .int .u8 (H 3 3), .int .u8 (H 3 4), .int .u8 (H 4 0), .int .u8 (H 4 1), .int .u8 (H 4 2), .int .u8 (H 4 3), .int .u8 (H 4 4), tv] : List Value).length := by kernel_rfl
  have HC := Lib.hid hc
  have HU := Lib.hid hu
  have HD := Lib.hid hd
  have HI := Lib.hid hi
  clear hc hu hd hi hq
  go_enter Tryz.func8, Tryz.ntmps8
  go_wp2_with (refine wpList_load_mid rfl 26 _ rfl w.heap.size 0 rfl [.int .u8 m, .int .u8 (H 0 0), .int .u8 (H 0 1), .int .u8 (H 0 2), .int .u8 (H 0 3), .int .u8 (H 0 4), .int .u8 (H 1 0), .int .u8 (H 1 1), .int .u8 (H 1 2), .int .u8 (H 1 3), .int .u8 (H 1 4), .int .u8 (H 2 0), .int .u8 (H 2 1), .int .u8 (H 2 2), .int .u8 (H 2 3), .int .u8 (H 2 4), .int .u8 (H 3 0), .int .u8 (H 3 1), .int .u8 (H 3 2), .int .u8 (H 3 3), .int .u8 (H 3 4), .int .u8 (H 4 0), .int .u8 (H 4 1), .int .u8 (H 4 2), .int .u8 (H 4 3), .int .u8 (H 4 4), tv] d HC.out HU.out HD.out HI.out ?_)
  obtain ⟨W, hW⟩ : ∃ z, w.alloc (.cells #[.int .u8 m, .int .u8 (H 0 0), .int .u8 (H 0 1), .int .u8 (H 0 2), .int .u8 (H 0 3), .int .u8 (H 0 4), .int .u8 (H 1 0), .int .u8 (H 1 1), .int .u8 (H 1 2), .int .u8 (H 1 3), .int .u8 (H 1 4), .int .u8 (H 2 0), .int .u8 (H 2 1), .int .u8 (H 2 2), .int .u8 (H 2 3), .int .u8 (H 2 4), .int .u8 (H 3 0), .int .u8 (H 3 1), .int .u8 (H 3 2), .int .u8 (H 3 3), .int .u8 (H 3 4), .int .u8 (H 4 0), .int .u8 (H 4 1), .int .u8 (H 4 2), .int .u8 (H 4 3), .int .u8 (H 4 4), tv] 26) = z := ⟨_, rfl⟩
  have hbW : Below w.heap.size w W := by rw [← hW]; exact (Below.refl _ _).alloc (Nat.le_refl _) _
  rw [hW]
  clear hW HC HU HD HI
  refine (hP.out W (HTV.out.below hbW)).mono ?_
  rintro e w1 ⟨v1, v2, rfl, hb1, hr1, hk1⟩
  have HB1 := Lib.hid (hbW.trans (hb1.mono hbW.size))
  have HR1 := Lib.hid hr1
  have HK1 := Lib.hid hk1
  clear hb1 hr1 hk1 hbW
  go_wp2_with fail
  refine (hN.out v1 v2 w1 HR1.out HK1.out).mono ?_
  rintro e w2 ⟨-, hgood⟩
  obtain ⟨n, vr, vm, vg, rfl, hn, hb2, hCF⟩ := hgood hE.out
  have HCF := Lib.hid hCF
  have HB2 := Lib.hid (HB1.out.trans (hb2.mono HB1.out.size))
  have hn2 := Nat.le_trans HB1.out.size hn
  clear hgood hCF hb2 hn
  go_wp2
  go_ret
  exact ⟨n, vr, vm, vg, rfl, hn2, HB2.out, HCF.out⟩
theorem sizeconf_two (m : Int) (m0 : 0 ≤ m) (m1 : m < 256) (H : Nat → Nat → Int) (hH : Hok H) (tv : Value) (ts : List Int) (hts : ∀ x ∈ ts, 0 ≤ x ∧ x < 256) (w : World) (htv : U8s w tv ts) (hl : ts.length ≤ maxLen) (hM : 2 + m.toNat % 4 = 2) :
    Calls Tryz.prog 8 #[sizeVal m H tv] w fun e w' => ∃ n vr vm vg, e = .returned (.pointer (some ⟨n + 3, 0, none⟩)) ∧ w.heap.size ≤ n ∧ Below w.heap.size w w' ∧ CF n w' vr vm vg (sizeRs 2 H) (sizeMs 2 ts) :=
  sizeconf_of m m0 m1 H hH tv ts hts w htv hl 2 hM fun W h => sizelabs_2 m hM m0 m1 H hH tv ts hts W h hl
end Go.Proofs.YtbnpgkclnebnmaaGreat.Cf

namespace Go.Proofs.YtbnpgkclnebnmaaGreat
set_option linter.unusedSimpArgs false
set_option linter.unusedVariables false
open Go.RowKit Go.Maps

/-- of the world nothing has turned but these blocks, and what was made -/
structure Kf (w w' : World) (L : List Nat) : Prop where
  os : w'.os = w.os
  tape : w'.tape = w.tape
  output : w'.output = w.output
  size : w.heap.size ≤ w'.heap.size
  block : ∀ k, k < w.heap.size → k ∉ L → w'.heap[k]? = w.heap[k]?
theorem Kf.refl (w : World) (L : List Nat) : Kf w w L := ⟨rfl, rfl, rfl, Nat.le_refl _, fun _ _ _ => rfl⟩
theorem Kf.trans {w1 w2 w3 : World} {L : List Nat} (h : Kf w1 w2 L) (k : Kf w2 w3 L) : Kf w1 w3 L :=
  ⟨k.os.trans h.os, k.tape.trans h.tape, k.output.trans h.output, Nat.le_trans h.size k.size, fun i hi h1 => (k.block i (Nat.lt_of_lt_of_le hi h.size) h1).trans (h.block i hi h1)⟩
theorem Kf.of_below {w w' : World} (h : Below w.heap.size w w') (L : List Nat) : Kf w w' L := ⟨h.os, h.tape, h.output, h.size, fun k hk _ => h.block k hk⟩
theorem Kf.of_kp {w w' : World} {a b : Nat} (h : Kp w w' a b) {L : List Nat} (ha : a ∈ L) (hb : b ∈ L) : Kf w w' L :=
  ⟨h.os, h.tape, h.output, h.size, fun k hk hn => h.block k hk (fun e => hn (e ▸ ha)) (fun e => hn (e ▸ hb))⟩
theorem Kf.below {w w' : World} {L : List Nat} {B : Nat} (h : Kf w w' L) (hL : ∀ a ∈ L, B ≤ a) (hB : B ≤ w.heap.size) : Below B w w' :=
  ⟨h.os, h.tape, h.output, h.size, fun k hk => h.block k (by omega) (fun hm => by have := hL k hm; omega)⟩
theorem Kf.cell {w w' : World} {L : List Nat} (h : Kf w w' L) {p : Addr} (hp : p.block < w.heap.size) (h1 : p.block ∉ L) : w'.cell? p = w.cell? p := World.cell?_of_block (w := w) (h.block p.block hp h1)
theorem Kf.frozen {w w' : World} {L : List Nat} (h : Kf w w' L) {p : Addr} (hp : p.block < w.heap.size) (h1 : p.block ∉ L) : w'.frozen? p = w.frozen? p := World.frozen?_of_block (w := w) (h.block p.block hp h1)
theorem Fl.kf {w w' : World} {L : List Nat} {g N : Nat} {f : Nat → Int} (h : Fl w g N f) (hb : Kf w w' L) (h1 : g ∉ L) : Fl w' g N f :=
  ⟨Nat.lt_of_lt_of_le h.lt hb.size, fun j hj => (hb.cell (p := ⟨g, j, none⟩) h.lt h1).trans (h.c j hj), fun j hj => (hb.frozen (p := ⟨g, j, none⟩) h.lt h1).trans (h.z j hj)⟩

theorem Vl.kf {w w' : World} {L : List Nat} {g : Nat} {cs : List Value} (h : Vl w g cs) (hb : Kf w w' L) (h1 : g ∉ L) : Vl w' g cs :=
  ⟨Nat.lt_of_lt_of_le h.lt hb.size, fun j v hj => (hb.cell (p := ⟨g, j, none⟩) h.lt h1).trans (h.c j v hj), fun j hj => (hb.frozen (p := ⟨g, j, none⟩) h.lt h1).trans (h.z j hj)⟩
theorem Kf.low {w w1 w2 : World} {L : List Nat} {B : Nat} (h : Kf w w1 L) (hb : Below B w1 w2) (hB : w.heap.size ≤ B) : Kf w w2 L :=
  ⟨hb.os.trans h.os, hb.tape.trans h.tape, hb.output.trans h.output, Nat.le_trans h.size hb.size, fun k hk hn => (hb.block k (by omega)).trans (h.block k hk hn)⟩
theorem Kf.fresh {w w1 w2 : World} {L : List Nat} {b : Nat} (h : Kf w w1 L) (hk : Kp w1 w2 b b) (hb : w.heap.size ≤ b) : Kf w w2 L :=
  ⟨hk.os.trans h.os, hk.tape.trans h.tape, hk.output.trans h.output, Nat.le_trans h.size hk.size, fun k hk' hn => (hk.block k (Nat.lt_of_lt_of_le hk' h.size) (by omega) (by omega)).trans (h.block k hk' hn)⟩
theorem Kf.wide {w w' : World} {L L' : List Nat} (h : Kf w w' L) (hl : ∀ k ∈ L, k ∈ L') : Kf w w' L' := ⟨h.os, h.tape, h.output, h.size, fun k hk hn => h.block k hk (fun hm => hn (hl k hm))⟩
theorem find_cons (p : Nat × (Nat → Int)) (r : TS) (x : Int) : find (p :: r) x = if (p.1 : Int) = x then some p.2 else find r x := by
  unfold find
  rw [List.find?_cons]
  by_cases h : (p.1 : Int) = x <;> simp [h]
theorem find_put (k : Nat) (f : Nat → Int) (x : Int) : ∀ T : TS, find (put k f T) x = if (k : Int) = x then some f else find T x
  | [] => by
    unfold put
    rw [find_cons]
  | p :: r => by
    have ih := find_put k f x r
    unfold put
    split
    · rw [find_cons]
    · split
      · rename_i h
        rw [find_cons, find_cons]
        by_cases c : (k : Int) = x
        · rw [if_pos c, if_pos c]
        · rw [if_neg c, if_neg c, if_neg (by omega)]
      · rw [find_cons, find_cons, ih]
        by_cases c : (p.1 : Int) = x
        · rw [if_pos c, if_pos c, if_neg (by omega)]
        · rw [if_neg c, if_neg c]
/-- a block that is to be so -/
def vput (k : Nat) (f : Nat → Int) (Y : Nat → Nat → Int) : Nat → Nat → Int := fun x => if k = x then f else Y x
theorem over_put (k : Nat) (f : Nat → Int) (T : TS) (D : Nat → Nat → Int) : over (put k f T) D = vput k f (over T D) := by
  funext x
  unfold over vput
  rw [find_put]
  by_cases c : k = x
  · rw [if_pos (by omega), if_pos c]; rfl
  · rw [if_neg (by omega), if_neg c]
theorem vput_at (k : Nat) (f : Nat → Int) (Y : Nat → Nat → Int) : vput k f Y k = f := if_pos rfl
theorem vput_ne {k x : Nat} (f : Nat → Int) (Y : Nat → Nat → Int) (h : k ≠ x) : vput k f Y x = Y x := if_neg h
/-- which blocks may wait, and what the disk holds -/
structure Lm where
  l : List Nat
  D : Nat → Nat → Int
def Has (L : Lm) (x : Nat) : Prop := x ∈ L.l ∧ L.l.length ≤ 30
theorem Has.of {L : Lm} {x : Nat} (h : x ∈ L.l) (hl : L.l.length ≤ 30) : Has L x := ⟨h, hl⟩
def Lm.Le (a b : Lm) : Prop := (∀ x ∈ a.l, x ∈ b.l) ∧ a.D = b.D
theorem Lm.le_refl (L : Lm) : Lm.Le L L := ⟨fun _ h => h, rfl⟩
theorem Lm.nil_le (L : List Nat) (D : Nat → Nat → Int) : Lm.Le ⟨[], D⟩ ⟨L, D⟩ := ⟨(fun x h => by cases h), rfl⟩
theorem nodup_le : ∀ (A S : List Nat), A.Nodup → (∀ a ∈ A, a ∈ S) → A.length ≤ S.length
  | [], _, _, _ => Nat.zero_le _
  | a :: A, S, hn, hs => by
    have ha : a ∈ S := hs a (List.mem_cons_self ..)
    have hn' := List.nodup_cons.1 hn
    have := nodup_le A (S.erase a) hn'.2 (fun b hb => (List.mem_erase_of_ne (fun (e : b = a) => hn'.1 (by rw [← e]; exact hb))).2 (hs b (List.mem_cons_of_mem _ hb)))
    have hl := List.length_erase_of_mem ha
    have := List.length_pos_of_mem ha
    simp only [List.length_cons]
    omega
theorem Rise.nodup {T : TS} (h : Rise T) : (T.map (·.1)).Nodup := by
  unfold List.Nodup
  rw [List.pairwise_map]
  exact h.imp fun hab => Nat.ne_of_lt hab
theorem Rise.le {T : TS} (h : Rise T) {L : List Nat} (hs : ∀ p ∈ T, p.1 ∈ L) : T.length ≤ L.length := by
  have := nodup_le (T.map (·.1)) L h.nodup (fun a ha => by
    obtain ⟨p, hp, rfl⟩ := List.mem_map.1 ha
    exact hs p hp)
  simpa using this
theorem find_no {T : TS} {x : Nat} (h : (find T (x : Int)).isSome = false) : x ∉ T.map (·.1) := by
  intro hx
  obtain ⟨p, hp, he⟩ := List.mem_map.1 hx
  unfold find at h
  rw [Option.isSome_map, List.find?_isSome.2 ⟨p, hp, by simp [he]⟩] at h
  cases h
theorem Rise.lt {T : TS} (h : Rise T) {L : List Nat} (hs : ∀ p ∈ T, p.1 ∈ L) {x : Nat} (hx : x ∈ L) (hn : (find T (x : Int)).isSome = false) : T.length < L.length := by
  have := nodup_le (x :: T.map (·.1)) L (List.nodup_cons.2 ⟨find_no hn, h.nodup⟩) (fun a ha => by
    rcases List.mem_cons.1 ha with rfl | ha
    · exact hx
    · obtain ⟨p, hp, rfl⟩ := List.mem_map.1 ha
      exact hs p hp)
  simp at this
  omega
/-- transaction t (its map m) on disk d (its blocks g) of N blocks: block x will be Y x; no blocks wait but some of ln; K bounds what was counted -/
structure Rd (w : World) (t m d g N : Nat) (ln : Lm) (Y : Nat → Nat → Int) (K : Nat) : Prop where
  ex : ∃ (T : TS) (D : Nat → Nat → Int) (s : DS), Tx w t m d 1 T 0 ∧ Dk w d g s ∧ Sane s N K ∧ Awk s ∧ StA s N 1 D ∧ over T D = Y ∧ ((∀ p ∈ T, p.1 ∈ ln.l) ∧ D = ln.D ∧ ∀ x, Byt (ln.D x)) ∧ ∀ p ∈ T, Out N 1 p.1 ∧ Byt p.2
  n1 : t ≠ d
  n2 : t ≠ g
  n3 : m ≠ d
  n4 : m ≠ g
  vb : ∀ x, Byt (Y x)
  h32 : 32 ≤ N
  hN : N ≤ 65536
theorem Rd.mono2 {w : World} {t m d g N K K' : Nat} {ln ln' : Lm} {Y : Nat → Nat → Int} (h : Rd w t m d g N ln Y K) (hl : Lm.Le ln ln') (hk : K ≤ K') : Rd w t m d g N ln' Y K' := by
  obtain ⟨T, D, s, ht, hd, hs, ha, hA, hY, hl', hT⟩ := h.ex
  exact ⟨⟨T, D, s, ht, hd, hs.mono hk, ha, hA, hY, ⟨fun p hp => hl.1 _ (hl'.1 p hp), hl'.2.1.trans hl.2, fun x => hl.2 ▸ hl'.2.2 x⟩, hT⟩, h.n1, h.n2, h.n3, h.n4, h.vb, h.h32, h.hN⟩
theorem Rd.mono {w : World} {t m d g N K K' : Nat} {ln : Lm} {Y : Nat → Nat → Int} (h : Rd w t m d g N ln Y K) (hk : K ≤ K') : Rd w t m d g N ln Y K' := h.mono2 ⟨fun _ h => h, rfl⟩ hk
theorem Rd.wide {w : World} {t m d g N K : Nat} {ln ln' : Lm} {Y : Nat → Nat → Int} (h : Rd w t m d g N ln Y K) (hl : Lm.Le ln ln') : Rd w t m d g N ln' Y K := h.mono2 hl (Nat.le_refl _)
theorem Rd.lts {w : World} {t m d g N K : Nat} {ln : Lm} {Y : Nat → Nat → Int} (h : Rd w t m d g N ln Y K) : t < w.heap.size ∧ m < w.heap.size ∧ d < w.heap.size ∧ g < w.heap.size := by
  obtain ⟨T, D, s, ht, hd, hs, ha, hA, hY, hl', hT⟩ := h.ex
  exact ⟨ht.lg.lt, ht.mp.lt, hd.lt, hd.fl.lt⟩
theorem Rd.keep {w w' : World} {t m d g N K : Nat} {ln : Lm} {Y : Nat → Nat → Int} (h : Rd w t m d g N ln Y K) (hb : Below w.heap.size w w') : Rd w' t m d g N ln Y K := by
  obtain ⟨T, D, s, ht, hd, hs, ha, hA, hY, hl', hT⟩ := h.ex
  exact ⟨⟨T, D, s, ht.keep hb, hd.keep hb, hs, ha, hA, hY, hl', hT⟩, h.n1, h.n2, h.n3, h.n4, h.vb, h.h32, h.hN⟩
theorem Rd.low {w w' : World} {t m d g N K : Nat} {ln : Lm} {Y : Nat → Nat → Int} (h : Rd w t m d g N ln Y K) (hb : Below w.heap.size w w') : Rd w' t m d g N ln Y K := h.keep hb
theorem Rd.below {w w' : World} {B t m d g N K : Nat} {ln : Lm} {Y : Nat → Nat → Int} (h : Rd w t m d g N ln Y K) (hb : Below B w w') (h1 : t < B) (h2 : m < B) (h3 : d < B) (h4 : g < B) : Rd w' t m d g N ln Y K := by
  obtain ⟨T, D, s, ht, hd, hs, ha, hA, hY, hl', hT⟩ := h.ex
  exact ⟨⟨T, D, s, ht.below hb h1 h2, hd.below hb h3 h4, hs, ha, hA, hY, hl', hT⟩, h.n1, h.n2, h.n3, h.n4, h.vb, h.h32, h.hN⟩
theorem Rd.kp {w w' : World} {a b t m d g N K : Nat} {ln : Lm} {Y : Nat → Nat → Int} (h : Rd w t m d g N ln Y K) (hb : Kp w w' a b) (ha : a ∉ [t, m, d, g]) (hb' : b ∉ [t, m, d, g]) : Rd w' t m d g N ln Y K := by
  obtain ⟨T, D, s, ht, hd, hs, ha', hA, hY, hl', hT⟩ := h.ex
  simp only [List.mem_cons, List.not_mem_nil, or_false, not_or] at ha hb'
  exact ⟨⟨T, D, s, ht.kp hb (by omega) (by omega) (by omega) (by omega), hd.kp hb (by omega) (by omega) (by omega) (by omega), hs, ha', hA, hY, hl', hT⟩, h.n1, h.n2, h.n3, h.n4, h.vb, h.h32, h.hN⟩
theorem Rd.notin {w : World} {t m d g N K p : Nat} {ln : Lm} {Y : Nat → Nat → Int} (h : Rd w t m d g N ln Y K) (hp : w.heap.size ≤ p) : p ∉ [t, m, d, g] := by
  obtain ⟨h1, h2, h3, h4⟩ := h.lts
  simp
  omega
theorem nin4 {B t m d g b : Nat} (h1 : t < B) (h2 : m < B) (h3 : d < B) (h4 : g < B) (hb : B ≤ b) : b ∉ [t, m, d, g] := by
  simp
  omega
theorem upd_zero (n : Nat) (f : Nat → Int) (j : Nat) (hj : j < n) (z : Nat → Int) : upd z 0 n f j = f j := by
  unfold upd
  rw [if_pos (by omega), Nat.sub_zero]
theorem get6 {N : Nat} {ln : Lm} (t m d g K : Nat) (Y : Nat → Nat → Int) (x : Nat) (hx0 : 32 ≤ x) (hx : x < N) (hK : K < 700000000) (w : World) (h : Rd w t m d g N ln Y K) :
    Calls Tryz.prog 58 #[.pointer (some ⟨t, 0, none⟩), .int .i64 x] w fun e w' => e = .returned (.tuple #[.agg (byts 64 (Y x)).toArray, .int .i64 0]) ∧ Rd w' t m d g N ln Y (K + 1) ∧ Kf w w' [t, m, d, g] := by
  obtain ⟨T, D, s, ht, hd, hs, ha, hA, hY, hl, hT⟩ := h.ex
  have hNN := h.hN
  refine (get_any t m d g 1 N K T 0 s x (by omega) (by omega) h.hN (by omega) hs w ht hd h.n1 h.n2).mono ?_
  rintro e w' ⟨rfl, hd', hk⟩
  have hv : byts 64 (getT s T x).1.1 = byts 64 (Y x) ∧ (getT s T x).1.2 = 0 ∧ ((getT s T x).2 = s ∨ (getT s T x).2 = s.rdd) := by
    have hn := hA.n
    subst hY
    unfold getT over
    cases hf : find T (x : Int) with
    | none =>
      simp only [Option.elim_none, Option.getD_none]
      rw [if_pos ⟨by omega, by omega⟩]
      refine ⟨byts_congr fun i hi => ?_, rfl, .inr rfl⟩
      show s.f (Int.toNat (x : Int) * 64 + i) = _
      rw [Int.toNat_natCast]
      exact hA.out x ⟨hx, by omega⟩ i hi
    | some f => exact ⟨rfl, rfl, .inl rfl⟩
  have hne := h.n1
  have hne2 := h.n2
  have hne3 := h.n3
  have hne4 := h.n4
  refine ⟨by rw [hv.1, hv.2.1], ?_, Kf.of_kp hk (by simp) (by simp)⟩
  have ht' := ht.kp hk (by omega) (by omega) (by omega) (by omega)
  rcases hv.2.2 with e | e
  · rw [e] at hd'
    exact ⟨⟨T, D, s, ht', hd', hs.mono (by omega), ha, hA, hY, hl, hT⟩, h.n1, h.n2, h.n3, h.n4, h.vb, h.h32, h.hN⟩
  · rw [e] at hd'
    exact ⟨⟨T, D, s.rdd, ht', hd', hs.rdd, ⟨ha.1, ha.2⟩, hA.rdd, hY, hl, hT⟩, h.n1, h.n2, h.n3, h.n4, h.vb, h.h32, h.hN⟩
theorem put6 {N : Nat} {ln : Lm} (t m d g K : Nat) (Y : Nat → Nat → Int) (x : Nat) (f : Nat → Int) (hf : Byt f) (hx0 : 32 ≤ x) (hx : x < N) (hT : Has ln x) (w : World) (h : Rd w t m d g N ln Y K) :
    Calls Tryz.prog 53 #[.pointer (some ⟨t, 0, none⟩), .int .i64 x, .agg (byts 64 f).toArray] w fun e w' => e = .returned (.int .i64 0) ∧ Rd w' t m d g N ln (vput x f Y) K ∧ Kf w w' [t, m, d, g] := by
  obtain ⟨T, D, s, ht, hd, hs, ha, hA, hY, hl, hTT⟩ := h.ex
  have hNN := h.hN
  have hm : mayB N 1 T x = 0 := by
    unfold mayB
    rw [if_neg (by rw [outB_nat]; simp; omega), if_neg (fun hc => by have := Rise.lt ht.mp.2 hl.1 hT.1 hc.1; have := hT.2; omega)]
  have hp : putT N 1 x f T 0 = (0, put x f T, 0) := by
    unfold putT
    rw [if_pos hm, Int.toNat_natCast]
  have hle := Rise.le ht.mp.2 hl.1
  have hle2 := hT.2
  have := put_any t m d g 1 N K T 0 s x f (by omega) (by omega) (by omega) (by omega) h.hN hs w ht hd (by omega)
  rw [hp] at this
  refine this.mono ?_
  rintro e w' ⟨rfl, ht', hk⟩
  have hne := h.n1
  have hne2 := h.n2
  have hne3 := h.n3
  have hne4 := h.n4
  refine ⟨rfl, ⟨⟨put x f T, D, s, ht', hd.kp hk (by omega) (by omega) (by omega) (by omega), hs, ha, hA, by rw [over_put, hY], ⟨fun p hp' => ?_, hl.2⟩, fun p hp' => ?_⟩, h.n1, h.n2, h.n3, h.n4, fun y => ?_, h.h32, h.hN⟩, Kf.of_kp hk (by simp) (by simp)⟩
  · rcases mem_put x f T p hp' with rfl | hp'
    · exact hT.1
    · exact hl.1 p hp'
  · rcases mem_put x f T p hp' with rfl | hp'
    · exact ⟨⟨hx, by show ¬ (1 ≤ x ∧ x ≤ 1 + 30); omega⟩, hf⟩
    · exact hTT p hp'
  · unfold vput
    split
    · exact hf
    · exact h.vb y
theorem commit7 {N : Nat} {ln : Lm} (t m d g K : Nat) (Y : Nat → Nat → Int) (hT : ln.l.length ≤ 30) (hK : K < 700000000) (w : World) (h : Rd w t m d g N ln Y K) :
    Calls Tryz.prog 22 #[.pointer (some ⟨t, 0, none⟩)] w fun e w' => e = .returned (.int .i64 0) ∧ Rd w' t m d g N ⟨[], Y⟩ Y (K + 92) ∧ Kf w w' [t, m, d, g] := by
  obtain ⟨T, D, s, ht, hd, hs, ha, hA, hY, hl, hTT⟩ := h.ex
  have h32 := h.h32
  have hle := Rise.le ht.mp.2 hl.1
  rcases commit_whole (fi := 1) ⟨ht.mp.2, by omega, fun p hp => (hTT p hp).1, fun p hp => (hTT p hp).2⟩ D (by omega) s hA with ⟨c1, c2, c3, c4⟩ | ⟨_, _, h'⟩
  · refine (commit_any t m d g 1 N K T 0 s (by omega) (fun p hp => ⟨(hTT p hp).1.1, (hTT p hp).2⟩) (by omega) h.hN (by omega) ⟨by decide, by decide⟩ hs w ht hd h.n1 h.n2 h.n3 h.n4).mono ?_
    rintro e w' ⟨rfl, ht', hd', w1, w2, k1, k2, k3⟩
    rw [c2] at ht'
    exact ⟨by rw [c1], ⟨⟨[], over T D, _, ht', hd', Sane.commit T 0 K s (by omega) (fun p hp => (hTT p hp).2) hs, c4 ha, c3, hY, ⟨(fun p hp => by cases hp), hY, fun x => h.vb x⟩, fun p hp => by cases hp⟩, h.n1, h.n2, h.n3, h.n4, h.vb, h.h32, h.hN⟩, ((Kf.of_kp k1 (by simp) (by simp)).trans (Kf.of_kp k2 (by simp) (by simp))).trans (Kf.of_kp k3 (by simp) (by simp))⟩
  · exact absurd ha h'
theorem begin8 {N : Nat} {ln : Lm} (l t m d g K : Nat) (Y : Nat → Nat → Int) (w : World) (h : Rd w t m d g N ln Y K) (hl : Lg w l d 1) :
    Calls Tryz.prog 12 #[.pointer (some ⟨l, 0, none⟩)] w fun e w' => ∃ t' m', e = .returned (.pointer (some ⟨t', 0, none⟩)) ∧ w.heap.size ≤ t' ∧ w.heap.size ≤ m' ∧ Rd w' t' m' d g N ⟨[], ln.D⟩ ln.D K ∧ Below w.heap.size w w' := by
  obtain ⟨T, D, s, ht, hd, hs, ha, hA, hY, hl', hTT⟩ := h.ex
  obtain ⟨-, rfl, hD⟩ := hl'
  refine (begin_any l d 1 (by decide) w hl).mono ?_
  rintro e w' ⟨t', m', rfl, ht1, hm1, hT', hb⟩
  obtain ⟨-, -, l3, l4⟩ := h.lts
  exact ⟨t', m', rfl, ht1, hm1, ⟨⟨[], _, s, hT', hd.keep hb, hs, ha, hA, rfl, ⟨(fun p hp => by cases hp), rfl, hD⟩, fun p hp => by cases hp⟩, by omega, by omega, by omega, by omega, hD, h.h32, h.hN⟩, hb⟩
theorem begin7 {N : Nat} (l t m d g K : Nat) (Y : Nat → Nat → Int) (w : World) (h : Rd w t m d g N ⟨[], Y⟩ Y K) (hl : Lg w l d 1) :
    Calls Tryz.prog 12 #[.pointer (some ⟨l, 0, none⟩)] w fun e w' => ∃ t' m', e = .returned (.pointer (some ⟨t', 0, none⟩)) ∧ w.heap.size ≤ t' ∧ w.heap.size ≤ m' ∧ Rd w' t' m' d g N ⟨[], Y⟩ Y K ∧ Below w.heap.size w w' := begin8 l t m d g K Y w h hl
/-- all four of a transaction's blocks lie from B on -/
def From (B t m d g : Nat) : Prop := B ≤ t ∧ B ≤ m ∧ B ≤ d ∧ B ≤ g
theorem From.notin {B t m d g p : Nat} (h : From B t m d g) (hp : p < B) : p ∉ [t, m, d, g] := by
  obtain ⟨h1, h2, h3, h4⟩ := h
  simp
  omega
theorem Kf.after {B : Nat} {w0 w w' : World} {t m d g : Nat} (h : Kf w w' [t, m, d, g]) (hb : Below B w0 w) (hf : From B t m d g) (hB : B ≤ w.heap.size) : Below B w0 w' := by
  obtain ⟨h1, h2, h3, h4⟩ := hf
  refine hb.trans ⟨h.os, h.tape, h.output, h.size, fun k hk => h.block k (by omega) (by simp; omega)⟩
/-- a disk that has been formatted, its log from block 1 on -/
def f0 : Nat → Int := upd (fun _ => 0) 64 64 (headF [])
def S0 (N r : Nat) : DS := ⟨N, f0, false, 0, false, r, 1⟩
theorem f0_byt (j : Nat) : 0 ≤ f0 j ∧ f0 j < 256 := by
  unfold f0 upd
  split
  · exact headF_byt _ _ (by omega)
  · exact ⟨Int.le_refl _, by show (0 : Int) < 256; decide⟩
theorem S0_sane (N r : Nat) : Sane (S0 N r) N (r + 1) :=
  ⟨rfl, by show (0 : Int) ≤ (r : Int); omega, by show (r : Int) ≤ ((r + 1 : Nat) : Int); omega, by show (0 : Int) ≤ 1; decide, by show (1 : Int) ≤ ((r + 1 : Nat) : Int); omega, (fun h => by cases h), (by show (0 : Int) < 9223372036854775808; decide), f0_byt⟩
theorem S0_sta (N r : Nat) : StA (S0 N r) N 1 (fun _ _ => 0) :=
  ⟨rfl, SB.upd_same _ 1 _, fun k hk i hi => by
    obtain ⟨h1, h2⟩ := hk
    show f0 (k * 64 + i) = 0
    unfold f0 upd
    rw [if_neg (by omega)]⟩
theorem Sane.new (n : Nat) : Sane (DS.new n) n 0 := ⟨rfl, Int.le_refl _, Int.le_refl _, Int.le_refl _, Int.le_refl _, (fun h => by cases h), (by show (0 : Int) < 9223372036854775808; decide), fun j => ⟨Int.le_refl _, (by show (0 : Int) < 256; decide)⟩⟩
set_option maxHeartbeats 4000000 in
set_option maxRecDepth 100000 in
theorem begun_any (n : Nat) (vr vm vg : Value) (rs : List Cf.Rg) (ms : List (Int × Int)) (hs : ∀ r ∈ rs, Cf.Small r) (h0 : 0 < rs.length) (h64 : rs.length ≤ 64) (N : Nat) (hN : (Cf.layF rs).2 = N) (hN0 : 32 ≤ N) (hN1 : N ≤ 65536) (w : World) (h : Cf.CF n w vr vm vg rs ms) : Calls Tryz.prog 9 #[.pointer (some ⟨n + 3, 0, none⟩)] w fun e w' => ∃ t m d g l, e = .returned (.tuple #[.pointer (some ⟨d, 0, none⟩), .pointer (some ⟨l, 0, none⟩), .pointer (some ⟨t, 0, none⟩)]) ∧ From w.heap.size t m d g ∧ w.heap.size ≤ l ∧ l ∉ [t, m, d, g] ∧ Lg w' l d 1 ∧ Rd w' t m d g N ⟨[], (fun _ _ => 0)⟩ (fun _ _ => 0) 1 ∧ Below w.heap.size w w' := by
  have HT := Lib.hid (Cf.total_any n vr vm vg rs ms hs h0 h64 w h)
  rw [hN] at HT
  clear h hs h64 h0 hN
  go_enter Tryz.func9, Tryz.ntmps9
  go_wp2_with fail
  refine HT.out.mono ?_
  rintro e wa ⟨rfl, hba⟩
  have HBa := Lib.hid hba
  clear hba HT
  have HN := Lib.hid (new_any N hN1 wa)
  go_wp2_with fail
  refine HN.out.mono ?_
  rintro e w1 ⟨d, g, rfl, hd, hg, hD, hb⟩
  have HD1 := Lib.hid hD
  have hda := HBa.out.size
  have HB1 := Lib.hid (HBa.out.trans (hb.mono hda))
  have hdl := hD.lt
  have hgl := hD.fl.lt
  clear hD hb HN HBa
  have HO := Lib.hid (open_in d g _ 1 (by show 1 + 31 ≤ N; omega) (by show N ≤ 65536; omega) w1 HD1.out)
  go_wp2_with fail
  refine HO.out.mono ?_
  rintro e w2 ⟨l, rfl, hl, hL, hb⟩
  have HL2 := Lib.hid hL
  have HD2 := Lib.hid (HD1.out.keep hb)
  have HB2 := Lib.hid (HB1.out.trans (hb.mono HB1.out.size))
  have h12 := hb.size
  clear hL hb HD1 HB1 HO
  have hS0 : Sane (DS.new N) N 0 := Sane.new N
  have HF := Lib.hid (format_any l d g 1 N 0 _ (by omega) hN1 (by decide) hS0 w2 HL2.out HD2.out (by omega) (by omega))
  have hw0 : (DS.new N).write 1 (headF []) = (0, S0 N 0) := by simp [DS.write, DS.new, S0, f0]
  rw [hw0] at HF
  clear hw0 hS0
  go_wp2_with fail
  refine HF.out.mono ?_
  rintro e w3 ⟨rfl, hD3, hk3⟩
  have HD3 := Lib.hid hD3
  have HL3 := Lib.hid (HL2.out.kp hk3 (by omega) (by omega))
  have HB3 := Lib.hid (HB2.out.trans (hk3.below (Nat.le_trans hda hd) (Nat.le_trans hda hg) HB2.out.size))
  have h23 := hk3.size
  have hl3 := HL3.out.lt
  clear hD3 hk3 HD2 HB2 HL2 HF
  go_wp2_with fail
  refine (begin_any l d 1 (by decide) w3 HL3.out).mono ?_
  rintro e w4 ⟨t, m, rfl, ht, hm, hT, hb⟩
  have HT4 := Lib.hid hT
  have HD4 := Lib.hid (HD3.out.keep hb)
  have HL4 := Lib.hid (HL3.out.keep hb)
  have HB4 := Lib.hid (HB3.out.trans (hb.mono HB3.out.size))
  clear hT hb HD3 HB3 HL3
  go_wp2_with fail
  refine bodyPost_ret (v := .tuple #[.pointer (some ⟨d, 0, none⟩), .pointer (some ⟨l, 0, none⟩), .pointer (some ⟨t, 0, none⟩)]) (by simp [results, Tryz.results9, go_sem]) rfl ⟨t, m, d, g, l, rfl, ⟨by omega, by omega, by omega, by omega⟩, by omega, (by simp; omega), HL4.out, ⟨⟨[], fun _ _ => 0, S0 N 0, HT4.out, HD4.out, S0_sane N 0, ⟨rfl, rfl⟩, S0_sta N 0, rfl, ⟨(fun p hp => by cases hp), rfl, fun x j hj => ⟨Int.le_refl _, (by show (0 : Int) < 256; decide)⟩⟩, fun p hp => by cases hp⟩, by omega, by omega, by omega, by omega, fun x j hj => ⟨Int.le_refl _, (by show (0 : Int) < 256; decide)⟩, hN0, hN1⟩, HB4.out⟩
/-! ### where a node stands -/
def inP (g : Cf.Ge) (x : Int) : Prop := 1 ≤ x ∧ x ≤ g.nd
instance (g : Cf.Ge) (x : Int) : Decidable (inP g x) := inferInstanceAs (Decidable (1 ≤ x ∧ x ≤ g.nd))
set_option maxHeartbeats 4000000 in
theorem place_in (g : Cf.Ge) (x : Int) (hx : inP g x) (hb0 : 0 ≤ g.base) (hb1 : g.base < 100000) (hm0 : 0 ≤ g.bm) (hm1 : g.bm < 100000) (hn1 : g.nd ≤ 128) (w : World) : Calls Tryz.prog 97 #[g.val, .int .i64 x] w fun e w' => e = .returned (.tuple #[.int .i64 (g.base + g.bm + (x - 1) / 2), .int .i64 ((x - 1) % 2 * 32), .bool true]) ∧ Below w.heap.size w w' := by
  obtain ⟨bs, bm, tb, da, bl, nd⟩ := g
  obtain ⟨h1, h2⟩ := hx
  simp only [Cf.Ge.val] at *
  have hlo : 1 ≤ x := h1
  have hq : Int.tdiv (x - 1) 2 = (x - 1) / 2 := Int.tdiv_eq_ediv_of_nonneg (by omega)
  have hr : Int.tmod (x - 1) 2 = (x - 1) % 2 := Int.tmod_eq_emod_of_nonneg (by omega)
  go_enter Tryz.func97, Tryz.ntmps97
  go_wp2_with fail
  refine bodyPost_ret (v := .tuple #[.int .i64 (bs + bm + (x - 1) / 2), .int .i64 ((x - 1) % 2 * 32), .bool true]) (by simp [results, Tryz.results97, go_sem]) rfl ⟨rfl, (Below.refl _ _).alloc (Nat.le_refl _) _⟩
end Go.Proofs.YtbnpgkclnebnmaaGreat
