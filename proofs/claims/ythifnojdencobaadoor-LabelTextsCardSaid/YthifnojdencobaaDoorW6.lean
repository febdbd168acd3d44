import Derived.Test.YthifnojdencobaaDoorW5
import Derived.Test.YthifnojdencobaaDoorW2
import Derived.Deep.QuietTactic
import Derived.BigQuiet
import Derived.RegionTactic
import Derived.BigRegion
namespace Go.Proofs.YthifnojdencobaaDoor
open Go.RowKit

/-- one step of the document's least above -/
def refJoinStep (a x : Int × Int) : Int × Int := (if a.1 < x.1 then x.1 else a.1, ((orTo x.2.toNat a.2.toNat 16 : Nat) : Int))
def refJoinC (ls : List (Int × Int)) : Int × Int := ls.foldl refJoinStep (0, 0)

theorem hasB_toNat (c : Int) (i : Nat) (h0 : 0 ≤ c) (hi : i < 16) : hasB c (i : Int) = c.toNat.testBit i := by
  obtain ⟨C, rfl⟩ := Int.eq_ofNat_of_zero_le h0
  rw [Int.toNat_natCast]; exact hasB_nat C i hi
/-- all of a list are labels' numbers -/
def InRange (ls : List (Int × Int)) : Prop := ∀ x ∈ ls, 0 ≤ x.2 ∧ x.2 < 65536

theorem wrap_add (D j : Nat) (hD : D < 65536) (hj : j < 16) (h : D.testBit j = false) : IntKind.u16.wrap ((D : Int) + IntKind.u16.wrap (2 ^ j)) = ((D + 2 ^ j : Nat) : Int) := by
  have hp : 2 ^ j < 2 ^ 16 := Nat.pow_lt_pow_right (a := 2) (by omega) hj
  have h1 := add_bit D j hD hj h
  have h2 := add_bit' D j hD hj h
  have h3 : ((2 : Int) ^ j) = ((2 ^ j : Nat) : Int) := by simp
  rw [IntKind.wrap_u16, IntKind.wrap_u16, h3]
  generalize 2 ^ j = P at *
  rw [← h2] at h1
  omega
theorem fold_inv {α β : Type} (f : β → α → β) (P : β → Prop) (ls : List α) (h : ∀ b x, x ∈ ls → P b → P (f b x)) : ∀ z, P z → P (ls.foldl f z) := by
  induction ls with
  | nil => intro z hz; exact hz
  | cons a r ih => intro z hz; exact ih (fun b x hx => h b x (List.mem_cons_of_mem _ hx)) _ (h z a (List.mem_cons_self ..) hz)
theorem InRange.take {ls : List (Int × Int)} (h : InRange ls) (k : Nat) : InRange (ls.take k) := fun x hx => h x (List.mem_of_mem_take hx)
theorem refJoinC_range (ls : List (Int × Int)) (_h : InRange ls) : 0 ≤ (refJoinC ls).2 ∧ (refJoinC ls).2 < 65536 :=
  fold_inv refJoinStep (fun z => 0 ≤ z.2 ∧ z.2 < 65536) ls (fun b x hx hb => ⟨Int.natCast_nonneg _, by
    have := (orTo_bits x.2.toNat b.2.toNat (by omega) 16 (by omega)).1
    show ((orTo x.2.toNat b.2.toNat 16 : Nat) : Int) < 65536
    omega⟩) (0, 0) (by simp)

set_option maxHeartbeats 400000 in
theorem refjoin_some (b off cap : Nat) (ls : List (Int × Int)) (w : World) (hbl : b < w.heap.size) (hm : ls.length ≤ maxLen) (hran : InRange ls)
    (hc0 : ∀ i (h : i < ls.length), w.cell? ⟨b, off + i * 2, none⟩ = some (.int .u8 ls[i].1)) (hc1 : ∀ i (h : i < ls.length), w.cell? ⟨b, off + i * 2 + 1, none⟩ = some (.int .u16 ls[i].2)) :
    Calls Tryd.prog 19 #[.slice (some ⟨b, off, none⟩) ls.length cap] w fun e w' => e = .returned (.agg #[.int .u8 (refJoinC ls).1, .int .u16 (refJoinC ls).2]) ∧ Below w.heap.size w w' := by
  unfold maxLen at hm
  have HC0 := Lib.hid hc0
  have HC1 := Lib.hid hc1
  have HRan := Lib.hid hran
  clear hc0 hc1 hran
  go_enter Tryd.func19, Tryd.ntmps19
  go_wp2
  go_loopw [4, 5] (fun i _ wr => ∃ k : Nat, k ≤ ls.length ∧ i = .int .i64 k ∧ Below w.heap.size w wr ∧ Pair wr w.heap.size (.int .u8 0) (.int .u16 0) ∧ Pair wr (w.heap.size + 1) (.int .u8 (refJoinC (ls.take k)).1) (.int .u16 (refJoinC (ls.take k)).2)) (fun i _ _ => ls.length - (intOf i).toNat)
  case atStart =>
    exact ⟨0, by omega, rfl, by repeat (first | exact Below.refl _ _ | apply Below.drew | refine Below.alloc ?_ (by simp) _), (Pair.new _ _ _ _).alloc _, by simpa [refJoinC] using Pair.new (w.alloc (.cells #[.int .u8 0, .int .u16 0] 25)) (.int .u8 0) (.int .u16 0) 25⟩
  case round =>
    obtain ⟨k, hk, rfl, hb, hr, hp⟩ := hrel
    obtain ⟨hsz, c0, c1, f0, f1⟩ := id hp
    obtain ⟨-, r0, r1, q0, q1⟩ := id hr
    by_cases hlt : k < ls.length
    · have e0 := (hb.cell (p := ⟨b, off + k * 2, none⟩) hbl).trans (HC0.out k hlt)
      have E0 := Lib.hid (HC0.out k hlt)
      have E1 := Lib.hid (HC1.out k hlt)
      have HS : Hid (refJoinC (ls.take (k + 1)) = refJoinStep (refJoinC (ls.take k)) ls[k]) := fold_take _ _ _ _ hlt
      have hx := HRan.out ls[k] (List.getElem_mem hlt)
      have hA := refJoinC_range _ (HRan.out.take k)
      generalize ls[k] = x at *
      generalize refJoinC (ls.take k) = A at *
      have HP := Lib.hid hp
      have HR := Lib.hid hr
      clear hp hr
      have hlt' : (k : Int) < (ls.length : Int) := by omega
      have hk0 : (0 : Int) ≤ (k : Int) := by omega
      obtain ⟨M, hM⟩ : ∃ M, M = (refJoinStep A x).1 := ⟨_, rfl⟩
      have hM' : M = if A.1 < x.1 then x.1 else A.1 := hM
      have HM := Lib.hid hM
      clear hM
      by_cases hmax : A.1 < x.1
      all_goals
        first
          | (have hd : decide (A.1 < x.1) = true := by simpa using hmax)
          | (have hd : decide (A.1 < x.1) = false := by simpa using hmax)
        first
          | rw [if_pos hmax] at hM'
          | rw [if_neg hmax] at hM'
        have HM' := Lib.hid hM'
        clear hM'
        go_wp2_with fail
        go_quiet (fail)
        go_wp2_with fail
        have hP2 := (HP.out.drewN nq)
        have hR2 := (HR.out.drewN nq)
        have hB2 : Below w.heap.size w (wr.drewN nq) := below_drewN' hb nq
        first
          | (have hP3 : Pair ((wr.drewN nq).setCell ⟨w.heap.size + 1, 0, none⟩ (.int .u8 x.1)) (w.heap.size + 1) (.int .u8 M) (.int .u16 A.2) := by
               rw [HM'.out]; exact hP2.set0 (.int .u8 x.1)
             have hR3 := hR2.set_far (p := ⟨w.heap.size + 1, 0, none⟩) (by simp) (.int .u8 x.1)
             have hB3 : Below w.heap.size w ((wr.drewN nq).setCell ⟨w.heap.size + 1, 0, none⟩ (.int .u8 x.1)) := hB2.setCell (by simp) _
             clear HP HR HM' hP2 hR2 hB2
             generalize (wr.drewN nq).setCell ⟨w.heap.size + 1, 0, none⟩ (.int .u8 x.1) = W at *)
          | (have hP3 : Pair (wr.drewN nq) (w.heap.size + 1) (.int .u8 M) (.int .u16 A.2) := by
               rw [HM'.out]; exact hP2
             have hR3 := hR2
             have hB3 := hB2
             clear HP HR HM' hP2 hR2 hB2
             generalize wr.drewN nq = W at *)
        clear hb c0 c1 f0 f1 r0 r1 q0 q1 hsz e0 hd
        go_loopw [5] (fun c wr => ∃ j : Nat, j ≤ 16 ∧ c = .int .i64 j ∧ Below w.heap.size w wr ∧ Pair wr w.heap.size (.int .u8 0) (.int .u16 0) ∧ Pair wr (w.heap.size + 1) (.int .u8 M) (.int .u16 ((orTo x.2.toNat A.2.toNat j : Nat) : Int))) (fun c _ => 16 - (intOf c).toNat)
        case atStart =>
          refine ⟨0, by omega, rfl, hB3, hR3, ?_⟩
          have : ((A.2.toNat : Nat) : Int) = A.2 := by omega
          simp only [orTo, this]
          exact hP3
        case round =>
          obtain ⟨j, hj, rfl, hb, hr, hp⟩ := hrel
          obtain ⟨hsz, c0, c1, f0, f1⟩ := id hp
          have HP := Lib.hid hp
          have HR := Lib.hid hr
          clear hp hr hR3 hP3 hB3
          have e0 := (hb.cell (p := ⟨b, off + k * 2, none⟩) hbl).trans E0.out
          have e1 := (hb.cell (p := ⟨b, off + k * 2 + 1, none⟩) hbl).trans E1.out
          by_cases hlj : j < 16
          · obtain ⟨hD, -⟩ := orTo_bits x.2.toNat A.2.toNat (by omega) j hj
            have HN : Hid (orTo x.2.toNat A.2.toNat (j + 1) = if x.2.toNat.testBit j && !(orTo x.2.toNat A.2.toNat j).testBit j then orTo x.2.toNat A.2.toNat j + 2 ^ j else orTo x.2.toNat A.2.toNat j) := rfl
            have h1 := hasB_toNat x.2 j hx.1 hlj
            have h2 := hasB_nat (orTo x.2.toNat A.2.toNat j) j hlj
            generalize hDD : orTo x.2.toNat A.2.toNat j = D at *
            clear hDD
            have H1 := Lib.hid h1
            have H2 := Lib.hid h2
            clear h1 h2
            go_wp2_with fail
            refine (has_any x.1 x.2 _ _ hx.1 hx.2).mono ?_
            rintro e w1 ⟨rfl, hb1⟩
            obtain ⟨hc1, hf1⟩ := bcell hb1
            have hz1 := hb1.size
            cases hh : hasB x.2 (j : Int)
            · have HT : Hid (x.2.toNat.testBit j = false) := H1.out.symm.trans hh
              clear hh
              go_wp2
              go_roundw
              case rel =>
                refine ⟨j + 1, by omega, by go_num, hb.trans (hb1.mono (by omega)), HR.out.below hb1 (by omega), ?_⟩
                rw [HN.out, HT.out]; exact HP.out.below hb1 (by omega)
              case measure => simp [intOf]; omega
            · have HT : Hid (x.2.toNat.testBit j = true) := H1.out.symm.trans hh
              clear hh
              go_wp2_with fail
              refine (has_any M (D : Int) _ _ (by omega) (by omega)).mono ?_
              rintro e w2 ⟨rfl, hb2⟩
              have hz2 := hb2.size
              have hP4 := (HP.out.below hb1 (by omega)).below hb2 (by omega)
              have hR4 := (HR.out.below hb1 (by omega)).below hb2 (by omega)
              have hB4 := (hb.trans (hb1.mono (by omega))).trans (hb2.mono (show w.heap.size ≤ _ by omega))
              cases hg : hasB (D : Int) (j : Int)
              · have HG : Hid (D.testBit j = false) := H2.out.symm.trans hg
                clear hg hc1 hf1 c0 c1 f0 f1 e0 e1
                obtain ⟨hsz3, c0, c1, f0, f1⟩ := id hP4
                have HP3 := Lib.hid hP4
                have HR3 := Lib.hid hR4
                clear hP4 hR4
                have hj0 : (0 : Int) ≤ (j : Int) := by omega
                have hj1 : (j : Int) < 16 := by omega
                go_wp2
                go_region
                rw [wrap_add D j hD hlj HG.out]
                go_wp2
                go_roundw
                case rel =>
                  refine ⟨j + 1, by omega, by go_num, (hB4.setCell (by simp) _).drew, (HR3.out.set_far (by simp) _).drew, ?_⟩
                  rw [HN.out, HT.out, HG.out]; exact (HP3.out.set1 _).drew
                case measure => simp [intOf]; omega
              · have HG : Hid (D.testBit j = true) := H2.out.symm.trans hg
                clear hg hc1 hf1 c0 c1 f0 f1 e0 e1
                have HP3 := Lib.hid hP4
                have HR3 := Lib.hid hR4
                clear hP4 hR4
                go_wp2
                go_roundw
                case rel =>
                  refine ⟨j + 1, by omega, by go_num, hB4, HR3.out, ?_⟩
                  rw [HN.out, HT.out, HG.out]; exact HP3.out
                case measure => simp [intOf]; omega
          · obtain rfl : j = 16 := by omega
            clear c0 c1 f0 f1 e0 e1
            go_wp2
            go_roundw
            case rel =>
              refine ⟨k + 1, by omega, by go_num, hb, HR.out, ?_⟩
              rw [HS.out, ← HM.out]; exact HP.out
            case measure => simp [intOf]; omega
    · obtain rfl : k = ls.length := by omega
      rw [List.take_length] at *
      have HP := Lib.hid hp
      have HR := Lib.hid hr
      clear hp hr
      go_wp2
      refine bodyPost_ret (v := .agg #[.int .u8 (refJoinC ls).1, .int .u16 (refJoinC ls).2]) (by simp [results, Tryd.results19, go_sem, r0, r1]) rfl ⟨rfl, ?_⟩
      exact (hb.setCell (by simp) _).setCell (by simp) _
end Go.Proofs.YthifnojdencobaaDoor
