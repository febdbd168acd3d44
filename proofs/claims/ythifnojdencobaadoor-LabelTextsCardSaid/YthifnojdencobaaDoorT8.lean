import Derived.Test.YthifnojdencobaaDoorT7
namespace Go.Proofs.YthifnojdencobaaDoor
open Go.RowKit

set_option maxHeartbeats 400000 in
/-- the answer's own Text -/
theorem reftext_any (la ca : Int) (w : World) (h0 : 0 ≤ ca) (h1 : ca < 65536) (hl0 : 0 ≤ la) (hl1 : la < 256) :
    Calls Tryd.prog 25 #[.agg #[.int .u8 la, .int .u16 ca]] w fun e w' => e = .returned (.string ⟨(txt la (catL ca 16)).toArray⟩) ∧ Below w.heap.size w w' := by
  have hwl : IntKind.i64.wrap la = la := IntWalk.i64_in _ (by omega)
  go_enter Tryd.func25, Tryd.ntmps25
  go_wp2_with fail
  have hb0 : Below w.heap.size w (w.alloc (.cells #[.int .u8 la, .int .u16 ca] 25)) := (Below.refl _ _).alloc (Nat.le_refl _) _
  refine (refitoa_any la _ hl0 (by omega)).mono ?_
  rintro e w1 ⟨rfl, hb1⟩
  have hP1 := (Pair.new w (.int .u8 la) (.int .u16 ca) 25).below hb1 (by simp)
  obtain ⟨-, c0, c1, -, -⟩ := id hP1
  go_wp2_with fail
  refine (refcats_any la ca _ h0 h1).mono ?_
  rintro e w2 ⟨v, rfl, hv, hb2⟩
  have hB2 := (hb0.trans (hb1.mono (by simp))).trans (hb2.mono (by have := hb1.size; simp at this; omega))
  clear c0 c1 hP1
  rcases hv with ⟨a, cap, rfl, hz⟩ | ⟨b, off, cap, rfl, hbl, hm, hc⟩
  · go_wp2
    refine wp_loop_rounds 1 ?_
    rw [rounds_succ]
    go_wp2
    go_ret
    refine ⟨?_, hB2⟩
    rw [hz]; simp [txt, tailT]
  · have HC := Lib.hid hc
    unfold maxLen at hm
    clear hc
    go_wp2
    go_loopw [3, 5] (fun s i wr => ∃ k : Nat, k ≤ (catL ca 16).length ∧ i = .int .i64 k ∧ s = .string ⟨(txt la ((catL ca 16).take k)).toArray⟩ ∧ Below w2.heap.size w2 wr) (fun _ i _ => (catL ca 16).length - (intOf i).toNat)
    case atStart => exact ⟨0, by omega, rfl, by simp [txt, tailT], Below.refl _ _⟩
    case round =>
      obtain ⟨k, hk, rfl, rfl, hb⟩ := hrel
      by_cases hlt : k < (catL ca 16).length
      · have e0 := (hb.cell (p := ⟨b, off + k, none⟩) hbl).trans (HC.out k hlt)
        have hz := catL_mem ca 16 (catL ca 16)[k] (List.getElem_mem hlt)
        have HS : Hid (txt la ((catL ca 16).take (k + 1)) = txt la ((catL ca 16).take k) ++ (markB k :: Lib.itoa (catL ca 16)[k])) := by
          show txt la ((catL ca 16).take (k + 1)) = _
          unfold txt
          rw [List.take_succ_eq_append_getElem hlt, tailT_snoc, List.append_assoc]
          congr 2
          unfold markB
          rcases Nat.eq_zero_or_pos k with rfl | hk0
          · simp
          · rw [if_neg (by omega : ¬ k = 0)]
            have : ((catL ca 16).take k).isEmpty = false := by
              cases hq : (catL ca 16).take k with
              | nil => have := congrArg List.length hq; rw [List.length_take, List.length_nil] at this; omega
              | cons _ _ => rfl
            rw [this]; simp
        have hTl := txt_len la ((catL ca 16).take k) hl0 hl1 (fun z hz => catL_mem ca 16 z (List.mem_of_mem_take hz))
        have hzl := itoa_len (catL ca 16)[k] hz.1 (by omega)
        have hcl := catL_len ca 16
        have hkl : ((catL ca 16).take k).length ≤ 16 := by rw [List.length_take]; omega
        have hTl2 : (txt la ((catL ca 16).take k)).length ≤ 100 := by omega
        clear hTl hkl
        generalize (catL ca 16)[k] = z at *
        generalize txt la ((catL ca 16).take k) = T at *
        have hlt' : (k : Int) < ((catL ca 16).length : Int) := by omega
        have hk0 : (0 : Int) ≤ (k : Int) := by omega
        rcases Nat.eq_zero_or_pos k with hkz | hkz
        all_goals
          first
            | (have HM : Hid (markB k = 58) := by
                show markB k = 58
                unfold markB; rw [if_pos hkz]
               have hd : ((k : Int) == 0) = true := by simp; omega
               have hd' : decide ((k : Int) = 0) = true := by simp; omega)
            | (have HM : Hid (markB k = 44) := by
                show markB k = 44
                unfold markB; rw [if_neg (by omega)]
               have hd : ((k : Int) == 0) = false := by simp; omega
               have hd' : decide ((k : Int) = 0) = false := by simp; omega)
          clear hkz
          go_wp2_with fail
          refine (refitoa_any z _ hz.1 (by omega)).mono ?_
          rintro e w3 ⟨rfl, hb3⟩
          have hB3 := hb.trans (hb3.mono hb.size)
          clear e0 hb3
          go_wp2
          go_roundw
          case rel =>
            refine ⟨k + 1, by omega, by go_num, ?_, hB3⟩
            rw [HS.out]
            refine congrArg Value.string ?_
            apply ByteArray.ext
            simp [HM.out]
          case measure => simp [intOf]; omega
      · obtain rfl : k = (catL ca 16).length := by omega
        go_wp2
        go_ret
        rw [List.take_length]
        exact ⟨rfl, hB2.trans (hb.mono hB2.size)⟩
end Go.Proofs.YthifnojdencobaaDoor
