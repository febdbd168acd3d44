import Derived.Test.YtfackmiojbdjhaaDoorMA
import Derived.Test.YtfackmiojbdjhaaDoorShelf
import Derived.Sort.Grow
namespace Go.Proofs.YtfackmiojbdjhaaDoor
set_option linter.unusedSimpArgs false
set_option linter.unusedVariables false
open Go.RowKit

/-- a number below 100, printed -/
theorem itoa_small (n : Int) (w : World) (h0 : 0 ≤ n) (h1 : n < 100) : Calls Tryd.prog 52 #[.int .i64 n] w fun e w' => e = .returned (.string ⟨(Lib.itoa n).toArray⟩) ∧ Below w.heap.size w w' := by
  obtain ⟨N, rfl⟩ := Int.eq_ofNat_of_zero_le h0
  refine (Tryd.strconv_Itoa_small N (by omega) w).mono fun e w' ⟨he, hw⟩ => ⟨?_, by rw [hw]; exact Below.refl _ _⟩
  rw [he, Lib.itoa, if_neg (by omega), Int.toNat_natCast]

def tailT : Bool → List Int → List UInt8
  | _, [] => []
  | b, z :: r => (if b then 58 else 44) :: (Lib.itoa z ++ tailT false r)
/-- a label's text -/
def txt (la : Int) (zs : List Int) : List UInt8 := Lib.itoa la ++ tailT true zs
theorem tailT_snoc (z : Int) : ∀ (l : List Int) (b : Bool), tailT b (l ++ [z]) = tailT b l ++ ((if b && l.isEmpty then 58 else 44) :: Lib.itoa z)
  | [], b => by simp [tailT]
  | x :: r, b => by
    rw [List.cons_append, tailT, tailT, tailT_snoc z r false]
    simp

theorem itoa_len (n : Int) (h0 : 0 ≤ n) (h1 : n < 256) : (Lib.itoa n).length ≤ 3 := by
  obtain ⟨N, rfl⟩ := Int.eq_ofNat_of_zero_le h0
  have key : ∀ m : Fin 256, (Lib.itoa (m.val : Int)).length ≤ 3 := by decide +kernel
  exact key ⟨N, by omega⟩
theorem tailT_len : ∀ (l : List Int) (b : Bool), (∀ z ∈ l, 0 ≤ z ∧ z < 16) → (tailT b l).length ≤ 4 * l.length
  | [], _, _ => by simp [tailT]
  | z :: r, b, h => by
    have h1 := h z (List.mem_cons_self ..)
    have h2 := itoa_len z h1.1 (by omega)
    have h3 := tailT_len r false (fun x hx => h x (List.mem_cons_of_mem _ hx))
    rw [tailT, List.length_cons, List.length_append, List.length_cons]
    omega
theorem txt_len (la : Int) (l : List Int) (h0 : 0 ≤ la) (h1 : la < 256) (h : ∀ z ∈ l, 0 ≤ z ∧ z < 16) : (txt la l).length ≤ 3 + 4 * l.length := by
  have h2 := itoa_len la h0 h1
  have h3 := tailT_len l true h
  unfold txt
  rw [List.length_append]
  omega
def markB (k : Nat) : UInt8 := if k = 0 then 58 else 44
theorem catL_mem (c : Int) (k : Nat) : ∀ z ∈ catL c k, 0 ≤ z ∧ z < k := by
  intro z hz
  unfold catL at hz
  rw [List.mem_map] at hz
  obtain ⟨i, hi, rfl⟩ := hz
  have := List.mem_range.1 (List.mem_filter.1 hi).1
  omega

set_option maxHeartbeats 400000 in
theorem text_any (la ca : Int) (w : World) (h0 : 0 ≤ ca) (h1 : ca < 65536) (hl0 : 0 ≤ la) (hl1 : la < 256)
    (hI : ∀ W, Below w.heap.size w W → Calls Tryd.prog 52 #[.int .i64 la] W fun e w' => e = .returned (.string ⟨(Lib.itoa la).toArray⟩) ∧ Below W.heap.size W w') :
    Calls Tryd.prog 51 #[.agg #[.int .u8 la, .int .u16 ca]] w fun e w' => e = .returned (.string ⟨(txt la (catL ca 16)).toArray⟩) ∧ Below w.heap.size w w' := by
  have HI := Lib.hid hI
  clear hI
  go_enter Tryd.func51, Tryd.ntmps51
  go_wp2_with fail
  have hb0 : Below w.heap.size w (w.alloc (.cells #[.int .u8 la, .int .u16 ca] 37)) := (Below.refl _ _).alloc (Nat.le_refl _) _
  refine (HI.out _ hb0).mono ?_
  rintro e w1 ⟨rfl, hb1⟩
  have hP1 := (Pair.new w (.int .u8 la) (.int .u16 ca) 37).below hb1 (by simp)
  obtain ⟨-, c0, c1, -, -⟩ := id hP1
  go_wp2_with fail
  refine (cats_any la ca _ h0 h1).mono ?_
  rintro e w2 ⟨v, rfl, hv, hb2⟩
  have hB2 := (hb0.trans (hb1.mono (by simp))).trans (hb2.mono (by have := hb1.size; simp at this; omega))
  clear c0 c1 hP1
  rcases hv with ⟨a, cap, rfl, hz⟩ | ⟨b, off, cap, rfl, hbl, hm, hc⟩
  · go_wp2
    refine wp_loop_rounds 1 ?_
    rw [rounds_succ]
    go_wp2
    go_ret
    refine ⟨?_, hB2⟩
    rw [hz]; simp [txt, tailT]
  · have HC := Lib.hid hc
    unfold maxLen at hm
    clear hc
    go_wp2
    go_loopw [3, 4, 6, 14] (fun s mk _ i wr => ∃ k : Nat, k ≤ (catL ca 16).length ∧ i = .int .i64 k ∧ s = .string ⟨(txt la ((catL ca 16).take k)).toArray⟩ ∧ mk = .string ⟨#[markB k]⟩ ∧ Below w2.heap.size w2 wr) (fun _ _ _ i _ => (catL ca 16).length - (intOf i).toNat)
    case atStart => exact ⟨0, by omega, rfl, by simp [txt, tailT], rfl, Below.refl _ _⟩
    case round =>
      obtain ⟨k, hk, rfl, rfl, rfl, hb⟩ := hrel
      by_cases hlt : k < (catL ca 16).length
      · have e0 := (hb.cell (p := ⟨b, off + k, none⟩) hbl).trans (HC.out k hlt)
        have hz := catL_mem ca 16 (catL ca 16)[k] (List.getElem_mem hlt)
        have HS : Hid (txt la ((catL ca 16).take (k + 1)) = txt la ((catL ca 16).take k) ++ (markB k :: Lib.itoa (catL ca 16)[k])) := by
          show txt la ((catL ca 16).take (k + 1)) = _
          unfold txt
          rw [List.take_succ_eq_append_getElem hlt, tailT_snoc, List.append_assoc]
          congr 2
          unfold markB
          rcases Nat.eq_zero_or_pos k with rfl | hk0
          · simp
          · rw [if_neg (by omega : ¬ k = 0)]
            have : ((catL ca 16).take k).isEmpty = false := by
              cases hq : (catL ca 16).take k with
              | nil => have := congrArg List.length hq; rw [List.length_take, List.length_nil] at this; omega
              | cons _ _ => rfl
            rw [this]; simp
        have hTl := txt_len la ((catL ca 16).take k) hl0 hl1 (fun z hz => catL_mem ca 16 z (List.mem_of_mem_take hz))
        have hzl := itoa_len (catL ca 16)[k] hz.1 (by omega)
        have hcl := catL_len ca 16
        have hkl : ((catL ca 16).take k).length ≤ 16 := by rw [List.length_take]; omega
        have hTl2 : (txt la ((catL ca 16).take k)).length ≤ 100 := by omega
        clear hTl hkl
        generalize (catL ca 16)[k] = z at *
        generalize txt la ((catL ca 16).take k) = T at *
        have hlt' : (k : Int) < ((catL ca 16).length : Int) := by omega
        go_wp2_with fail
        refine (itoa_small z _ hz.1 (by omega)).mono ?_
        rintro e w3 ⟨rfl, hb3⟩
        have hz3 := hb3.size
        have hB3 := hb.trans (hb3.mono hb.size)
        clear e0
        go_wp2
        go_roundw
        case rel =>
          refine ⟨k + 1, by omega, by go_num, ?_, ?_, hB3⟩
          · rw [HS.out]
            refine congrArg Value.string ?_
            apply ByteArray.ext
            simp
          · unfold markB; rw [if_neg (by omega)]
        case measure => simp [intOf]; omega
      · obtain rfl : k = (catL ca 16).length := by omega
        go_wp2
        go_ret
        rw [List.take_length]
        exact ⟨rfl, hB2.trans (hb.mono hB2.size)⟩
end Go.Proofs.YtfackmiojbdjhaaDoor
