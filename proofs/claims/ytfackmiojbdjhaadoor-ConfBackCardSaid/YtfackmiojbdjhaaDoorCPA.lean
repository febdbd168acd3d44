import Derived.Test.YtfackmiojbdjhaaDoorC22
import Derived.Test.YtfackmiojbdjhaaDoorMT
import Derived.Lib.SplitLaws
import Derived.Test.YtfackmiojbdjhaaDoorCM
import Derived.Test.YtfackmiojbdjhaaDoorCQ
/- What the answer reads of a text, as the code's own words: lines and words. -/
namespace Go.Proofs.YtfackmiojbdjhaaDoor
set_option linter.unusedSimpArgs false
set_option linter.unusedVariables false
open Go.RowKit Go.Maps

theorem index_split (c : UInt8) (l : List UInt8) : Lib.indexB ⟨l.toArray⟩ ⟨#[c]⟩ = (match (splitC c l).2 with | none => -1 | some _ => ((splitC c l).1.length : Int)) := by
  unfold Lib.indexB
  show Lib.index l [c] = _
  rw [Lib.index_one, byte_split]
  cases (splitC c l).2 <;> rfl
theorem lines_none (l : List UInt8) (h : (splitC 10 l).2 = none) : linesOf ⟨l.toArray⟩ = [⟨l.toArray⟩] := by
  unfold linesOf
  exact Lib.splitB_miss _ _ _ _ (by rw [index_split, h])
theorem lines_some (l t : List UInt8) (h : (splitC 10 l).2 = some t) : linesOf ⟨l.toArray⟩ = ⟨(splitC 10 l).1.toArray⟩ :: linesOf ⟨t.toArray⟩ := by
  have hi : Lib.indexB ⟨l.toArray⟩ ⟨#[10]⟩ = (splitC 10 l).1.length := by rw [index_split, h]
  have hs := (splitC_some 10 l t h).1
  generalize (splitC 10 l).1 = a at *
  have e1 : (⟨l.toArray⟩ : ByteArray).extract 0 (a.length + 0) = ⟨a.toArray⟩ := by
    rw [ext_to, hs]; simp
  have e2 : (⟨l.toArray⟩ : ByteArray).extract (a.length + 1) (⟨l.toArray⟩ : ByteArray).size = ⟨t.toArray⟩ := by
    rw [ext_from, hs, List.drop_append, Nat.add_sub_cancel_left, List.drop_eq_nil_of_le (by omega)]; rfl
  unfold linesOf
  have hc := Lib.countB_hit ⟨l.toArray⟩ ⟨#[10]⟩ a.length (by decide) hi
  have z1 : (⟨#[10]⟩ : ByteArray).size = 1 := rfl
  rw [z1, e2] at hc
  rw [hc, Nat.add_comm, Lib.splitB_hit _ _ _ _ _ hi, z1, e1, e2]
theorem drop_cut (l : List UInt8) (f i : Nat) (hf : f ≤ i) (hi : i < l.length) : l.drop f = (l.drop f).take (i - f) ++ l[i] :: l.drop (i + 1) := by
  have h1 := List.take_append_drop (i - f) (l.drop f)
  rw [List.drop_drop, show f + (i - f) = i by omega, List.drop_eq_getElem_cons hi] at h1
  exact h1.symm
theorem mid_mem (l : List UInt8) (f i : Nat) (c : UInt8) (h : ∀ j (hj : j < l.length), f ≤ j → j < i → l[j] ≠ c) : ∀ x ∈ (l.drop f).take (i - f), x ≠ c := by
  intro x hx
  obtain ⟨k, hk, rfl⟩ := List.mem_iff_getElem.1 hx
  rw [List.length_take, List.length_drop] at hk
  rw [List.getElem_take, List.getElem_drop]
  exact h (f + k) (by omega) (by omega) (by omega)
theorem bytes_of (s : ByteArray) : s = ⟨s.data.toList.toArray⟩ := by rw [Array.toArray_toList]
theorem ext_mid (l : List UInt8) (a b : Nat) : (⟨l.toArray⟩ : ByteArray).extract a b = ⟨((l.drop a).take (b - a)).toArray⟩ := by
  apply ByteArray.ext
  rw [ByteArray.data_extract]
  simp
theorem lines_step (s : ByteArray) (f i : Nat) (hf : f ≤ i) (hi : i < s.size) (hno : ∀ j (hj : j < s.size), f ≤ j → j < i → s[j] ≠ 10) (h : s[i] = 10) :
    linesOf (s.extract f s.size) = s.extract f i :: linesOf (s.extract (i + 1) s.size) := by
  obtain ⟨⟨l⟩⟩ := s
  have hi' : i < l.length := hi
  have h' : l[i] = 10 := h
  have hc := drop_cut l f i hf hi'
  rw [h'] at hc
  have hs := (congrArg (splitC 10) hc).trans (splitC_app 10 _ (l.drop (i + 1)) (mid_mem l f i 10 (fun j hj => hno j hj)))
  show linesOf ((⟨l.toArray⟩ : ByteArray).extract f (⟨l.toArray⟩ : ByteArray).size) = (⟨l.toArray⟩ : ByteArray).extract f i :: linesOf ((⟨l.toArray⟩ : ByteArray).extract (i + 1) (⟨l.toArray⟩ : ByteArray).size)
  rw [ext_from, ext_from, ext_mid, lines_some (l.drop f) (l.drop (i + 1)) (by rw [hs]), hs]
theorem lines_end (s : ByteArray) (f : Nat) (hno : ∀ j (hj : j < s.size), f ≤ j → s[j] ≠ 10) : linesOf (s.extract f s.size) = [s.extract f s.size] := by
  obtain ⟨⟨l⟩⟩ := s
  show linesOf ((⟨l.toArray⟩ : ByteArray).extract f (⟨l.toArray⟩ : ByteArray).size) = [(⟨l.toArray⟩ : ByteArray).extract f (⟨l.toArray⟩ : ByteArray).size]
  rw [ext_from]
  refine lines_none _ ?_
  rw [splitC_all 10 (l.drop f) (fun x hx => by
    obtain ⟨k, hk, rfl⟩ := List.mem_iff_getElem.1 hx
    rw [List.length_drop] at hk
    rw [List.getElem_drop]
    exact hno (f + k) (show f + k < l.length by omega) (by omega))]

/-- how far a line's words reach -/
def endN (s : ByteArray) : Nat := (splitC 35 s.data.toList).1.length
def preB (s : ByteArray) : ByteArray := ⟨(splitC 35 s.data.toList).1.toArray⟩
theorem pre_size (s : ByteArray) : (preB s).size = endN s := by show ((splitC 35 s.data.toList).1.toArray).size = _; simp [endN]
theorem end_le (s : ByteArray) : endN s ≤ s.size := by
  have h1 := split_fst_len 35 s.data.toList
  have h3 : s.data.toList.length = s.size := Array.length_toList
  unfold endN; omega
theorem pre_ext (s : ByteArray) : preB s = s.extract 0 (endN s) := by
  obtain ⟨⟨l⟩⟩ := s
  show (⟨(splitC 35 l).1.toArray⟩ : ByteArray) = (⟨l.toArray⟩ : ByteArray).extract 0 (splitC 35 l).1.length
  rw [ext_to]
  cases h : (splitC 35 l).2 with
  | none => rw [(splitC_none 35 l h).1]; simp
  | some t =>
    have h1 := (splitC_some 35 l t h).1
    generalize (splitC 35 l).1 = a at *
    rw [h1]; simp
theorem pre_get (s : ByteArray) (i : Nat) (h : i < endN s) : (preB s)[i]'(by rw [pre_size]; exact h) = s[i]'(Nat.lt_of_lt_of_le h (end_le s)) := by
  have := pre_ext s
  have h2 : (preB s)[i]'(by rw [pre_size]; exact h) = (s.extract 0 (endN s))[i]'(by rw [← this, pre_size]; exact h) := by congr 1
  rw [h2, ByteArray.getElem_extract]
  congr 1; omega
theorem pre_cut (s : ByteArray) (a b : Nat) (h : b ≤ endN s) : (preB s).extract a b = s.extract a b := by
  rw [pre_ext, ByteArray.extract_extract]
  congr 1 <;> omega
theorem end_no (s : ByteArray) (i : Nat) (h : i < endN s) : s[i]'(Nat.lt_of_lt_of_le h (end_le s)) ≠ 35 := by
  rw [← pre_get s i h]
  obtain ⟨⟨l⟩⟩ := s
  have hm : ∀ x ∈ (splitC 35 l).1, x ≠ 35 := by
    cases hq : (splitC 35 l).2 with
    | none => rw [(splitC_none 35 l hq).1]; exact (splitC_none 35 l hq).2
    | some t => exact (splitC_some 35 l t hq).2
  exact hm _ (List.getElem_mem (l := (splitC 35 l).1) h)
theorem end_at (s : ByteArray) (h : endN s < s.size) : s[endN s] = 35 := by
  obtain ⟨⟨l⟩⟩ := s
  show l[(splitC 35 l).1.length]'h = 35
  have h' : (splitC 35 l).1.length < l.length := h
  cases hq : (splitC 35 l).2 with
  | none => rw [(splitC_none 35 l hq).1] at h'; exact absurd h' (Nat.lt_irrefl _)
  | some t =>
    have h1 := (splitC_some 35 l t hq).1
    have h2 : ∀ (a : List UInt8) (l : List UInt8) (hl : l = a ++ 35 :: t) (h : a.length < l.length), l[a.length]'h = 35 := by
      rintro a l rfl h; simp
    exact h2 _ l h1 h'

/-- where the passes over a line's words stand -/
structure WL (s : ByteArray) (i : Nat) (st : Option Nat) (acc : List (Nat × Nat)) : Prop where
  num : acc.length ≤ i
  le : i ≤ endN s
  lo : ∀ x ∈ acc, x.2 ≤ endN s
  sb : ∀ a, st = some a → a ≤ i
  eq : Lib.spansFromP blankP (preB s) (endN s - i) i st acc = Lib.spansFromP blankP (preB s) (endN s) 0 none []
theorem WL.start (s : ByteArray) : WL s 0 none [] := ⟨Nat.le_refl _, Nat.zero_le _, (fun x h => by cases h), (fun a h => by cases h), rfl⟩
theorem wl_unf (s : ByteArray) (i : Nat) (st : Option Nat) (acc : List (Nat × Nat)) (h : i < endN s) (ha : (s[i]'(Nat.lt_of_lt_of_le h (end_le s))).toNat < 128) :
    Lib.spansFromP blankP (preB s) (endN s - i) i st acc = (if blankP (s[i]'(Nat.lt_of_lt_of_le h (end_le s))).toNat then
        (match st with
         | some a => Lib.spansFromP blankP (preB s) (endN s - (i + 1)) (i + 1) none (acc ++ [(a, i)])
         | none => Lib.spansFromP blankP (preB s) (endN s - (i + 1)) (i + 1) none acc)
       else
        (match st with
         | some a => Lib.spansFromP blankP (preB s) (endN s - (i + 1)) (i + 1) (some a) acc
         | none => Lib.spansFromP blankP (preB s) (endN s - (i + 1)) (i + 1) (some i) acc)) := by
  have hp : i < (preB s).size := by rw [pre_size]; exact h
  have hd := decode_ascii (preB s) i hp (by rw [pre_get s i h]; exact ha)
  rw [show endN s - i = (endN s - (i + 1)) + 1 by omega]
  conv => lhs; unfold Lib.spansFromP
  rw [if_pos hp, hd, pre_get s i h]
  rfl
theorem WL.blank0 {s : ByteArray} {i : Nat} {acc : List (Nat × Nat)} (h : WL s i none acc) (hi : i < endN s) (ha : (s[i]'(Nat.lt_of_lt_of_le hi (end_le s))).toNat < 128) (hb : blankP (s[i]'(Nat.lt_of_lt_of_le hi (end_le s))).toNat = true) : WL s (i + 1) none acc :=
  ⟨Nat.le_succ_of_le h.num, hi, h.lo, (fun a h => by cases h), by rw [← h.eq, wl_unf s i none acc hi ha, if_pos hb]⟩
theorem WL.blank1 {s : ByteArray} {i a : Nat} {acc : List (Nat × Nat)} (h : WL s i (some a) acc) (hi : i < endN s) (ha : (s[i]'(Nat.lt_of_lt_of_le hi (end_le s))).toNat < 128) (hb : blankP (s[i]'(Nat.lt_of_lt_of_le hi (end_le s))).toNat = true) : WL s (i + 1) none (acc ++ [(a, i)]) :=
  ⟨by have := h.num; simp; omega, hi, (fun x hx => by
    rcases List.mem_append.1 hx with hx | hx
    · exact h.lo x hx
    · obtain rfl := List.mem_singleton.1 hx
      exact h.le), (fun a h => by cases h), by rw [← h.eq, wl_unf s i (some a) acc hi ha, if_pos hb]⟩
theorem WL.word0 {s : ByteArray} {i : Nat} {acc : List (Nat × Nat)} (h : WL s i none acc) (hi : i < endN s) (ha : (s[i]'(Nat.lt_of_lt_of_le hi (end_le s))).toNat < 128) (hb : blankP (s[i]'(Nat.lt_of_lt_of_le hi (end_le s))).toNat = false) : WL s (i + 1) (some i) acc :=
  ⟨Nat.le_succ_of_le h.num, hi, h.lo, (fun a h => by injection h with h; omega), by rw [← h.eq, wl_unf s i none acc hi ha, hb]; rfl⟩
theorem WL.word1 {s : ByteArray} {i a : Nat} {acc : List (Nat × Nat)} (h : WL s i (some a) acc) (hi : i < endN s) (ha : (s[i]'(Nat.lt_of_lt_of_le hi (end_le s))).toNat < 128) (hb : blankP (s[i]'(Nat.lt_of_lt_of_le hi (end_le s))).toNat = false) : WL s (i + 1) (some a) acc :=
  ⟨Nat.le_succ_of_le h.num, hi, h.lo, (fun b hb => by have := h.sb b hb; omega), by rw [← h.eq, wl_unf s i (some a) acc hi ha, hb]; rfl⟩
/-- the pieces of spans -/
def cutS (s : ByteArray) (acc : List (Nat × Nat)) : List ByteArray := acc.map fun x => s.extract x.1 x.2
theorem cutS_snoc (s : ByteArray) (acc : List (Nat × Nat)) (a b : Nat) : cutS s (acc ++ [(a, b)]) = cutS s acc ++ [s.extract a b] := by simp [cutS]
theorem cut_pre (s : ByteArray) (acc : List (Nat × Nat)) (h : ∀ x ∈ acc, x.2 ≤ endN s) : (acc.map fun x => (preB s).extract x.1 x.2) = cutS s acc :=
  List.map_congr_left fun x hx => pre_cut s x.1 x.2 (h x hx)
theorem WL.done0 {s : ByteArray} {acc : List (Nat × Nat)} (h : WL s (endN s) none acc) : wordsOf s = cutS s acc := by
  have e : wordsOf s = (Lib.closeSpans (preB s) (Lib.spansFromP blankP (preB s) (endN s) 0 none [])).map fun x => (preB s).extract x.1 x.2 := by
    rw [← pre_size s]; rfl
  rw [e, ← h.eq, Nat.sub_self]
  exact cut_pre s acc h.lo
theorem WL.done1 {s : ByteArray} {acc : List (Nat × Nat)} {a : Nat} (h : WL s (endN s) (some a) acc) : wordsOf s = cutS s acc ++ [s.extract a (endN s)] := by
  have e : wordsOf s = (Lib.closeSpans (preB s) (Lib.spansFromP blankP (preB s) (endN s) 0 none [])).map fun x => (preB s).extract x.1 x.2 := by
    rw [← pre_size s]; rfl
  rw [e, ← h.eq, Nat.sub_self, ← cutS_snoc]
  have := cut_pre s (acc ++ [(a, endN s)]) (fun x hx => by
    rcases List.mem_append.1 hx with hx | hx
    · exact h.lo x hx
    · obtain rfl := List.mem_singleton.1 hx
      exact Nat.le_refl _)
  rw [← this, ← pre_size s]
  rfl
end Go.Proofs.YtfackmiojbdjhaaDoor

/- The answer's count, place, and the law's ascii. -/
namespace Go.Proofs.YtfackmiojbdjhaaDoor
set_option linter.unusedSimpArgs false
set_option linter.unusedVariables false
open Go.RowKit Go.Maps

def cntO (s : ByteArray) : Int := match numC s with | none => -1 | some v => (v : Int)
set_option maxHeartbeats 2000000 in
theorem rcount_any (s : ByteArray) (w : World) : Calls Tryd.prog 48 #[.string s] w fun e w' => e = .returned (.int .i64 (cntO s)) ∧ w' = w := by
  have hbad : ¬ (1 ≤ s.size ∧ s.size ≤ 4 ∧ ¬ (1 < s.size ∧ (s.get! 0).toNat = 48)) → Hid (numC s = none) := by
    intro h
    show numC s = none
    unfold numC
    rw [if_neg (fun h' => h ⟨h'.1, h'.2.1, h'.2.2.1⟩)]
  by_cases h1 : s.size < 1
  · have hN := hbad (by omega)
    clear hbad
    go_enter Tryd.func48, Tryd.ntmps48
    go_wp2
    refine bodyPost_ret (v := .int .i64 (-1)) (by simp [results, Tryd.results48, go_sem]) rfl ⟨by unfold cntO; rw [hN.out], rfl⟩
  · by_cases h4 : 4 < s.size
    · have hN := hbad (by omega)
      clear hbad
      go_enter Tryd.func48, Tryd.ntmps48
      go_wp2
      refine bodyPost_ret (v := .int .i64 (-1)) (by simp [results, Tryd.results48, go_sem]) rfl ⟨by unfold cntO; rw [hN.out], rfl⟩
    · have h0 : 0 < s.size := by omega
      have hg : s.get! 0 = s[0] := get_bang s 0 h0
      rw [hg] at hbad
      have HG := Lib.hid hg
      clear hg
      obtain ⟨Z, hZ⟩ : ∃ Z, s[0] = Z := ⟨_, rfl⟩
      rw [hZ] at hbad
      by_cases hz : 1 < s.size ∧ Z.toNat = 48
      · have hN := hbad (fun h => h.2.2 hz)
        obtain ⟨hz1, hz2⟩ := hz
        clear hbad
        go_enter Tryd.func48, Tryd.ntmps48
        go_wp2
        refine bodyPost_ret (v := .int .i64 (-1)) (by simp [results, Tryd.results48, go_sem]) rfl ⟨by unfold cntO; rw [hN.out], rfl⟩
      · have HGood : Hid (∀ (_ : s.data.toList.all digB = true), numC s = some (numV s.data.toList)) := by
          intro h
          unfold numC
          rw [if_pos ⟨by omega, by omega, by rw [HG.out, hZ]; exact hz, h⟩]
        have HBad : Hid (s.data.toList.all digB = false → numC s = none) := by
          intro h
          unfold numC
          rw [if_neg (by rw [h]; simp)]
        clear hbad
        have main : ∀ (hz' : (s.size ≤ 1) ∨ (1 < s.size ∧ ¬ (Z.toNat = 48))), Calls Tryd.prog 48 #[.string s] w fun e w' => e = .returned (.int .i64 (cntO s)) ∧ w' = w := by
          intro hz'
          have HZ := Lib.hid hz'
          have i1 : ¬ ((s.size : Int) < 1) := by omega
          have i4 : ¬ (4 < (s.size : Int)) := by omega
          rcases hz' with hz1 | ⟨hz1, hz2⟩
          · have i2 : ¬ (1 < (s.size : Int)) := by omega
            go_enter Tryd.func48, Tryd.ntmps48
            go_wp2
            go_loopw [3, 4] (fun n i wr => ∃ k : Nat, k ≤ s.size ∧ i = .int .i64 k ∧ n = .int .i64 (numV (s.data.toList.take k) : Nat) ∧ wr = w ∧ ∀ j (hj : j < s.size), j < k → digB s[j] = true) (fun _ i _ => s.size - (intOf i).toNat)
            case atStart => exact ⟨0, by omega, rfl, by simp [numV], rfl, fun j _ h => by omega⟩
            case round =>
              obtain ⟨k, hk, rfl, rfl, hb0, hall⟩ := hrel
              have hb := Lib.hid hb0
              clear hb0
              have HA := Lib.hid hall
              have hlt10 := numV_take_lt s k hk hall
              clear hall
              by_cases hlt : k < s.size
              · have hp : 10 ^ k ≤ 10 ^ 3 := Nat.pow_le_pow_right (by omega) (by omega)
                have HT : Hid (numV (s.data.toList.take (k + 1)) = numV (s.data.toList.take k) * 10 + (s[k].toNat - 48)) := by
                  show numV _ = _
                  rw [take_snoc s k hlt, numV_snoc]
                have HD : Hid (digB s[k] = (decide (48 ≤ s[k].toNat) && decide (s[k].toNat ≤ 57))) := rfl
                have HF : Hid (digB s[k] = false → numC s = none) := fun h => HBad.out (digs_bad s k hlt h)
                have hv : numV (s.data.toList.take k) ≤ 999 := by omega
                generalize numV (s.data.toList.take k) = V at *
                obtain ⟨R, hR⟩ : ∃ R, s[k] = R := ⟨_, rfl⟩
                rw [hR] at HT HD HF
                clear hlt10 hp
                by_cases hlow : R.toNat < 48
                · have hN : Hid (numC s = none) := HF.out (by rw [HD.out]; simp; omega)
                  go_wp2
                  refine bodyPost_ret (v := .int .i64 (-1)) (by simp [results, Tryd.results48, go_sem]) rfl ⟨by unfold cntO; rw [hN.out], hb.out⟩
                · by_cases hhi : 57 < R.toNat
                  · have hN : Hid (numC s = none) := HF.out (by rw [HD.out]; simp; omega)
                    go_wp2
                    refine bodyPost_ret (v := .int .i64 (-1)) (by simp [results, Tryd.results48, go_sem]) rfl ⟨by unfold cntO; rw [hN.out], hb.out⟩
                  · have HR := Lib.hid hR
                    go_wp2
                    go_roundw
                    case rel =>
                      refine ⟨k + 1, by omega, by go_num, ?_, hb.out, fun j hj hjk => ?_⟩
                      · rw [HT.out]; congr 1; omega
                      · by_cases e : j = k
                        · subst e; rw [HR.out, HD.out]; simp; omega
                        · exact HA.out j hj (by omega)
                    case measure => simp [intOf]; omega
              · obtain rfl : k = s.size := by omega
                have hN : Hid (numC s = some (numV s.data.toList)) := HGood.out (digs_upto s (fun j hj => HA.out j hj hj))
                have hfull : s.data.toList.take s.size = s.data.toList := List.take_of_length_le (Nat.le_of_eq Array.length_toList)
                rw [hfull]
                clear hfull
                go_wp2
                refine bodyPost_ret (v := .int .i64 (numV s.data.toList : Nat)) (by simp [results, Tryd.results48, go_sem]) rfl ⟨by unfold cntO; rw [hN.out], hb.out⟩
          · have i2 : 1 < (s.size : Int) := by omega
            go_enter Tryd.func48, Tryd.ntmps48
            go_wp2
            go_loopw [3, 4] (fun n i wr => ∃ k : Nat, k ≤ s.size ∧ i = .int .i64 k ∧ n = .int .i64 (numV (s.data.toList.take k) : Nat) ∧ wr = w ∧ ∀ j (hj : j < s.size), j < k → digB s[j] = true) (fun _ i _ => s.size - (intOf i).toNat)
            case atStart => exact ⟨0, by omega, rfl, by simp [numV], rfl, fun j _ h => by omega⟩
            case round =>
              obtain ⟨k, hk, rfl, rfl, hb0, hall⟩ := hrel
              have hb := Lib.hid hb0
              clear hb0
              have HA := Lib.hid hall
              have hlt10 := numV_take_lt s k hk hall
              clear hall
              by_cases hlt : k < s.size
              · have hp : 10 ^ k ≤ 10 ^ 3 := Nat.pow_le_pow_right (by omega) (by omega)
                have HT : Hid (numV (s.data.toList.take (k + 1)) = numV (s.data.toList.take k) * 10 + (s[k].toNat - 48)) := by
                  show numV _ = _
                  rw [take_snoc s k hlt, numV_snoc]
                have HD : Hid (digB s[k] = (decide (48 ≤ s[k].toNat) && decide (s[k].toNat ≤ 57))) := rfl
                have HF : Hid (digB s[k] = false → numC s = none) := fun h => HBad.out (digs_bad s k hlt h)
                have hv : numV (s.data.toList.take k) ≤ 999 := by omega
                generalize numV (s.data.toList.take k) = V at *
                obtain ⟨R, hR⟩ : ∃ R, s[k] = R := ⟨_, rfl⟩
                rw [hR] at HT HD HF
                clear hlt10 hp
                by_cases hlow : R.toNat < 48
                · have hN : Hid (numC s = none) := HF.out (by rw [HD.out]; simp; omega)
                  go_wp2
                  refine bodyPost_ret (v := .int .i64 (-1)) (by simp [results, Tryd.results48, go_sem]) rfl ⟨by unfold cntO; rw [hN.out], hb.out⟩
                · by_cases hhi : 57 < R.toNat
                  · have hN : Hid (numC s = none) := HF.out (by rw [HD.out]; simp; omega)
                    go_wp2
                    refine bodyPost_ret (v := .int .i64 (-1)) (by simp [results, Tryd.results48, go_sem]) rfl ⟨by unfold cntO; rw [hN.out], hb.out⟩
                  · have HR := Lib.hid hR
                    go_wp2
                    go_roundw
                    case rel =>
                      refine ⟨k + 1, by omega, by go_num, ?_, hb.out, fun j hj hjk => ?_⟩
                      · rw [HT.out]; congr 1; omega
                      · by_cases e : j = k
                        · subst e; rw [HR.out, HD.out]; simp; omega
                        · exact HA.out j hj (by omega)
                    case measure => simp [intOf]; omega
              · obtain rfl : k = s.size := by omega
                have hN : Hid (numC s = some (numV s.data.toList)) := HGood.out (digs_upto s (fun j hj => HA.out j hj hj))
                have hfull : s.data.toList.take s.size = s.data.toList := List.take_of_length_le (Nat.le_of_eq Array.length_toList)
                rw [hfull]
                clear hfull
                go_wp2
                refine bodyPost_ret (v := .int .i64 (numV s.data.toList : Nat)) (by simp [results, Tryd.results48, go_sem]) rfl ⟨by unfold cntO; rw [hN.out], hb.out⟩
        exact main (by omega)

def plO (rs : List Rg) (s : ByteArray) : Int := match place rs s with | none => -1 | some v => (v : Int)
theorem place_at (rs : List Rg) (s : ByteArray) (k : Nat) (hk : k < rs.length) (h : rs[k].nm = s) (hno : ∀ j (hj : j < rs.length), j < k → rs[j].nm ≠ s) : place rs s = some k := by
  unfold place
  rw [List.findIdx?_eq_some_iff_getElem]
  exact ⟨hk, by simpa using h, fun j hj => by simpa using hno j (by omega) hj⟩
theorem place_no (rs : List Rg) (s : ByteArray) (hno : ∀ j (hj : j < rs.length), rs[j].nm ≠ s) : place rs s = none := by
  unfold place
  rw [List.findIdx?_eq_none_iff]
  intro x hx
  obtain ⟨j, hj, rfl⟩ := List.mem_iff_getElem.1 hx
  simpa using hno j hj
set_option maxHeartbeats 2000000 in
theorem rplace_any (v : Value) (rs : List Rg) (s : ByteArray) (w : World) (hr : Regs w v rs) : Calls Tryd.prog 49 #[v, .string s] w fun e w' => e = .returned (.int .i64 (plO rs s)) ∧ w' = w := by
  have HR := Lib.hid hr
  have hm := hr.max
  unfold maxLen at hm
  obtain ⟨a, cap, rfl⟩ := hr.form
  clear hr
  go_enter Tryd.func49, Tryd.ntmps49
  go_wp2
  go_loopw [5] (fun i wr => ∃ k : Nat, k ≤ rs.length ∧ i = .int .i64 k ∧ wr = w ∧ ∀ j (hj : j < rs.length), j < k → rs[j].nm ≠ s) (fun i _ => rs.length - (intOf i).toNat)
  case atStart => exact ⟨0, by omega, rfl, rfl, fun j _ h => by omega⟩
  case round =>
    obtain ⟨k, hk, rfl, rfl, hall⟩ := hrel
    have HA := Lib.hid hall
    clear hall
    by_cases hlt : k < rs.length
    · obtain ⟨b, off, cap', hv, hbl, -, hrow⟩ := HR.out.row (by omega)
      injection hv with hv1 hv2 hv3
      subst hv1 hv3
      have e0 := hrow.k0 k hlt
      have HC := Lib.hid (str_is2 rs[k].nm s)
      have HP := Lib.hid (place_at rs s k hlt)
      have HNext : Hid (rs[k].nm ≠ s → ∀ j (hj : j < rs.length), j < k + 1 → rs[j].nm ≠ s) := fun h j hj hjk => by
        by_cases e : j = k
        · subst e; exact h
        · exact HA.out j hj (by omega)
      generalize rs[k].nm = N at *
      clear hrow hv2
      have hlti : (k : Int) < (rs.length : Int) := by omega
      by_cases hN : N = s
      · have hc : (N.toList == s.toList) = true := by rw [HC.out]; simpa using hN
        have HPP : Hid (plO rs s = k) := by
          show plO rs s = k
          unfold plO
          rw [HP.out hN HA.out]
        clear hN
        go_wp2
        refine bodyPost_ret (v := .int .i64 k) (by simp [results, Tryd.results49, go_sem]) rfl ⟨by rw [HPP.out], rfl⟩
      · have hc : (N.toList == s.toList) = false := by rw [HC.out]; simpa using hN
        have HN := Lib.hid hN
        clear hN
        go_wp2
        go_roundw
        case rel => exact ⟨k + 1, by omega, by go_num, by trivial, HNext.out HN.out⟩
        case measure => simp [intOf]; omega
    · have hlti : ¬ ((k : Int) < (rs.length : Int)) := by omega
      have HPP : Hid (plO rs s = -1) := by
        show plO rs s = -1
        unfold plO
        rw [place_no rs s (fun j hj => HA.out j hj (by omega))]
      go_wp2
      refine bodyPost_ret (v := .int .i64 (-1)) (by simp [results, Tryd.results49, go_sem]) rfl ⟨by rw [HPP.out], rfl⟩

def ascB (s : ByteArray) : Bool := s.data.toList.all fun b => decide (b.toNat < 128)
theorem ascB_upto (s : ByteArray) (h : ∀ j (hj : j < s.size), s[j].toNat < 128) : ascB s = true := by
  unfold ascB
  rw [List.all_eq_true]
  intro x hx
  obtain ⟨j, hj, rfl⟩ := List.mem_iff_getElem.1 hx
  have := h j (by simpa using hj)
  simp only [Array.getElem_toList]
  exact decide_eq_true this
theorem ascB_get {s : ByteArray} (h : ascB s = true) (j : Nat) (hj : j < s.size) : s[j].toNat < 128 := by
  unfold ascB at h
  rw [List.all_eq_true] at h
  have := h s[j] (by exact Array.mem_toList_iff.2 (Array.getElem_mem _))
  simpa using this
theorem ascB_bad (s : ByteArray) (j : Nat) (hj : j < s.size) (h : ¬ s[j].toNat < 128) : ascB s = false := by
  unfold ascB
  rw [List.all_eq_false]
  exact ⟨s[j], by exact Array.mem_toList_iff.2 (Array.getElem_mem _), by simpa using h⟩
theorem ascB_app (a b : ByteArray) : ascB (a ++ b) = (ascB a && ascB b) := by
  unfold ascB
  rw [show (a ++ b).data.toList = a.data.toList ++ b.data.toList by simp, List.all_append]
theorem ascB_sub (a : ByteArray) (i j : Nat) (h : ascB a = true) : ascB (a.extract i j) = true := by
  refine ascB_upto _ (fun k hk => ?_)
  rw [ByteArray.getElem_extract]
  exact ascB_get h _ _
set_option maxHeartbeats 2000000 in
theorem ascii_any (s : ByteArray) (w : World) (hs : s.size ≤ 4000) : Calls Tryd.prog 12 #[.string s] w fun e w' => e = .returned (.bool (ascB s)) ∧ w' = w := by
  go_enter Tryd.func12, Tryd.ntmps12
  go_wp2
  go_loopw [6] (fun i wr => ∃ k : Nat, k ≤ s.size ∧ i = .int .i64 k ∧ wr = w ∧ ∀ j (hj : j < s.size), j < k → s[j].toNat < 128) (fun i _ => s.size - (intOf i).toNat)
  case atStart => exact ⟨0, by omega, rfl, rfl, fun j _ h => by omega⟩
  case round =>
    obtain ⟨k, hk, rfl, rfl, hall⟩ := hrel
    have HA := Lib.hid hall
    clear hall
    by_cases hlt : k < s.size
    · have HB := Lib.hid (ascB_bad s k hlt)
      have HNext : Hid (s[k].toNat < 128 → ∀ j (hj : j < s.size), j < k + 1 → s[j].toNat < 128) := fun h j hj hjk => by
        by_cases e : j = k
        · subst e; exact h
        · exact HA.out j hj (by omega)
      obtain ⟨R, hR⟩ : ∃ R, s[k] = R := ⟨_, rfl⟩
      rw [hR] at HB HNext
      by_cases h128 : 127 < R.toNat
      · have HF : Hid (ascB s = false) := HB.out (by omega)
        go_wp2
        go_ret
        exact ⟨ret_bool HF.out.symm, rfl⟩
      · go_wp2
        go_roundw
        case rel => exact ⟨k + 1, by omega, by go_num, by trivial, HNext.out (by omega)⟩
        case measure => simp [intOf]; omega
    · have HT : Hid (ascB s = true) := ascB_upto s (fun j hj => HA.out j hj (by omega))
      go_wp2
      go_ret
      exact ⟨ret_bool HT.out.symm, rfl⟩
end Go.Proofs.YtfackmiojbdjhaaDoor

/- The answer's Lines and words. -/
namespace Go.Proofs.YtfackmiojbdjhaaDoor
set_option linter.unusedSimpArgs false
set_option linter.unusedVariables false
open Go.RowKit Go.Maps

theorem wpList_append_at {P : Program} {w : World} {ops : Array Oper} {rest : List Oper} {o : Oper} {a : Act} {Q : Exit → Act → World → Prop} (hgd : o.guard = none) (s x : Operand) (t : TypeId)
    (ho : o.op = .call { callee := .builtin .append, args := #[s, x], argTypes := #[t, t] })
    (base : Nat) (e : TypeId) (i : TypeInfo) (z : Value) (size bytes : Nat) (ht : P.underlying t = some (.slice e)) (hi : P.info? e = some i) (hz : i.zero = some z)
    (hsize : i.size = size) (hby : i.bytes = bytes) (hzs : z.cells.size = size) (hsz : 0 < size)
    (v : Value) (n : Nat) (xs : List Value) (hs : a.eval s = v) (hown : w.ownsRow base e size v n xs)
    (ad : Addr) (m c : Nat) (news : List Value) (hx : a.eval x = .slice (some ad) m c) (hl : news.length = m * size) (hnews : ∀ j u, news[j]? = some u → w.cell? (ad.add j) = some u) (h1 : ∀ u ∈ news, u.oneCell' = true)
    (h63 : n + m ≤ maxLen) (hbytes : (n + m) * bytes ≤ 140737488355328) (hbase : base ≤ w.heap.size)
    (h : ∀ v' w', w'.ownsRow base e size v' (n + m) (xs ++ news) → w.grownBy w' v.ownBlock → (v'.ownBlock = v.ownBlock ∨ v'.ownBlock = some w.heap.size) → wpList P ops Q rest (a.put o.dst v') w') : wpList P ops Q (o :: rest) a w :=
  wpList_plain hgd fun _ hK => wp_append_at s x t ho base e i z size bytes ht hi hz hsize hby hzs hsz v n xs hs hown ad m c news hx hl hnews h1 h63 hbytes hbase fun v' w' h2 h3 h4 => hK _ _ (h v' w' h2 h3 h4)

/-- a new slice of texts, all its own -/
def NewS (w : World) (ss : List ByteArray) (e : Ending) (w' : World) : Prop := ∃ v, e = .returned v ∧ w'.ownsRow w.heap.size 9 1 v ss.length (ss.map Value.string) ∧ Below w.heap.size w w'
theorem cnt_le (s : ByteArray) : (linesOf s).length ≤ s.size + 1 := by
  rw [lines_len]
  have := Lib.countB_le ⟨#[10]⟩ (by decide) s.size s (Nat.le_refl _)
  omega
theorem ext_all (s : ByteArray) : s.extract 0 s.size = s := by
  apply ByteArray.ext
  rw [ByteArray.data_extract]
  simp

set_option maxHeartbeats 4000000 in
set_option maxRecDepth 100000 in
theorem rlines_any (s : ByteArray) (w : World) (hs : s.size ≤ 4000) : Calls Tryd.prog 45 #[.string s] w (NewS w (linesOf s)) := by
  obtain ⟨i0, hi, hz0, hz1, hz2⟩ := info_parts Tryd.info9
  have HE := Lib.hid (ext_all s)
  have HC := Lib.hid (cnt_le s)
  go_enter Tryd.func45, Tryd.ntmps45
  go_wp2
  go_loopw [3, 4, 5] (fun v fv i wr => ∃ k f : Nat, ∃ O : List ByteArray, k ≤ s.size ∧ f ≤ k ∧ i = .int .i64 k ∧ fv = .int .i64 f ∧ linesOf s = O ++ linesOf (s.extract f s.size) ∧ (∀ j (hj : j < s.size), f ≤ j → j < k → s[j] ≠ 10) ∧ wr.ownsRow w.heap.size 9 1 v O.length (O.map Value.string) ∧ Below w.heap.size w wr) (fun _ _ i _ => s.size - (intOf i).toNat)
  case atStart => exact ⟨0, 0, [], by omega, by omega, rfl, rfl, by rw [HE.out]; rfl, fun j _ _ h => by omega, World.ownsRow_nil _ _ _ _, Below.refl _ _⟩
  case round =>
    obtain ⟨k, f, O, hk, hf, rfl, rfl, hL, hno, hown, hb⟩ := hrel
    have HL := Lib.hid hL
    have HO := Lib.hid hown
    have HB := Lib.hid hb
    have HN := Lib.hid hno
    have hsz := hb.size
    have hOl : O.length ≤ 4001 := by
      have := congrArg List.length hL
      have h2 := HC.out
      rw [List.length_append] at this
      omega
    clear hL hno hown hb
    by_cases hlt : k < s.size
    · have hlti : (k : Int) < (s.size : Int) := by omega
      have HS := Lib.hid (fun h => lines_step s f k hf hlt HN.out h)
      have HNext : Hid (s[k] ≠ 10 → ∀ j (hj : j < s.size), f ≤ j → j < k + 1 → s[j] ≠ 10) := fun h j hj h1 h2 => by
        by_cases e : j = k
        · subst e; exact h
        · exact HN.out j hj h1 (by omega)
      obtain ⟨R, hR⟩ : ∃ R, s[k] = R := ⟨_, rfl⟩
      rw [hR] at HS HNext
      have hfi : (f : Int) ≤ (k : Int) := by omega
      by_cases h10 : (R.toNat : Int) = 10
      · have HS2 := Lib.hid (HS.out (UInt8.toNat_inj.1 (show R.toNat = (10 : UInt8).toNat by simpa using (by omega : R.toNat = 10))))
        clear HS
        go_wp2_with (first | (at_builtin; refine wpList_append_own _ rfl _ _ 51 rfl w.heap.size 9 i0 (.string ByteArray.empty) 1 16 Tryd.underlying51 hi hz0 hz1 hz2 rfl (by decide) _ _ _ rfl (HO.out.alloc _) ⟨wr.heap.size, 0, none⟩ 1 1 [.string (s.extract f k)] rfl rfl (cells_new wr _ 9) (by simp [Value.oneCell']) (by unfold maxLen; omega) (by omega) (by simp; omega) ?_))
        intro v' w1 hown' hgrow _
        have HB2 := Lib.hid ((HB.out.alloc hsz _).grown hgrow (by simp; omega) (ownsRow_block HO.out))
        have HO2 : Hid (w1.ownsRow w.heap.size 9 1 v' (O ++ [s.extract f k]).length ((O ++ [s.extract f k]).map Value.string)) := by
          show w1.ownsRow _ _ _ _ _ _
          simpa using hown'
        clear hown' hgrow HO HB
        go_wp2
        go_roundw
        case rel => exact ⟨k + 1, k + 1, O ++ [s.extract f k], by omega, by omega, by go_num, by go_num, by rw [HL.out, HS2.out, List.append_assoc]; rfl, fun j _ _ _ => by omega, HO2.out, HB2.out⟩
        case measure => simp [intOf]; omega
      · clear HS
        go_wp2
        go_roundw
        case rel => exact ⟨k + 1, f, O, by omega, by omega, by go_num, rfl, HL.out, HNext.out (fun e => h10 (by rw [e]; rfl)), HO.out, HB.out⟩
        case measure => simp [intOf]; omega
    · obtain rfl : k = s.size := by omega
      have hlti : ¬ ((s.size : Int) < (s.size : Int)) := by omega
      have HF := Lib.hid (lines_end s f (fun j hj h => HN.out j hj h hj))
      have hfi : (f : Int) ≤ (s.size : Int) := by omega
      go_wp2_with (first | (at_builtin; refine wpList_append_own _ rfl _ _ 51 rfl w.heap.size 9 i0 (.string ByteArray.empty) 1 16 Tryd.underlying51 hi hz0 hz1 hz2 rfl (by decide) _ _ _ rfl (HO.out.alloc _) ⟨wr.heap.size, 0, none⟩ 1 1 [.string (s.extract f s.size)] rfl rfl (cells_new wr _ 9) (by simp [Value.oneCell']) (by unfold maxLen; omega) (by omega) (by simp; omega) ?_))
      intro v' w1 hown' hgrow _
      have HB2 := Lib.hid ((HB.out.alloc hsz _).grown hgrow (by simp; omega) (ownsRow_block HO.out))
      have HO2 : Hid (w1.ownsRow w.heap.size 9 1 v' (O ++ [s.extract f s.size]).length ((O ++ [s.extract f s.size]).map Value.string)) := by
        show w1.ownsRow _ _ _ _ _ _
        simpa using hown'
      clear hown' hgrow HO HB
      go_wp2
      go_ret
      exact ⟨_, rfl, by rw [HL.out, HF.out]; exact HO2.out, HB2.out⟩

def wrdO (s : ByteArray) (acc : List (Nat × Nat)) (k : Nat) (st : Option Nat) : List ByteArray := match st with | none => cutS s acc | some a => cutS s acc ++ [s.extract a k]
def stI (st : Option Nat) : Int := match st with | none => -1 | some a => (a : Int)
theorem cutS_len (s : ByteArray) (acc : List (Nat × Nat)) : (cutS s acc).length = acc.length := by simp [cutS]
theorem blank_eq'' (n : Nat) : ((n : Int) == 32 || (n : Int) == 9 || (n : Int) == 10 || (n : Int) == 11 || (n : Int) == 12 || (n : Int) == 13) = blankP n := by
  rw [Bool.eq_iff_iff]
  simp [blankP]
  omega

theorem blank_t (n : Nat) (h : n = 32 ∨ n = 9 ∨ n = 10 ∨ n = 11 ∨ n = 12 ∨ n = 13) : blankP n = true := by
  simp [blankP]; omega

set_option maxHeartbeats 8000000 in
set_option maxRecDepth 100000 in
theorem rwords_any (s : ByteArray) (w : World) (hs : s.size ≤ 4000) (ha : ascB s = true) : Calls Tryd.prog 46 #[.string s] w (NewS w (wordsOf s)) := by
  obtain ⟨i0, hi, hz0, hz1, hz2⟩ := info_parts Tryd.info9
  have HA := Lib.hid (fun j (hj : j < s.size) => ascB_get ha j hj)
  have hen := end_le s
  clear ha
  go_enter Tryd.func46, Tryd.ntmps46
  go_wp2
  go_loopw [3, 4, 5] (fun v fv i wr => ∃ k : Nat, ∃ st : Option Nat, ∃ acc : List (Nat × Nat), WL s k st acc ∧ i = .int .i64 k ∧ fv = .int .i64 (stI st) ∧ wr.ownsRow w.heap.size 9 1 v (cutS s acc).length ((cutS s acc).map Value.string) ∧ Below w.heap.size w wr) (fun _ _ i _ => s.size + 1 - (intOf i).toNat)
  case atStart => exact ⟨0, none, [], WL.start s, rfl, rfl, World.ownsRow_nil _ _ _ _, Below.refl _ _⟩
  case round =>
    obtain ⟨k, st, acc, hW, rfl, rfl, hown, hb⟩ := hrel
    have hk := hW.le
    have hal : (cutS s acc).length ≤ 4000 := by rw [cutS_len]; have := hW.num; omega
    have HW := Lib.hid hW
    have HO := Lib.hid hown
    have HB := Lib.hid hb
    have hsz := hb.size
    have hki : (k : Int) ≤ (s.size : Int) := by omega
    clear hown hb
    obtain ⟨CL, hCL⟩ : ∃ x, (cutS s acc).length = x := ⟨_, rfl⟩
    rw [hCL] at HO hal
    have HCL := Lib.hid hCL
    clear hCL
    by_cases hend : k = endN s
    · have HEE : Hid (k = endN s) := hend
      have HWD : Hid (wordsOf s = wrdO s acc k st) := by
        show wordsOf s = wrdO s acc k st
        have h1 := HW.out
        clear hW HW
        subst hend
        cases st with
        | none => exact h1.done0
        | some a => exact h1.done1
      have hcases : k = s.size ∨ ∃ h : k < s.size, s[k] = 35 := by
        by_cases e : k = s.size
        · exact .inl e
        · refine .inr ⟨by omega, ?_⟩
          have := end_at s (by omega)
          simpa [hend] using this
      have HST := Lib.hid hW.sb
      clear hend hW
      obtain ⟨wX, rfl⟩ : ∃ x, x = wr := ⟨wr, rfl⟩
      go_upto_region 6 with fail
      go_cut [6] (fun ev wc => ev = .bool true ∧ wc = wX)
      case first =>
        rcases hcases with e | ⟨hlt, h35⟩
        · have ei : (k : Int) = (s.size : Int) := by omega
          go_wp2_with fail
          go_meet
          case rel => exact ⟨by first | rfl | (simp [ei]), rfl⟩
        · have ei : ¬ ((k : Int) = (s.size : Int)) := by omega
          go_wp2_with fail
          go_meet
          case rel => exact ⟨by first | rfl | (simp [ei, h35]), rfl⟩
      case rest =>
        obtain ⟨rfl, hwc⟩ := hcut
        subst hwc
        obtain ⟨wX, rfl⟩ : ∃ x, x = wc := ⟨wc, rfl⟩
        clear hcases
        cases st with
        | none =>
          simp only [stI]
          go_wp2_with fail
          go_ret
          exact ⟨_, rfl, by rw [HWD.out]; simp only [wrdO]; rw [HCL.out]; exact HO.out, HB.out⟩
        | some a =>
          simp only [stI]
          have ha1 := HST.out a rfl
          have ha1i : (a : Int) ≤ (k : Int) := by omega
          have ha0i : (0 : Int) ≤ (a : Int) := by omega
          have ha2i : ¬ ((a : Int) < 0) := by omega
          go_wp2_with (first | (at_builtin; refine wpList_append_own _ rfl _ _ 51 rfl w.heap.size 9 i0 (.string ByteArray.empty) 1 16 Tryd.underlying51 hi hz0 hz1 hz2 rfl (by decide) _ _ _ rfl (HO.out.alloc _) ⟨wX.heap.size, 0, none⟩ 1 1 [.string (s.extract a k)] rfl rfl (cells_new wX _ 9) (by simp [Value.oneCell']) (by unfold maxLen; omega) (by omega) (by simp; omega) ?_))
          intro v' w1 hown' hgrow _
          have HB2 := Lib.hid ((HB.out.alloc hsz _).grown hgrow (by simp; omega) (ownsRow_block HO.out))
          have HO2 : Hid (w1.ownsRow w.heap.size 9 1 v' (wordsOf s).length ((wordsOf s).map Value.string)) := by
            show w1.ownsRow _ _ _ _ _ _
            rw [HWD.out]
            simp only [wrdO, List.length_append, List.map_append, HCL.out]
            exact hown'
          clear hown' hgrow HO HB
          go_wp2_with fail
          go_ret
          exact ⟨_, rfl, HO2.out, HB2.out⟩
    · have hlt : k < endN s := by omega
      have hls : k < s.size := by omega
      have hlsi : (k : Int) < (s.size : Int) := by omega
      have ei : ¬ ((k : Int) = (s.size : Int)) := by omega
      have h35' := end_no s k hlt
      have h128 := HA.out k hls
      have HST := Lib.hid hW.sb
      have HN0 : Hid (blankP s[k].toNat = true → st = none → WL s (k + 1) none acc) := fun hb e => by subst e; exact HW.out.blank0 hlt h128 hb
      have HN1 : Hid (blankP s[k].toNat = true → ∀ a, st = some a → WL s (k + 1) none (acc ++ [(a, k)])) := fun hb a e => by subst e; exact HW.out.blank1 hlt h128 hb
      have HN2 : Hid (blankP s[k].toNat = false → st = none → WL s (k + 1) (some k) acc) := fun hb e => by subst e; exact HW.out.word0 hlt h128 hb
      have HN3 : Hid (blankP s[k].toNat = false → ∀ a, st = some a → WL s (k + 1) (some a) acc) := fun hb a e => by subst e; exact HW.out.word1 hlt h128 hb
      obtain ⟨R, hR⟩ : ∃ R, s[k] = R := ⟨_, rfl⟩
      rw [hR] at HN0 HN1 HN2 HN3 h35'
      have h35 : ¬ ((R.toNat : Int) = 35) := fun e => h35' (UInt8.toNat_inj.1 (show R.toNat = (35 : UInt8).toNat by simpa using (by omega : R.toNat = 35)))
      clear h35' h128 hend hW
      obtain ⟨wX, rfl⟩ : ∃ x, x = wr := ⟨wr, rfl⟩
      go_upto_region 6 with fail
      go_cut [6] (fun ev wc => ev = .bool false ∧ wc = wX)
      case first =>
        go_wp2_with fail
        go_meet
        case rel => exact ⟨by first | rfl | simp [ei, h35], rfl⟩
      case rest =>
      obtain ⟨rfl, hwc⟩ := hcut
      subst hwc
      obtain ⟨wX, rfl⟩ : ∃ x, x = wc := ⟨wc, rfl⟩
      clear h35 ei
      go_upto_region 7 with fail
      go_cut [7] (fun bv wc => bv = .bool (blankP R.toNat) ∧ wc = wX)
      case first =>
        go_wp2_with fail
        all_goals
          go_meet
          case rel => exact ⟨by first | rw [blank_eq'' R.toNat] | rw [blank_t R.toNat (by omega)], rfl⟩
      case rest =>
        obtain ⟨rfl, hwc⟩ := hcut
        subst hwc
        obtain ⟨wX, rfl⟩ : ∃ x, x = wc := ⟨wc, rfl⟩
        cases hbl : blankP R.toNat
        · cases st with
          | none =>
            have HX := Lib.hid (HN2.out hbl rfl)
            simp only [stI]
            clear hbl
            go_wp2_with fail
            go_roundw
            case rel => exact ⟨k + 1, some k, acc, HX.out, by go_num, rfl, by rw [HCL.out]; exact HO.out, HB.out⟩
            case measure => simp [intOf]; omega
          | some a =>
            have HX := Lib.hid (HN3.out hbl a rfl)
            have ha2i : ¬ ((a : Int) < 0) := by omega
            simp only [stI]
            clear hbl
            go_wp2_with fail
            go_roundw
            case rel => exact ⟨k + 1, some a, acc, HX.out, by go_num, rfl, by rw [HCL.out]; exact HO.out, HB.out⟩
            case measure => simp [intOf]; omega
        · cases st with
          | none =>
            have HX := Lib.hid (HN0.out hbl rfl)
            simp only [stI]
            clear hbl
            go_wp2_with fail
            go_roundw
            case rel => exact ⟨k + 1, none, acc, HX.out, by go_num, rfl, by rw [HCL.out]; exact HO.out, HB.out⟩
            case measure => simp [intOf]; omega
          | some a =>
            have HX := Lib.hid (HN1.out hbl a rfl)
            have ha1 := HST.out a rfl
            have ha1i : (a : Int) ≤ (k : Int) := by omega
            have ha0i : (0 : Int) ≤ (a : Int) := by omega
            simp only [stI]
            clear hbl
            go_wp2_with (first | (at_builtin; refine wpList_append_own _ rfl _ _ 51 rfl w.heap.size 9 i0 (.string ByteArray.empty) 1 16 Tryd.underlying51 hi hz0 hz1 hz2 rfl (by decide) _ _ _ rfl (HO.out.alloc _) ⟨wX.heap.size, 0, none⟩ 1 1 [.string (s.extract a k)] rfl rfl (cells_new wX _ 9) (by simp [Value.oneCell']) (by unfold maxLen; omega) (by omega) (by simp; omega) ?_))
            intro v' w1 hown' hgrow _
            have HB2 := Lib.hid ((HB.out.alloc hsz _).grown hgrow (by simp; omega) (ownsRow_block HO.out))
            have HO2 : Hid (w1.ownsRow w.heap.size 9 1 v' (cutS s (acc ++ [(a, k)])).length ((cutS s (acc ++ [(a, k)])).map Value.string)) := by
              show w1.ownsRow _ _ _ _ _ _
              rw [cutS_snoc]
              simp only [List.length_append, List.map_append, HCL.out]
              exact hown'
            clear hown' hgrow HO HB
            go_wp2_with fail
            go_roundw
            case rel => exact ⟨k + 1, none, acc ++ [(a, k)], HX.out, by go_num, rfl, HO2.out, HB2.out⟩
            case measure => simp [intOf]; omega
end Go.Proofs.YtfackmiojbdjhaaDoor

/- The answer's Read: what it has read so far, in memory. -/
namespace Go.Proofs.YtfackmiojbdjhaaDoor
set_option linter.unusedSimpArgs false
set_option linter.unusedVariables false
open Go.RowKit Go.Maps

theorem own_ne {w : World} {b1 b2 s1 s2 n1 n2 : Nat} {e1 e2 : TypeId} {v1 v2 : Value} {x1 x2 : List Value} (h1 : w.ownsRow b1 e1 s1 v1 n1 x1) (h2 : w.ownsRow b2 e2 s2 v2 n2 x2) (hne : e1 ≠ e2) : ∀ k, v1.ownBlock = some k → v2.ownBlock ≠ some k := by
  intro k hk hk2
  rcases h1.2 with ⟨rfl, -⟩ | ⟨g, cap, cur, rfl, -, hg, -⟩
  · cases hk
  · rcases h2.2 with ⟨rfl, -⟩ | ⟨g2, cap2, cur2, rfl, -, hg2, -⟩
    · cases hk2
    · have e1' : g = k := Option.some.inj hk
      have e2' : g2 = k := Option.some.inj hk2
      subst e1' e2'
      rw [hg] at hg2
      injection Option.some.inj hg2 with _ e2
      exact hne e2
/-- of what lay in W nothing has turned but v's own row -/
structure Sy (W : World) (v : Value) (w' : World) : Prop where
  sz : W.heap.size ≤ w'.heap.size
  same : ∀ b, b < W.heap.size → v.ownBlock ≠ some b → w'.heap[b]? = W.heap[b]?
  bel : ∀ B, B ≤ W.heap.size → (∀ k, v.ownBlock = some k → B ≤ k) → Below B W w'
theorem Sy.refl (W : World) (v : Value) : Sy W v W := ⟨Nat.le_refl _, fun _ _ _ => rfl, fun B _ _ => Below.refl _ _⟩
theorem Sy.below {W w : World} {v : Value} (h : Below W.heap.size W w) : Sy W v w := ⟨h.size, fun b hb _ => h.block b hb, fun B hB _ => h.mono hB⟩
theorem Sy.drew {W w : World} {v : Value} (h : Sy W v w) : Sy W v w.drew := ⟨h.sz, h.same, fun B h1 h2 => (h.bel B h1 h2).drew⟩
theorem Sy.alloc {W w : World} {v : Value} (h : Sy W v w) (o : Obj) : Sy W v (w.alloc o) :=
  ⟨Nat.le_trans h.sz (by simp), fun b hb h2 => ((MapKept.heap_alloc w o).2 b (Nat.lt_of_lt_of_le hb h.sz)).trans (h.same b hb h2), fun B h1 h2 => (h.bel B h1 h2).alloc (Nat.le_trans h1 h.sz) o⟩
theorem Sy.grown {W w w' : World} {v : Value} (h : Sy W v w) (hg : w.grownBy w' v.ownBlock) : Sy W v w' :=
  ⟨Nat.le_trans h.sz hg.size, fun b hb h2 => (hg.block b (Nat.lt_of_lt_of_le hb h.sz) (fun e => h2 e.symm)).trans (h.same b hb h2), fun B h1 h2 => (h.bel B h1 h2).grown hg (Nat.le_trans h1 h.sz) h2⟩
theorem Sy.set {W w : World} {v : Value} (h : Sy W v w) (g o : Nat) (hv : v.ownBlock = some g) (u : Value) : Sy W v (w.setCell ⟨g, o, none⟩ u) :=
  ⟨by rw [size_set]; exact h.sz, fun b hb h2 => (heap_set w g o u (fun e => h2 (by rw [hv, e]))).trans (h.same b hb h2), fun B h1 h2 => (h.bel B h1 h2).setCell (h2 g hv) u⟩
theorem Sy.cell {W w : World} {v : Value} (h : Sy W v w) {b o : Nat} (hb : b < W.heap.size) (h2 : v.ownBlock ≠ some b) : w.cell? ⟨b, o, none⟩ = W.cell? ⟨b, o, none⟩ := cell_same (h.same b hb h2)
theorem Sy.row {W w : World} {v v2 : Value} {base e size n : Nat} {xs : List Value} (h : Sy W v w) (hr : W.ownsRow base e size v2 n xs) (hne : ∀ k, v2.ownBlock = some k → v.ownBlock ≠ some k) : w.ownsRow base e size v2 n xs :=
  ownsRow_keep hr fun k hk => h.same k (ownsRow_lt hr k hk) (hne k hk)

/-- the words of a line of trust, kept -/
def wordV (x : Nat × Nat) : Value := .slice (some ⟨x.1, 0, none⟩) 3 x.2
structure RX (w : World) (B : Nat) (vr vc vt va : Value) (rs : List Rg) (cls : List ByteArray) (tws : List (ByteArray × ByteArray)) (ats : List Int) (F : List (Nat × Nat)) : Prop where
  rr : w.ownsRow B 39 9 vr rs.length (flatR rs)
  rc : w.ownsRow B 9 1 vc cls.length (cls.map Value.string)
  rt : w.ownsRow B 51 1 vt F.length (F.map wordV)
  ra : w.ownsRow B 3 1 va ats.length (ats.map (Value.int .i64))
  ft : F.length = tws.length
  tw : ∀ j (h : j < tws.length) (h' : j < F.length), ∃ S0, w.ownsRow 0 9 1 (wordV F[j]) 3 [.string S0, .string tws[j].1, .string tws[j].2]
  tn : ∀ x ∈ F, vc.ownBlock ≠ some x.1
theorem RX.nil (w : World) (B : Nat) : RX w B (.slice none 0 0) (.slice none 0 0) (.slice none 0 0) (.slice none 0 0) [] [] [] [] [] :=
  ⟨World.ownsRow_nil _ _ _ _, World.ownsRow_nil _ _ _ _, World.ownsRow_nil _ _ _ _, World.ownsRow_nil _ _ _ _, rfl, (fun j h => by cases h), (fun x h => by cases h)⟩
theorem RX.below {w w' : World} {B : Nat} {vr vc vt va : Value} {rs : List Rg} {cls : List ByteArray} {tws : List (ByteArray × ByteArray)} {ats : List Int} {F : List (Nat × Nat)} (h : RX w B vr vc vt va rs cls tws ats F) (hb : Below w.heap.size w w') : RX w' B vr vc vt va rs cls tws ats F :=
  ⟨ownsRow_below h.rr hb, ownsRow_below h.rc hb, ownsRow_below h.rt hb, ownsRow_below h.ra hb, h.ft, (fun j h1 h2 => by obtain ⟨S0, hS⟩ := h.tw j h1 h2; exact ⟨S0, ownsRow_below hS hb⟩), h.tn⟩
theorem RX.word_ne {w : World} {B : Nat} {vr vc vt va : Value} {rs : List Rg} {cls : List ByteArray} {tws : List (ByteArray × ByteArray)} {ats : List Int} {F : List (Nat × Nat)} (h : RX w B vr vc vt va rs cls tws ats F) (j : Nat) (h' : j < F.length) : ∀ k, (wordV F[j]).ownBlock = some k → vr.ownBlock ≠ some k ∧ vc.ownBlock ≠ some k ∧ vt.ownBlock ≠ some k ∧ va.ownBlock ≠ some k := by
  intro k hk
  obtain ⟨S0, hS⟩ := h.tw j (by have := h.ft; omega) h'
  have hk' : F[j].1 = k := Option.some.inj hk
  exact ⟨own_ne hS h.rr (by decide) k hk, by rw [← hk']; exact h.tn _ (List.getElem_mem _), own_ne hS h.rt (by decide) k hk, own_ne hS h.ra (by decide) k hk⟩
theorem RX.setR {w w' : World} {B : Nat} {vr vc vt va v' : Value} {rs rs' : List Rg} {cls : List ByteArray} {tws : List (ByteArray × ByteArray)} {ats : List Int} {F : List (Nat × Nat)} (h : RX w B vr vc vt va rs cls tws ats F) (hs : Sy w vr w')
    (hn : w'.ownsRow B 39 9 v' rs'.length (flatR rs')) : RX w' B v' vc vt va rs' cls tws ats F :=
  ⟨hn, hs.row h.rc (own_ne h.rc h.rr (by decide)), hs.row h.rt (own_ne h.rt h.rr (by decide)), hs.row h.ra (own_ne h.ra h.rr (by decide)), h.ft, (fun j h1 h2 => by obtain ⟨S0, hS⟩ := h.tw j h1 h2; exact ⟨S0, hs.row hS (fun k hk => (h.word_ne j h2 k hk).1)⟩), h.tn⟩
theorem RX.setC {w w' : World} {B : Nat} {vr vc vt va v' : Value} {rs : List Rg} {cls cls' : List ByteArray} {tws : List (ByteArray × ByteArray)} {ats : List Int} {F : List (Nat × Nat)} (h : RX w B vr vc vt va rs cls tws ats F) (hs : Sy w vc w')
    (hn : w'.ownsRow B 9 1 v' cls'.length (cls'.map Value.string)) (hl : v'.ownBlock = vc.ownBlock ∨ ∃ g, v'.ownBlock = some g ∧ w.heap.size ≤ g) : RX w' B vr v' vt va rs cls' tws ats F := by
  refine ⟨hs.row h.rr (own_ne h.rr h.rc (by decide)), hn, hs.row h.rt (own_ne h.rt h.rc (by decide)), hs.row h.ra (own_ne h.ra h.rc (by decide)), h.ft, (fun j h1 h2 => by obtain ⟨S0, hS⟩ := h.tw j h1 h2; exact ⟨S0, hs.row hS (fun k hk => (h.word_ne j h2 k hk).2.1)⟩), fun x hx => ?_⟩
  rcases hl with hl | ⟨g, hg, hgl⟩
  · rw [hl]; exact h.tn x hx
  · rw [hg]
    intro e
    have e' : g = x.1 := Option.some.inj e
    obtain ⟨j, hj, rfl⟩ := List.mem_iff_getElem.1 hx
    obtain ⟨S0, hS⟩ := h.tw j (by have := h.ft; omega) hj
    have := ownsRow_lt hS F[j].1 rfl
    omega
theorem RX.setT {w w' : World} {B : Nat} {vr vc vt va v' : Value} {rs : List Rg} {cls : List ByteArray} {tws : List (ByteArray × ByteArray)} {ats : List Int} {F : List (Nat × Nat)} (x : Nat × Nat) (S0 S1 S2 : ByteArray) (h : RX w B vr vc vt va rs cls tws ats F) (hs : Sy w vt w')
    (hn : w'.ownsRow B 51 1 v' (F ++ [x]).length ((F ++ [x]).map wordV)) (hx : w.ownsRow 0 9 1 (wordV x) 3 [.string S0, .string S1, .string S2]) (hxc : vc.ownBlock ≠ some x.1) : RX w' B vr vc v' va rs cls (tws ++ [(S1, S2)]) ats (F ++ [x]) := by
  refine ⟨hs.row h.rr (own_ne h.rr h.rt (by decide)), hs.row h.rc (own_ne h.rc h.rt (by decide)), hn, hs.row h.ra (own_ne h.ra h.rt (by decide)), by simp [h.ft], fun j h1 h2 => ?_, fun y hy => ?_⟩
  · by_cases e : j < F.length
    · have e' : j < tws.length := by have := h.ft; omega
      obtain ⟨S, hS⟩ := h.tw j e' e
      refine ⟨S, ?_⟩
      simp only [List.getElem_append_left e, List.getElem_append_left e']
      exact hs.row hS (fun k hk => (h.word_ne j e k hk).2.2.1)
    · have e1 : j = F.length := by simp at h2; omega
      have e2 : j = tws.length := by have := h.ft; omega
      refine ⟨S0, ?_⟩
      have g1 : (F ++ [x])[j] = x := by subst e1; simp
      have g2 : (tws ++ [(S1, S2)])[j] = (S1, S2) := by subst e2; simp
      rw [g1, g2]
      exact hs.row hx (own_ne hx h.rt (by decide))
  · rcases List.mem_append.1 hy with hy | hy
    · exact h.tn y hy
    · obtain rfl := List.mem_singleton.1 hy
      exact hxc
theorem RX.setA {w w' : World} {B : Nat} {vr vc vt va v' : Value} {rs : List Rg} {cls : List ByteArray} {tws : List (ByteArray × ByteArray)} {ats ats' : List Int} {F : List (Nat × Nat)} (h : RX w B vr vc vt va rs cls tws ats F) (hs : Sy w va w')
    (hn : w'.ownsRow B 3 1 v' ats'.length (ats'.map (Value.int .i64))) : RX w' B vr vc vt v' rs cls tws ats' F :=
  ⟨hs.row h.rr (own_ne h.rr h.ra (by decide)), hs.row h.rc (own_ne h.rc h.ra (by decide)), hs.row h.rt (own_ne h.rt h.ra (by decide)), hn, h.ft, (fun j h1 h2 => by obtain ⟨S0, hS⟩ := h.tw j h1 h2; exact ⟨S0, hs.row hS (fun k hk => (h.word_ne j h2 k hk).2.2.2)⟩), h.tn⟩

theorem RX.keep {w w' : World} {B b n : Nat} {vr vc vt va vm : Value} {xs : List Value} {rs : List Rg} {cls : List ByteArray} {tws : List (ByteArray × ByteArray)} {ats : List Int} {F : List (Nat × Nat)} (h : RX w B vr vc vt va rs cls tws ats F) (hm : w.ownsRow b 34 2 vm n xs) (hs : Sy w vm w') : RX w' B vr vc vt va rs cls tws ats F :=
  ⟨hs.row h.rr (own_ne h.rr hm (by decide)), hs.row h.rc (own_ne h.rc hm (by decide)), hs.row h.rt (own_ne h.rt hm (by decide)), hs.row h.ra (own_ne h.ra hm (by decide)), h.ft, (fun j h1 h2 => by obtain ⟨S0, hS⟩ := h.tw j h1 h2; exact ⟨S0, hs.row hS (own_ne hS hm (by decide))⟩), h.tn⟩

/-- a slice of texts that isn't empty: its cells -/
theorem own_strs {w : World} {base : Nat} {v : Value} {ws : List ByteArray} (h : w.ownsRow base 9 1 v ws.length (ws.map Value.string)) (h0 : 0 < ws.length) : ∃ A cap, v = .slice (some ⟨A, 0, none⟩) ws.length cap ∧ base ≤ A ∧ A < w.heap.size ∧ ∀ i (hi : i < ws.length), w.cell? ⟨A, i, none⟩ = some (.string (wAt ws i)) := by
  rw [map_flat] at h
  rcases ownsRow_cell (k := 1) (fun _ => rfl) rfl h with ⟨-, hn⟩ | ⟨g, cap, rfl, hg, hlt, -, hc⟩
  · rw [hn] at h0; cases h0
  · exact ⟨g, cap, rfl, hg, hlt, fun i hi => by have := hc i hi 0 (by omega); rw [wAt_is ws i hi] at this; simpa using this⟩
theorem own_strs3 {w : World} {base A cap : Nat} {ws : List ByteArray} (h : w.ownsRow base 9 1 (.slice (some ⟨A, 0, none⟩) ws.length cap) ws.length (ws.map Value.string)) (h3 : ws.length = 3) : w.ownsRow 0 9 1 (wordV (A, cap)) 3 [.string (wAt ws 0), .string (wAt ws 1), .string (wAt ws 2)] := by
  have h' := ownsRow_base h (Nat.zero_le _)
  rw [h3] at h'
  match ws, h3 with
  | [a, b, c], _ => exact h'
theorem lines_asc (s : ByteArray) (h : ascB s = true) : ∀ x ∈ linesOf s, ascB x = true := by
  have : ∀ (k : Nat) (s : ByteArray), ascB s = true → ∀ x ∈ Lib.splitB ⟨#[10]⟩ 0 k s, ascB x = true := by
    intro k
    induction k with
    | zero => intro s hs x hx; simp [Lib.splitB] at hx; rw [hx]; exact hs
    | succ k ih =>
      intro s hs x hx
      unfold Lib.splitB at hx
      split at hx
      · simp at hx; rw [hx]; exact hs
      · rcases List.mem_cons.1 hx with rfl | hx
        · exact ascB_sub _ _ _ hs
        · exact ih _ (ascB_sub _ _ _ hs) x hx
  exact this _ s h
theorem fl_set : ∀ (R : List Rg) (I : Nat) (hI : I < R.length) (j : Nat) (hj : j < 9) (r' : Rg) (u : Value) (h : r'.cells = (R[I]).cells.set j u), flatR (R.set I r') = (flatR R).set (I * 9 + j) u := by
  intro R
  induction R with
  | nil => intro I hI; cases hI
  | cons r R ih =>
    intro I hI j hj r' u h
    cases I with
    | zero =>
      show r'.cells ++ flatR R = (r.cells ++ flatR R).set (0 * 9 + j) u
      have h' : r'.cells = r.cells.set j u := h
      rw [h', Nat.zero_mul, Nat.zero_add, List.set_append_left]
      exact hj
    | succ I =>
      show r.cells ++ flatR (R.set I r') = (r.cells ++ flatR R).set ((I + 1) * 9 + j) u
      rw [ih I (by simpa using hI) j hj r' u h, List.set_append_right _ _ (show r.cells.length ≤ _ by show 9 ≤ _; omega)]
      congr 1
      show _ = (flatR R).set ((I + 1) * 9 + j - 9) u
      congr 1; omega
theorem fl_len (R : List Rg) : (flatR R).length = R.length * 9 := by
  induction R with
  | nil => rfl
  | cons r R ih =>
    show (r.cells ++ flatR R).length = _
    rw [List.length_append, ih, List.length_cons]
    show 9 + R.length * 9 = _
    omega
/-- the labels when the first k clears are found -/
def clT (rs : List Rg) (cls : List ByteArray) (k : Nat) : List Rg := (clF rs cls).take k ++ rs.drop k
theorem clT_zero (rs : List Rg) (cls : List ByteArray) : clT rs cls 0 = rs := by simp [clT]
theorem clT_all (rs : List Rg) (cls : List ByteArray) (h : cls.length = rs.length) : clT rs cls rs.length = clF rs cls := by
  unfold clT
  rw [List.take_of_length_le (by rw [clF_len rs cls h]; omega), List.drop_eq_nil_of_le (by omega), List.append_nil]
theorem clT_len (rs : List Rg) (cls : List ByteArray) (h : cls.length = rs.length) (k : Nat) (hk : k ≤ rs.length) : (clT rs cls k).length = rs.length := by
  unfold clT
  rw [List.length_append, List.length_take, List.length_drop, clF_len rs cls h]
  omega
theorem clT_get (rs : List Rg) (cls : List ByteArray) (h : cls.length = rs.length) (k : Nat) (hk : k < rs.length) : (clT rs cls k)[k]'(by rw [clT_len rs cls h k (by omega)]; exact hk) = rs[k] := by
  have hl : ((clF rs cls).take k).length = k := by rw [List.length_take, clF_len rs cls h]; omega
  unfold clT
  rw [List.getElem_append_right (by omega)]
  simp [hl]
theorem clT_succ (rs : List Rg) (cls : List ByteArray) (h : cls.length = rs.length) (k : Nat) (hk : k < rs.length) : clT rs cls (k + 1) = (clT rs cls k).set k (clR rs rs[k] (cls[k]'(by omega))) := by
  have hl : ((clF rs cls).take k).length = k := by rw [List.length_take, clF_len rs cls h]; omega
  have hc : k < (clF rs cls).length := by rw [clF_len rs cls h]; exact hk
  unfold clT
  rw [List.set_append_right _ _ (by omega), hl, Nat.sub_self, List.drop_eq_getElem_cons hk, List.set_cons_zero, List.take_add_one, List.getElem?_eq_getElem hc, clF_get rs cls h k hk]
  simp
theorem clT_names (rs : List Rg) (cls : List ByteArray) (h : cls.length = rs.length) (k : Nat) (hk : k ≤ rs.length) : (clT rs cls k).map (fun r => r.nm) = rs.map (fun r => r.nm) := by
  induction k with
  | zero => rw [clT_zero]
  | succ k ih =>
    rw [clT_succ rs cls h k (by omega), List.map_set, ih (by omega)]
    have : (rs.map (fun r => r.nm))[k]'(by rw [List.length_map]; omega) = (clR rs rs[k] (cls[k]'(by omega))).nm := by simp [clR]
    rw [← this, List.set_getElem_self]
theorem place_names (rs rs' : List Rg) (s : ByteArray) (h : rs'.map (fun r => r.nm) = rs.map (fun r => r.nm)) : place rs' s = place rs s := by
  have e : ∀ l : List Rg, place l s = (l.map (fun r => r.nm)).findIdx? (fun x => decide (x = s)) := by
    intro l
    unfold place
    rw [List.findIdx?_map]
    rfl
  rw [e, e, h]
theorem place_clT (rs : List Rg) (cls : List ByteArray) (h : cls.length = rs.length) (k : Nat) (hk : k ≤ rs.length) (s : ByteArray) : place (clT rs cls k) s = place rs s := place_names _ _ _ (clT_names rs cls h k hk)
theorem own_words {w : World} {B n cap : Nat} {a : Option Addr} {F : List (Nat × Nat)} (h : w.ownsRow B 51 1 (.slice a n cap) F.length (F.map wordV)) (q : Nat) (hq : q < F.length) : ∃ g, a = some ⟨g, 0, none⟩ ∧ w.cell? ⟨g, q, none⟩ = some (wordV F[q]) := by
  have e : F.map wordV = F.flatMap fun x => [wordV x] := by
    clear h hq
    induction F with
    | nil => rfl
    | cons a l ih => rw [List.map_cons, List.flatMap_cons, ih]; rfl
  rw [e] at h
  rcases ownsRow_cell (k := 1) (fun _ => rfl) rfl h with ⟨-, hn⟩ | ⟨g, cap', hv, hg, hlt, -, hc⟩
  · rw [hn] at hq; cases hq
  · injection hv with h1 _ _
    exact ⟨g, h1, by simpa using hc q hq 0 (by omega)⟩
theorem own_ints {w : World} {B n cap : Nat} {a : Option Addr} {F : List Int} (h : w.ownsRow B 3 1 (.slice a n cap) F.length (F.map (Value.int .i64))) (q : Nat) (hq : q < F.length) : ∃ g, a = some ⟨g, 0, none⟩ ∧ w.cell? ⟨g, q, none⟩ = some (.int .i64 F[q]) := by
  have e : F.map (Value.int .i64) = F.flatMap fun x => [Value.int .i64 x] := by
    clear h hq
    induction F with
    | nil => rfl
    | cons a l ih => rw [List.map_cons, List.flatMap_cons, ih]; rfl
  rw [e] at h
  rcases ownsRow_cell (k := 1) (fun _ => rfl) rfl h with ⟨-, hn⟩ | ⟨g, cap', hv, hg, hlt, -, hc⟩
  · rw [hn] at hq; cases hq
  · injection hv with h1 _ _
    exact ⟨g, h1, by simpa using hc q hq 0 (by omega)⟩
theorem row3 {w : World} {x : Nat × Nat} {a b c : ByteArray} (h : w.ownsRow 0 9 1 (wordV x) 3 [.string a, .string b, .string c]) : w.cell? ⟨x.1, 1, none⟩ = some (.string b) ∧ w.cell? ⟨x.1, 2, none⟩ = some (.string c) := by
  obtain ⟨A, cap, hv, -, -, hc⟩ := own_strs (ws := [a, b, c]) h (by simp)
  injection hv with h1 _ _
  have h2 : x.1 = A := by injection h1 with h1; injection h1
  rw [h2]
  exact ⟨hc 1 (by simp), hc 2 (by simp)⟩
theorem regs_drewN {w : World} {v : Value} {rs : List Rg} (h : Regs w v rs) (m : Nat) : Regs (w.drewN m) v rs := h.below (below_drewN' (Below.refl _ _) m)
end Go.Proofs.YtfackmiojbdjhaaDoor
