import Derived.Test.YtfkiinbmbbhbkaaDoorT5
import Derived.Lib.SmallJoins
import Derived.Laws.AppendOwnNone
namespace Go.Proofs.YtfkiinbmbbhbkaaDoor
set_option linter.unusedSimpArgs false
set_option linter.unusedVariables false
open Go.RowKit

def NoRoom (v : Value) : Prop := ∀ n c, v = .slice none n c → n = 0 ∧ c = 0
def ListPost (s : List UInt8) (above : Int) (w : World) (e : Ending) (w' : World) : Prop := ∃ v, e = .returned (.tuple #[v, .bool (listO s above).2]) ∧ Ints w' v (listO s above).1 ∧ NoRoom v ∧ Below w.heap.size w w'
set_option maxRecDepth 100000 in
theorem listO_one (s : List UInt8) (above : Int) (c : Nat) (h : numO (splitC 44 s).1 = some c) (hc : above < (c : Int)) : listO s above = (match (splitC 44 s).2 with | none => ([(c : Int)], true) | some t => ((c : Int) :: (listO t c).1, (listO t c).2)) := by
  rw [listO]
  split
  · rename_i hq; rw [hq] at h; cases h
  · rename_i n hn
    rw [hn] at h
    injection h with h
    subst h
    rw [if_neg (by omega)]
    split
    · rename_i hq; rw [hq]
    · rename_i t hq; rw [hq]
set_option maxRecDepth 100000 in
theorem listO_no (s : List UInt8) (above : Int) (h : ∀ c : Nat, above < (c : Int) → c < 100 → (splitC 44 s).1 ≠ Lib.decDigits c) : listO s above = ([], false) := by
  rw [listO]
  split
  · rfl
  · rename_i n hn
    obtain ⟨h1, h2⟩ := numO_is _ n hn
    split
    · rfl
    · rename_i hle
      exact absurd h2 (h n (by omega) h1)

set_option maxRecDepth 100000 in
theorem strT_ne {S H : ByteArray} (h : ¬ S = H) : (S.toList == H.toList) = false := by
  rw [beq_eq_false_iff_ne]
  intro e
  rw [Lib.toList_data, Lib.toList_data] at e
  exact h (ByteArray.ext (Array.ext' e))

set_option maxRecDepth 100000 in
set_option maxHeartbeats 4000000 in
theorem list_any (k : Nat) : ∀ (s : List UInt8), s.length < k → k ≤ 4001 → ∀ (above : Int) (w : World), -1 ≤ above → above < 100 → Calls Tryd.prog 66 #[.string ⟨s.toArray⟩, .int .i64 above] w (ListPost s above w) := by
  induction k with
  | zero => intro s h; omega
  | succ k ih =>
    intro s hsk hk above w ha ha2
    have IH := Lib.hid ih
    clear ih
    obtain ⟨i0, hi, hz0, hz1, hz2⟩ := info_parts Tryd.info3
    have hw1 : IntKind.i64.wrap (above + 1) = above + 1 := IntWalk.i64_in _ (by omega)
    have hssz : (⟨s.toArray⟩ : ByteArray).size = s.length := by show s.toArray.size = _; simp
    obtain ⟨S, hS⟩ : ∃ S : ByteArray, S = ⟨s.toArray⟩ := ⟨_, rfl⟩
    rw [← hS] at hssz ⊢
    have HS := Lib.hid hS
    clear hS
    have hsl : S.size ≤ 4000 := by omega
    clear hssz
    go_enter Tryd.func66, Tryd.ntmps66
    go_wp2_with fail
    go_loopw [6] (fun i wr => ∃ c : Nat, above + 1 ≤ (c : Int) ∧ c ≤ 100 ∧ i = .int .i64 c ∧ Below w.heap.size w wr ∧ ∀ c' : Nat, above < (c' : Int) → c' < c → (splitC 44 s).1 ≠ Lib.decDigits c') (fun i _ => 100 - (intOf i).toNat)
    case atStart => exact ⟨(above + 1).toNat, by omega, by omega, by congr 1; omega, Below.refl _ _, fun c' h1 h2 => by omega⟩
    case round =>
      obtain ⟨c, hc0, hc1, rfl, hb, hno⟩ := hrel
      have HNo := Lib.hid hno
      clear hno
      by_cases hlt : c < 100
      · have hlt' : (c : Int) < 100 := by omega
        go_wp2_with fail
        refine (refitoa_nat c (by omega) wr).mono ?_
        rintro e w1 ⟨rfl, hb1⟩
        have hB1 := hb.trans (hb1.mono hb.size)
        have hnum := numO_digits c hlt
        have hne := digits_ne c hlt 44 (by decide)
        have hDl : (Lib.decDigits c).length ≤ 20 := by rw [Lib.decDigits_length]; exact Lib.nDigits_le20 _ (by omega)
        have hNext : Hid ((splitC 44 s).1 ≠ Lib.decDigits c → ∀ c' : Nat, above < (c' : Int) → c' < c + 1 → (splitC 44 s).1 ≠ Lib.decDigits c') := by
          show (splitC 44 s).1 ≠ Lib.decDigits c → _
          intro hh c' h1 h2
          rcases Nat.lt_or_ge c' c with h3 | h3
          · exact HNo.out c' h1 h3
          · obtain rfl : c' = c := by omega
            exact hh
        generalize Lib.decDigits c = D at *
        have hDsz : (⟨D.toArray⟩ : ByteArray).size = D.length := by show D.toArray.size = _; simp
        have HFit := Lib.hid (fun hl hp hq => fits s D 44 hl hp hq)
        -- where it does not fit
        have HBad : Hid ((S = ⟨D.toArray⟩ → False) → (∀ hl : (⟨D.toArray⟩ : ByteArray).size < S.size, S.extract 0 (⟨D.toArray⟩ : ByteArray).size = ⟨D.toArray⟩ → ((S[(⟨D.toArray⟩ : ByteArray).size]'hl).toNat : Int) = 44 → False) → (splitC 44 s).1 ≠ D) := by
          show (S = ⟨D.toArray⟩ → False) → (∀ hl : (⟨D.toArray⟩ : ByteArray).size < S.size, S.extract 0 (⟨D.toArray⟩ : ByteArray).size = ⟨D.toArray⟩ → ((S[(⟨D.toArray⟩ : ByteArray).size]'hl).toNat : Int) = 44 → False) → (splitC 44 s).1 ≠ D
          intro h1 h2 h3
          cases ht : (splitC 44 s).2 with
          | none => exact h1 (by rw [HS.out, ← (splitC_none 44 s ht).1, h3])
          | some t =>
            obtain ⟨h4, -⟩ := splitC_some 44 s t ht
            rw [h3] at h4
            obtain ⟨hl, hp, hq⟩ := fits_back D t 44
            have hS := HS.out
            rw [h4] at hS
            subst hS
            exact h2 hl hp hq
        obtain ⟨H, hH⟩ : ∃ H : ByteArray, H = ⟨D.toArray⟩ := ⟨_, rfl⟩
        rw [← hH] at hDsz HFit HBad ⊢
        have hHl : H.size ≤ 20 := by omega
        have HHH := Lib.hid hH
        have HNe := Lib.hid hne
        have HNum := Lib.hid hnum
        have HB1 := Lib.hid hB1
        clear hDsz hH hne hnum hb1 hB1 hDl
        by_cases hE : S = H
        · have hs : s = D := bytes_inj (HS.out.symm.trans (hE.trans HHH.out))
          have hL : listO s above = ([(c : Int)], true) := by
            rw [hs, listO_one D above c (by rw [splitC_all 44 D HNe.out]; exact HNum.out) (by omega), splitC_all 44 D HNe.out]
          have HL := Lib.hid hL
          clear hs hL
          subst hE
          go_wp2_with fail
          go_ret2
          unfold ListPost
          rw [HL.out]
          refine ⟨_, rfl, .inr ⟨w1.heap.size, 0, 1, rfl, by simp, by simp [maxLen], fun i hi => ?_⟩, (fun n cc h => by cases h), HB1.out.alloc HB1.out.size _⟩
          match i, hi with
          | 0, _ => simp
        · have hE' := strT_ne hE
          have HE := Lib.hid hE
          clear hE
          by_cases hl : H.size < S.size
          · have hl' : (H.size : Int) < (S.size : Int) := by omega
            by_cases hp : S.extract 0 H.size = H
            · by_cases hq : ((S[H.size]'hl).toNat : Int) = 44
              · obtain ⟨hf1, hf2⟩ : s = D ++ 44 :: s.drop (D.length + 1) ∧ S.extract (H.size + 1) S.size = ⟨(s.drop (D.length + 1)).toArray⟩ := by
                  have hS := HS.out
                  have hH := HHH.out
                  subst hS hH
                  exact HFit.out hl hp hq
                have hdl : (s.drop (D.length + 1)).length < k := by
                  have := congrArg List.length hf1
                  rw [List.length_append, List.length_cons] at this
                  omega
                have hL : listO s above = ((c : Int) :: (listO (s.drop (D.length + 1)) c).1, (listO (s.drop (D.length + 1)) c).2) := by
                  have hsp : splitC 44 s = (D, some (s.drop (D.length + 1))) := (congrArg (splitC 44) hf1).trans (splitC_app 44 D _ HNe.out)
                  rw [listO_one s above c (by rw [hsp]; exact HNum.out) (by omega), hsp]
                generalize s.drop (D.length + 1) = t at *
                have HL := Lib.hid hL
                have HF2 := Lib.hid hf2
                have hll := listO_len t c
                clear hf1 hf2 hL
                go_wp2_with fail
                rw [HF2.out]
                refine (IH.out t hdl (by omega) c w1 (by omega) (by omega)).mono ?_
                rintro e w2 ⟨v2, rfl, hi2, hnr, hb2⟩
                generalize (listO t c).1 = zs at *
                generalize (listO t c).2 = ok at *
                obtain ⟨a2, cap2, rfl⟩ := hi2.form
                have HNr := Lib.hid hnr
                have HB2 := Lib.hid (HB1.out.trans (hb2.mono HB1.out.size))
                clear hnr hb2
                have hown0 : (w2.alloc (.cells #[.int .i64 (c : Int)] 3)).ownsRow w2.heap.size 3 1 (.slice (some ⟨w2.heap.size, 0, none⟩) 1 1) 1 [.int .i64 (c : Int)] := World.ownsRow_lit w2 #[.int .i64 (c : Int)] 1 (Nat.le_refl _) (by simp [maxLen]) rfl
                have hBe : Below w2.heap.size w2 (w2.alloc (.cells #[.int .i64 (c : Int)] 3)) := (Below.refl _ w2).alloc (Nat.le_refl _) _
                rcases hi2 with ⟨a', cap', he, rfl⟩ | ⟨b, off, cap', he, hbl, hmz, hcells⟩
                · injection he with h1 h2 h3
                  subst h1 h3
                  rcases a2 with _ | a
                  · obtain ⟨_, hc0⟩ := HNr.out _ _ rfl
                    subst hc0
                    go_wp2_with (first | (at_builtin; refine wpList_append_own_none rfl _ _ 111 rfl w2.heap.size 3 i0 1 Tryd.underlying111 hi _ 1 [.int .i64 (c : Int)] rfl hown0 rfl ?_))
                    go_ret2
                    unfold ListPost
                    rw [HL.out]
                    exact ⟨_, rfl, ownsRow_ints (zs := [(c : Int)]) hown0, (fun n cc h => by cases h), HB2.out.trans (hBe.mono HB2.out.size)⟩
                  · go_wp2_with (first | (at_builtin; refine wpList_append_own _ rfl _ _ 111 rfl w2.heap.size 3 i0 (.int .i64 0) 1 8 Tryd.underlying111 hi hz0 hz1 hz2 rfl (by decide) _ 1 [.int .i64 (c : Int)] rfl hown0 a 0 cap2 [] rfl rfl (by intro j u h; simp at h) (by intro u h; cases h) (by simp [maxLen]) (by omega) (by simp) ?_; intro v' w5 hown' hgrow _))
                    have HB5 := Lib.hid (HB2.out.trans ((hBe.grown hgrow (by simp) (ownsRow_block hown0)).mono HB2.out.size))
                    have hown2 : w5.ownsRow w2.heap.size 3 1 v' ((c : Int) :: []).length (((c : Int) :: []).map (Value.int .i64)) := by simpa [Nat.add_comm] using hown'
                    obtain ⟨g, cap5, rfl⟩ := Joins.ownsRow_form hown2 (by simp)
                    have HO5 := Lib.hid hown2
                    clear hown' hgrow hown2
                    go_wp2_with fail
                    go_ret2
                    unfold ListPost
                    rw [HL.out]
                    exact ⟨_, rfl, ownsRow_ints HO5.out, (fun n cc h => by cases h), HB5.out⟩
                · injection he with h1 h2 h3
                  subst h1 h3
                  have HCells : Hid (∀ j u, (zs.map (Value.int .i64))[j]? = some u → (w2.alloc (.cells #[.int .i64 (c : Int)] 3)).cell? (Addr.add ⟨b, off, none⟩ j) = some u) := by
                    show ∀ j u, (zs.map (Value.int .i64))[j]? = some u → (w2.alloc (.cells #[.int .i64 (c : Int)] 3)).cell? (Addr.add ⟨b, off, none⟩ j) = some u
                    intro j u hu
                    obtain ⟨hj, hu'⟩ := List.getElem?_eq_some_iff.1 hu
                    have hj' : j < zs.length := by simpa using hj
                    rw [List.getElem_map] at hu'
                    subst hu'
                    have ea : Addr.add ⟨b, off, none⟩ j = ⟨b, off + j, none⟩ := by
                      unfold Addr.add
                      split
                      · rename_i h; subst h; rfl
                      · rfl
                    rw [ea]
                    exact (hBe.cell (p := ⟨b, off + j, none⟩) hbl).trans (hcells j hj')
                  clear hcells
                  go_wp2_with (first | (at_builtin; refine wpList_append_own _ rfl _ _ 111 rfl w2.heap.size 3 i0 (.int .i64 0) 1 8 Tryd.underlying111 hi hz0 hz1 hz2 rfl (by decide) _ 1 [.int .i64 (c : Int)] rfl hown0 ⟨b, off, none⟩ zs.length cap2 (zs.map (Value.int .i64)) rfl (by simp) HCells.out (by intro u hu; obtain ⟨z, _, rfl⟩ := List.mem_map.1 hu; rfl) (by unfold maxLen; omega) (by omega) (by simp) ?_; intro v' w5 hown' hgrow _))
                  have HB5 := Lib.hid (HB2.out.trans ((hBe.grown hgrow (by simp) (ownsRow_block hown0)).mono HB2.out.size))
                  have hown2 : w5.ownsRow w2.heap.size 3 1 v' ((c : Int) :: zs).length (((c : Int) :: zs).map (Value.int .i64)) := by simpa [Nat.add_comm] using hown'
                  obtain ⟨g, cap5, rfl⟩ := Joins.ownsRow_form hown2 (by simp)
                  have HO5 := Lib.hid hown2
                  clear hown' hgrow hown2
                  go_wp2_with fail
                  go_ret2
                  unfold ListPost
                  rw [HL.out]
                  exact ⟨_, rfl, ownsRow_ints HO5.out, (fun n cc h => by cases h), HB5.out⟩
              · have HN := Lib.hid (hNext.out (HBad.out (fun h => HE.out h) (fun _ _ h => hq h)))
                have hq' : (((S[H.size]'hl).toNat : Int) == 44) = false := by rw [beq_eq_false_iff_ne]; exact hq
                go_wp2
                go_roundw
                case rel => exact ⟨c + 1, by omega, by omega, by go_num, HB1.out, HN.out⟩
                case measure => simp [intOf]; omega
            · have HN := Lib.hid (hNext.out (HBad.out (fun h => HE.out h) (fun _ h _ => hp h)))
              have hp' := strT_ne hp
              go_wp2
              go_roundw
              case rel => exact ⟨c + 1, by omega, by omega, by go_num, HB1.out, HN.out⟩
              case measure => simp [intOf]; omega
          · have hl' : ¬ (H.size : Int) < (S.size : Int) := by omega
            have HN := Lib.hid (hNext.out (HBad.out (fun h => HE.out h) (fun h _ _ => hl h)))
            go_wp2
            go_roundw
            case rel => exact ⟨c + 1, by omega, by omega, by go_num, HB1.out, HN.out⟩
            case measure => simp [intOf]; omega
      · obtain rfl : c = 100 := by omega
        have HL : Hid (listO s above = ([], false)) := by
          show listO s above = ([], false)
          exact listO_no s above (fun c' h1 h2 => HNo.out c' h1 h2)
        go_wp2
        go_ret2
        unfold ListPost
        rw [HL.out]
        exact ⟨_, rfl, .inl ⟨none, 0, rfl, rfl⟩, (fun n cc h => by injection h with h1 h2 h3; exact ⟨h2.symm, h3.symm⟩), hb⟩
end Go.Proofs.YtfkiinbmbbhbkaaDoor
