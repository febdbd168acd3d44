import Derived.Test.YtfackmiojbdjhaaDoorC19
import Derived.Test.YtfackmiojbdjhaaDoorC10
/- The marks of the lines of trust: findMarks. -/
namespace Go.Proofs.YtfackmiojbdjhaaDoor
set_option linter.unusedSimpArgs false
set_option linter.unusedVariables false
open Go.RowKit Go.Maps

def mkOne (rs : List Rg) (x : Int × ByteArray × ByteArray) : Int := if (place rs x.2.1).isSome = false then 3 else if (numC x.2.2).isSome = false then 28 else 0
def mkOf (rs : List Rg) (x : Int × ByteArray × ByteArray) : Int × Int := ((((place rs x.2.1).getD 0 % 256 : Nat) : Int), ((numC x.2.2).getD 0 : Nat))
def mksE (rs : List Rg) (trs : List (Int × ByteArray × ByteArray)) : Nat → Int × Int
  | 0 => (0, 0)
  | k + 1 => if (mksE rs trs k).2 = 0 then (if mkOne rs (trs.getD k (0, ByteArray.empty, ByteArray.empty)) = 0 then (0, 0) else ((trs.getD k (0, ByteArray.empty, ByteArray.empty)).1, mkOne rs (trs.getD k (0, ByteArray.empty, ByteArray.empty)))) else mksE rs trs k
theorem mksE_bad (rs : List Rg) (trs : List (Int × ByteArray × ByteArray)) (k : Nat) (h : (mksE rs trs k).2 ≠ 0) : ∀ n, k ≤ n → mksE rs trs n = mksE rs trs k := by
  intro n hn
  induction n with
  | zero => obtain rfl : k = 0 := by omega
            rfl
  | succ n ih =>
    rcases Nat.lt_or_ge n k with h' | h'
    · obtain rfl : k = n + 1 := by omega
      rfl
    · rw [mksE, ih h', if_neg h]
theorem numC_le (s : ByteArray) (v : Nat) (h : numC s = some v) : v ≤ 9999 := by
  unfold numC at h
  split at h
  · rename_i hc
    obtain rfl := Option.some.inj h
    have hl : s.data.toList.length = s.size := Array.length_toList
    have := numV_lt s.size s.data.toList hl (fun b hb => List.all_eq_true.1 hc.2.2.2 b hb)
    have hp : 10 ^ s.size ≤ 10 ^ 4 := Nat.pow_le_pow_right (by omega) hc.2.1
    omega
  · cases h
def MkPost (rs : List Rg) (trs : List (Int × ByteArray × ByteArray)) (w : World) (e : Ending) (w' : World) : Prop :=
  Below w.heap.size w w' ∧ ((mksE rs trs trs.length).2 ≠ 0 → e = .returned (.tuple #[.slice none 0 0, .int .i64 (mksE rs trs trs.length).1, .int .i64 (mksE rs trs trs.length).2])) ∧
    ((mksE rs trs trs.length).2 = 0 → ∃ v, e = .returned (.tuple #[v, .int .i64 0, .int .i64 0]) ∧ w'.ownsRow w.heap.size 34 2 v trs.length (flatM (trs.map (mkOf rs))))
theorem MkPost.bad {rs : List Rg} {trs : List (Int × ByteArray × ByteArray)} {w w' : World} {e : Ending} (L E : Int) (hE : mksE rs trs trs.length = (L, E)) (h0 : E ≠ 0) (he : e = .returned (.tuple #[.slice none 0 0, .int .i64 L, .int .i64 E])) (hb : Below w.heap.size w w') : MkPost rs trs w e w' := by
  refine ⟨hb, fun _ => by rw [hE]; exact he, fun h => absurd (by rw [hE] at h; exact h) h0⟩

set_option maxHeartbeats 2000000 in
set_option maxRecDepth 100000 in
theorem marks_any (bt B n : Nat) (vt : Value) (rs : List Rg) (trs : List (Int × ByteArray × ByteArray)) (w : World) (hbt : bt < w.heap.size) (h2 : w.cell? ⟨bt, 2, none⟩ = some vt) (hrt : w.ownsRow (bt + 1) 138 3 vt trs.length (trs.flatMap trustCells)) (hsz : ∀ x ∈ trs, x.2.1.size ≤ maxLen) (hr : trs.length ≤ 5000)
    (hrs : rs.length ≤ 5000) (hm : w.ownsMap Tryd.prog 9 (plainElem Tryd.prog 3) B n (fD rs)) :
    Calls Tryd.prog 44 #[.pointer (some ⟨bt, 0, none⟩), .map (some B)] w (MkPost rs trs w) := by
  have HZ := Lib.hid hsz
  have HM := Lib.hid hm
  obtain ⟨i0, hi, hz0, hz1, hz2⟩ := info_parts Tryd.info34
  rcases ownsRow_cell (k := 3) (fun _ => rfl) rfl hrt with ⟨hv, hn⟩ | ⟨g, gcap, hv, hgb, hgl, -, hcell⟩
  · subst hv hn
    clear hsz hm hrt
    go_enter Tryd.func44, Tryd.ntmps44
    go_wp2
    refine wp_loop_rounds 1 ?_
    rw [rounds_succ]
    go_wp2
    refine bodyPost_ret (v := .tuple #[.slice none 0 0, .int .i64 0, .int .i64 0]) (by simp [results, Tryd.results44, go_sem]) rfl ⟨Below.refl _ _, fun h => absurd rfl h, fun _ => ⟨_, rfl, World.ownsRow_nil _ _ _ _⟩⟩
  · have HC := Lib.hid hcell
    subst hv
    obtain ⟨N, hN⟩ : ∃ N, trs.length = N := ⟨_, rfl⟩
    have HN := Lib.hid hN
    rw [hN] at h2 hr
    clear hsz hm hrt hcell hN
    go_enter Tryd.func44, Tryd.ntmps44
    go_wp2
    go_loopw [7, 18] (fun v i wr => ∃ k : Nat, k ≤ N ∧ i = .int .i64 k ∧ wr.ownsRow w.heap.size 34 2 v k (flatM ((trs.take k).map (mkOf rs))) ∧ Below w.heap.size w wr ∧ (mksE rs trs k).2 = 0) (fun _ i _ => N - (intOf i).toNat)
    case atStart => exact ⟨0, by omega, rfl, World.ownsRow_nil _ _ _ _, Below.refl _ _, rfl⟩
    case round =>
      obtain ⟨k, hk, rfl, hown, hb, hE⟩ := hrel
      have HO := Lib.hid hown
      have HE := Lib.hid hE
      have HB := Lib.hid hb
      have hwz := hb.size
      clear hown hE
      by_cases hlt : k < N
      · have hltr : k < trs.length := by rw [HN.out]; exact hlt
        have e0 := (hb.cell (p := ⟨g, k * 3 + 0, none⟩) hgl).trans (HC.out k hltr 0 (by omega))
        have e1 := (hb.cell (p := ⟨g, k * 3 + 1, none⟩) hgl).trans (HC.out k hltr 1 (by omega))
        have e2 := (hb.cell (p := ⟨g, k * 3 + 2, none⟩) hgl).trans (HC.out k hltr 2 (by omega))
        simp [trustCells] at e0 e1 e2
        have HT := Lib.hid (List.take_succ_eq_append_getElem hltr)
        have hnm := HZ.out trs[k] (List.getElem_mem _)
        have hgd : trs.getD k (0, ByteArray.empty, ByteArray.empty) = trs[k] := by rw [List.getD_eq_getElem?_getD, List.getElem?_eq_getElem hltr]; rfl
        have HStep : Hid (mksE rs trs (k + 1) = if mkOne rs trs[k] = 0 then (0, 0) else (trs[k].1, mkOne rs trs[k])) := by
          show mksE rs trs (k + 1) = _
          rw [mksE, if_pos HE.out, hgd]
        have HLast : Hid ((mksE rs trs (k + 1)).2 ≠ 0 → mksE rs trs trs.length = mksE rs trs (k + 1)) := fun h => mksE_bad rs trs (k + 1) h _ (by omega)
        have HMw := Lib.hid (ownsMap_below HM.out hb HM.out.lt)
        clear hb hgd
        generalize trs[k] = x at *
        obtain ⟨line, S1, S2⟩ := x
        simp only at e0 e1 e2 hnm
        have hL := look_int (HMw.out.alloc (.cells #[.int .i64 line, .string S1, .string S2] 138)) Tryd.lawStr Tryd.underlying75 (strKey_is S1 hnm)
        have hat := fD_at S1 rs
        have hhas := fD_has S1 rs
        rw [← place_some] at hhas
        cases hp : place rs S1 with
        | none =>
          rw [hp] at hhas
          rw [hhas] at hL
          have H1 : Hid (mksE rs trs trs.length = (line, 3)) := by
            have hm1 : mkOne rs (line, S1, S2) = 3 := by unfold mkOne; rw [hp]; rfl
            have : mksE rs trs (k + 1) = (line, 3) := by rw [HStep.out, hm1]; rfl
            show mksE rs trs trs.length = _
            rw [HLast.out (by rw [this]; show (3 : Int) ≠ 0; decide), this]
          clear hat hhas hp
          go_wp2
          go_quiet (fail)
          go_wp2
          refine bodyPost_ret (v := .tuple #[.slice none 0 0, .int .i64 line, .int .i64 3]) (by simp [results, Tryd.results44, go_sem]) rfl (MkPost.bad line 3 H1.out (by decide) rfl (below_drewN' (HB.out.alloc HB.out.size _) _))
        | some p =>
          rw [hp] at hhas
          have hat' := hat p hp
          rw [hhas, hat'] at hL
          have hpl : p < rs.length := by
            unfold place at hp
            exact (List.findIdx?_eq_some_iff_findIdx_eq.1 hp).1
          have HP := Lib.hid hp
          clear hat hhas hp hat'
          have hnum := number_any4 S2
          obtain ⟨q, hq⟩ : ∃ q, numC S2 = q := ⟨_, rfl⟩
          have hqle := fun v => numC_le S2 v
          rw [hq] at hqle
          have HQ := Lib.hid hq
          rw [hq] at hnum
          clear hq
          go_wp2_with fail
          refine (hnum _).mono ?_
          rintro e w2 ⟨rfl, hb2⟩
          have hz2' := hb2.size
          simp at hz2'
          have hlt2 : wr.heap.size < w2.heap.size := by omega
          have t0 : w2.cell? ⟨wr.heap.size, 0, none⟩ = some (.int .i64 line) := (hb2.cell (p := ⟨wr.heap.size, 0, none⟩) (by simp)).trans (by simp [World.cell?_alloc_new])
          have hbA : Below wr.heap.size wr w2 := ((Below.refl _ wr).alloc (Nat.le_refl _) _).trans (hb2.mono (by simp))
          have HB2 := Lib.hid (HB.out.trans (hbA.mono HB.out.size))
          have HO2 := Lib.hid (ownsRow_below HO.out hbA)
          clear hb2 hbA hnum e0 e1 e2 hL HB HO
          cases q with
          | none =>
            have H1 : Hid (mksE rs trs trs.length = (line, 28)) := by
              have hm1 : mkOne rs (line, S1, S2) = 28 := by
                unfold mkOne
                simp only
                rw [HP.out, HQ.out]; rfl
              have : mksE rs trs (k + 1) = (line, 28) := by rw [HStep.out, hm1]; rfl
              show mksE rs trs trs.length = _
              rw [HLast.out (by rw [this]; show (28 : Int) ≠ 0; decide), this]
            go_wp2
            go_quiet (fail)
            go_wp2
            refine bodyPost_ret (v := .tuple #[.slice none 0 0, .int .i64 line, .int .i64 28]) (by simp [results, Tryd.results44, go_sem]) rfl (MkPost.bad line 28 H1.out (by decide) rfl (below_drewN' HB2.out _))
          | some V =>
            have hV := hqle V rfl
            have H1 : Hid ((mksE rs trs (k + 1)).2 = 0) := by
              have hm1 : mkOne rs (line, S1, S2) = 0 := by
                unfold mkOne
                simp only
                rw [HP.out, HQ.out]; rfl
              show (mksE rs trs (k + 1)).2 = 0
              rw [HStep.out, hm1]; rfl
            have HMk : Hid (mkOf rs (line, S1, S2) = ((p : Int) % 256, (V : Int))) := by
              show mkOf _ _ = _
              unfold mkOf
              simp only
              rw [HP.out, HQ.out]
              simp only [Option.getD_some]
              rw [Int.natCast_emod]; rfl
            simp only [Option.getD_some, Option.isSome_some]
            clear hqle
            go_wp2_with (first | (at_builtin; refine wpList_append_own _ rfl _ _ 23 rfl w.heap.size 34 i0 _ 2 4 Tryd.underlying23 hi hz0 hz1 hz2 rfl (by decide) _ _ _ rfl (HO2.out.alloc _) ⟨w2.heap.size, 0, none⟩ 1 1 [.int .u8 ((p : Int) % 256), .int .u16 (V : Int)] rfl rfl (cells_new w2 _ 34) (by simp [Value.oneCell']) (by unfold maxLen; omega) (by omega) (by simp; omega) ?_))
            intro v' w3 hown' hgrow _
            have HB3 := Lib.hid ((HB2.out.alloc (by omega) (.cells #[.int .u8 ((p : Int) % 256), .int .u16 (V : Int)] 34)).grown hgrow (by simp; omega) (ownsRow_block HO2.out))
            have HO3 := Lib.hid hown'
            clear hown' hgrow HO2 HB2 t0
            go_wp2
            go_roundw
            case rel =>
              refine ⟨k + 1, by omega, by go_num, ?_, HB3.out, H1.out⟩
              rw [HT.out, List.map_append, flatM, List.flatMap_append]
              simpa [HMk.out, flatM, markCells] using HO3.out
            case measure => simp [intOf]; omega
      · obtain rfl : k = N := by omega
        have HOf := HO.out
        rw [← HN.out, List.take_length] at HOf
        have HOF := Lib.hid HOf
        have HEf : Hid ((mksE rs trs trs.length).2 = 0) := by show (mksE rs trs trs.length).2 = 0; rw [HN.out]; exact HE.out
        clear HOf
        obtain ⟨va, vc, rfl⟩ := ownsRow_form HO.out
        go_wp2
        refine bodyPost_ret (v := .tuple #[.slice va k vc, .int .i64 0, .int .i64 0]) (by simp [results, Tryd.results44, go_sem]) rfl ⟨hb, fun h => absurd HEf.out h, fun _ => ⟨_, rfl, ?_⟩⟩
        have := HOF.out
        exact this
end Go.Proofs.YtfackmiojbdjhaaDoor
