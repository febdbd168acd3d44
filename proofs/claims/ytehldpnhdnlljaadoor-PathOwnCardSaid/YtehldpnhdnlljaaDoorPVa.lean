import Derived.Test.YtehldpnhdnlljaaDoorPT
import Derived.Test.YtehldpnhdnlljaaDoorPE
/- Text: the answer's. -/
namespace Go.Proofs.YtehldpnhdnlljaaDoor.Pt
set_option linter.unusedSimpArgs false
set_option linter.unusedVariables false
open Go.RowKit Go.Maps

set_option maxHeartbeats 40000000 in
set_option maxRecDepth 100000 in
theorem rtext_false (v : Value) (L : List Pr) (hl : (txt false L).length ≤ 100000) (hn : L.length ≤ 1000) (w : World) (h : Ps w v L) :
    Calls Tryd.prog 16 #[.bool false, v] w fun e w' => e = .returned (.string (baL (txt false L))) ∧ w' = w := by
  obtain ⟨pl, cl, rfl, hf⟩ := h.form
  have HF := Lib.hid hf
  have HTL := Lib.hid hl
  obtain ⟨n, hn1⟩ : ∃ x, L.length = x := ⟨_, rfl⟩
  rw [hn1] at hn
  try rw [hn1]
  have HN := Lib.hid hn1
  have hni : (n : Int) ≤ 1000 := by omega
  clear h hf hl hn hn1
  go_enter Tryd.func16, Tryd.ntmps16
  go_wp2_with fail
  go_loopw [5, 6] (fun tv iv wr => ∃ (k : Nat) (T : ByteArray), k ≤ n ∧ iv = .int .i64 k ∧ tv = .string T ∧ Hid (T = baL (txt false (L.take k))) ∧ T.size ≤ 100000 ∧ wr = w) (fun _ iv _ => n - (Go.RowKit.intOf iv).toNat)
  case atStart => exact ⟨0, ⟨#[]⟩, Nat.zero_le _, rfl, rfl, Lib.hid rfl, by decide, rfl⟩
  case round =>
    obtain ⟨k, T, hk, rfl, rfl, HT, hT, rfl⟩ := hrel
    by_cases hlt : k < n
    · obtain ⟨⟨ps, pt⟩, hp⟩ : ∃ p, L[k]? = some p := ⟨_, List.getElem?_eq_getElem (by rw [HN.out]; exact hlt)⟩
      obtain ⟨g, o, rfl, hr⟩ := HF.out k _ hp
      have c0 : wr.cell? ⟨g, o + k * 2, none⟩ = some (.string ps) := hr 0 _ rfl
      have c1 : wr.cell? ⟨g, o + k * 2 + 1, none⟩ = some (.string pt) := hr 1 _ rfl
      have hst := txt_step false L k (ps, pt) hp
      have hmo := txt_room false L k (ps, pt) hp
      simp only at hst hmo
      have hTl : T.size = (txt false (L.take k)).length := by rw [HT.out, baL_size]
      have hlen := HTL.out
      have hki : (k : Int) < n := by omega
      have hk0 : (0 : Int) ≤ k := by omega
      have hT1 : (T.size : Int) ≤ 100000 := by omega
      have hp1 : (ps.size : Int) ≤ 100000 := by omega
      have hp2 : (pt.size : Int) ≤ 100000 := by omega
      clear hr hp hTl hlen
      by_cases hk1 : k = 0
      · cases hpt : pt.toList.isEmpty
        · subst hk1
          have d0 : wr.cell? ⟨g, o, none⟩ = some (.string ps) := by simpa using c0
          have d1 : wr.cell? ⟨g, o + 1, none⟩ = some (.string pt) := by simpa using c1
          clear c0 c1
          have HE : Hid ((((T ++ ps) ++ ⟨#[64]⟩) ++ pt) = baL (txt false (L.take (0 + 1)))) := Lib.hid (by
            rw [hst, HT.out]
            apply ByteArray.ext
            simp [baL, ByteArray.data_append, hpt])
          have HZ : Hid ((((T ++ ps) ++ ⟨#[64]⟩) ++ pt).size ≤ 100000) := Lib.hid (by rw [HE.out, baL_size]; exact Nat.le_trans (txt_mono false L (0 + 1)) HTL.out)
          clear hst hmo
          go_wp2_with fail
          go_roundw
          case rel => exact ⟨0 + 1, _, hlt, by go_num, rfl, HE, HZ.out, trivial⟩
          case measure => (simp [Go.RowKit.intOf]; try omega)
        · subst hk1
          have d0 : wr.cell? ⟨g, o, none⟩ = some (.string ps) := by simpa using c0
          have d1 : wr.cell? ⟨g, o + 1, none⟩ = some (.string pt) := by simpa using c1
          clear c0 c1
          have HE : Hid ((T ++ ps) = baL (txt false (L.take (0 + 1)))) := Lib.hid (by
            rw [hst, HT.out]
            apply ByteArray.ext
            simp [baL, ByteArray.data_append, hpt])
          have HZ : Hid ((T ++ ps).size ≤ 100000) := Lib.hid (by rw [HE.out, baL_size]; exact Nat.le_trans (txt_mono false L (0 + 1)) HTL.out)
          clear hst hmo
          go_wp2_with fail
          go_roundw
          case rel => exact ⟨0 + 1, _, hlt, by go_num, rfl, HE, HZ.out, trivial⟩
          case measure => (simp [Go.RowKit.intOf]; try omega)
      · cases hpt : pt.toList.isEmpty
        · have g1 : (0 : Int) < (k : Int) := by omega
          have HE : Hid (((((T ++ ⟨#[47]⟩) ++ ps) ++ ⟨#[64]⟩) ++ pt) = baL (txt false (L.take (k + 1)))) := Lib.hid (by
            rw [hst, HT.out]
            apply ByteArray.ext
            simp [baL, ByteArray.data_append, hpt, hk1])
          have HZ : Hid (((((T ++ ⟨#[47]⟩) ++ ps) ++ ⟨#[64]⟩) ++ pt).size ≤ 100000) := Lib.hid (by rw [HE.out, baL_size]; exact Nat.le_trans (txt_mono false L (k + 1)) HTL.out)
          clear hst hmo
          go_wp2_with fail
          go_roundw
          case rel => exact ⟨k + 1, _, hlt, by go_num, rfl, HE, HZ.out, trivial⟩
          case measure => (simp [Go.RowKit.intOf]; try omega)
        · have g1 : (0 : Int) < (k : Int) := by omega
          have HE : Hid (((T ++ ⟨#[47]⟩) ++ ps) = baL (txt false (L.take (k + 1)))) := Lib.hid (by
            rw [hst, HT.out]
            apply ByteArray.ext
            simp [baL, ByteArray.data_append, hpt, hk1])
          have HZ : Hid (((T ++ ⟨#[47]⟩) ++ ps).size ≤ 100000) := Lib.hid (by rw [HE.out, baL_size]; exact Nat.le_trans (txt_mono false L (k + 1)) HTL.out)
          clear hst hmo
          go_wp2_with fail
          go_roundw
          case rel => exact ⟨k + 1, _, hlt, by go_num, rfl, HE, HZ.out, trivial⟩
          case measure => (simp [Go.RowKit.intOf]; try omega)
    · obtain rfl : k = n := by omega
      have hT2 := HT.out
      rw [List.take_of_length_le (Nat.le_of_eq HN.out)] at hT2
      have HT2 := Lib.hid hT2
      clear hT2 HT hlt hk
      go_wp2_with fail
      go_ret
      exact ⟨by rw [← HT2.out]; rfl, rfl⟩
set_option maxHeartbeats 40000000 in
set_option maxRecDepth 100000 in
theorem rtext_true (v : Value) (L : List Pr) (hl : (txt true L).length ≤ 100000) (hn : L.length ≤ 1000) (w : World) (h : Ps w v L) :
    Calls Tryd.prog 16 #[.bool true, v] w fun e w' => e = .returned (.string (baL (txt true L))) ∧ w' = w := by
  obtain ⟨pl, cl, rfl, hf⟩ := h.form
  have HF := Lib.hid hf
  have HTL := Lib.hid hl
  obtain ⟨n, hn1⟩ : ∃ x, L.length = x := ⟨_, rfl⟩
  rw [hn1] at hn
  try rw [hn1]
  have HN := Lib.hid hn1
  have hni : (n : Int) ≤ 1000 := by omega
  clear h hf hl hn hn1
  go_enter Tryd.func16, Tryd.ntmps16
  go_wp2_with fail
  go_loopw [5, 6] (fun tv iv wr => ∃ (k : Nat) (T : ByteArray), k ≤ n ∧ iv = .int .i64 k ∧ tv = .string T ∧ Hid (T = baL (txt true (L.take k))) ∧ T.size ≤ 100000 ∧ wr = w) (fun _ iv _ => n - (Go.RowKit.intOf iv).toNat)
  case atStart => exact ⟨0, ⟨#[47]⟩, Nat.zero_le _, rfl, rfl, Lib.hid rfl, by decide, rfl⟩
  case round =>
    obtain ⟨k, T, hk, rfl, rfl, HT, hT, rfl⟩ := hrel
    by_cases hlt : k < n
    · obtain ⟨⟨ps, pt⟩, hp⟩ : ∃ p, L[k]? = some p := ⟨_, List.getElem?_eq_getElem (by rw [HN.out]; exact hlt)⟩
      obtain ⟨g, o, rfl, hr⟩ := HF.out k _ hp
      have c0 : wr.cell? ⟨g, o + k * 2, none⟩ = some (.string ps) := hr 0 _ rfl
      have c1 : wr.cell? ⟨g, o + k * 2 + 1, none⟩ = some (.string pt) := hr 1 _ rfl
      have hst := txt_step true L k (ps, pt) hp
      have hmo := txt_room true L k (ps, pt) hp
      simp only at hst hmo
      have hTl : T.size = (txt true (L.take k)).length := by rw [HT.out, baL_size]
      have hlen := HTL.out
      have hki : (k : Int) < n := by omega
      have hk0 : (0 : Int) ≤ k := by omega
      have hT1 : (T.size : Int) ≤ 100000 := by omega
      have hp1 : (ps.size : Int) ≤ 100000 := by omega
      have hp2 : (pt.size : Int) ≤ 100000 := by omega
      clear hr hp hTl hlen
      by_cases hk1 : k = 0
      · cases hpt : pt.toList.isEmpty
        · subst hk1
          have d0 : wr.cell? ⟨g, o, none⟩ = some (.string ps) := by simpa using c0
          have d1 : wr.cell? ⟨g, o + 1, none⟩ = some (.string pt) := by simpa using c1
          clear c0 c1
          have HE : Hid ((((T ++ ps) ++ ⟨#[64]⟩) ++ pt) = baL (txt true (L.take (0 + 1)))) := Lib.hid (by
            rw [hst, HT.out]
            apply ByteArray.ext
            simp [baL, ByteArray.data_append, hpt])
          have HZ : Hid ((((T ++ ps) ++ ⟨#[64]⟩) ++ pt).size ≤ 100000) := Lib.hid (by rw [HE.out, baL_size]; exact Nat.le_trans (txt_mono true L (0 + 1)) HTL.out)
          clear hst hmo
          go_wp2_with fail
          go_roundw
          case rel => exact ⟨0 + 1, _, hlt, by go_num, rfl, HE, HZ.out, trivial⟩
          case measure => (simp [Go.RowKit.intOf]; try omega)
        · subst hk1
          have d0 : wr.cell? ⟨g, o, none⟩ = some (.string ps) := by simpa using c0
          have d1 : wr.cell? ⟨g, o + 1, none⟩ = some (.string pt) := by simpa using c1
          clear c0 c1
          have HE : Hid ((T ++ ps) = baL (txt true (L.take (0 + 1)))) := Lib.hid (by
            rw [hst, HT.out]
            apply ByteArray.ext
            simp [baL, ByteArray.data_append, hpt])
          have HZ : Hid ((T ++ ps).size ≤ 100000) := Lib.hid (by rw [HE.out, baL_size]; exact Nat.le_trans (txt_mono true L (0 + 1)) HTL.out)
          clear hst hmo
          go_wp2_with fail
          go_roundw
          case rel => exact ⟨0 + 1, _, hlt, by go_num, rfl, HE, HZ.out, trivial⟩
          case measure => (simp [Go.RowKit.intOf]; try omega)
      · cases hpt : pt.toList.isEmpty
        · have g1 : (0 : Int) < (k : Int) := by omega
          have HE : Hid (((((T ++ ⟨#[47]⟩) ++ ps) ++ ⟨#[64]⟩) ++ pt) = baL (txt true (L.take (k + 1)))) := Lib.hid (by
            rw [hst, HT.out]
            apply ByteArray.ext
            simp [baL, ByteArray.data_append, hpt, hk1])
          have HZ : Hid (((((T ++ ⟨#[47]⟩) ++ ps) ++ ⟨#[64]⟩) ++ pt).size ≤ 100000) := Lib.hid (by rw [HE.out, baL_size]; exact Nat.le_trans (txt_mono true L (k + 1)) HTL.out)
          clear hst hmo
          go_wp2_with fail
          go_roundw
          case rel => exact ⟨k + 1, _, hlt, by go_num, rfl, HE, HZ.out, trivial⟩
          case measure => (simp [Go.RowKit.intOf]; try omega)
        · have g1 : (0 : Int) < (k : Int) := by omega
          have HE : Hid (((T ++ ⟨#[47]⟩) ++ ps) = baL (txt true (L.take (k + 1)))) := Lib.hid (by
            rw [hst, HT.out]
            apply ByteArray.ext
            simp [baL, ByteArray.data_append, hpt, hk1])
          have HZ : Hid (((T ++ ⟨#[47]⟩) ++ ps).size ≤ 100000) := Lib.hid (by rw [HE.out, baL_size]; exact Nat.le_trans (txt_mono true L (k + 1)) HTL.out)
          clear hst hmo
          go_wp2_with fail
          go_roundw
          case rel => exact ⟨k + 1, _, hlt, by go_num, rfl, HE, HZ.out, trivial⟩
          case measure => (simp [Go.RowKit.intOf]; try omega)
    · obtain rfl : k = n := by omega
      have hT2 := HT.out
      rw [List.take_of_length_le (Nat.le_of_eq HN.out)] at hT2
      have HT2 := Lib.hid hT2
      clear hT2 HT hlt hk
      go_wp2_with fail
      go_ret
      exact ⟨by rw [← HT2.out]; rfl, rfl⟩
theorem rtext_any (a : Bool) (v : Value) (L : List Pr) (hl : (txt a L).length ≤ 100000) (hn : L.length ≤ 1000) (w : World) (h : Ps w v L) :
    Calls Tryd.prog 16 #[.bool a, v] w fun e w' => e = .returned (.string (baL (txt a L))) ∧ w' = w := by
  cases a
  · exact rtext_false v L hl hn w h
  · exact rtext_true v L hl hn w h
end Go.Proofs.YtehldpnhdnlljaaDoor.Pt
