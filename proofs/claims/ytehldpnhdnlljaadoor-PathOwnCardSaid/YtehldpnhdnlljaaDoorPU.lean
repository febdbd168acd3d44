import Derived.Test.YtehldpnhdnlljaaDoorPT
/- Text. -/
namespace Go.Proofs.YtehldpnhdnlljaaDoor.Pt
set_option linter.unusedSimpArgs false
set_option linter.unusedVariables false
open Go.RowKit Go.Maps

theorem cells_s (l : List UInt8) (s : ByteArray) : Lib.byteCells l ++ Lib.strCells s = Lib.byteCells (l ++ s.data.toList) := by rw [byteCells_app, byteCells_str]
theorem cells_at (l : List UInt8) (s : ByteArray) : Lib.byteCells l ++ Lib.strCells (⟨#[64]⟩ ++ s) = Lib.byteCells (l ++ 64 :: s.data.toList) := by
  rw [byteCells_app]
  simp [Lib.strCells, Lib.byteCells, ByteArray.data_append]
theorem size64 (s : ByteArray) : (⟨#[64]⟩ ++ s : ByteArray).size = 1 + s.size := by rw [ByteArray.size_append]; rfl
theorem size_data (s : ByteArray) : s.data.size = s.size := rfl
theorem cells_b (l : List UInt8) : Lib.byteCells l ++ [.int .u8 47] = Lib.byteCells (l ++ [47]) := by rw [byteCells_app]; rfl
set_option maxHeartbeats 40000000 in
set_option maxRecDepth 100000 in
theorem text_any (a : Bool) (v : Value) (L : List Pr) (hl : (txt a L).length ≤ 100000) (hn : L.length ≤ 1000) (w : World) (h : Ps w v L) :
    Calls Tryd.prog 14 #[.agg #[.bool a, v]] w fun e w' => e = .returned (.string (baL (txt a L))) ∧ Below w.heap.size w w' := by
  obtain ⟨dp, hup, hdp⟩ := Tryd.descPr
  have HUp := Lib.hid hup
  have HDp := Lib.hid hdp
  obtain ⟨pl, cl, rfl, hf⟩ := h.form
  have HF := Lib.hid hf
  have HTL := Lib.hid hl
  obtain ⟨n, hn1⟩ : ∃ x, L.length = x := ⟨_, rfl⟩
  rw [hn1] at hn
  try rw [hn1]
  have HN := Lib.hid hn1
  have hni : (n : Int) ≤ 1000 := by omega
  clear hup hdp h hf hl hn hn1
  cases a
  · go_enter Tryd.func14, Tryd.ntmps14
    go_upto_region 2 with (refine wpList_box_list (w := w) rfl 27 _ rfl (pa2 false (.slice pl n cl)) rfl ?_; intro w1 F1 hb1 hz1; have HB1 := Lib.hid hb1; have Hz1 := Lib.hid hz1; clear hb1 hz1; have c0 := F1.out.c 0 _ rfl; have c1 := F1.out.c 1 _ rfl)
    have hz1 := Hz1.out
    have HI2 : Hid (Lib.IsBuilderF 58 5 w1.heap.size w1.heap.size [] (w1.alloc (.cells #[.pointer none, .slice none 0 0] 58))) := Lib.hid (Lib.IsBuilderF.of (.inl ⟨Nat.le_refl _, .slice none 0 0, heap_alloc_new w1 _, World.ownsRow_nil _ _ _ _, fun h => by cases h⟩))
    have hb2 : Below w1.heap.size w1 (w1.alloc (.cells #[.pointer none, .slice none 0 0] 58)) := below_alloc0 w1 _ _
    have G2 := Lib.hid (F1.out.keep hb2)
    have HB2 := Lib.hid (HB1.out.trans (hb2.mono HB1.out.size))
    have HL2 : Hid (w1.heap.size < (w1.alloc (.cells #[.pointer none, .slice none 0 0] 58)).heap.size) := Lib.hid (by simp)
    obtain ⟨x1, hx1⟩ : ∃ x, w.heap.size = x := ⟨_, rfl⟩
    obtain ⟨b, hb⟩ : ∃ x, w1.heap.size = x := ⟨_, rfl⟩
    have HBW : Hid (w.heap.size ≤ b) := Lib.hid (by omega)
    have HX1 : Hid (x1 < b) := Lib.hid (by omega)
    obtain ⟨w2, hw2⟩ : ∃ x, w1.alloc (.cells #[.pointer none, .slice none 0 0] 58) = x := ⟨_, rfl⟩
    rw [hw2] at HI2 G2 HB2 HL2
    rw [hb] at HI2 HL2
    rw [hx1] at G2
    try rw [hw2]
    try rw [hx1]
    try rw [hb]
    clear hz1 Hz1 hb2 hx1 hb hw2 c0 c1 F1 HB1
    have c0 := G2.out.c 0 _ rfl
    have c1 := G2.out.c 1 _ rfl
    have HI : Hid (Lib.IsBuilderF 58 5 b b (Lib.byteCells (txt false (L.take 0))) w2) := HI2
    have HBs := HB2
    have HLS := HL2
    clear HI2
    go_upto_region 5 with fail
    go_loopw [4, 5, 12] (fun _ _ iv wr => ∃ k : Nat, k ≤ n ∧ iv = .int .i64 k ∧ Hid (Lib.IsBuilderF 58 5 b b (Lib.byteCells (txt false (L.take k))) wr) ∧ Hid (Below w.heap.size w wr) ∧ Hid (b < wr.heap.size)) (fun _ _ iv _ => n - (Go.RowKit.intOf iv).toNat)
    case atStart => exact ⟨0, Nat.zero_le _, rfl, HI, HBs, HLS⟩
    case round =>
      obtain ⟨k, hk, rfl, HIk, HB, HLT⟩ := hrel
      by_cases hlt : k < n
      · obtain ⟨⟨ps, pt⟩, hp⟩ : ∃ p, L[k]? = some p := ⟨_, List.getElem?_eq_getElem (by rw [HN.out]; exact hlt)⟩
        obtain ⟨g, o, rfl, hr⟩ := HF.out k _ hp
        have HRg := Lib.hid (ra_keep hr HB.out)
        change Hid (wr.rangeAt g (o + k * 2) [.string ps, .string pt]) at HRg
        have hst := txt_step false L k (ps, pt) hp
        have hmo := txt_room false L k (ps, pt) hp
        simp only at hmo
        have hki : (k : Int) < n := by omega
        have hk0 : (0 : Int) ≤ k := by omega
        have hlen := HTL.out
        clear hr hp
        go_upto_region 7 with (refine wpList_load_mid rfl 34 _ rfl g (o + k * 2) rfl [.string ps, .string pt] dp HRg.out HUp.out HDp.out Tryd.isizePr ?_)
        have HIwA : Hid (Lib.IsBuilderF 58 5 b b (Lib.byteCells (txt false (L.take k))) (wr.alloc (.cells #[.string ps, .string pt] 34))) := Lib.hid (HIk.out.alloc _)
        have hbA : Below wr.heap.size wr (wr.alloc (.cells #[.string ps, .string pt] 34)) := below_alloc0 wr _ _
        have HBwA := Lib.hid (HB.out.trans (hbA.mono HB.out.size))
        have HLwA : Hid (b < (wr.alloc (.cells #[.string ps, .string pt] 34)).heap.size) := Lib.hid (Nat.lt_of_lt_of_le HLT.out hbA.size)
        have HAwA : Hid ((wr.alloc (.cells #[.string ps, .string pt] 34)).heap[wr.heap.size]? = some (.cells #[.string ps, .string pt] 34)) := Lib.hid (heap_alloc_new wr _)
        have HBP : Hid (b < wr.heap.size) := HLT
        obtain ⟨bp, hbp⟩ : ∃ x, wr.heap.size = x := ⟨_, rfl⟩
        rw [hbp] at HAwA HBP
        obtain ⟨wA, hwA⟩ : ∃ x, wr.alloc (.cells #[.string ps, .string pt] 34) = x := ⟨_, rfl⟩
        rw [hwA] at HIwA HBwA HLwA HAwA
        try rw [hwA]
        try rw [hbp]
        have e0 : wA.cell? ⟨bp, 0, none⟩ = some (.string ps) := Lib.cell_of_heap HAwA.out 0
        have e1 : wA.cell? ⟨bp, 1, none⟩ = some (.string pt) := Lib.cell_of_heap HAwA.out 1
        clear hbA hbp hwA HIk HB HLT HRg
        by_cases hk1 : k = 0
        · subst hk1
          have hkp : ¬ ((0 : Int) < ((0 : Nat) : Int)) := by omega
          cases hpt : pt.toList.isEmpty
          · have HSt : Hid (txt false (L.take (0 + 1)) = txt false (L.take 0) ++ ps.data.toList ++ 64 :: pt.data.toList) := Lib.hid (by rw [hst]; simp [hpt])
            have HLen : Hid ((txt false (L.take 0)).length + 1 + ps.size + pt.size ≤ 200000) := Lib.hid (by omega)
            have hpti : (pt.size : Int) ≤ 100000 := by omega
            clear hst hmo
            go_wp2_with fail
            refine (writestring_any b b (Lib.byteCells (txt false (L.take 0))) ps wA HIwA.out (by rw [Lib.byteCells_length]; (try simp only [List.length_append, List.length_cons, List.length_nil, Array.length_toList, size_data]); have := HLen.out; omega) (by have := HLwA.out; omega)).mono ?_
            rintro e w3 ⟨rfl, hI, hbw, hkw⟩
            have HIw3 : Hid (Lib.IsBuilderF 58 5 b b (Lib.byteCells (txt false (L.take 0) ++ ps.data.toList)) w3) := Lib.hid (.inr (by
              have h9 := hI
              rw [cells_s] at h9
              exact h9))
            have HBw3 := Lib.hid (HBwA.out.trans (hbw.mono (by have := HBW.out; omega)))
            have HLw3 : Hid (b < w3.heap.size) := Lib.hid (Nat.lt_of_lt_of_le HLwA.out hbw.size)
            have HAw3 := Lib.hid (hkw bp _ HAwA.out (by have := HBP.out; simp; omega) (fun c fz h => by injection h with h1 h2; exact absurd h2 (by decide)))
            try clear hcell
            clear hI hbw hkw HIwA HBwA HLwA HAwA
            try clear e0 e1
            have e0 : w3.cell? ⟨bp, 0, none⟩ = some (.string ps) := Lib.cell_of_heap HAw3.out 0
            have e1 : w3.cell? ⟨bp, 1, none⟩ = some (.string pt) := Lib.cell_of_heap HAw3.out 1
            go_wp2_with fail
            have hq := writestring_any b b (Lib.byteCells (txt false (L.take 0) ++ ps.data.toList)) (⟨#[64]⟩ ++ pt) w3 HIw3.out (by rw [Lib.byteCells_length, size64]; (try simp only [List.length_append, List.length_cons, List.length_nil, Array.length_toList, size_data]); have := HLen.out; omega) (by have := HLw3.out; omega)
            have hcell := cells_at (txt false (L.take 0) ++ ps.data.toList) pt
            generalize (⟨#[64]⟩ ++ pt : ByteArray) = Z at *
            refine hq.mono ?_
            clear hq
            rintro e w4 ⟨rfl, hI, hbw, hkw⟩
            have HIw4 : Hid (Lib.IsBuilderF 58 5 b b (Lib.byteCells (txt false (L.take 0) ++ ps.data.toList ++ 64 :: pt.data.toList)) w4) := Lib.hid (.inr (by
              have h9 := hI
              rw [hcell] at h9
              exact h9))
            have HBw4 := Lib.hid (HBw3.out.trans (hbw.mono (by have := HBW.out; omega)))
            have HLw4 : Hid (b < w4.heap.size) := Lib.hid (Nat.lt_of_lt_of_le HLw3.out hbw.size)
            have HAw4 := Lib.hid (hkw bp _ HAw3.out (by have := HBP.out; simp; omega) (fun c fz h => by injection h with h1 h2; exact absurd h2 (by decide)))
            try clear hcell
            clear hI hbw hkw HIw3 HBw3 HLw3 HAw3
            try clear e0 e1
            have e0 : w4.cell? ⟨bp, 0, none⟩ = some (.string ps) := Lib.cell_of_heap HAw4.out 0
            have e1 : w4.cell? ⟨bp, 1, none⟩ = some (.string pt) := Lib.cell_of_heap HAw4.out 1
            go_wp2_with fail
            go_roundw
            case rel => exact ⟨0 + 1, hlt, by go_num, Lib.hid (by rw [HSt.out]; exact HIw4.out), HBw4, HLw4⟩
            case measure => (simp [Go.RowKit.intOf]; try omega)
          · have HSt : Hid (txt false (L.take (0 + 1)) = txt false (L.take 0) ++ ps.data.toList) := Lib.hid (by rw [hst]; simp [hpt])
            have HLen : Hid ((txt false (L.take 0)).length + 1 + ps.size + pt.size ≤ 200000) := Lib.hid (by omega)
            have hpti : (pt.size : Int) ≤ 100000 := by omega
            clear hst hmo
            go_wp2_with fail
            refine (writestring_any b b (Lib.byteCells (txt false (L.take 0))) ps wA HIwA.out (by rw [Lib.byteCells_length]; (try simp only [List.length_append, List.length_cons, List.length_nil, Array.length_toList, size_data]); have := HLen.out; omega) (by have := HLwA.out; omega)).mono ?_
            rintro e w3 ⟨rfl, hI, hbw, hkw⟩
            have HIw3 : Hid (Lib.IsBuilderF 58 5 b b (Lib.byteCells (txt false (L.take 0) ++ ps.data.toList)) w3) := Lib.hid (.inr (by
              have h9 := hI
              rw [cells_s] at h9
              exact h9))
            have HBw3 := Lib.hid (HBwA.out.trans (hbw.mono (by have := HBW.out; omega)))
            have HLw3 : Hid (b < w3.heap.size) := Lib.hid (Nat.lt_of_lt_of_le HLwA.out hbw.size)
            have HAw3 := Lib.hid (hkw bp _ HAwA.out (by have := HBP.out; simp; omega) (fun c fz h => by injection h with h1 h2; exact absurd h2 (by decide)))
            try clear hcell
            clear hI hbw hkw HIwA HBwA HLwA HAwA
            try clear e0 e1
            have e0 : w3.cell? ⟨bp, 0, none⟩ = some (.string ps) := Lib.cell_of_heap HAw3.out 0
            have e1 : w3.cell? ⟨bp, 1, none⟩ = some (.string pt) := Lib.cell_of_heap HAw3.out 1
            go_wp2_with fail
            go_roundw
            case rel => exact ⟨0 + 1, hlt, by go_num, Lib.hid (by rw [HSt.out]; exact HIw3.out), HBw3, HLw3⟩
            case measure => (simp [Go.RowKit.intOf]; try omega)
        · have hkp : (0 : Int) < k := by omega
          cases hpt : pt.toList.isEmpty
          · have HSt : Hid (txt false (L.take (k + 1)) = txt false (L.take k) ++ [47] ++ ps.data.toList ++ 64 :: pt.data.toList) := Lib.hid (by rw [hst]; simp [hpt, hk1])
            have HLen : Hid ((txt false (L.take k)).length + 1 + ps.size + pt.size ≤ 200000) := Lib.hid (by omega)
            have hpti : (pt.size : Int) ≤ 100000 := by omega
            clear hst hmo
            go_wp2_with fail
            refine (writebyte_any b b (Lib.byteCells (txt false (L.take k))) 47 wA HIwA.out (by rw [Lib.byteCells_length]; (try simp only [List.length_append, List.length_cons, List.length_nil, Array.length_toList, size_data]); have := HLen.out; omega) (by have := HLwA.out; omega)).mono ?_
            rintro e w3 ⟨rfl, hI, hbw, hkw⟩
            have HIw3 : Hid (Lib.IsBuilderF 58 5 b b (Lib.byteCells (txt false (L.take k) ++ [47])) w3) := Lib.hid (.inr (by
              have h9 := hI
              rw [cells_b] at h9
              exact h9))
            have HBw3 := Lib.hid (HBwA.out.trans (hbw.mono (by have := HBW.out; omega)))
            have HLw3 : Hid (b < w3.heap.size) := Lib.hid (Nat.lt_of_lt_of_le HLwA.out hbw.size)
            have HAw3 := Lib.hid (hkw bp _ HAwA.out (by have := HBP.out; simp; omega) (fun c fz h => by injection h with h1 h2; exact absurd h2 (by decide)))
            try clear hcell
            clear hI hbw hkw HIwA HBwA HLwA HAwA
            try clear e0 e1
            have e0 : w3.cell? ⟨bp, 0, none⟩ = some (.string ps) := Lib.cell_of_heap HAw3.out 0
            have e1 : w3.cell? ⟨bp, 1, none⟩ = some (.string pt) := Lib.cell_of_heap HAw3.out 1
            go_wp2_with fail
            refine (writestring_any b b (Lib.byteCells (txt false (L.take k) ++ [47])) ps w3 HIw3.out (by rw [Lib.byteCells_length]; (try simp only [List.length_append, List.length_cons, List.length_nil, Array.length_toList, size_data]); have := HLen.out; omega) (by have := HLw3.out; omega)).mono ?_
            rintro e w4 ⟨rfl, hI, hbw, hkw⟩
            have HIw4 : Hid (Lib.IsBuilderF 58 5 b b (Lib.byteCells (txt false (L.take k) ++ [47] ++ ps.data.toList)) w4) := Lib.hid (.inr (by
              have h9 := hI
              rw [cells_s] at h9
              exact h9))
            have HBw4 := Lib.hid (HBw3.out.trans (hbw.mono (by have := HBW.out; omega)))
            have HLw4 : Hid (b < w4.heap.size) := Lib.hid (Nat.lt_of_lt_of_le HLw3.out hbw.size)
            have HAw4 := Lib.hid (hkw bp _ HAw3.out (by have := HBP.out; simp; omega) (fun c fz h => by injection h with h1 h2; exact absurd h2 (by decide)))
            try clear hcell
            clear hI hbw hkw HIw3 HBw3 HLw3 HAw3
            try clear e0 e1
            have e0 : w4.cell? ⟨bp, 0, none⟩ = some (.string ps) := Lib.cell_of_heap HAw4.out 0
            have e1 : w4.cell? ⟨bp, 1, none⟩ = some (.string pt) := Lib.cell_of_heap HAw4.out 1
            go_wp2_with fail
            have hq := writestring_any b b (Lib.byteCells (txt false (L.take k) ++ [47] ++ ps.data.toList)) (⟨#[64]⟩ ++ pt) w4 HIw4.out (by rw [Lib.byteCells_length, size64]; (try simp only [List.length_append, List.length_cons, List.length_nil, Array.length_toList, size_data]); have := HLen.out; omega) (by have := HLw4.out; omega)
            have hcell := cells_at (txt false (L.take k) ++ [47] ++ ps.data.toList) pt
            generalize (⟨#[64]⟩ ++ pt : ByteArray) = Z at *
            refine hq.mono ?_
            clear hq
            rintro e w5 ⟨rfl, hI, hbw, hkw⟩
            have HIw5 : Hid (Lib.IsBuilderF 58 5 b b (Lib.byteCells (txt false (L.take k) ++ [47] ++ ps.data.toList ++ 64 :: pt.data.toList)) w5) := Lib.hid (.inr (by
              have h9 := hI
              rw [hcell] at h9
              exact h9))
            have HBw5 := Lib.hid (HBw4.out.trans (hbw.mono (by have := HBW.out; omega)))
            have HLw5 : Hid (b < w5.heap.size) := Lib.hid (Nat.lt_of_lt_of_le HLw4.out hbw.size)
            have HAw5 := Lib.hid (hkw bp _ HAw4.out (by have := HBP.out; simp; omega) (fun c fz h => by injection h with h1 h2; exact absurd h2 (by decide)))
            try clear hcell
            clear hI hbw hkw HIw4 HBw4 HLw4 HAw4
            try clear e0 e1
            have e0 : w5.cell? ⟨bp, 0, none⟩ = some (.string ps) := Lib.cell_of_heap HAw5.out 0
            have e1 : w5.cell? ⟨bp, 1, none⟩ = some (.string pt) := Lib.cell_of_heap HAw5.out 1
            go_wp2_with fail
            go_roundw
            case rel => exact ⟨k + 1, hlt, by go_num, Lib.hid (by rw [HSt.out]; exact HIw5.out), HBw5, HLw5⟩
            case measure => (simp [Go.RowKit.intOf]; try omega)
          · have HSt : Hid (txt false (L.take (k + 1)) = txt false (L.take k) ++ [47] ++ ps.data.toList) := Lib.hid (by rw [hst]; simp [hpt, hk1])
            have HLen : Hid ((txt false (L.take k)).length + 1 + ps.size + pt.size ≤ 200000) := Lib.hid (by omega)
            have hpti : (pt.size : Int) ≤ 100000 := by omega
            clear hst hmo
            go_wp2_with fail
            refine (writebyte_any b b (Lib.byteCells (txt false (L.take k))) 47 wA HIwA.out (by rw [Lib.byteCells_length]; (try simp only [List.length_append, List.length_cons, List.length_nil, Array.length_toList, size_data]); have := HLen.out; omega) (by have := HLwA.out; omega)).mono ?_
            rintro e w3 ⟨rfl, hI, hbw, hkw⟩
            have HIw3 : Hid (Lib.IsBuilderF 58 5 b b (Lib.byteCells (txt false (L.take k) ++ [47])) w3) := Lib.hid (.inr (by
              have h9 := hI
              rw [cells_b] at h9
              exact h9))
            have HBw3 := Lib.hid (HBwA.out.trans (hbw.mono (by have := HBW.out; omega)))
            have HLw3 : Hid (b < w3.heap.size) := Lib.hid (Nat.lt_of_lt_of_le HLwA.out hbw.size)
            have HAw3 := Lib.hid (hkw bp _ HAwA.out (by have := HBP.out; simp; omega) (fun c fz h => by injection h with h1 h2; exact absurd h2 (by decide)))
            try clear hcell
            clear hI hbw hkw HIwA HBwA HLwA HAwA
            try clear e0 e1
            have e0 : w3.cell? ⟨bp, 0, none⟩ = some (.string ps) := Lib.cell_of_heap HAw3.out 0
            have e1 : w3.cell? ⟨bp, 1, none⟩ = some (.string pt) := Lib.cell_of_heap HAw3.out 1
            go_wp2_with fail
            refine (writestring_any b b (Lib.byteCells (txt false (L.take k) ++ [47])) ps w3 HIw3.out (by rw [Lib.byteCells_length]; (try simp only [List.length_append, List.length_cons, List.length_nil, Array.length_toList, size_data]); have := HLen.out; omega) (by have := HLw3.out; omega)).mono ?_
            rintro e w4 ⟨rfl, hI, hbw, hkw⟩
            have HIw4 : Hid (Lib.IsBuilderF 58 5 b b (Lib.byteCells (txt false (L.take k) ++ [47] ++ ps.data.toList)) w4) := Lib.hid (.inr (by
              have h9 := hI
              rw [cells_s] at h9
              exact h9))
            have HBw4 := Lib.hid (HBw3.out.trans (hbw.mono (by have := HBW.out; omega)))
            have HLw4 : Hid (b < w4.heap.size) := Lib.hid (Nat.lt_of_lt_of_le HLw3.out hbw.size)
            have HAw4 := Lib.hid (hkw bp _ HAw3.out (by have := HBP.out; simp; omega) (fun c fz h => by injection h with h1 h2; exact absurd h2 (by decide)))
            try clear hcell
            clear hI hbw hkw HIw3 HBw3 HLw3 HAw3
            try clear e0 e1
            have e0 : w4.cell? ⟨bp, 0, none⟩ = some (.string ps) := Lib.cell_of_heap HAw4.out 0
            have e1 : w4.cell? ⟨bp, 1, none⟩ = some (.string pt) := Lib.cell_of_heap HAw4.out 1
            go_wp2_with fail
            go_roundw
            case rel => exact ⟨k + 1, hlt, by go_num, Lib.hid (by rw [HSt.out]; exact HIw4.out), HBw4, HLw4⟩
            case measure => (simp [Go.RowKit.intOf]; try omega)
      · obtain rfl : k = n := by omega
        have hI := HIk.out
        rw [List.take_of_length_le (Nat.le_of_eq HN.out)] at hI
        have HJ := Lib.hid hI
        clear hI HIk hlt hk
        go_wp2_with fail
        refine (Tryd.Builder_String_any_f b b (txt false L) wr HJ.out (by have := HLT.out; omega)).mono ?_
        rintro e w9 ⟨rfl, -, hb9⟩
        have HB9 := Lib.hid (HB.out.trans (hb9.mono (by have := HBW.out; omega)))
        clear hb9
        go_wp2_with fail
        go_ret
        exact ⟨rfl, HB9.out⟩
  · go_enter Tryd.func14, Tryd.ntmps14
    go_upto_region 2 with (refine wpList_box_list (w := w) rfl 27 _ rfl (pa2 true (.slice pl n cl)) rfl ?_; intro w1 F1 hb1 hz1; have HB1 := Lib.hid hb1; have Hz1 := Lib.hid hz1; clear hb1 hz1; have c0 := F1.out.c 0 _ rfl; have c1 := F1.out.c 1 _ rfl)
    have hz1 := Hz1.out
    have HI2 : Hid (Lib.IsBuilderF 58 5 w1.heap.size w1.heap.size [] (w1.alloc (.cells #[.pointer none, .slice none 0 0] 58))) := Lib.hid (Lib.IsBuilderF.of (.inl ⟨Nat.le_refl _, .slice none 0 0, heap_alloc_new w1 _, World.ownsRow_nil _ _ _ _, fun h => by cases h⟩))
    have hb2 : Below w1.heap.size w1 (w1.alloc (.cells #[.pointer none, .slice none 0 0] 58)) := below_alloc0 w1 _ _
    have G2 := Lib.hid (F1.out.keep hb2)
    have HB2 := Lib.hid (HB1.out.trans (hb2.mono HB1.out.size))
    have HL2 : Hid (w1.heap.size < (w1.alloc (.cells #[.pointer none, .slice none 0 0] 58)).heap.size) := Lib.hid (by simp)
    obtain ⟨x1, hx1⟩ : ∃ x, w.heap.size = x := ⟨_, rfl⟩
    obtain ⟨b, hb⟩ : ∃ x, w1.heap.size = x := ⟨_, rfl⟩
    have HBW : Hid (w.heap.size ≤ b) := Lib.hid (by omega)
    have HX1 : Hid (x1 < b) := Lib.hid (by omega)
    obtain ⟨w2, hw2⟩ : ∃ x, w1.alloc (.cells #[.pointer none, .slice none 0 0] 58) = x := ⟨_, rfl⟩
    rw [hw2] at HI2 G2 HB2 HL2
    rw [hb] at HI2 HL2
    rw [hx1] at G2
    try rw [hw2]
    try rw [hx1]
    try rw [hb]
    clear hz1 Hz1 hb2 hx1 hb hw2 c0 c1 F1 HB1
    have c0 := G2.out.c 0 _ rfl
    have c1 := G2.out.c 1 _ rfl
    go_wp2_with fail
    refine (writebyte_any b b [] 47 w2 HI2.out (by simp) (by have := HL2.out; omega)).mono ?_
    rintro e w4 ⟨rfl, hI, hbw, -⟩
    have HI : Hid (Lib.IsBuilderF 58 5 b b (Lib.byteCells (txt true (L.take 0))) w4) := Lib.hid (.inr hI)
    have HBs := Lib.hid (HB2.out.trans (hbw.mono HBW.out))
    have HLS : Hid (b < w4.heap.size) := Lib.hid (Nat.lt_of_lt_of_le HL2.out hbw.size)
    have G4 := Lib.hid (G2.out.below hbw HX1.out)
    clear hI hbw HI2 HB2 HL2 c0 c1 G2
    have c0 := G4.out.c 0 _ rfl
    have c1 := G4.out.c 1 _ rfl
    go_upto_region 5 with fail
    go_loopw [4, 5, 12] (fun _ _ iv wr => ∃ k : Nat, k ≤ n ∧ iv = .int .i64 k ∧ Hid (Lib.IsBuilderF 58 5 b b (Lib.byteCells (txt true (L.take k))) wr) ∧ Hid (Below w.heap.size w wr) ∧ Hid (b < wr.heap.size)) (fun _ _ iv _ => n - (Go.RowKit.intOf iv).toNat)
    case atStart => exact ⟨0, Nat.zero_le _, rfl, HI, HBs, HLS⟩
    case round =>
      obtain ⟨k, hk, rfl, HIk, HB, HLT⟩ := hrel
      by_cases hlt : k < n
      · obtain ⟨⟨ps, pt⟩, hp⟩ : ∃ p, L[k]? = some p := ⟨_, List.getElem?_eq_getElem (by rw [HN.out]; exact hlt)⟩
        obtain ⟨g, o, rfl, hr⟩ := HF.out k _ hp
        have HRg := Lib.hid (ra_keep hr HB.out)
        change Hid (wr.rangeAt g (o + k * 2) [.string ps, .string pt]) at HRg
        have hst := txt_step true L k (ps, pt) hp
        have hmo := txt_room true L k (ps, pt) hp
        simp only at hmo
        have hki : (k : Int) < n := by omega
        have hk0 : (0 : Int) ≤ k := by omega
        have hlen := HTL.out
        clear hr hp
        go_upto_region 7 with (refine wpList_load_mid rfl 34 _ rfl g (o + k * 2) rfl [.string ps, .string pt] dp HRg.out HUp.out HDp.out Tryd.isizePr ?_)
        have HIwA : Hid (Lib.IsBuilderF 58 5 b b (Lib.byteCells (txt true (L.take k))) (wr.alloc (.cells #[.string ps, .string pt] 34))) := Lib.hid (HIk.out.alloc _)
        have hbA : Below wr.heap.size wr (wr.alloc (.cells #[.string ps, .string pt] 34)) := below_alloc0 wr _ _
        have HBwA := Lib.hid (HB.out.trans (hbA.mono HB.out.size))
        have HLwA : Hid (b < (wr.alloc (.cells #[.string ps, .string pt] 34)).heap.size) := Lib.hid (Nat.lt_of_lt_of_le HLT.out hbA.size)
        have HAwA : Hid ((wr.alloc (.cells #[.string ps, .string pt] 34)).heap[wr.heap.size]? = some (.cells #[.string ps, .string pt] 34)) := Lib.hid (heap_alloc_new wr _)
        have HBP : Hid (b < wr.heap.size) := HLT
        obtain ⟨bp, hbp⟩ : ∃ x, wr.heap.size = x := ⟨_, rfl⟩
        rw [hbp] at HAwA HBP
        obtain ⟨wA, hwA⟩ : ∃ x, wr.alloc (.cells #[.string ps, .string pt] 34) = x := ⟨_, rfl⟩
        rw [hwA] at HIwA HBwA HLwA HAwA
        try rw [hwA]
        try rw [hbp]
        have e0 : wA.cell? ⟨bp, 0, none⟩ = some (.string ps) := Lib.cell_of_heap HAwA.out 0
        have e1 : wA.cell? ⟨bp, 1, none⟩ = some (.string pt) := Lib.cell_of_heap HAwA.out 1
        clear hbA hbp hwA HIk HB HLT HRg
        by_cases hk1 : k = 0
        · subst hk1
          have hkp : ¬ ((0 : Int) < ((0 : Nat) : Int)) := by omega
          cases hpt : pt.toList.isEmpty
          · have HSt : Hid (txt true (L.take (0 + 1)) = txt true (L.take 0) ++ ps.data.toList ++ 64 :: pt.data.toList) := Lib.hid (by rw [hst]; simp [hpt])
            have HLen : Hid ((txt true (L.take 0)).length + 1 + ps.size + pt.size ≤ 200000) := Lib.hid (by omega)
            have hpti : (pt.size : Int) ≤ 100000 := by omega
            clear hst hmo
            go_wp2_with fail
            refine (writestring_any b b (Lib.byteCells (txt true (L.take 0))) ps wA HIwA.out (by rw [Lib.byteCells_length]; (try simp only [List.length_append, List.length_cons, List.length_nil, Array.length_toList, size_data]); have := HLen.out; omega) (by have := HLwA.out; omega)).mono ?_
            rintro e w3 ⟨rfl, hI, hbw, hkw⟩
            have HIw3 : Hid (Lib.IsBuilderF 58 5 b b (Lib.byteCells (txt true (L.take 0) ++ ps.data.toList)) w3) := Lib.hid (.inr (by
              have h9 := hI
              rw [cells_s] at h9
              exact h9))
            have HBw3 := Lib.hid (HBwA.out.trans (hbw.mono (by have := HBW.out; omega)))
            have HLw3 : Hid (b < w3.heap.size) := Lib.hid (Nat.lt_of_lt_of_le HLwA.out hbw.size)
            have HAw3 := Lib.hid (hkw bp _ HAwA.out (by have := HBP.out; simp; omega) (fun c fz h => by injection h with h1 h2; exact absurd h2 (by decide)))
            try clear hcell
            clear hI hbw hkw HIwA HBwA HLwA HAwA
            try clear e0 e1
            have e0 : w3.cell? ⟨bp, 0, none⟩ = some (.string ps) := Lib.cell_of_heap HAw3.out 0
            have e1 : w3.cell? ⟨bp, 1, none⟩ = some (.string pt) := Lib.cell_of_heap HAw3.out 1
            go_wp2_with fail
            have hq := writestring_any b b (Lib.byteCells (txt true (L.take 0) ++ ps.data.toList)) (⟨#[64]⟩ ++ pt) w3 HIw3.out (by rw [Lib.byteCells_length, size64]; (try simp only [List.length_append, List.length_cons, List.length_nil, Array.length_toList, size_data]); have := HLen.out; omega) (by have := HLw3.out; omega)
            have hcell := cells_at (txt true (L.take 0) ++ ps.data.toList) pt
            generalize (⟨#[64]⟩ ++ pt : ByteArray) = Z at *
            refine hq.mono ?_
            clear hq
            rintro e w4 ⟨rfl, hI, hbw, hkw⟩
            have HIw4 : Hid (Lib.IsBuilderF 58 5 b b (Lib.byteCells (txt true (L.take 0) ++ ps.data.toList ++ 64 :: pt.data.toList)) w4) := Lib.hid (.inr (by
              have h9 := hI
              rw [hcell] at h9
              exact h9))
            have HBw4 := Lib.hid (HBw3.out.trans (hbw.mono (by have := HBW.out; omega)))
            have HLw4 : Hid (b < w4.heap.size) := Lib.hid (Nat.lt_of_lt_of_le HLw3.out hbw.size)
            have HAw4 := Lib.hid (hkw bp _ HAw3.out (by have := HBP.out; simp; omega) (fun c fz h => by injection h with h1 h2; exact absurd h2 (by decide)))
            try clear hcell
            clear hI hbw hkw HIw3 HBw3 HLw3 HAw3
            try clear e0 e1
            have e0 : w4.cell? ⟨bp, 0, none⟩ = some (.string ps) := Lib.cell_of_heap HAw4.out 0
            have e1 : w4.cell? ⟨bp, 1, none⟩ = some (.string pt) := Lib.cell_of_heap HAw4.out 1
            go_wp2_with fail
            go_roundw
            case rel => exact ⟨0 + 1, hlt, by go_num, Lib.hid (by rw [HSt.out]; exact HIw4.out), HBw4, HLw4⟩
            case measure => (simp [Go.RowKit.intOf]; try omega)
          · have HSt : Hid (txt true (L.take (0 + 1)) = txt true (L.take 0) ++ ps.data.toList) := Lib.hid (by rw [hst]; simp [hpt])
            have HLen : Hid ((txt true (L.take 0)).length + 1 + ps.size + pt.size ≤ 200000) := Lib.hid (by omega)
            have hpti : (pt.size : Int) ≤ 100000 := by omega
            clear hst hmo
            go_wp2_with fail
            refine (writestring_any b b (Lib.byteCells (txt true (L.take 0))) ps wA HIwA.out (by rw [Lib.byteCells_length]; (try simp only [List.length_append, List.length_cons, List.length_nil, Array.length_toList, size_data]); have := HLen.out; omega) (by have := HLwA.out; omega)).mono ?_
            rintro e w3 ⟨rfl, hI, hbw, hkw⟩
            have HIw3 : Hid (Lib.IsBuilderF 58 5 b b (Lib.byteCells (txt true (L.take 0) ++ ps.data.toList)) w3) := Lib.hid (.inr (by
              have h9 := hI
              rw [cells_s] at h9
              exact h9))
            have HBw3 := Lib.hid (HBwA.out.trans (hbw.mono (by have := HBW.out; omega)))
            have HLw3 : Hid (b < w3.heap.size) := Lib.hid (Nat.lt_of_lt_of_le HLwA.out hbw.size)
            have HAw3 := Lib.hid (hkw bp _ HAwA.out (by have := HBP.out; simp; omega) (fun c fz h => by injection h with h1 h2; exact absurd h2 (by decide)))
            try clear hcell
            clear hI hbw hkw HIwA HBwA HLwA HAwA
            try clear e0 e1
            have e0 : w3.cell? ⟨bp, 0, none⟩ = some (.string ps) := Lib.cell_of_heap HAw3.out 0
            have e1 : w3.cell? ⟨bp, 1, none⟩ = some (.string pt) := Lib.cell_of_heap HAw3.out 1
            go_wp2_with fail
            go_roundw
            case rel => exact ⟨0 + 1, hlt, by go_num, Lib.hid (by rw [HSt.out]; exact HIw3.out), HBw3, HLw3⟩
            case measure => (simp [Go.RowKit.intOf]; try omega)
        · have hkp : (0 : Int) < k := by omega
          cases hpt : pt.toList.isEmpty
          · have HSt : Hid (txt true (L.take (k + 1)) = txt true (L.take k) ++ [47] ++ ps.data.toList ++ 64 :: pt.data.toList) := Lib.hid (by rw [hst]; simp [hpt, hk1])
            have HLen : Hid ((txt true (L.take k)).length + 1 + ps.size + pt.size ≤ 200000) := Lib.hid (by omega)
            have hpti : (pt.size : Int) ≤ 100000 := by omega
            clear hst hmo
            go_wp2_with fail
            refine (writebyte_any b b (Lib.byteCells (txt true (L.take k))) 47 wA HIwA.out (by rw [Lib.byteCells_length]; (try simp only [List.length_append, List.length_cons, List.length_nil, Array.length_toList, size_data]); have := HLen.out; omega) (by have := HLwA.out; omega)).mono ?_
            rintro e w3 ⟨rfl, hI, hbw, hkw⟩
            have HIw3 : Hid (Lib.IsBuilderF 58 5 b b (Lib.byteCells (txt true (L.take k) ++ [47])) w3) := Lib.hid (.inr (by
              have h9 := hI
              rw [cells_b] at h9
              exact h9))
            have HBw3 := Lib.hid (HBwA.out.trans (hbw.mono (by have := HBW.out; omega)))
            have HLw3 : Hid (b < w3.heap.size) := Lib.hid (Nat.lt_of_lt_of_le HLwA.out hbw.size)
            have HAw3 := Lib.hid (hkw bp _ HAwA.out (by have := HBP.out; simp; omega) (fun c fz h => by injection h with h1 h2; exact absurd h2 (by decide)))
            try clear hcell
            clear hI hbw hkw HIwA HBwA HLwA HAwA
            try clear e0 e1
            have e0 : w3.cell? ⟨bp, 0, none⟩ = some (.string ps) := Lib.cell_of_heap HAw3.out 0
            have e1 : w3.cell? ⟨bp, 1, none⟩ = some (.string pt) := Lib.cell_of_heap HAw3.out 1
            go_wp2_with fail
            refine (writestring_any b b (Lib.byteCells (txt true (L.take k) ++ [47])) ps w3 HIw3.out (by rw [Lib.byteCells_length]; (try simp only [List.length_append, List.length_cons, List.length_nil, Array.length_toList, size_data]); have := HLen.out; omega) (by have := HLw3.out; omega)).mono ?_
            rintro e w4 ⟨rfl, hI, hbw, hkw⟩
            have HIw4 : Hid (Lib.IsBuilderF 58 5 b b (Lib.byteCells (txt true (L.take k) ++ [47] ++ ps.data.toList)) w4) := Lib.hid (.inr (by
              have h9 := hI
              rw [cells_s] at h9
              exact h9))
            have HBw4 := Lib.hid (HBw3.out.trans (hbw.mono (by have := HBW.out; omega)))
            have HLw4 : Hid (b < w4.heap.size) := Lib.hid (Nat.lt_of_lt_of_le HLw3.out hbw.size)
            have HAw4 := Lib.hid (hkw bp _ HAw3.out (by have := HBP.out; simp; omega) (fun c fz h => by injection h with h1 h2; exact absurd h2 (by decide)))
            try clear hcell
            clear hI hbw hkw HIw3 HBw3 HLw3 HAw3
            try clear e0 e1
            have e0 : w4.cell? ⟨bp, 0, none⟩ = some (.string ps) := Lib.cell_of_heap HAw4.out 0
            have e1 : w4.cell? ⟨bp, 1, none⟩ = some (.string pt) := Lib.cell_of_heap HAw4.out 1
            go_wp2_with fail
            have hq := writestring_any b b (Lib.byteCells (txt true (L.take k) ++ [47] ++ ps.data.toList)) (⟨#[64]⟩ ++ pt) w4 HIw4.out (by rw [Lib.byteCells_length, size64]; (try simp only [List.length_append, List.length_cons, List.length_nil, Array.length_toList, size_data]); have := HLen.out; omega) (by have := HLw4.out; omega)
            have hcell := cells_at (txt true (L.take k) ++ [47] ++ ps.data.toList) pt
            generalize (⟨#[64]⟩ ++ pt : ByteArray) = Z at *
            refine hq.mono ?_
            clear hq
            rintro e w5 ⟨rfl, hI, hbw, hkw⟩
            have HIw5 : Hid (Lib.IsBuilderF 58 5 b b (Lib.byteCells (txt true (L.take k) ++ [47] ++ ps.data.toList ++ 64 :: pt.data.toList)) w5) := Lib.hid (.inr (by
              have h9 := hI
              rw [hcell] at h9
              exact h9))
            have HBw5 := Lib.hid (HBw4.out.trans (hbw.mono (by have := HBW.out; omega)))
            have HLw5 : Hid (b < w5.heap.size) := Lib.hid (Nat.lt_of_lt_of_le HLw4.out hbw.size)
            have HAw5 := Lib.hid (hkw bp _ HAw4.out (by have := HBP.out; simp; omega) (fun c fz h => by injection h with h1 h2; exact absurd h2 (by decide)))
            try clear hcell
            clear hI hbw hkw HIw4 HBw4 HLw4 HAw4
            try clear e0 e1
            have e0 : w5.cell? ⟨bp, 0, none⟩ = some (.string ps) := Lib.cell_of_heap HAw5.out 0
            have e1 : w5.cell? ⟨bp, 1, none⟩ = some (.string pt) := Lib.cell_of_heap HAw5.out 1
            go_wp2_with fail
            go_roundw
            case rel => exact ⟨k + 1, hlt, by go_num, Lib.hid (by rw [HSt.out]; exact HIw5.out), HBw5, HLw5⟩
            case measure => (simp [Go.RowKit.intOf]; try omega)
          · have HSt : Hid (txt true (L.take (k + 1)) = txt true (L.take k) ++ [47] ++ ps.data.toList) := Lib.hid (by rw [hst]; simp [hpt, hk1])
            have HLen : Hid ((txt true (L.take k)).length + 1 + ps.size + pt.size ≤ 200000) := Lib.hid (by omega)
            have hpti : (pt.size : Int) ≤ 100000 := by omega
            clear hst hmo
            go_wp2_with fail
            refine (writebyte_any b b (Lib.byteCells (txt true (L.take k))) 47 wA HIwA.out (by rw [Lib.byteCells_length]; (try simp only [List.length_append, List.length_cons, List.length_nil, Array.length_toList, size_data]); have := HLen.out; omega) (by have := HLwA.out; omega)).mono ?_
            rintro e w3 ⟨rfl, hI, hbw, hkw⟩
            have HIw3 : Hid (Lib.IsBuilderF 58 5 b b (Lib.byteCells (txt true (L.take k) ++ [47])) w3) := Lib.hid (.inr (by
              have h9 := hI
              rw [cells_b] at h9
              exact h9))
            have HBw3 := Lib.hid (HBwA.out.trans (hbw.mono (by have := HBW.out; omega)))
            have HLw3 : Hid (b < w3.heap.size) := Lib.hid (Nat.lt_of_lt_of_le HLwA.out hbw.size)
            have HAw3 := Lib.hid (hkw bp _ HAwA.out (by have := HBP.out; simp; omega) (fun c fz h => by injection h with h1 h2; exact absurd h2 (by decide)))
            try clear hcell
            clear hI hbw hkw HIwA HBwA HLwA HAwA
            try clear e0 e1
            have e0 : w3.cell? ⟨bp, 0, none⟩ = some (.string ps) := Lib.cell_of_heap HAw3.out 0
            have e1 : w3.cell? ⟨bp, 1, none⟩ = some (.string pt) := Lib.cell_of_heap HAw3.out 1
            go_wp2_with fail
            refine (writestring_any b b (Lib.byteCells (txt true (L.take k) ++ [47])) ps w3 HIw3.out (by rw [Lib.byteCells_length]; (try simp only [List.length_append, List.length_cons, List.length_nil, Array.length_toList, size_data]); have := HLen.out; omega) (by have := HLw3.out; omega)).mono ?_
            rintro e w4 ⟨rfl, hI, hbw, hkw⟩
            have HIw4 : Hid (Lib.IsBuilderF 58 5 b b (Lib.byteCells (txt true (L.take k) ++ [47] ++ ps.data.toList)) w4) := Lib.hid (.inr (by
              have h9 := hI
              rw [cells_s] at h9
              exact h9))
            have HBw4 := Lib.hid (HBw3.out.trans (hbw.mono (by have := HBW.out; omega)))
            have HLw4 : Hid (b < w4.heap.size) := Lib.hid (Nat.lt_of_lt_of_le HLw3.out hbw.size)
            have HAw4 := Lib.hid (hkw bp _ HAw3.out (by have := HBP.out; simp; omega) (fun c fz h => by injection h with h1 h2; exact absurd h2 (by decide)))
            try clear hcell
            clear hI hbw hkw HIw3 HBw3 HLw3 HAw3
            try clear e0 e1
            have e0 : w4.cell? ⟨bp, 0, none⟩ = some (.string ps) := Lib.cell_of_heap HAw4.out 0
            have e1 : w4.cell? ⟨bp, 1, none⟩ = some (.string pt) := Lib.cell_of_heap HAw4.out 1
            go_wp2_with fail
            go_roundw
            case rel => exact ⟨k + 1, hlt, by go_num, Lib.hid (by rw [HSt.out]; exact HIw4.out), HBw4, HLw4⟩
            case measure => (simp [Go.RowKit.intOf]; try omega)
      · obtain rfl : k = n := by omega
        have hI := HIk.out
        rw [List.take_of_length_le (Nat.le_of_eq HN.out)] at hI
        have HJ := Lib.hid hI
        clear hI HIk hlt hk
        go_wp2_with fail
        refine (Tryd.Builder_String_any_f b b (txt true L) wr HJ.out (by have := HLT.out; omega)).mono ?_
        rintro e w9 ⟨rfl, -, hb9⟩
        have HB9 := Lib.hid (HB.out.trans (hb9.mono (by have := HBW.out; omega)))
        clear hb9
        go_wp2_with fail
        go_ret
        exact ⟨rfl, HB9.out⟩
end Go.Proofs.YtehldpnhdnlljaaDoor.Pt
