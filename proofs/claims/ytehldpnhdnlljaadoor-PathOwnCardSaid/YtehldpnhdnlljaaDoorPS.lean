import Derived.Test.YtehldpnhdnlljaaDoorPR
/- The law PathParses. -/
namespace Go.Proofs.YtehldpnhdnlljaaDoor.Pt
set_option linter.unusedSimpArgs false
set_option linter.unusedVariables false
open Go.RowKit Go.Maps

/-- a slice of small numbers -/
def U8s (w : World) (v : Value) (ts : List Int) : Prop :=
  (∃ a cap, v = .slice a 0 cap ∧ ts = []) ∨ ∃ b off cap, v = .slice (some ⟨b, off, none⟩) ts.length cap ∧ b < w.heap.size ∧ ts.length ≤ maxLen ∧ ∀ i (h : i < ts.length), w.cell? ⟨b, off + i, none⟩ = some (.int .u8 ts[i])
theorem U8s.below {w w' : World} {v : Value} {ts : List Int} (h : U8s w v ts) (hb : Below w.heap.size w w') : U8s w' v ts := by
  rcases h with h | ⟨b, off, cap, hv, hlt, hm, hc⟩
  · exact .inl h
  · exact .inr ⟨b, off, cap, hv, Nat.lt_of_lt_of_le hlt hb.size, hm, fun i hi => (hb.cell (p := ⟨b, off + i, none⟩) hlt).trans (hc i hi)⟩
theorem U8s.form {w : World} {v : Value} {ts : List Int} (h : U8s w v ts) : ∃ a cap, v = .slice a ts.length cap ∧ ts.length ≤ maxLen := by
  rcases h with ⟨a, cap, rfl, rfl⟩ | ⟨b, off, cap, rfl, _, hm, _⟩
  · exact ⟨a, cap, rfl, by unfold maxLen; simp⟩
  · exact ⟨_, cap, rfl, hm⟩
theorem U8s.at {w : World} {a : Option Addr} {n cap : Nat} {ts : List Int} (h : U8s w (.slice a n cap) ts) (i : Nat) (hi : i < ts.length) : ∃ b off, a = some ⟨b, off, none⟩ ∧ b < w.heap.size ∧ w.cell? ⟨b, off + i, none⟩ = some (.int .u8 ts[i]) := by
  rcases h with ⟨a', cap', _, rfl⟩ | ⟨b, off, cap', hv, hlt, _, hc⟩
  · simp at hi
  · have : a = some ⟨b, off, none⟩ := by injection hv
    exact ⟨b, off, this, hlt, hc i hi⟩
def strsV : List Value := [.string ⟨#[47]⟩, .string ⟨#[47, 47]⟩, .string ⟨#[97]⟩, .string ⟨#[98, 64, 108, 111, 119]⟩, .string ⟨#[64, 114, 101, 100]⟩, .string ⟨#[46, 46]⟩, .string ⟨#[46]⟩, .string ⟨#[46, 64, 120]⟩, .string ⟨#[64]⟩, .string ⟨#[120, 64]⟩, .string ⟨#[120, 64, 85, 80]⟩, .string ⟨#[102, 111, 117, 114, 116, 101, 101, 110, 45, 98, 121, 116, 101, 115]⟩, .string ⟨#[102, 105, 102, 116, 101, 101, 110, 45, 45, 98, 121, 116, 101, 115, 45]⟩, .string ⟨#[97, 64, 98, 64, 99]⟩, .string ⟨#[101, 46, 102]⟩, .string ⟨#[32]⟩, .string ⟨#[127]⟩, .string ⟨#[195, 169]⟩, .string ⟨#[64, 116, 111, 111, 108, 111, 110, 103, 110, 97, 109, 101]⟩, .string ⟨#[46, 46, 97]⟩]
def shortS : Value → Bool
  | .string c => decide (c.size ≤ 15)
  | _ => false
theorem strs_short : strsV.all shortS = true := by decide +kernel
theorem strs_at (j : Nat) (h : j < 20) : ∃ c : ByteArray, strsV[j]? = some (.string c) ∧ c.size ≤ 15 := by
  have hl : j < strsV.length := h
  have h2 := List.all_eq_true.1 strs_short strsV[j] (List.getElem_mem hl)
  rw [List.getElem?_eq_getElem hl]
  generalize strsV[j] = v at h2
  cases v with
  | string c => exact ⟨c, rfl, of_decide_eq_true h2⟩
  | _ => cases h2
theorem baL_data (X : ByteArray) : baL X.data.toList = X := by unfold baL; simp
set_option maxHeartbeats 40000000 in
set_option maxRecDepth 100000 in
theorem pathparses_walk (s : ByteArray) (lv : Value) (zs : List Int) (hz : ∀ z ∈ zs, 0 ≤ z ∧ z < 256) (m : Int) (w : World) (hU : U8s w lv zs) (hm : w.cell? ⟨0, 0, none⟩ = some (.int .i64 m)) :
    Calls Tryd.prog 3 #[.string s, lv] w fun e w' => e = .returned (.bool true) ∧ Below w.heap.size w w' := by
  have h00 := World.block_lt_of_cell? w _ hm
  have HM := Lib.hid hm
  have HZ := Lib.hid hz
  obtain ⟨la, lc, rfl, hzl⟩ := U8s.form hU
  have HU := Lib.hid hU
  obtain ⟨n, hn⟩ : ∃ n, zs.length = n := ⟨_, rfl⟩
  rw [hn] at hU HU hzl
  try rw [hn]
  have HN := Lib.hid hn
  have hn0 : (0 : Int) ≤ n := by omega
  have hn9 : (n : Int) ≤ 9223372036854775807 := by unfold maxLen at hzl; omega
  clear hm hz hU hn hzl
  obtain ⟨sz, hsz⟩ : ∃ x, s.size = x := ⟨_, rfl⟩
  have HSz := Lib.hid hsz
  go_enter Tryd.func3, Tryd.ntmps3
  go_wp2_with fail
  refine (awake_any m w HM.out).mono ?_
  rintro e w1 ⟨rfl, hb1⟩
  have HB1 := Lib.hid hb1
  clear hb1
  by_cases hbig : 400 < sz
  · have h4 : (400 : Int) < sz := by omega
    go_wp2_with fail
    go_ret
    exact ⟨rfl, HB1.out⟩
  · have h4 : ¬ ((400 : Int) < sz) := by omega
    have h5 : (sz : Int) ≤ 400 := by omega
    go_upto_region 7 with fail
    have hb2 : Below w1.heap.size w1 (w1.alloc (.cells strsV.toArray 9)) := below_alloc0 w1 _ _
    have hst : ∀ j v, strsV[j]? = some v → (w1.alloc (.cells strsV.toArray 9)).cell? ⟨w1.heap.size, j, none⟩ = some v := fun j v hv => by
      rw [World.cell?_alloc_at _ _ _ _ rfl]
      simpa using hv
    have hsz2 : (w1.alloc (.cells strsV.toArray 9)).heap.size = w1.heap.size + 1 := by simp
    have HB2 := Lib.hid (HB1.out.trans (hb2.mono HB1.out.size))
    have HU2 := Lib.hid (HU.out.below HB2.out)
    have HM2 := Lib.hid ((HB2.out.cell (p := ⟨0, 0, none⟩) h00).trans HM.out)
    obtain ⟨sb, hsb⟩ : ∃ x, w1.heap.size = x := ⟨_, rfl⟩
    obtain ⟨w2, hw2⟩ : ∃ x, w1.alloc (.cells strsV.toArray 9) = x := ⟨_, rfl⟩
    rw [hsb, hw2] at hst
    rw [hw2] at HB2 HU2 HM2
    have hw2' : w1.alloc (.cells #[.string ⟨#[47]⟩, .string ⟨#[47, 47]⟩, .string ⟨#[97]⟩, .string ⟨#[98, 64, 108, 111, 119]⟩, .string ⟨#[64, 114, 101, 100]⟩, .string ⟨#[46, 46]⟩, .string ⟨#[46]⟩, .string ⟨#[46, 64, 120]⟩, .string ⟨#[64]⟩, .string ⟨#[120, 64]⟩, .string ⟨#[120, 64, 85, 80]⟩, .string ⟨#[102, 111, 117, 114, 116, 101, 101, 110, 45, 98, 121, 116, 101, 115]⟩, .string ⟨#[102, 105, 102, 116, 101, 101, 110, 45, 45, 98, 121, 116, 101, 115, 45]⟩, .string ⟨#[97, 64, 98, 64, 99]⟩, .string ⟨#[101, 46, 102]⟩, .string ⟨#[32]⟩, .string ⟨#[127]⟩, .string ⟨#[195, 169]⟩, .string ⟨#[64, 116, 111, 111, 108, 111, 110, 103, 110, 97, 109, 101]⟩, .string ⟨#[46, 46, 97]⟩] 9) = w2 := hw2
    rw [hw2']
    try rw [hsb]
    have HSt := Lib.hid hst
    clear hb2 hst hsz2 hw2 hw2' hsb HU HM HB1
    go_wp2_with fail
    go_loopw [6, 7, 8, 9, 29] (fun tv _ _ _ iv wr => ∃ (k : Nat) (T : ByteArray), k ≤ n ∧ iv = .int .i64 k ∧ tv = .string T ∧ T.size ≤ 15 * k ∧ T.size ≤ 210 ∧ wr = w2) (fun _ _ _ _ iv _ => n - (Go.RowKit.intOf iv).toNat)
    case atStart => exact ⟨0, ⟨#[]⟩, Nat.zero_le _, rfl, rfl, Nat.zero_le _, Nat.zero_le _, rfl⟩
    case round =>
      obtain ⟨k, T, hk, rfl, rfl, hT1, hT2, rfl⟩ := hrel
      have hk0 : (0 : Int) ≤ k := by omega
      by_cases hlt : k < n
      · have hki : (k : Int) < n := by omega
        have hw1 : IntKind.i64.wrap ((k : Int) + 1) = ((k + 1 : Nat) : Int) := by rw [IntKind.wrap_i64]; omega
        obtain ⟨z, hz0⟩ : ∃ z, zs[k]? = some z := ⟨_, List.getElem?_eq_getElem (by rw [HN.out]; exact hlt)⟩
        obtain ⟨ub, uo, rfl, hc⟩ : ∃ b o, la = some ⟨b, o, none⟩ ∧ wr.cell? ⟨b, o + k, none⟩ = some (.int .u8 z) := by
          rcases HU2.out with ⟨a, cap, h1, h2⟩ | ⟨b, off, cap, h1, -, -, h2⟩
          · rw [h2] at hz0; simp at hz0
          · injection h1 with h1 h3 h4
            refine ⟨b, off, h1, ?_⟩
            have h5 := h2 k (by rw [HN.out]; exact hlt)
            rw [h5]
            rw [List.getElem?_eq_getElem (by rw [HN.out]; exact hlt)] at hz0
            rw [Option.some.inj hz0]
        obtain ⟨z0, z1⟩ := HZ.out z (List.mem_of_getElem? hz0)
        have hzw : IntKind.i64.wrap z = z := IntWalk.i64_in _ (by omega)
        clear hz0
        by_cases h14 : k < 14
        · have g1 : (k : Int) < 14 := by omega
          by_cases h20 : z < 20
          · obtain ⟨zn, rfl⟩ := Int.eq_ofNat_of_zero_le z0
            obtain ⟨c, hc1, hc2⟩ := strs_at zn (by omega)
            have hc3 := HSt.out zn _ hc1
            have hzz : (zn : Int) < 20 := h20
            have hTi : (T.size : Int) ≤ 210 := by omega
            have hci : (c.size : Int) ≤ 15 := by omega
            clear hc1
            go_wp2_with fail
            go_roundw
            case rel => exact ⟨k + 1, T ++ c, hlt, by go_num, rfl, by rw [ByteArray.size_append]; omega, by rw [ByteArray.size_append]; omega, trivial⟩
            case measure => (simp [Go.RowKit.intOf]; try omega)
          · have hTi : (T.size : Int) ≤ 210 := by omega
            go_wp2_with fail
            go_roundw
            case rel => exact ⟨k + 1, T ++ ⟨#[47]⟩, hlt, by go_num, rfl, by rw [ByteArray.size_append]; show T.size + 1 ≤ _; omega, by rw [ByteArray.size_append]; show T.size + 1 ≤ _; omega, trivial⟩
            case measure => (simp [Go.RowKit.intOf]; try omega)
        · have g1 : ¬ ((k : Int) < 14) := by omega
          go_wp2_with fail
          go_roundw
          case rel => exact ⟨k + 1, T, hlt, by go_num, rfl, by omega, hT2, trivial⟩
          case measure => (simp [Go.RowKit.intOf]; try omega)
      · obtain rfl : k = n := by omega
        clear hlt hk
        obtain ⟨w3, rfl⟩ : ∃ x, x = wr := ⟨wr, rfl⟩
        have hXs : ∀ (j : Nat) (X : ByteArray), ([s, T] : List ByteArray)[j]? = some X → X.size ≤ 400 := fun j X hX => by
          rcases j with _ | _ | j
          · simp only [List.getElem?_cons_zero, Option.some.injEq] at hX
            subst hX
            have := HSz.out
            omega
          · simp only [List.getElem?_cons_succ, List.getElem?_cons_zero, Option.some.injEq] at hX
            subst hX
            omega
          · simp at hX
        have HXs := Lib.hid hXs
        clear hXs hT1 hT2
        go_upto_region 17 with fail
        have hb3 : Below w3.heap.size w3 (w3.alloc (.cells #[.string s, .string T] 9)) := below_alloc0 w3 _ _
        have hst : ∀ (j : Nat) (X : ByteArray), ([s, T] : List ByteArray)[j]? = some X → (w3.alloc (.cells #[.string s, .string T] 9)).cell? ⟨w3.heap.size, j, none⟩ = some (.string X) := fun j X hX => by
          rw [World.cell?_alloc_at _ _ _ _ rfl]
          rcases j with _ | _ | j
          · simp only [List.getElem?_cons_zero, Option.some.injEq] at hX
            subst hX
            rfl
          · simp only [List.getElem?_cons_succ, List.getElem?_cons_zero, Option.some.injEq] at hX
            subst hX
            rfl
          · simp at hX
        have HB4 := Lib.hid (HB2.out.trans (hb3.mono HB2.out.size))
        have HM4 := Lib.hid ((hb3.cell (p := ⟨0, 0, none⟩) (by have := HB2.out.size; show 0 < _; omega)).trans HM2.out)
        have hlt4 : w3.heap.size < (w3.alloc (.cells #[.string s, .string T] 9)).heap.size := by simp
        have h04 : 0 < w3.heap.size := by have := HB2.out.size; omega
        obtain ⟨qb, hqb⟩ : ∃ x, w3.heap.size = x := ⟨_, rfl⟩
        obtain ⟨w4, hw4⟩ : ∃ x, w3.alloc (.cells #[.string s, .string T] 9) = x := ⟨_, rfl⟩
        rw [hqb] at hst hlt4 h04
        rw [hw4] at hst HB4 HM4 hlt4
        try rw [hqb]
        try rw [hw4]
        have HQ := Lib.hid hst
        have HL4 := Lib.hid (⟨h04, hlt4⟩ : 0 < qb ∧ qb < w4.heap.size)
        clear hb3 hst hqb hw4 hlt4 h04 HB2 HM2 HU2 HSt
        go_loopw [11, 12, 13, 14, 15, 16, 17, 18, 19, 20, 55] (fun _ _ _ _ _ _ _ _ _ _ iv wr => ∃ k : Nat, k ≤ 2 ∧ iv = .int .i64 k ∧ Hid (Below w4.heap.size w4 wr)) (fun _ _ _ _ _ _ _ _ _ _ iv _ => 2 - (Go.RowKit.intOf iv).toNat)
        case atStart => exact ⟨0, Nat.zero_le _, rfl, Lib.hid (Below.refl _ _)⟩
        case round =>
          obtain ⟨k, hk, rfl, HB⟩ := hrel
          have hk0 : (0 : Int) ≤ k := by omega
          by_cases hlt : k < 2
          · have hki : (k : Int) < 2 := by omega
            obtain ⟨X, hX⟩ : ∃ X, ([s, T] : List ByteArray)[k]? = some X := ⟨_, List.getElem?_eq_getElem (by simpa using hlt)⟩
            have hc := (HB.out.cell (World.block_lt_of_cell? w4 _ (HQ.out k X hX))).trans (HQ.out k X hX)
            have hx := HXs.out k X hX
            obtain ⟨l, rfl⟩ : ∃ l, baL l = X := ⟨_, baL_data X⟩
            rw [baL_size] at hx
            have HMr := Lib.hid ((HB.out.cell (p := ⟨0, 0, none⟩) (by have := HL4.out; show 0 < _; omega)).trans HM4.out)
            have HP1 := Lib.hid (fun W hW => parse_any l m W hW)
            have HP2 := Lib.hid (fun W => rparse_any l W)
            have HP3 := Lib.hid (fun W hW => part_any l m W (by omega) hW)
            have HP4 := Lib.hid (fun W => rpart_any l W (by omega))
            obtain ⟨hok, hlen⟩ := parseC_ok l
            have hokp : okP (partC l).1 := okP_of (by omega)
            obtain ⟨ra, L, rc, hR⟩ : ∃ ra L rc, parseC l = ((ra, L), rc) := ⟨_, _, _, rfl⟩
            obtain ⟨p, pcd, hPc⟩ : ∃ p pcd, partC l = (p, pcd) := ⟨_, _, rfl⟩
            rw [hR] at HP1 HP2 hok hlen
            rw [hPc] at HP3 HP4 hokp
            change Hid (∀ W, _ → Calls Tryd.prog 8 #[.string (baL l)] W fun e w' => ∃ v, e = .returned (.tuple #[.agg #[.bool ra, v], .int .i64 rc]) ∧ w'.ownsRow W.heap.size 34 2 v L.length (flP L) ∧ Below W.heap.size W w') at HP1
            change Hid (∀ W, Calls Tryd.prog 9 #[.string (baL l)] W fun e w' => ∃ v, e = .returned (.tuple #[.bool ra, v, .int .i64 rc]) ∧ w'.ownsRow W.heap.size 34 2 v L.length (flP L) ∧ Below W.heap.size W w') at HP2
            obtain ⟨ps, pt⟩ := p
            change Hid (∀ W, _ → Calls Tryd.prog 10 #[.string (baL l)] W fun e w' => e = .returned (.tuple #[.agg #[.string ps, .string pt], .int .i64 pcd]) ∧ Below W.heap.size W w') at HP3
            change Hid (∀ W, Calls Tryd.prog 11 #[.string (baL l)] W fun e w' => e = .returned (.tuple #[.agg #[.string ps, .string pt], .int .i64 pcd]) ∧ Below W.heap.size W w') at HP4
            have HSm := Lib.hid (fun v1 v2 W h1 h2 => same_any v1 v2 L L hok hok (Nat.le_trans hlen (by omega)) W h1 h2)
            have hE : ∀ W, (Op.equalIn 10000 34 (.agg #[.string ps, .string pt]) (.agg #[.string ps, .string pt])).run Tryd.prog W = .ok true W := fun W => by
              have := eqPr (ps, pt) (ps, pt) hokp hokp W
              rw [decide_eq_true rfl] at this
              exact this
            have HE := Lib.hid hE
            clear hX hR hPc hok hlen hokp hE hx
            generalize baL l = X at *
            go_wp2_with fail
            refine (HP1.out wr HMr.out).mono ?_
            rintro e w5 ⟨v1, rfl, hO1, hb5⟩
            obtain ⟨q1, c1, rfl⟩ := ownsRow_form hO1
            have O1 := Lib.hid (Ps.own hO1)
            have B5 := Lib.hid (HB.out.trans (hb5.mono HB.out.size))
            clear hO1 hb5 HP1
            obtain ⟨nl, hnl⟩ : ∃ x, L.length = x := ⟨_, rfl⟩
            rw [hnl] at O1 HP2
            try rw [hnl]
            clear hnl
            go_wp2_with fail
            have V6 := Lib.hid (Vl.new w5 [.bool ra, .slice q1 nl c1] 27)
            have hb6 : Below w5.heap.size w5 (w5.alloc (.cells #[.bool ra, .slice q1 nl c1] 27)) := below_alloc0 w5 _ _
            change Hid (Vl (w5.alloc (.cells #[.bool ra, .slice q1 nl c1] 27)) w5.heap.size [.bool ra, .slice q1 nl c1]) at V6
            have B6 := Lib.hid (B5.out.trans (hb6.mono B5.out.size))
            have O6 := Lib.hid (O1.out.keep hb6)
            obtain ⟨b12, h12⟩ : ∃ x, w5.heap.size = x := ⟨_, rfl⟩
            obtain ⟨w6, hw6⟩ : ∃ x, w5.alloc (.cells #[.bool ra, .slice q1 nl c1] 27) = x := ⟨_, rfl⟩
            rw [hw6] at V6 B6 O6
            rw [h12] at V6
            try rw [hw6]
            try rw [h12]
            clear hb6 h12 hw6 O1 B5
            refine (HP2.out w6).mono ?_
            rintro e w7 ⟨v2, rfl, hO2, hb7⟩
            obtain ⟨q2, c2, rfl⟩ := ownsRow_form hO2
            have hO2' : Ps w7 (.slice q2 nl c2) L := by
              have hl : nl = L.length := by have h1 := hO2.1; rw [flP_len] at h1; omega
              have h3 := hO2
              rw [hl] at h3 ⊢
              exact Ps.own h3
            have O7 := Lib.hid (O6.out.keep hb7)
            have P7 := Lib.hid hO2'
            have V7 := Lib.hid (V6.out.keep hb7)
            have B7 := Lib.hid (B6.out.trans (hb7.mono B6.out.size))
            clear hO2 hO2' hb7 HP2 O6 V6 B6
            have HM7 := Lib.hid ((B7.out.cell (p := ⟨0, 0, none⟩) (by have := HL4.out; show 0 < _; omega)).trans HM4.out)
            go_wp2_with fail
            refine (HP3.out w7 HM7.out).mono ?_
            rintro e w8 ⟨rfl, hb8⟩
            have O8 := Lib.hid (O7.out.keep hb8)
            have P8 := Lib.hid (P7.out.keep hb8)
            have V8 := Lib.hid (V7.out.keep hb8)
            have B8 := Lib.hid (B7.out.trans (hb8.mono B7.out.size))
            clear hb8 HP3 O7 P7 V7 B7 HM7
            go_wp2_with fail
            have U9 := Lib.hid (Vl.new w8 [.string ps, .string pt] 34)
            have hb9 : Below w8.heap.size w8 (w8.alloc (.cells #[.string ps, .string pt] 34)) := below_alloc0 w8 _ _
            change Hid (Vl (w8.alloc (.cells #[.string ps, .string pt] 34)) w8.heap.size [.string ps, .string pt]) at U9
            have O9 := Lib.hid (O8.out.keep hb9)
            have P9 := Lib.hid (P8.out.keep hb9)
            have V9 := Lib.hid (V8.out.keep hb9)
            have B9 := Lib.hid (B8.out.trans (hb9.mono B8.out.size))
            obtain ⟨b17, h17⟩ : ∃ x, w8.heap.size = x := ⟨_, rfl⟩
            obtain ⟨w9, hw9⟩ : ∃ x, w8.alloc (.cells #[.string ps, .string pt] 34) = x := ⟨_, rfl⟩
            rw [hw9] at U9 O9 P9 V9 B9
            rw [h17] at U9
            try rw [hw9]
            try rw [h17]
            clear hb9 h17 hw9 O8 P8 V8 B8
            refine (HP4.out w9).mono ?_
            rintro e w10 ⟨rfl, hb10⟩
            have O10 := Lib.hid (O9.out.keep hb10)
            have P10 := Lib.hid (P9.out.keep hb10)
            have V10 := Lib.hid (V9.out.keep hb10)
            have U10 := Lib.hid (U9.out.keep hb10)
            have B10 := Lib.hid (B9.out.trans (hb10.mono B9.out.size))
            clear hb10 HP4 O9 P9 V9 B9 U9
            go_upto_region 23 with fail
            have T11 := Lib.hid (Vl.new w10 [.string ps, .string pt] 34)
            have hb11 : Below w10.heap.size w10 (w10.alloc (.cells #[.string ps, .string pt] 34)) := below_alloc0 w10 _ _
            change Hid (Vl (w10.alloc (.cells #[.string ps, .string pt] 34)) w10.heap.size [.string ps, .string pt]) at T11
            have O11 := Lib.hid (O10.out.keep hb11)
            have P11 := Lib.hid (P10.out.keep hb11)
            have V11 := Lib.hid (V10.out.keep hb11)
            have U11 := Lib.hid (U10.out.keep hb11)
            have B11 := Lib.hid (B10.out.trans (hb11.mono B10.out.size))
            obtain ⟨b19, h19⟩ : ∃ x, w10.heap.size = x := ⟨_, rfl⟩
            obtain ⟨w11, hw11⟩ : ∃ x, w10.alloc (.cells #[.string ps, .string pt] 34) = x := ⟨_, rfl⟩
            rw [hw11] at T11 U11 O11 P11 V11 B11
            rw [h19] at T11
            try rw [hw11]
            try rw [h19]
            clear hb11 h19 hw11 O10 P10 V10 B10 U10
            have d0 := V11.out.c 0 _ rfl
            have d1 := V11.out.c 1 _ rfl
            have e0 := U11.out.c 0 _ rfl
            have e1 := U11.out.c 1 _ rfl
            have f0 := T11.out.c 0 _ rfl
            have f1 := T11.out.c 1 _ rfl
            have hE := HE.out
            go_wp2_with fail
            refine (HSm.out _ _ w11 O11.out P11.out).mono ?_
            rintro e w12 ⟨rfl, hb12⟩
            simp only [decide_true]
            clear d0 d1 e0 e1 f0 f1
            have U12 := U11.out.keep hb12
            have T12 := T11.out.keep hb12
            have e0 := U12.c 0 _ rfl
            have e1 := U12.c 1 _ rfl
            have f0 := T12.c 0 _ rfl
            have f1 := T12.c 1 _ rfl
            have B12 := Lib.hid (B11.out.trans (hb12.mono B11.out.size))
            clear hb12 O11 P11 V11 U11 T11 B11 U12 T12 HSm
            go_wp2_with fail
            go_roundw
            case rel => exact ⟨k + 1, hlt, by go_num, B12⟩
            case measure => (simp [Go.RowKit.intOf]; try omega)
          · obtain rfl : k = 2 := by omega
            have hB := HB4.out.trans (HB.out.mono HB4.out.size)
            have HB9 := Lib.hid hB
            clear hB HB hlt hk
            go_wp2_with fail
            go_ret
            exact ⟨rfl, HB9.out⟩
end Go.Proofs.YtehldpnhdnlljaaDoor.Pt
