import Derived.Test.YtfkiinbmbbhbkaaDoorCM
import Derived.Test.YtfkiinbmbbhbkaaDoorC2
import Derived.Test.YtfkiinbmbbhbkaaDoorW3
import Derived.Test.YtfkiinbmbbhbkaaDoorMath
import Derived.Deep.Draws
import Derived.Deep.CutBlock
import Derived.Deep.DeepCutAuto
import Derived.StillTailTactics
import Derived.Deep.QuietTactic
import Derived.BigQuiet
/- The answer's Right: New's error. -/
namespace Go.Proofs.YtfkiinbmbbhbkaaDoor
set_option linter.unusedSimpArgs false
set_option linter.unusedVariables false
open Go.RowKit Go.Maps


theorem newE_reg {rs : List Rg} (ms : List (Int × Int)) (h1 : 1 ≤ rs.length) (h64 : rs.length ≤ 64) (i : Nat) (hi : i < rs.length) (h : regsE rs i = 0) (hE : oneE rs i ≠ 0) : newE rs ms = oneE rs i := by
  have h2 := regsE_step rs i h
  have h3 := regsE_bad rs (i + 1) (by rw [h2]; exact hE) rs.length (by omega)
  rw [h2] at h3
  unfold newE
  rw [if_neg (by omega), if_pos (by rw [h3]; exact hE), h3]
theorem oneE_word {rs : List Rg} {i : Nat} (hi : i < rs.length) (h : nameB rs[i].nm = false) : oneE rs i = 30 := by
  unfold oneE
  have e : rs.getD i zeroRg = rs[i] := by rw [List.getD_eq_getElem?_getD, List.getElem?_eq_getElem hi]; rfl
  simp only [e]
  rw [if_pos h]
def twB (rs : List Rg) (r : Rg) (q : Nat) : Prop := (rs.getD q zeroRg).nm = r.nm ∨ ((rs.getD q zeroRg).lv = r.lv ∧ (rs.getD q zeroRg).cs = r.cs)
theorem twB_get {rs : List Rg} {r : Rg} {q : Nat} (h : q < rs.length) : twB rs r q ↔ (rs[q].nm = r.nm ∨ (rs[q].lv = r.lv ∧ rs[q].cs = r.cs)) := by
  have e : rs.getD q zeroRg = rs[q] := by rw [List.getD_eq_getElem?_getD, List.getElem?_eq_getElem h]; rfl
  unfold twB
  rw [e]
theorem str_ne {s t : ByteArray} (h : s ≠ t) : (s.toList == t.toList) = false := by
  rw [beq_eq_false_iff_ne]
  intro e
  rw [ByteArray.toList_eq, ByteArray.toList_eq] at e
  exact h (ByteArray.ext (Array.ext' e))
def rngB (rs : List Rg) (r : Rg) : Bool := haveB r && decide (0 ≤ r.cl) && decide (r.cl < rs.length)
theorem oneE_range {rs : List Rg} {i : Nat} (hi : i < rs.length) (h : nameB rs[i].nm = true) (h2 : rngB rs rs[i] = false) : oneE rs i = 27 := by
  unfold oneE
  have e : rs.getD i zeroRg = rs[i] := by rw [List.getD_eq_getElem?_getD, List.getElem?_eq_getElem hi]; rfl
  simp only [e]
  unfold rngB at h2
  rw [if_neg (by rw [h]; decide), if_pos h2]
theorem oneE_twice {rs : List Rg} {i j : Nat} (hi : i < rs.length) (hj : j < i) (h : nameB rs[i].nm = true) (h2 : rngB rs rs[i] = true) (h3 : twB rs rs[i] j) : oneE rs i = 29 := by
  unfold oneE
  have e : rs.getD i zeroRg = rs[i] := by rw [List.getD_eq_getElem?_getD, List.getElem?_eq_getElem hi]; rfl
  simp only [e]
  unfold rngB at h2
  rw [if_neg (by rw [h]; decide), if_neg (by rw [h2]; decide), if_pos]
  rw [List.any_eq_true]
  rw [twB_get (by omega)] at h3
  refine ⟨rs[j], ?_, by simpa using h3⟩
  rw [List.mem_take_iff_getElem]
  exact ⟨j, by omega, rfl⟩
theorem oneE_ok {rs : List Rg} {i : Nat} (hi : i < rs.length) (h : nameB rs[i].nm = true) (h2 : rngB rs rs[i] = true) (h3 : ∀ j, j < i → ¬ twB rs rs[i] j) : oneE rs i = 0 := by
  unfold oneE
  have e : rs.getD i zeroRg = rs[i] := by rw [List.getD_eq_getElem?_getD, List.getElem?_eq_getElem hi]; rfl
  simp only [e]
  unfold rngB at h2
  rw [if_neg (by rw [h]; decide), if_neg (by rw [h2]; decide), if_neg]
  rw [List.any_eq_true]
  rintro ⟨x, hx, hp⟩
  rw [List.mem_take_iff_getElem] at hx
  obtain ⟨j, hj, rfl⟩ := hx
  exact h3 j (by omega) (by rw [twB_get (by omega)]; simpa using hp)

theorem newE_conf (rs : List Rg) (ms : List (Int × Int)) (h1 : 0 < rs.length) (h2 : rs.length ≤ 64) (h3 : regsE rs rs.length = 0) (h : (rs.getD 0 zeroRg).lv ≠ 0 ∨ (rs.getD 0 zeroRg).cs ≠ 0) : newE rs ms = 25 := by
  unfold newE
  rw [if_neg (by omega), if_neg (by rw [h3]; simp), if_pos]
  rw [Bool.and_eq_false_iff]
  rcases h with h | h
  · exact .inl (decide_eq_false h)
  · exact .inr (decide_eq_false h)

def mrB (rs : List Rg) (m : Int × Int) : Bool := (regAt rs m.1).2 && decide (1 ≤ m.2) && decide (m.2 ≤ (regAt rs m.1).1.nd)
def tmB (ms : List (Int × Int)) (m : Int × Int) (q : Nat) : Prop := (ms.getD q (0, 0)).1 = m.1 ∧ (ms.getD q (0, 0)).2 = m.2
theorem msD {ms : List (Int × Int)} {q : Nat} (h : q < ms.length) : ms.getD q (0, 0) = ms[q] := by rw [List.getD_eq_getElem?_getD, List.getElem?_eq_getElem h]; rfl
theorem markOne_range {rs : List Rg} {ms : List (Int × Int)} {k : Nat} (hk : k < ms.length) (h : mrB rs ms[k] = false) : markOne rs ms k = 27 := by
  unfold markOne
  simp only [msD hk]
  unfold mrB at h
  rw [if_pos h]
theorem markOne_twice {rs : List Rg} {ms : List (Int × Int)} {k j : Nat} (hk : k < ms.length) (hj : j < k) (h : mrB rs ms[k] = true) (h2 : tmB ms ms[k] j) : markOne rs ms k = 29 := by
  unfold markOne
  simp only [msD hk]
  unfold mrB at h
  rw [if_neg (by rw [h]; decide), if_pos]
  unfold tmB at h2
  rw [msD (by omega)] at h2
  rw [List.any_eq_true]
  refine ⟨ms[j], ?_, by simpa using h2⟩
  rw [List.mem_take_iff_getElem]
  exact ⟨j, by omega, rfl⟩
theorem markOne_ok {rs : List Rg} {ms : List (Int × Int)} {k : Nat} (hk : k < ms.length) (h : mrB rs ms[k] = true) (h2 : ∀ j, j < k → ¬ tmB ms ms[k] j) : markOne rs ms k = 0 := by
  unfold markOne
  simp only [msD hk]
  unfold mrB at h
  rw [if_neg (by rw [h]; decide), if_neg]
  rw [List.any_eq_true]
  rintro ⟨x, hx, hp⟩
  rw [List.mem_take_iff_getElem] at hx
  obtain ⟨j, hj, rfl⟩ := hx
  refine h2 j (by omega) ?_
  unfold tmB
  rw [msD (by omega)]
  simpa using hp
theorem marksE_one {rs : List Rg} {ms : List (Int × Int)} {k : Nat} (hk : k < ms.length) (h : marksE rs ms k = 0) (hE : markOne rs ms k ≠ 0) : marksE rs ms ms.length = markOne rs ms k := by
  have h2 := marksE_step rs ms k h
  have h3 := marksE_bad rs ms (k + 1) (by rw [h2]; exact hE) ms.length (by omega)
  rw [h3, h2]

set_option maxHeartbeats 400000000 in
set_option maxRecDepth 200000 in
theorem right_any (b off cap : Nat) (vm : Value) (rs : List Rg) (ms : List (Int × Int)) (w : World) (hbl : b < w.heap.size) (h1 : 1 ≤ rs.length) (h64 : rs.length ≤ 64) (hr : Row9 w b off rs) (hok : ∀ r ∈ rs, r.ok) (hms : Mks w vm ms) (hmk : ∀ m ∈ ms, markOk m) (hml : ms.length ≤ 5000) :
    Calls Tryd.prog 10 #[.slice (some ⟨b, off, none⟩) rs.length cap, vm] w fun e w' => e = .returned (.int .i64 (newE rs ms)) ∧ Below w.heap.size w w' := by
  have HRow := Lib.hid hr
  have HMs := Lib.hid hms
  have HOk := Lib.hid hok
  have HMk := Lib.hid hmk
  obtain ⟨am, cm, rfl⟩ := hms.form
  have hl1 : (1 : Int) ≤ rs.length := by omega
  have hl64 : (rs.length : Int) ≤ 64 := by omega
  have hm0 : (0 : Int) ≤ ms.length := by omega
  have hm5 : (ms.length : Int) ≤ 5000 := by omega
  clear hr hms hok hmk
  go_enter Tryd.func10, Tryd.ntmps10
  go_wp2_with fail
  go_loopw [5, 6, 7] (fun iv _ _ wr => ∃ i : Nat, i ≤ rs.length ∧ iv = .int .i64 i ∧ regsE rs i = 0 ∧ Below w.heap.size w wr) (fun iv _ _ _ => rs.length - (intOf iv).toNat)
  case atStart => exact ⟨0, by omega, rfl, rfl, Below.refl _ _⟩
  case round =>
    obtain ⟨i, hi, rfl, hreg, hb⟩ := hrel
    have HX := Lib.hid hb
    have HReg := Lib.hid hreg
    have hi0 : (0 : Int) ≤ i := by omega
    have hi64 : (i : Int) ≤ 64 := by omega
    have hwz := hb.size
    obtain ⟨wX, rfl⟩ : ∃ x, x = wr := ⟨wr, rfl⟩
    by_cases hlt : i < rs.length
    · have hlti : (i : Int) < rs.length := by omega
      have e0 := (hb.cell (p := ⟨b, off + i * 9, none⟩) hbl).trans (HRow.out.k0 i hlt)
      have e1 := (hb.cell (p := ⟨b, off + i * 9 + 1, none⟩) hbl).trans (HRow.out.k1 i hlt)
      have e2 := (hb.cell (p := ⟨b, off + i * 9 + 2, none⟩) hbl).trans (HRow.out.k2 i hlt)
      have e3 := (hb.cell (p := ⟨b, off + i * 9 + 3, none⟩) hbl).trans (HRow.out.k3 i hlt)
      have e4 := (hb.cell (p := ⟨b, off + i * 9 + 4, none⟩) hbl).trans (HRow.out.k4 i hlt)
      have e5 := (hb.cell (p := ⟨b, off + i * 9 + 5, none⟩) hbl).trans (HRow.out.k5 i hlt)
      have e6 := (hb.cell (p := ⟨b, off + i * 9 + 6, none⟩) hbl).trans (HRow.out.k6 i hlt)
      have e7 := (hb.cell (p := ⟨b, off + i * 9 + 7, none⟩) hbl).trans (HRow.out.k7 i hlt)
      have e8 := (hb.cell (p := ⟨b, off + i * 9 + 8, none⟩) hbl).trans (HRow.out.k8 i hlt)
      have HN := Lib.hid (fun W => refname_any rs[i].nm W)
      obtain ⟨r, hrk⟩ : ∃ r, rs[i] = r := ⟨_, rfl⟩
      rw [hrk] at e0 e1 e2 e3 e4 e5 e6 e7 e8 HN
      have HRK := Lib.hid hrk
      clear hb hreg hrk
      go_upto_region 7 with fail
      have B1 := Lib.hid (Box9.new wX r 39)
      have X1 := Lib.hid (HX.out.alloc hwz (.cells #[.string r.nm, .int .u8 r.lv, .int .u16 r.cs, .int .i64 r.bl, .int .i64 r.nd, .int .i64 r.fr, .int .i64 r.pr, .int .i64 r.op, .int .i64 r.cl] 39))
      have hlt1 : wX.heap.size < (wX.alloc (.cells #[.string r.nm, .int .u8 r.lv, .int .u16 r.cs, .int .i64 r.bl, .int .i64 r.nd, .int .i64 r.fr, .int .i64 r.pr, .int .i64 r.op, .int .i64 r.cl] 39)).heap.size := by simp
      obtain ⟨w1, hw1⟩ : ∃ x, wX.alloc (.cells #[.string r.nm, .int .u8 r.lv, .int .u16 r.cs, .int .i64 r.bl, .int .i64 r.nd, .int .i64 r.fr, .int .i64 r.pr, .int .i64 r.op, .int .i64 r.cl] 39) = x := ⟨_, rfl⟩
      obtain ⟨g, hg⟩ : ∃ x, wX.heap.size = x := ⟨_, rfl⟩
      rw [hw1] at B1 X1 hlt1 ⊢
      rw [hg] at B1 hlt1 hwz
      try rw [hg]
      clear hw1 hg e0 e1 e2 e3 e4 e5 e6 e7 e8 HX
      have b0 := B1.out.b0
      go_wp2_with fail
      refine (HN.out w1).mono ?_
      rintro e w2 ⟨rfl, hbc⟩
      have B2 := Lib.hid (B1.out.below hbc hlt1)
      have X2 := Lib.hid (X1.out.trans (hbc.mono X1.out.size))
      have hlt2 : g < w2.heap.size := Nat.lt_of_lt_of_le hlt1 hbc.size
      clear hbc b0 B1 X1 hlt1 HN
      by_cases hn : nameB r.nm = true
      · obtain ⟨nm, lv, cs, bl, nd, fr, pr, op, cl⟩ := r
        have HNm := Lib.hid hn
        rw [hn]
        clear hn
        have c1 := B2.out.b1
        have c3 := B2.out.b3
        have c4 := B2.out.b4
        have c5 := B2.out.b5
        have c6 := B2.out.b6
        have c7 := B2.out.b7
        have c8 := B2.out.b8
        simp only at c1 c3 c4 c5 c6 c7 c8
        go_upto_region 9 with fail
        go_cut [105] (fun v wc => v = .bool (!(rngB rs ⟨nm, lv, cs, bl, nd, fr, pr, op, cl⟩)) ∧ wc = w2)
        case first =>
          by_cases h0 : 15 < lv
          · skip
            as_aux_lemma =>
              go_wp2_with fail
              go_meet
              case rel => exact ⟨congrArg Value.bool (by simp [rngB, haveB]; omega), rfl⟩
          · skip
            by_cases h1 : bl < 4
            · skip
              as_aux_lemma =>
                go_wp2_with fail
                go_meet
                case rel => exact ⟨congrArg Value.bool (by simp [rngB, haveB]; omega), rfl⟩
            · skip
              by_cases h2 : 512 < bl
              · skip
                as_aux_lemma =>
                  go_wp2_with fail
                  go_meet
                  case rel => exact ⟨congrArg Value.bool (by simp [rngB, haveB]; omega), rfl⟩
              · skip
                by_cases h3 : nd < 4
                · skip
                  as_aux_lemma =>
                    go_wp2_with fail
                    go_meet
                    case rel => exact ⟨congrArg Value.bool (by simp [rngB, haveB]; omega), rfl⟩
                · skip
                  by_cases h4 : 128 < nd
                  · skip
                    as_aux_lemma =>
                      go_wp2_with fail
                      go_meet
                      case rel => exact ⟨congrArg Value.bool (by simp [rngB, haveB]; omega), rfl⟩
                  · skip
                    have hmd : Int.tmod nd 2 = nd % 2 := Int.tmod_eq_emod_of_nonneg (by omega)
                    by_cases h5 : nd % 2 = 0
                    · skip
                      by_cases h6 : fr < 1
                      · skip
                        as_aux_lemma =>
                          go_wp2_with fail
                          go_meet
                          case rel => exact ⟨congrArg Value.bool (by simp [rngB, haveB]; omega), rfl⟩
                      · skip
                        by_cases h7 : 256 < fr
                        · skip
                          as_aux_lemma =>
                            go_wp2_with fail
                            go_meet
                            case rel => exact ⟨congrArg Value.bool (by simp [rngB, haveB]; omega), rfl⟩
                        · skip
                          by_cases h8 : pr < 1
                          · skip
                            as_aux_lemma =>
                              go_wp2_with fail
                              go_meet
                              case rel => exact ⟨congrArg Value.bool (by simp [rngB, haveB]; omega), rfl⟩
                          · skip
                            by_cases h9 : 16 < pr
                            · skip
                              as_aux_lemma =>
                                go_wp2_with fail
                                go_meet
                                case rel => exact ⟨congrArg Value.bool (by simp [rngB, haveB]; omega), rfl⟩
                            · skip
                              by_cases h10 : op < 1
                              · skip
                                as_aux_lemma =>
                                  go_wp2_with fail
                                  go_meet
                                  case rel => exact ⟨congrArg Value.bool (by simp [rngB, haveB]; omega), rfl⟩
                              · skip
                                by_cases h11 : 32 < op
                                · skip
                                  as_aux_lemma =>
                                    go_wp2_with fail
                                    go_meet
                                    case rel => exact ⟨congrArg Value.bool (by simp [rngB, haveB]; omega), rfl⟩
                                · skip
                                  by_cases h12 : cl < 0
                                  · skip
                                    as_aux_lemma =>
                                      go_wp2_with fail
                                      go_meet
                                      case rel => exact ⟨congrArg Value.bool (by simp [rngB, haveB]; omega), rfl⟩
                                  · skip
                                    by_cases h13 : (rs.length : Int) ≤ cl
                                    · skip
                                      as_aux_lemma =>
                                        go_wp2_with fail
                                        go_meet
                                        case rel => exact ⟨congrArg Value.bool (by simp [rngB, haveB]; omega), rfl⟩
                                    · skip
                                      as_aux_lemma =>
                                        go_wp2_with fail
                                        go_meet
                                        case rel => exact ⟨congrArg Value.bool (by simp [rngB, haveB]; omega), rfl⟩
                    · skip
                      as_aux_lemma =>
                        go_wp2_with fail
                        go_meet
                        case rel => exact ⟨congrArg Value.bool (by simp [rngB, haveB]; omega), rfl⟩
        case rest =>
          obtain ⟨rfl, hwc⟩ := hcut
          subst hwc
          clear c1 c3 c4 c5 c6 c7 c8
          as_aux_lemma =>
            by_cases hR : rngB rs ⟨nm, lv, cs, bl, nd, fr, pr, op, cl⟩ = true
            · have HRg := Lib.hid hR
              rw [hR]
              clear hR
              go_wp2_with fail
              go_loopw [7] (fun jv wr => ∃ j : Nat, j ≤ i ∧ jv = .int .i64 j ∧ Below w.heap.size w wr ∧ Box9 wr g ⟨nm, lv, cs, bl, nd, fr, pr, op, cl⟩ ∧ ∀ q, q < j → ¬ twB rs ⟨nm, lv, cs, bl, nd, fr, pr, op, cl⟩ q) (fun jv _ => i - (intOf jv).toNat)
              case atStart => exact ⟨0, by omega, rfl, X2.out, B2.out, fun q hq => by omega⟩
              case round =>
                obtain ⟨j, hj, rfl, hb, hB9, hq⟩ := hrel
                as_aux_lemma =>
                  have X3 := Lib.hid hb
                  have B3 := Lib.hid hB9
                  have HQ := Lib.hid hq
                  have hj0 : (0 : Int) ≤ j := by omega
                  have hj64 : (j : Int) ≤ 64 := by omega
                  clear X2 B2
                  obtain ⟨wY, rfl⟩ : ∃ x, x = wr := ⟨wr, rfl⟩
                  by_cases hji : j < i
                  · have hjii : (j : Int) < i := by omega
                    have hjl : (j : Int) < rs.length := by omega
                    have hjl' : j < rs.length := by omega
                    have b0 := hB9.b0
                    have b1 := hB9.b1
                    have b2 := hB9.b2
                    simp only at b0 b1 b2
                    have a0 := (hb.cell (p := ⟨b, off + j * 9, none⟩) hbl).trans (HRow.out.k0 j hjl')
                    have a1 := (hb.cell (p := ⟨b, off + j * 9 + 1, none⟩) hbl).trans (HRow.out.k1 j hjl')
                    have a2 := (hb.cell (p := ⟨b, off + j * 9 + 2, none⟩) hbl).trans (HRow.out.k2 j hjl')
                    have hE := fun h => newE_reg ms h1 h64 i hlt HReg.out (by rw [oneE_twice (j := j) hlt hji (by rw [HRK.out]; exact HNm.out) (by rw [HRK.out]; exact HRg.out) h]; decide)
                    have hE2 := fun h => oneE_twice (j := j) hlt hji (by rw [HRK.out]; exact HNm.out) (by rw [HRK.out]; exact HRg.out) h
                    have HE : Hid (twB rs ⟨nm, lv, cs, bl, nd, fr, pr, op, cl⟩ j → newE rs ms = 29) := Lib.hid (fun h => by
                      have h' : twB rs rs[i] j := by rw [HRK.out]; exact h
                      rw [hE h', hE2 h'])
                    have HQ2 : Hid (¬ twB rs ⟨nm, lv, cs, bl, nd, fr, pr, op, cl⟩ j → ∀ q, q < j + 1 → ¬ twB rs ⟨nm, lv, cs, bl, nd, fr, pr, op, cl⟩ q) := Lib.hid (fun h q hq => by
                      by_cases e : q = j
                      · subst e; exact h
                      · exact HQ.out q (by omega))
                    rw [twB_get hjl'] at HE HQ2
                    generalize rs[j].nm = nj at *
                    generalize rs[j].lv = lj at *
                    generalize rs[j].cs = cj at *
                    clear hE hE2 hb hB9 hq HQ
                    by_cases hnn : nj = nm
                    · subst hnn
                      have HE' := Lib.hid (HE.out (.inl rfl))
                      clear HE HQ2
                      go_wp2_with fail
                      go_quiet (fail)
                      go_wp2
                      refine bodyPost_ret (v := .int .i64 29) (by simp [results, Tryd.results10, go_sem]) rfl ⟨by rw [HE'.out], below_drewN X3.out nq⟩
                    · have hne := str_ne hnn
                      by_cases hll : lj = lv
                      · by_cases hcc : cj = cs
                        · have HE' := Lib.hid (HE.out (.inr ⟨hll, hcc⟩))
                          subst hll hcc
                          clear HE HQ2
                          go_wp2_with fail
                          go_quiet (fail)
                          go_wp2
                          refine bodyPost_ret (v := .int .i64 29) (by simp [results, Tryd.results10, go_sem]) rfl ⟨by rw [HE'.out], below_drewN X3.out nq⟩
                        · have HQ' := Lib.hid (HQ2.out (by rintro (h | h); exact hnn h; exact hcc h.2))
                          clear HE HQ2
                          go_wp2_with fail
                          go_quiet (fail)
                          go_wp2
                          go_roundw
                          case rel => exact ⟨j + 1, by omega, by go_num, below_drewN X3.out nq, B3.out.below (below_drewN (Below.refl wY.heap.size wY) nq) B3.out.lt, HQ'.out⟩
                          case measure => simp [intOf]; omega
                      · have HQ' := Lib.hid (HQ2.out (by rintro (h | h); exact hnn h; exact hll h.1))
                        clear HE HQ2
                        go_wp2_with fail
                        go_quiet (fail)
                        go_wp2
                        go_roundw
                        case rel => exact ⟨j + 1, by omega, by go_num, below_drewN X3.out nq, B3.out.below (below_drewN (Below.refl wY.heap.size wY) nq) B3.out.lt, HQ'.out⟩
                        case measure => simp [intOf]; omega
                  · obtain rfl : j = i := by omega
                    have HOne := Lib.hid (oneE_ok hlt (by rw [HRK.out]; exact HNm.out) (by rw [HRK.out]; exact HRg.out) (by rw [HRK.out]; exact HQ.out))
                    have HRs := Lib.hid (by rw [regsE_step rs j HReg.out]; exact HOne.out : regsE rs (j + 1) = 0)
                    have Z := X3
                    clear hb hB9 hq
                    go_wp2_with fail
                    go_roundw
                    case rel => exact ⟨j + 1, by omega, by go_num, HRs.out, Z.out⟩
                    case measure => simp [intOf]; omega
            · have hR' : rngB rs ⟨nm, lv, cs, bl, nd, fr, pr, op, cl⟩ = false := by simpa using hR
              have hE := newE_reg ms h1 h64 i hlt HReg.out (by rw [oneE_range hlt (by rw [HRK.out]; exact HNm.out) (by rw [HRK.out]; exact hR')]; decide)
              rw [oneE_range hlt (by rw [HRK.out]; exact HNm.out) (by rw [HRK.out]; exact hR')] at hE
              have HE := Lib.hid hE
              rw [hR']
              clear hR hR' hE
              go_wp2_with fail
              refine bodyPost_ret (v := .int .i64 27) (by simp [results, Tryd.results10, go_sem]) rfl ⟨by rw [HE.out], X2.out⟩
      · have hn' : nameB r.nm = false := by simpa using hn
        have hE := newE_reg ms h1 h64 i hlt HReg.out (by rw [oneE_word hlt (by rw [HRK.out]; exact hn')]; decide)
        rw [oneE_word hlt (by rw [HRK.out]; exact hn')] at hE
        have HE := Lib.hid hE
        rw [hn']
        clear hn hn' hE
        go_wp2_with fail
        refine bodyPost_ret (v := .int .i64 30) (by simp [results, Tryd.results10, go_sem]) rfl ⟨by rw [HE.out], X2.out⟩
    · obtain rfl : i = rs.length := by omega
      as_aux_lemma =>
        have hz0 : 0 < rs.length := by omega
        have a1 := (hb.cell (p := ⟨b, off + 0 * 9 + 1, none⟩) hbl).trans (HRow.out.k1 0 hz0)
        have a2 := (hb.cell (p := ⟨b, off + 0 * 9 + 2, none⟩) hbl).trans (HRow.out.k2 0 hz0)
        simp only [Nat.zero_mul, Nat.add_zero] at a1 a2
        have hcl := fun k (hk : k < rs.length) => (oneE_apart hk (regsE_all rs _ HReg.out k hk)).2.1
        have HCl := Lib.hid hcl
        have e00 : rs.getD 0 zeroRg = rs[0] := by rw [List.getD_eq_getElem?_getD, List.getElem?_eq_getElem hz0]; rfl
        have HPast := Lib.hid (newE_past rs ms hz0 h64 HReg.out)
        have HConf := Lib.hid (newE_conf rs ms hz0 h64 HReg.out)
        rw [e00] at HPast HConf
        generalize rs[0].lv = l0 at *
        generalize rs[0].cs = k0 at *
        clear hcl hb hreg hlt e00
        have hllt : ¬ ((rs.length : Int) < rs.length) := by omega
        by_cases hc0 : l0 = 0
        · subst hc0
          by_cases hc1 : k0 = 0
          · subst hc1
            have HP := Lib.hid (HPast.out rfl rfl)
            clear HPast HConf
            go_wp2_with fail
            clear a1 a2
            go_loopw [8] (fun jv wr => ∃ j : Nat, j ≤ rs.length ∧ jv = .int .i64 j ∧ permB rs j = true ∧ Below w.heap.size w wr) (fun jv _ => rs.length - (intOf jv).toNat)
            case atStart => exact ⟨0, by omega, rfl, rfl, HX.out⟩
            case round =>
              obtain ⟨j, hj, rfl, hpm, hb⟩ := hrel
              as_aux_lemma =>
                have X3 := Lib.hid hb
                have HPm := Lib.hid hpm
                have hj0 : (0 : Int) ≤ j := by omega
                have hj64 : (j : Int) ≤ 64 := by omega
                clear HX
                obtain ⟨wY, rfl⟩ : ∃ x, x = wr := ⟨wr, rfl⟩
                by_cases hjl : j < rs.length
                · have hjli : (j : Int) < rs.length := by omega
                  obtain ⟨C, hC⟩ := Int.eq_ofNat_of_zero_le (HCl.out j hjl).1
                  have hCl : C < rs.length := by have := (HCl.out j hjl).2; omega
                  have hC0 : (0 : Int) ≤ C := by omega
                  have hCli : (C : Int) < rs.length := by omega
                  have q1 := (hb.cell (p := ⟨b, off + j * 9 + 1, none⟩) hbl).trans (HRow.out.k1 j hjl)
                  have q2 := (hb.cell (p := ⟨b, off + j * 9 + 2, none⟩) hbl).trans (HRow.out.k2 j hjl)
                  have q8 := (hb.cell (p := ⟨b, off + j * 9 + 8, none⟩) hbl).trans (HRow.out.k8 j hjl)
                  have p1 := (hb.cell (p := ⟨b, off + C * 9 + 1, none⟩) hbl).trans (HRow.out.k1 C hCl)
                  have p2 := (hb.cell (p := ⟨b, off + C * 9 + 2, none⟩) hbl).trans (HRow.out.k2 C hCl)
                  rw [hC] at q8
                  have ho1 := HOk.out rs[j] (List.getElem_mem _)
                  have ho2 := HOk.out rs[C] (List.getElem_mem _)
                  have hRL := fun W => refleq_any rs[j].lv rs[j].cs rs[C].lv rs[C].cs W ho1.2.2.2.1 ho1.2.2.2.2 ho2.2.2.2.1 ho2.2.2.2.2
                  have hpe : permB rs (j + 1) = refLeqB rs[j].lv rs[j].cs rs[C].lv rs[C].cs := by
                    have e : rs.getD j zeroRg = rs[j] := by rw [List.getD_eq_getElem?_getD, List.getElem?_eq_getElem hjl]; rfl
                    rw [permB, HPm.out, e, hC]
                    unfold leqAt
                    rw [regAt_in rs j hjl, regAt_in rs C hCl, leqB_ref _ _ _ _ ho1.2.2.2.1 ho1.2.2.2.2 ho2.2.2.2.1 ho2.2.2.2.2]
                    rfl
                  obtain ⟨B, hB⟩ : ∃ B, refLeqB rs[j].lv rs[j].cs rs[C].lv rs[C].cs = B := ⟨_, rfl⟩
                  rw [hB] at hpe hRL
                  have HPe := Lib.hid hpe
                  have HRL := Lib.hid hRL
                  generalize rs[j].lv = lj at *
                  generalize rs[j].cs = cj at *
                  generalize rs[C].lv = lc at *
                  generalize rs[C].cs = cc at *
                  clear hC hB hpe hRL ho1 ho2 hpm hb
                  go_upto_region 21 with fail
                  go_still_tail 14, (by kernel_rfl)
                  change wpList _ _ _ _ _ (World.drew wY)
                  have X4 := Lib.hid X3.out.drew
                  obtain ⟨wZ, hwZ⟩ : ∃ x, World.drew wY = x := ⟨_, rfl⟩
                  rw [hwZ] at X4 ⊢
                  clear hwZ q1 q2 q8 p1 p2 X3
                  go_wp2_with fail
                  refine (HRL.out wZ).mono ?_
                  rintro e wV ⟨rfl, hbc⟩
                  have X5 := Lib.hid (X4.out.trans (hbc.mono X4.out.size))
                  clear hbc X4 HRL
                  cases B
                  · have HE : Hid (newE rs ms = 2) := by
                      show _ = _
                      rw [HP.out, if_pos (permB_bad rs (j + 1) HPe.out rs.length (by omega))]
                    go_wp2_with fail
                    refine bodyPost_ret (v := .int .i64 2) (by simp [results, Tryd.results10, go_sem]) rfl ⟨by rw [HE.out], X5.out⟩
                  · go_wp2_with fail
                    go_roundw
                    case rel => exact ⟨j + 1, by omega, by go_num, HPe.out, X5.out⟩
                    case measure => simp [intOf]; omega
                · obtain rfl : j = rs.length := by omega
                  have HP2 : Hid (newE rs ms = marksE rs ms ms.length) := by
                    show _ = _
                    rw [HP.out, if_neg (by rw [HPm.out]; decide)]
                  have X4 := X3
                  clear hpm hb HP
                  go_wp2_with fail
                  go_loopw [9, 10, 11] (fun kv _ _ wr => ∃ k : Nat, k ≤ ms.length ∧ kv = .int .i64 k ∧ marksE rs ms k = 0 ∧ Below w.heap.size w wr) (fun kv _ _ _ => ms.length - (intOf kv).toNat)
                  case atStart => exact ⟨0, by omega, rfl, rfl, X4.out⟩
                  case round =>
                    obtain ⟨k, hk, rfl, hme, hb⟩ := hrel
                    as_aux_lemma =>
                      have X3 := Lib.hid hb
                      have HMe := Lib.hid hme
                      have hk0 : (0 : Int) ≤ k := by omega
                      have hk5 : (k : Int) ≤ 5000 := by omega
                      clear X4
                      obtain ⟨wY, rfl⟩ : ∃ x, x = wr := ⟨wr, rfl⟩
                      by_cases hkm : k < ms.length
                      · have hkmi : (k : Int) < ms.length := by omega
                        obtain ⟨bm, om, cm', hv, hbm, -, hrow⟩ := HMs.out.row (by omega)
                        injection hv with hv1 hv2 hv3
                        subst hv1 hv3
                        have q0 := (hb.cell (p := ⟨bm, om + k * 2, none⟩) hbm).trans (hrow.k0 k hkm)
                        have q1 := (hb.cell (p := ⟨bm, om + k * 2 + 1, none⟩) hbm).trans (hrow.k1 k hkm)
                        obtain ⟨m1, m2, m3, m4⟩ := HMk.out ms[k] (List.getElem_mem _)
                        obtain ⟨mk, hmk'⟩ : ∃ mk, ms[k] = mk := ⟨_, rfl⟩
                        rw [hmk'] at q0 q1 m1 m2 m3 m4
                        obtain ⟨a, c⟩ := mk
                        simp only at q0 q1 m1 m2 m3 m4
                        obtain ⟨A, hA⟩ := Int.eq_ofNat_of_zero_le m1
                        subst hA
                        have HRow2 := Lib.hid hrow
                        have hY0 := hb.size
                        have hRk := fun h => (hb.cell (p := ⟨b, off + A * 9 + 4, none⟩) hbl).trans (HRow.out.k4 A h)
                        have HMK := Lib.hid hmk'
                        clear hb hme hv2 hrow
                        go_upto_region 27 with fail
                        have X4 := Lib.hid (X3.out.alloc hY0 (.cells #[.int .u8 A, .int .u16 c] 34))
                        have c0 : (wY.alloc (.cells #[.int .u8 A, .int .u16 c] 34)).cell? ⟨wY.heap.size, 0, none⟩ = some (.int .u8 A) := by simp
                        have c1 : (wY.alloc (.cells #[.int .u8 A, .int .u16 c] 34)).cell? ⟨wY.heap.size, 1, none⟩ = some (.int .u16 c) := by simp
                        have hRk1 := fun h => ((Below.refl wY.heap.size wY).alloc (Nat.le_refl _) (.cells #[.int .u8 A, .int .u16 c] 34)).cell (p := ⟨b, off + A * 9 + 4, none⟩) (by show b < wY.heap.size; omega) |>.trans (hRk h)
                        have hlt1 : wY.heap.size < (wY.alloc (.cells #[.int .u8 A, .int .u16 c] 34)).heap.size := by simp
                        obtain ⟨wZ, hwZ⟩ : ∃ x, wY.alloc (.cells #[.int .u8 A, .int .u16 c] 34) = x := ⟨_, rfl⟩
                        obtain ⟨g, hg⟩ : ∃ x, wY.heap.size = x := ⟨_, rfl⟩
                        rw [hwZ] at X4 c0 c1 hlt1 hRk1 ⊢
                        rw [hg] at c0 c1 hlt1
                        try rw [hg]
                        have X5 := X4
                        clear hwZ hg q0 q1 X3 X4 hRk
                        have HRk1 := Lib.hid hRk1
                        clear hRk1
                        have hwA : IntKind.i64.wrap (A : Int) = A := IntWalk.i64_in _ ⟨by omega, by omega⟩
                        have hwc : IntKind.i64.wrap c = c := IntWalk.i64_in _ ⟨by omega, by omega⟩
                        by_cases hAl : A < rs.length
                        · have hAli : (A : Int) < rs.length := by omega
                          have hra : regAt rs (A : Int) = (rs[A], true) := regAt_in rs A hAl
                          have p4 := HRk1.out hAl
                          obtain ⟨nd, hnd⟩ : ∃ nd, rs[A].nd = nd := ⟨_, rfl⟩
                          rw [hnd] at p4
                          have hdg : decide ((rs.length : Int) ≤ A) = false := decide_eq_false (by omega)
                          by_cases hc0 : c = 0
                          · have hcz : (c == 0) = true := by simp [hc0]
                            have HE : Hid (newE rs ms = 27) := by
                              show _ = _
                              have hmr : mrB rs ms[k] = false := by
                                rw [hmk']
                                unfold mrB
                                rw [hra]; simp only [Bool.true_and, Bool.and_eq_false_iff, decide_eq_false_iff_not]; left; show ¬ 1 ≤ c; omega
                              rw [HP2.out, marksE_one hkm HMe.out (by rw [markOne_range hkm hmr]; decide), markOne_range hkm hmr]
                            clear hra hnd hmk' hc0
                            refine wp_region_held (S := fun W => W.cell? ⟨g, 0, none⟩ = some (.int .u8 A) ∧ W.cell? ⟨g, 1, none⟩ = some (.int .u16 c)) (by kernel_rfl) ?_
                            change wpAnyH _ _ _ _ _ _ _ _ (World.drew wZ)
                            have hS0 : (fun W : World => W.cell? ⟨g, 0, none⟩ = some (.int .u8 A) ∧ W.cell? ⟨g, 1, none⟩ = some (.int .u16 c)) (World.drew wZ) := ⟨c0, c1⟩
                            have X6 := Lib.hid X5.out.drew
                            obtain ⟨wV, hwV⟩ : ∃ x, World.drew wZ = x := ⟨_, rfl⟩
                            rw [hwV] at hS0 X6 ⊢
                            clear hwV c0 c1 X5 p4 hlt1
                            refine wpAnyH_take (i := 0) (v := ?_) rfl (by kernel_rfl) (by kernel_rfl) (by kernel_rfl) (fun _ _ _ h => h) (Or.inl ⟨by rfl, ?_⟩) hS0 ?_
                            rotate_left 1
                            · intro W hW
                              go_simp
                              try with_reducible rfl
                            simp only [Act.put, List.getElem_toArray, List.getElem_cons_zero, List.getElem_cons_succ, List.setIfInBounds_toArray, List.set_cons_zero, List.set_cons_succ]
                            refine wpAnyH_take (i := 1) (v := ?_) rfl (by kernel_rfl) (by kernel_rfl) (by kernel_rfl) (fun _ _ _ h => h) (Or.inl ⟨by rfl, ?_⟩) hS0 ?_
                            rotate_left 1
                            · intro W hW
                              obtain ⟨g1, g2⟩ := hW
                              go_simp
                              try with_reducible rfl
                            simp only [Act.put, List.getElem_toArray, List.getElem_cons_zero, List.getElem_cons_succ, List.setIfInBounds_toArray, List.set_cons_zero, List.set_cons_succ]
                            refine wpAnyH_take (i := 2) (v := ?_) rfl (by kernel_rfl) (by kernel_rfl) (by kernel_rfl) (fun _ _ _ h => h) (Or.inl ⟨by rfl, ?_⟩) hS0 ?_
                            rotate_left 1
                            · intro W hW
                              go_simp
                              try with_reducible rfl
                            simp only [Act.put, List.getElem_toArray, List.getElem_cons_zero, List.getElem_cons_succ, List.setIfInBounds_toArray, List.set_cons_zero, List.set_cons_succ]
                            try rw [hwA]
                            refine wpAnyH_take (i := 3) (v := ?_) rfl (by kernel_rfl) (by kernel_rfl) (by kernel_rfl) (fun _ _ _ h => h) (Or.inl ⟨by rfl, ?_⟩) hS0 ?_
                            rotate_left 1
                            · intro W hW
                              go_simp
                              try with_reducible rfl
                            simp only [Act.put, List.getElem_toArray, List.getElem_cons_zero, List.getElem_cons_succ, List.setIfInBounds_toArray, List.set_cons_zero, List.set_cons_succ]
                            refine wpAnyH_take (i := 4) (v := ?_) rfl (by kernel_rfl) (by kernel_rfl) (by kernel_rfl) (fun _ _ _ h => h) (Or.inl ⟨by rfl, ?_⟩) hS0 ?_
                            rotate_left 1
                            · intro W hW
                              go_simp
                              try with_reducible rfl
                            simp only [Act.put, List.getElem_toArray, List.getElem_cons_zero, List.getElem_cons_succ, List.setIfInBounds_toArray, List.set_cons_zero, List.set_cons_succ]
                            refine wpAnyH_take (i := 5) (v := ?_) rfl (by kernel_rfl) (by kernel_rfl) (by kernel_rfl) (fun _ _ _ h => h) (Or.inl ⟨by rfl, ?_⟩) hS0 ?_
                            rotate_left 1
                            · intro W hW
                              go_simp
                              try with_reducible rfl
                            simp only [Act.put, List.getElem_toArray, List.getElem_cons_zero, List.getElem_cons_succ, List.setIfInBounds_toArray, List.set_cons_zero, List.set_cons_succ]
                            try rw [hwA]
                            rw [show decide (rs.length ≤ A) = false from decide_eq_false (by omega)]
                            refine wpAnyH_take (i := 6) (v := ?_) rfl (by kernel_rfl) (by kernel_rfl) (by kernel_rfl) (fun _ _ _ h => h) (Or.inl ⟨by rfl, ?_⟩) hS0 ?_
                            rotate_left 1
                            · intro W hW
                              go_simp
                              try with_reducible rfl
                            simp only [Act.put, List.getElem_toArray, List.getElem_cons_zero, List.getElem_cons_succ, List.setIfInBounds_toArray, List.set_cons_zero, List.set_cons_succ]
                            refine wpAnyH_take (i := 7) (v := ?_) rfl (by kernel_rfl) (by kernel_rfl) (by kernel_rfl) (fun _ _ _ h => h) (Or.inl ⟨by rfl, ?_⟩) hS0 ?_
                            rotate_left 1
                            · intro W hW
                              go_simp
                              try with_reducible rfl
                            simp only [Act.put, List.getElem_toArray, List.getElem_cons_zero, List.getElem_cons_succ, List.setIfInBounds_toArray, List.set_cons_zero, List.set_cons_succ]
                            refine wpAnyH_take (i := 8) (v := ?_) rfl (by kernel_rfl) (by kernel_rfl) (by kernel_rfl) (fun _ _ _ h => h) (Or.inl ⟨by rfl, ?_⟩) hS0 ?_
                            rotate_left 1
                            · intro W hW
                              obtain ⟨g1, g2⟩ := hW
                              go_simp
                              try with_reducible rfl
                            simp only [Act.put, List.getElem_toArray, List.getElem_cons_zero, List.getElem_cons_succ, List.setIfInBounds_toArray, List.set_cons_zero, List.set_cons_succ]
                            refine wpAnyH_take (i := 9) (v := ?_) rfl (by kernel_rfl) (by kernel_rfl) (by kernel_rfl) (fun _ _ _ h => h) (Or.inl ⟨by rfl, ?_⟩) hS0 ?_
                            rotate_left 1
                            · intro W hW
                              go_simp
                              try with_reducible rfl
                            simp only [Act.put, List.getElem_toArray, List.getElem_cons_zero, List.getElem_cons_succ, List.setIfInBounds_toArray, List.set_cons_zero, List.set_cons_succ]
                            try rw [hcz]
                            try rw [show decide (c = 0) = true from decide_eq_true (by simpa using hcz)]
                            refine wpAnyH_take (i := 10) (v := ?_) rfl (by kernel_rfl) (by kernel_rfl) (by kernel_rfl) (fun _ _ _ h => h) (Or.inl ⟨by rfl, ?_⟩) hS0 ?_
                            rotate_left 1
                            · intro W hW
                              go_simp
                              try with_reducible rfl
                            simp only [Act.put, List.getElem_toArray, List.getElem_cons_zero, List.getElem_cons_succ, List.setIfInBounds_toArray, List.set_cons_zero, List.set_cons_succ]
                            refine wpAnyH_take (i := 11) (v := ?_) rfl (by kernel_rfl) (by kernel_rfl) (by kernel_rfl) (fun _ _ _ h => h) (Or.inl ⟨by rfl, ?_⟩) hS0 ?_
                            rotate_left 1
                            · intro W hW
                              go_simp
                              try with_reducible rfl
                            simp only [Act.put, List.getElem_toArray, List.getElem_cons_zero, List.getElem_cons_succ, List.setIfInBounds_toArray, List.set_cons_zero, List.set_cons_succ]
                            refine wpAnyH_take (i := 12) (v := undef) rfl (by kernel_rfl) (by kernel_rfl) (by kernel_rfl) (fun _ _ _ h => h) (Or.inr ⟨by rfl, rfl⟩) hS0 ?_
                            simp only [Act.put, List.getElem_toArray, List.getElem_cons_zero, List.getElem_cons_succ, List.setIfInBounds_toArray, List.set_cons_zero, List.set_cons_succ]
                            refine wpAnyH_take (i := 13) (v := undef) rfl (by kernel_rfl) (by kernel_rfl) (by kernel_rfl) (fun _ _ _ h => h) (Or.inr ⟨by rfl, rfl⟩) hS0 ?_
                            simp only [Act.put, List.getElem_toArray, List.getElem_cons_zero, List.getElem_cons_succ, List.setIfInBounds_toArray, List.set_cons_zero, List.set_cons_succ]
                            refine wpAnyH_take (i := 14) (v := undef) rfl (by kernel_rfl) (by kernel_rfl) (by kernel_rfl) (fun _ _ _ h => h) (Or.inr ⟨by rfl, rfl⟩) hS0 ?_
                            simp only [Act.put, List.getElem_toArray, List.getElem_cons_zero, List.getElem_cons_succ, List.setIfInBounds_toArray, List.set_cons_zero, List.set_cons_succ]
                            refine wpAnyH_take (i := 15) (v := undef) rfl (by kernel_rfl) (by kernel_rfl) (by kernel_rfl) (fun _ _ _ h => h) (Or.inr ⟨by rfl, rfl⟩) hS0 ?_
                            simp only [Act.put, List.getElem_toArray, List.getElem_cons_zero, List.getElem_cons_succ, List.setIfInBounds_toArray, List.set_cons_zero, List.set_cons_succ]
                            refine wpAnyH_take (i := 16) (v := undef) rfl (by kernel_rfl) (by kernel_rfl) (by kernel_rfl) (fun _ _ _ h => h) (Or.inr ⟨by rfl, rfl⟩) hS0 ?_
                            simp only [Act.put, List.getElem_toArray, List.getElem_cons_zero, List.getElem_cons_succ, List.setIfInBounds_toArray, List.set_cons_zero, List.set_cons_succ]
                            refine wpAnyH_take (i := 17) (v := undef) rfl (by kernel_rfl) (by kernel_rfl) (by kernel_rfl) (fun _ _ _ h => h) (Or.inr ⟨by rfl, rfl⟩) hS0 ?_
                            simp only [Act.put, List.getElem_toArray, List.getElem_cons_zero, List.getElem_cons_succ, List.setIfInBounds_toArray, List.set_cons_zero, List.set_cons_succ]
                            refine wpAnyH_take (i := 18) (v := undef) rfl (by kernel_rfl) (by kernel_rfl) (by kernel_rfl) (fun _ _ _ h => h) (Or.inr ⟨by rfl, rfl⟩) hS0 ?_
                            simp only [Act.put, List.getElem_toArray, List.getElem_cons_zero, List.getElem_cons_succ, List.setIfInBounds_toArray, List.set_cons_zero, List.set_cons_succ]
                            refine wpAnyH_take (i := 19) (v := undef) rfl (by kernel_rfl) (by kernel_rfl) (by kernel_rfl) (fun _ _ _ h => h) (Or.inr ⟨by rfl, rfl⟩) hS0 ?_
                            simp only [Act.put, List.getElem_toArray, List.getElem_cons_zero, List.getElem_cons_succ, List.setIfInBounds_toArray, List.set_cons_zero, List.set_cons_succ]
                            refine wpAnyH_take (i := 20) (v := undef) rfl (by kernel_rfl) (by kernel_rfl) (by kernel_rfl) (fun _ _ _ h => h) (Or.inr ⟨by rfl, rfl⟩) hS0 ?_
                            simp only [Act.put, List.getElem_toArray, List.getElem_cons_zero, List.getElem_cons_succ, List.setIfInBounds_toArray, List.set_cons_zero, List.set_cons_succ]
                            refine wpAnyH_take (i := 21) (v := undef) rfl (by kernel_rfl) (by kernel_rfl) (by kernel_rfl) (fun _ _ _ h => h) (Or.inr ⟨by rfl, rfl⟩) hS0 ?_
                            simp only [Act.put, List.getElem_toArray, List.getElem_cons_zero, List.getElem_cons_succ, List.setIfInBounds_toArray, List.set_cons_zero, List.set_cons_succ]
                            refine wpAnyH_take (i := 22) (v := ?_) rfl (by kernel_rfl) (by kernel_rfl) (by kernel_rfl) (fun _ _ _ h => h) (Or.inl ⟨by rfl, ?_⟩) hS0 ?_
                            rotate_left 1
                            · intro W hW
                              go_simp
                              try with_reducible rfl
                            simp only [Act.put, List.getElem_toArray, List.getElem_cons_zero, List.getElem_cons_succ, List.setIfInBounds_toArray, List.set_cons_zero, List.set_cons_succ]
                            refine wpAnyH_done (by kernel_rfl) ?_ _
                            go_wp2_with fail
                            refine bodyPost_ret (v := .int .i64 27) (by simp [results, Tryd.results10, go_sem]) rfl ⟨by rw [HE.out], X6.out⟩
                          · have hcz : (c == 0) = false := by simp [hc0]
                            by_cases hcn : nd < c
                            · skip
                              have HE : Hid (newE rs ms = 27) := by
                                show _ = _
                                have hmr : mrB rs ms[k] = false := by
                                  rw [hmk']
                                  unfold mrB
                                  rw [hra]; simp only [Bool.true_and, Bool.and_eq_false_iff, decide_eq_false_iff_not]; right; show ¬ c ≤ rs[A].nd; omega
                                rw [HP2.out, marksE_one hkm HMe.out (by rw [markOne_range hkm hmr]; decide), markOne_range hkm hmr]
                              clear hra hnd hmk'
                              go_quiet (fail)
                              go_wp2
                              refine bodyPost_ret (v := .int .i64 27) (by simp [results, Tryd.results10, go_sem]) rfl ⟨by rw [HE.out], below_drewN X5.out nq⟩
                            · have hmr : mrB rs ms[k] = true := by
                                rw [hmk']
                                unfold mrB
                                rw [hra]
                                simp only [Bool.true_and, Bool.and_eq_true, decide_eq_true_eq]
                                show 1 ≤ c ∧ c ≤ rs[A].nd
                                omega
                              have HMr := Lib.hid hmr
                              clear hra hnd hmk' hmr
                              go_quiet (fail)
                              have X6 := Lib.hid (below_drewN X5.out nq)
                              have d0 : (wZ.drewN nq).cell? ⟨g, 0, none⟩ = some (.int .u8 A) := c0
                              have d1 : (wZ.drewN nq).cell? ⟨g, 1, none⟩ = some (.int .u16 c) := c1
                              have hlt2 : g < (wZ.drewN nq).heap.size := hlt1
                              obtain ⟨wV, hwV⟩ : ∃ x, wZ.drewN nq = x := ⟨_, rfl⟩
                              rw [hwV] at X6 d0 d1 hlt2 ⊢
                              clear hwV c0 c1 hlt1 X5 p4
                              go_wp2_with fail
                              go_loopw [11] (fun jv wr => ∃ j : Nat, j ≤ k ∧ jv = .int .i64 j ∧ Below w.heap.size w wr ∧ g < wr.heap.size ∧ wr.cell? ⟨g, 0, none⟩ = some (.int .u8 A) ∧ wr.cell? ⟨g, 1, none⟩ = some (.int .u16 c) ∧ ∀ q, q < j → ¬ tmB ms ((A : Int), c) q) (fun jv _ => k - (intOf jv).toNat)
                              case atStart => exact ⟨0, by omega, rfl, X6.out, hlt2, d0, d1, fun q hq => by omega⟩
                              case round =>
                                obtain ⟨j, hj, rfl, hb, hgl, f0, f1, hq⟩ := hrel
                                as_aux_lemma =>
                                  have X7 := Lib.hid hb
                                  have HQ := Lib.hid hq
                                  have hj0 : (0 : Int) ≤ j := by omega
                                  have hj5 : (j : Int) ≤ 5000 := by omega
                                  clear X6 d0 d1
                                  obtain ⟨wQ, rfl⟩ : ∃ x, x = wr := ⟨wr, rfl⟩
                                  by_cases hjk : j < k
                                  · have hjki : (j : Int) < k := by omega
                                    have hjm : (j : Int) < ms.length := by omega
                                    have hjm' : j < ms.length := by omega
                                    have t0 := (hb.cell (p := ⟨bm, om + j * 2, none⟩) hbm).trans (HRow2.out.k0 j hjm')
                                    have t1 := (hb.cell (p := ⟨bm, om + j * 2 + 1, none⟩) hbm).trans (HRow2.out.k1 j hjm')
                                    have HE : Hid (tmB ms ((A : Int), c) j → newE rs ms = 29) := Lib.hid (fun h => by
                                      have h' : tmB ms ms[k] j := by rw [HMK.out]; exact h
                                      rw [HP2.out, marksE_one hkm HMe.out (by rw [markOne_twice hkm hjk HMr.out h']; decide), markOne_twice hkm hjk HMr.out h'])
                                    have HQ2 : Hid (¬ tmB ms ((A : Int), c) j → ∀ q, q < j + 1 → ¬ tmB ms ((A : Int), c) q) := Lib.hid (fun h q hq => by
                                      by_cases e : q = j
                                      · subst e; exact h
                                      · exact HQ.out q (by omega))
                                    unfold tmB at HE HQ2
                                    simp only [msD hjm'] at HE HQ2
                                    generalize ms[j].1 = x at *
                                    generalize ms[j].2 = y at *
                                    clear hb hq HQ
                                    by_cases hx : x = A
                                    · by_cases hy : y = c
                                      · have HE' := Lib.hid (HE.out ⟨hx, hy⟩)
                                        subst hx hy
                                        clear HE HQ2
                                        go_wp2_with fail
                                        go_quiet (fail)
                                        go_wp2
                                        refine bodyPost_ret (v := .int .i64 29) (by simp [results, Tryd.results10, go_sem]) rfl ⟨by rw [HE'.out], below_drewN X7.out nq⟩
                                      · have HQ' := Lib.hid (HQ2.out (fun h => hy h.2))
                                        clear HE HQ2
                                        go_wp2_with fail
                                        go_quiet (fail)
                                        go_wp2
                                        go_roundw
                                        case rel => exact ⟨j + 1, by omega, by go_num, below_drewN X7.out nq, hgl, f0, f1, HQ'.out⟩
                                        case measure => simp [intOf]; omega
                                    · have HQ' := Lib.hid (HQ2.out (fun h => hx h.1))
                                      clear HE HQ2
                                      go_wp2_with fail
                                      go_quiet (fail)
                                      go_wp2
                                      go_roundw
                                      case rel => exact ⟨j + 1, by omega, by go_num, below_drewN X7.out nq, hgl, f0, f1, HQ'.out⟩
                                      case measure => simp [intOf]; omega
                                  · obtain rfl : j = k := by omega
                                    have HOne := Lib.hid (markOne_ok hkm HMr.out (by rw [HMK.out]; exact HQ.out))
                                    have HRs : Hid (marksE rs ms (j + 1) = 0) := Lib.hid (by rw [marksE_step rs ms j HMe.out]; exact HOne.out)
                                    have Z := X7
                                    clear hb hq
                                    go_wp2_with fail
                                    go_roundw
                                    case rel => exact ⟨j + 1, by omega, by go_num, HRs.out, Z.out⟩
                                    case measure => simp [intOf]; omega
                        · have hAli : ¬ ((A : Int) < rs.length) := by omega
                          have hra : regAt rs (A : Int) = (zeroRg, false) := regAt_out rs A (.inr (by omega))
                          have hdg : decide ((rs.length : Int) ≤ A) = true := decide_eq_true (by omega)
                          have hdl : (rs.length : Int) ≤ A := by omega
                          have HE : Hid (newE rs ms = 27) := by
                            show _ = _
                            have hmr : mrB rs ms[k] = false := by
                              rw [hmk']
                              unfold mrB
                              rw [hra]; rfl
                            rw [HP2.out, marksE_one hkm HMe.out (by rw [markOne_range hkm hmr]; decide), markOne_range hkm hmr]
                          clear hra hmk'
                          go_quiet (fail)
                          go_wp2
                          refine bodyPost_ret (v := .int .i64 27) (by simp [results, Tryd.results10, go_sem]) rfl ⟨by rw [HE.out], below_drewN X5.out nq⟩
                      · obtain rfl : k = ms.length := by omega
                        have HE : Hid (newE rs ms = 0) := by
                          show _ = _
                          rw [HP2.out]; exact HMe.out
                        clear hb hme
                        go_wp2_with fail
                        refine bodyPost_ret (v := .int .i64 0) (by simp [results, Tryd.results10, go_sem]) rfl ⟨by rw [HE.out], X3.out⟩
          · have HE := Lib.hid (HConf.out (.inr hc1))
            clear HPast HConf
            go_wp2_with fail
            refine bodyPost_ret (v := .int .i64 25) (by simp [results, Tryd.results10, go_sem]) rfl ⟨by rw [HE.out], HX.out⟩
        · have HE := Lib.hid (HConf.out (.inl hc0))
          clear HPast HConf
          go_wp2_with fail
          refine bodyPost_ret (v := .int .i64 25) (by simp [results, Tryd.results10, go_sem]) rfl ⟨by rw [HE.out], HX.out⟩

end Go.Proofs.YtfkiinbmbbhbkaaDoor
