import Derived.Test.YtfkiinbmbbhbkaaDoorT3
import Derived.Lib.IndexBytes
import Derived.Deep.DeepCutAuto
namespace Go.Proofs.YtfkiinbmbbhbkaaDoor
set_option linter.unusedSimpArgs false
set_option linter.unusedVariables false
open Go.RowKit

set_option maxRecDepth 100000 in
theorem byte_split (c : UInt8) : ∀ s : List UInt8, Lib.indexByte s c = (match (splitC c s).2 with | none => -1 | some _ => ((splitC c s).1.length : Int))
  | [] => rfl
  | x :: r => by
    rw [Lib.indexByte, splitC, byte_split c r]
    by_cases h : x = c
    · rw [if_pos (by simpa using h), if_pos h]; rfl
    · rw [if_neg (by simpa using h), if_neg h]
      cases hq : (splitC c r).2 with
      | none => simp
      | some t =>
        rw [if_neg (by simp)]
        simp
set_option maxRecDepth 100000 in
theorem cut_split (c : UInt8) (s : List UInt8) : Lib.cut s [c] = ((splitC c s).1, (splitC c s).2.getD [], (splitC c s).2.isSome) := by
  unfold Lib.cut
  rw [Lib.index_one, byte_split]
  cases hq : (splitC c s).2 with
  | none => simp [(splitC_none c s hq).1]
  | some t =>
    obtain ⟨h1, -⟩ := splitC_some c s t hq
    simp only [Int.natCast_nonneg, if_true, Int.toNat_natCast, List.length_singleton, Option.getD_some, Option.isSome_some]
    generalize (splitC c s).1 = h at *
    subst h1
    have e1 : (h ++ c :: t).take h.length = h := by simp
    have e2 : (h ++ c :: t).drop (h.length + 1) = t := by
      rw [List.drop_append, Nat.add_sub_cancel_left, List.drop_eq_nil_of_le (by omega)]; rfl
    rw [e1, e2]
set_option maxRecDepth 100000 in
theorem cut_any (s : List UInt8) (c : UInt8) (m : Int) (w : World) (hs : s.length < 4294967281) (hm : w.cell? ⟨1, 0, none⟩ = some (.int .i64 m)) :
    Calls Tryd.prog 38 #[.string ⟨s.toArray⟩, .string ⟨#[c]⟩] w fun e w' => e = .returned (.tuple #[.string ⟨(splitC c s).1.toArray⟩, .string ⟨((splitC c s).2.getD []).toArray⟩, .bool (splitC c s).2.isSome]) ∧ Below w.heap.size w w' := by
  refine (Tryd.strings_Cut ⟨s.toArray⟩ ⟨#[c]⟩ m w (by show s.toArray.size < _; simpa using hs) hm).mono ?_
  rintro e w' ⟨rfl, n, rfl⟩
  have h := cut_split c s
  refine ⟨?_, below_drewN' (Below.refl _ _) _⟩
  show Ending.returned (.tuple #[.string ⟨(Lib.cut s [c]).1.toArray⟩, .string ⟨(Lib.cut s [c]).2.1.toArray⟩, .bool (Lib.cut s [c]).2.2]) = _
  rw [h]

def finLv (lv : Int) (zs : List Int) : Int := ofLv lv zs
/-- what a text is, read: level, categories, the error's number -/
def readL (s : List UInt8) : Option (Int × List Int) :=
  match numO (splitC 58 s).1 with
  | none => none
  | some n => match (splitC 58 s).2 with
    | none => some ((n : Int), [])
    | some t => if (listO t (-1)).2 then some ((n : Int), (listO t (-1)).1) else none
def readLv (s : List UInt8) : Int := match readL s with | none => 0 | some x => ofLv x.1 x.2
def readCs (s : List UInt8) : Int := match readL s with | none => 0 | some x => ofCs x.1 x.2
def readEr (s : List UInt8) : Int := match readL s with | none => 28 | some x => if ofOk x.1 x.2 then 0 else 27
def strN : Value → Nat
  | .string b => b.size + 1
  | _ => 0
def boolOf : Value → Bool
  | .bool b => b
  | _ => false
/-- the list that is read when 'zs' have been read, up to 'last', and 'o' is left -/
def restL (zs : List Int) (last : Int) (o : Option (List UInt8)) : List Int × Bool :=
  match o with
  | none => (zs, true)
  | some t => (zs ++ (listO t last).1, (listO t last).2)

set_option maxRecDepth 100000 in
theorem readL_eq (s : List UInt8) : readL s = (match numO (splitC 58 s).1 with | none => none | some n => if (restL [] (-1) (splitC 58 s).2).2 then some ((n : Int), (restL [] (-1) (splitC 58 s).2).1) else none) := by
  unfold readL
  split
  · rfl
  · cases (splitC 58 s).2 with
    | none => rfl
    | some t => rfl
set_option maxRecDepth 100000 in
theorem restL_step (zs : List Int) (last : Int) (t : List UInt8) : restL zs last (some t) = (match numO (splitC 44 t).1 with | none => (zs, false) | some n => if (n : Int) ≤ last then (zs, false) else restL (zs ++ [(n : Int)]) n (splitC 44 t).2) := by
  unfold restL
  simp only []
  rw [listO]
  split
  · rename_i hq; simp [hq]
  · rename_i n hn
    split
    · rename_i hle; simp [hn, hle]
    · rename_i hle
      split
      · rename_i hq; simp [hn, hle, hq]
      · rename_i t' hq; simp [hn, hle, hq]
def roomO (o : Option (List UInt8)) : Nat := match o with | none => 0 | some t => t.length + 1

set_option maxRecDepth 100000 in
set_option maxHeartbeats 4000000 in
theorem parse_any (s : List UInt8) (m : Int) (w : World) (hs : s.length ≤ 4000) (hm : w.cell? ⟨1, 0, none⟩ = some (.int .i64 m)) :
    Calls Tryd.prog 75 #[.string ⟨s.toArray⟩] w fun e w' => e = .returned (.tuple #[.agg #[.int .u8 (readLv s), .int .u16 (readCs s)], .int .i64 (readEr s)]) ∧ Below w.heap.size w w' := by
  obtain ⟨i0, hi, hz0, hz1, hz2⟩ := info_parts Tryd.info3
  have HM := Lib.hid hm
  have h00 := World.block_lt_of_cell? w _ hm
  clear hm
  have hB0 : Below (w.heap.size) w (w.alloc (.cells #[.int .u8 0, .int .u16 0] 37)) := (Below.refl _ _).alloc (Nat.le_refl _) _
  have HR := Lib.hid (readL_eq s)
  have hroom : roomO (splitC 58 s).2 ≤ 4001 := by
    cases hq : (splitC 58 s).2 with
    | none => simp [roomO]
    | some t => have := splitC_lt 58 s t hq; simp [roomO]; omega
  have hlen : (splitC 58 s).1.length ≤ 4000 := by
    cases hq : (splitC 58 s).2 with
    | none => rw [(splitC_none 58 s hq).1]; exact hs
    | some t => have := congrArg List.length (splitC_some 58 s t hq).1; rw [List.length_append] at this; omega
  go_enter Tryd.func75, Tryd.ntmps75
  go_wp2_with fail
  refine (cut_any s 58 m _ (by omega) ((hB0.cell h00).trans HM.out)).mono ?_
  rintro e w1 ⟨rfl, hb1⟩
  have hB1 : Below (w.heap.size + 1) (w.alloc (.cells #[.int .u8 0, .int .u16 0] 37)) w1 := by simpa using hb1
  clear hb1
  generalize (splitC 58 s).1 = h at *
  generalize (splitC 58 s).2 = o0 at *
  go_wp2_with fail
  refine (number_any h w1 (by omega)).mono ?_
  rintro e w2 ⟨rfl, hb2⟩
  have hB2 := hB1.trans (hb2.mono (by have := hB1.size; simp at this; omega))
  clear hB1 hb2
  cases hn : numO h with
  | none =>
    have hX : readL s = none := by rw [HR.out, hn]
    have HX : Hid (readLv s = 0 ∧ readCs s = 0 ∧ readEr s = 28) := by
      show readLv s = 0 ∧ readCs s = 0 ∧ readEr s = 28
      unfold readLv readCs readEr; rw [hX]; exact ⟨rfl, rfl, rfl⟩
    obtain ⟨-, r0, r1, q0, q1⟩ := (Pair.new w (.int .u8 0) (.int .u16 0) 37).below hB2 (by omega)
    have HB2 := Lib.hid hB2
    clear hX hn hB2
    go_wp2
    refine bodyPost_ret (v := .tuple #[.agg #[.int .u8 0, .int .u16 0], .int .i64 28]) (by simp [results, Tryd.results75, go_sem, r0, r1]) rfl ⟨by rw [HX.out.1, HX.out.2.1, HX.out.2.2], ?_⟩
    exact ((hB0.trans (HB2.out.mono (by simp))).setCell (by simp) _).setCell (by simp) _
  | some lv =>
    have hlv := (numO_is h lv hn).1
    have hX : readL s = if (restL [] (-1) o0).2 then some ((lv : Int), (restL [] (-1) o0).1) else none := by rw [HR.out, hn]
    have HX := Lib.hid hX
    clear hX hn HR
    have HB2 := Lib.hid hB2
    clear hB2
    go_wp2_with fail
    go_loopw [5, 6, 9, 10] (fun s5 s6 v s10 wr => ∃ (o : Option (List UInt8)) (zs : List Int) (last : Int), s5 = .string ⟨(o.getD []).toArray⟩ ∧ s6 = .bool o.isSome ∧ s10 = .int .i64 last ∧ (-1 ≤ last ∧ last < 100) ∧ zs.length + roomO o ≤ 4001 ∧ wr.ownsRow (w.heap.size + 1) 3 1 v zs.length (zs.map (Value.int .i64)) ∧ Below (w.heap.size + 1) (w.alloc (.cells #[.int .u8 0, .int .u16 0] 37)) wr ∧ restL zs last o = restL [] (-1) o0) (fun s5 s6 _ _ _ => if boolOf s6 then strN s5 else 0)
    case atStart => exact ⟨o0, [], -1, rfl, rfl, rfl, by omega, by simpa using hroom, World.ownsRow_nil _ _ _ _, HB2.out, rfl⟩
    case round =>
      obtain ⟨o, zs, last, rfl, rfl, rfl, hlast, hrm, hown, hb, hrest⟩ := hrel
      have HO := Lib.hid hown
      have HRe := Lib.hid hrest
      have HB := Lib.hid hb
      clear hown hrest hb
      cases o with
      | none =>
        have hR0 : restL [] (-1) o0 = (zs, true) := HRe.out.symm
        have HX2 : Hid (readLv s = ofLv lv zs ∧ readCs s = ofCs lv zs ∧ readEr s = if ofOk lv zs then 0 else 27) := by
          show readLv s = ofLv lv zs ∧ readCs s = ofCs lv zs ∧ readEr s = if ofOk lv zs then 0 else 27
          unfold readLv readCs readEr; rw [HX.out, hR0]; exact ⟨rfl, rfl, rfl⟩
        clear hR0
        go_wp2_with fail
        refine (make_ref lv _ zs _ (ownsRow_ints HO.out)).mono ?_
        rintro e w3 ⟨rfl, hb3⟩
        have hB3 := HB.out.trans (hb3.mono (by have := HB.out.size; simp at this; omega))
        obtain ⟨-, r0, r1, q0, q1⟩ := (Pair.new w (.int .u8 0) (.int .u16 0) 37).below hB3 (by omega)
        have HB3 := Lib.hid hB3
        clear hb3 hB3
        generalize ofLv lv zs = L at *
        generalize ofCs lv zs = C at *
        generalize (if ofOk lv zs then (0 : Int) else 27) = E at *
        go_wp2
        refine bodyPost_ret (v := .tuple #[.agg #[.int .u8 L, .int .u16 C], .int .i64 E]) (by simp [results, Tryd.results75, go_sem, r0, r1]) rfl ⟨by rw [HX2.out.1, HX2.out.2.1, HX2.out.2.2], ?_⟩
        exact ((hB0.trans (HB3.out.mono (by simp))).setCell (by simp) _).setCell (by simp) _
      | some t =>
        have hlt1 : t.length + zs.length ≤ 4000 := by simp [roomO] at hrm; omega
        have HS := Lib.hid ((restL_step zs last t).symm.trans HRe.out)
        have hroom2 : roomO (splitC 44 t).2 ≤ t.length := by
          cases hq : (splitC 44 t).2 with
          | none => simp [roomO]
          | some t' => have := splitC_lt 44 t t' hq; simp [roomO]; omega
        have hlen2 : (splitC 44 t).1.length ≤ t.length := by
          cases hq : (splitC 44 t).2 with
          | none => rw [(splitC_none 44 t hq).1]; exact Nat.le_refl _
          | some t' => have := congrArg List.length (splitC_some 44 t t' hq).1; rw [List.length_append] at this; omega
        have hsz := HB.out.size
        simp at hsz
        simp only [Option.getD_some, Option.isSome_some]
        go_wp2_with fail
        refine (cut_any t 44 m _ (by omega) (((HB.out.cell (p := ⟨1, 0, none⟩) (Nat.lt_succ_of_lt h00)).trans (hB0.cell h00)).trans HM.out)).mono ?_
        rintro e w3 ⟨rfl, hb3⟩
        have hB3 := HB.out.trans (hb3.mono (by omega))
        have hO3 := ownsRow_below HO.out hb3
        have hsz3 := hB3.size
        simp at hsz3
        clear hb3
        generalize (splitC 44 t).1 = h' at *
        generalize (splitC 44 t).2 = o' at *
        have HB3 := Lib.hid hB3
        have HO3 := Lib.hid hO3
        clear hB3 hO3
        go_wp2_with fail
        refine (number_any h' w3 (by omega)).mono ?_
        rintro e w4 ⟨rfl, hb4⟩
        have hB4 := HB3.out.trans (hb4.mono (by omega))
        have hsz4 := hB4.size
        simp at hsz4
        have HO4 := Lib.hid (ownsRow_below HO3.out hb4)
        clear hb4
        cases hn' : numO h' with
        | none =>
            have hR0 : restL [] (-1) o0 = (zs, false) := by rw [← HS.out, hn']
            have HX3 : Hid (readLv s = 0 ∧ readCs s = 0 ∧ readEr s = 28) := by
              show readLv s = 0 ∧ readCs s = 0 ∧ readEr s = 28
              unfold readLv readCs readEr; rw [HX.out, hR0]; exact ⟨rfl, rfl, rfl⟩
            obtain ⟨-, r0, r1, q0, q1⟩ := (Pair.new w (.int .u8 0) (.int .u16 0) 37).below hB4 (by omega)
            have HB4 := Lib.hid hB4
            clear hR0 hn' hB4
            go_wp2
            refine bodyPost_ret (v := .tuple #[.agg #[.int .u8 0, .int .u16 0], .int .i64 28]) (by simp [results, Tryd.results75, go_sem, r0, r1]) rfl ⟨by rw [HX3.out.1, HX3.out.2.1, HX3.out.2.2], ?_⟩
            exact ((hB0.trans (HB4.out.mono (by simp))).setCell (by simp) _).setCell (by simp) _
        | some n =>
          have hn100 := (numO_is h' n hn').1
          by_cases hle : (n : Int) ≤ last
          · have hR0 : restL [] (-1) o0 = (zs, false) := by rw [← HS.out, hn']; exact if_pos hle
            have HX3 : Hid (readLv s = 0 ∧ readCs s = 0 ∧ readEr s = 28) := by
              show readLv s = 0 ∧ readCs s = 0 ∧ readEr s = 28
              unfold readLv readCs readEr; rw [HX.out, hR0]; exact ⟨rfl, rfl, rfl⟩
            obtain ⟨-, r0, r1, q0, q1⟩ := (Pair.new w (.int .u8 0) (.int .u16 0) 37).below hB4 (by omega)
            have HB4 := Lib.hid hB4
            clear hR0 hn' hB4
            go_wp2
            refine bodyPost_ret (v := .tuple #[.agg #[.int .u8 0, .int .u16 0], .int .i64 28]) (by simp [results, Tryd.results75, go_sem, r0, r1]) rfl ⟨by rw [HX3.out.1, HX3.out.2.1, HX3.out.2.2], ?_⟩
            exact ((hB0.trans (HB4.out.mono (by simp))).setCell (by simp) _).setCell (by simp) _
          · have HR2 : Hid (restL (zs ++ [(n : Int)]) n o' = restL [] (-1) o0) := by
              show restL (zs ++ [(n : Int)]) n o' = restL [] (-1) o0
              rw [← HS.out, hn']; exact (if_neg hle).symm
            have HB4 := Lib.hid hB4
            clear hn' hB4
            go_wp2_with (first | (at_builtin; refine wpList_append_own _ rfl _ _ 111 rfl (w.heap.size + 1) 3 i0 (.int .i64 0) 1 8 Tryd.underlying111 hi hz0 hz1 hz2 rfl (by decide) _ _ _ rfl (HO4.out.alloc _) ⟨w4.heap.size, 0, none⟩ 1 1 [.int .i64 (n : Int)] rfl rfl ?c1 ?c2 ?c3 ?c4 ?c5 ?_))
            case c1 =>
              intro j u hj
              match j, hj with
              | 0, hj => simp at hj; subst hj; simp [Addr.add]
            case c2 => intro u hu; simp at hu; subst hu; rfl
            case c3 => unfold maxLen; omega
            case c4 => omega
            case c5 => simp; omega
            intro v' w5 hown' hgrow _
            have hb5 := (HB4.out.alloc (by omega) _).grown hgrow (by simp; omega) (ownsRow_block HO4.out)
            have HO5 : Hid (w5.ownsRow (w.heap.size + 1) 3 1 v' (zs ++ [(n : Int)]).length ((zs ++ [(n : Int)]).map (Value.int .i64))) := by
              show w5.ownsRow _ _ _ _ _ _
              simpa using hown'
            have HB5 := Lib.hid hb5
            have hrm2 : (zs ++ [(n : Int)]).length + roomO o' ≤ 4001 := by rw [List.length_append, List.length_singleton]; omega
            clear hown' hgrow hb5
            go_wp2
            go_roundw
            case rel => exact ⟨o', zs ++ [(n : Int)], n, rfl, rfl, rfl, by omega, hrm2, HO5.out, HB5.out, HR2.out⟩
            case measure =>
              have hz : ∀ l : List UInt8, (⟨l.toArray⟩ : ByteArray).size = l.length := fun l => by show l.toArray.size = _; simp
              simp only [boolOf, strN, hz]
              cases o' with
              | none => simp
              | some t' => simp [roomO] at hroom2; simp; omega
end Go.Proofs.YtfkiinbmbbhbkaaDoor
