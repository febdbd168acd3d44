import Derived.Test.YtfackmiojbdjhaaDoorC21
/- Parse: the walk. -/
namespace Go.Proofs.YtfackmiojbdjhaaDoor
set_option linter.unusedSimpArgs false
set_option linter.unusedVariables false
open Go.RowKit Go.Maps

def linesOf (s : ByteArray) : List ByteArray := Lib.splitB ⟨#[10]⟩ 0 (Lib.countB s ⟨#[10]⟩) s
def wordsOf (l : ByteArray) : List ByteArray := Lib.goFieldsP blankP ⟨(splitC 35 l.data.toList).1.toArray⟩
def stAt (ls : List ByteArray) : Nat → TS
  | 0 => ⟨[], [], []⟩
  | k + 1 => lineF (stAt ls k) ((k : Int) + 1) (wordsOf (wAt ls k))
def linesE (ls : List ByteArray) : Nat → Int × Int
  | 0 => (0, 0)
  | k + 1 => if (linesE ls k).2 = 0 then (if lineE (wordsOf (wAt ls k)) = 0 then (0, 0) else ((k : Int) + 1, lineE (wordsOf (wAt ls k)))) else linesE ls k
theorem linesE_bad (ls : List ByteArray) (k : Nat) (h : (linesE ls k).2 ≠ 0) : ∀ n, k ≤ n → linesE ls n = linesE ls k := by
  intro n hn
  induction n with
  | zero => obtain rfl : k = 0 := by omega
            rfl
  | succ n ih =>
    rcases Nat.lt_or_ge n k with h' | h'
    · obtain rfl : k = n + 1 := by omega
      rfl
    · rw [linesE, ih h', if_neg h]
theorem words_len (l : ByteArray) : (wordsOf l).length ≤ l.size + 1 := by
  have h1 := fields_len blankP ⟨(splitC 35 l.data.toList).1.toArray⟩
  have h2 := split_fst_len 35 l.data.toList
  have h3 : l.data.toList.length = l.size := Array.length_toList
  have h4 : (⟨(splitC 35 l.data.toList).1.toArray⟩ : ByteArray).size = (splitC 35 l.data.toList).1.length := by show ((splitC 35 l.data.toList).1.toArray).size = _; simp
  unfold wordsOf
  omega
theorem words_size (l : ByteArray) : ∀ x ∈ wordsOf l, x.size ≤ l.size := by
  intro x hx
  have h1 := fields_size blankP ⟨(splitC 35 l.data.toList).1.toArray⟩ x hx
  have h2 := split_fst_len 35 l.data.toList
  have h3 : l.data.toList.length = l.size := Array.length_toList
  have h4 : (⟨(splitC 35 l.data.toList).1.toArray⟩ : ByteArray).size = (splitC 35 l.data.toList).1.length := by show ((splitC 35 l.data.toList).1.toArray).size = _; simp
  omega
theorem wAt_size (ws : List ByteArray) (n i : Nat) (h : ∀ x ∈ ws, x.size ≤ n) : (wAt ws i).size ≤ n := by
  by_cases hi : i < ws.length
  · rw [← wAt_is ws i hi]; exact h _ (List.getElem_mem _)
  · unfold wAt
    rw [List.getD_eq_getElem?_getD, List.getElem?_eq_none (by omega)]
    exact Nat.zero_le _
structure StOk (s : TS) (k : Nat) : Prop where
  rs : ∀ r ∈ s.rs, r.ok ∧ r.nm.size ≤ 4000
  cls : ∀ x ∈ s.cls, x.size ≤ 4000
  trs : ∀ x ∈ s.trs, x.2.1.size ≤ 4000
  eq : s.cls.length = s.rs.length
  l1 : s.rs.length ≤ k
  l2 : s.trs.length ≤ k
theorem StOk.step {s : TS} {k : Nat} (h : StOk s k) (line : Int) (ws : List ByteArray) (hw : ∀ x ∈ ws, x.size ≤ 4000) : StOk (lineF s line ws) (k + 1) := by
  unfold lineF
  split
  · exact ⟨h.rs, h.cls, h.trs, h.eq, by have := h.l1; omega, by have := h.l2; omega⟩
  · split
    · refine ⟨fun r hr => ?_, fun x hx => ?_, h.trs, by simp [h.eq], by have := h.l1; simp; omega, by have := h.l2; simp only; omega⟩
      · rcases List.mem_append.1 hr with hr | hr
        · exact h.rs r hr
        · obtain rfl := List.mem_singleton.1 hr
          have h1 := wAt_size ws 4000 1 hw
          have h2 := readLv_range (wAt ws 2).data.toList
          have h3 := readCs_range (wAt ws 2).data.toList
          exact ⟨⟨by unfold maxLen; show (wAt ws 1).size ≤ _; omega, h2.1, h2.2, h3.1, h3.2⟩, h1⟩
      · rcases List.mem_append.1 hx with hx | hx
        · exact h.cls x hx
        · obtain rfl := List.mem_singleton.1 hx
          exact wAt_size ws 4000 14 hw
    · refine ⟨h.rs, h.cls, fun x hx => ?_, h.eq, by have := h.l1; simp only; omega, by have := h.l2; simp; omega⟩
      rcases List.mem_append.1 hx with hx | hx
      · exact h.trs x hx
      · obtain rfl := List.mem_singleton.1 hx
        exact wAt_size ws 4000 1 hw
theorem stAt_ok (ls : List ByteArray) (hl : ∀ x ∈ ls, x.size ≤ 4000) : ∀ k, StOk (stAt ls k) k
  | 0 => ⟨(fun r h => by cases h), (fun r h => by cases h), (fun r h => by cases h), rfl, Nat.le_refl _, Nat.le_refl _⟩
  | k + 1 => (stAt_ok ls hl k).step _ _ (fun x hx => Nat.le_trans (words_size _ x hx) (wAt_size ls 4000 k hl))
theorem lines_len (s : ByteArray) : (linesOf s).length = Lib.countB s ⟨#[10]⟩ + 1 := Lib.splitB_all ⟨#[10]⟩ (by decide) 0 _ s rfl
theorem lines_size (s : ByteArray) : ∀ x ∈ linesOf s, x.size ≤ s.size := splitB_size _ _ s

def outRs (s : ByteArray) : List Rg := clF (stAt (linesOf s) (linesOf s).length).rs (stAt (linesOf s) (linesOf s).length).cls
def outMs (s : ByteArray) : List (Int × Int) := (stAt (linesOf s) (linesOf s).length).trs.map (mkOf (stAt (linesOf s) (linesOf s).length).rs)
def parseE (s : ByteArray) : Int × Int :=
  let st := stAt (linesOf s) (linesOf s).length
  if (linesE (linesOf s) (linesOf s).length).2 ≠ 0 then linesE (linesOf s) (linesOf s).length
  else if clB st.rs st.cls = false then (0, 3)
  else if (mksE st.rs st.trs st.trs.length).2 ≠ 0 then mksE st.rs st.trs st.trs.length
  else (0, newE (outRs s) (outMs s))
/-- what Parse leaves -/
def ParsePost (s : ByteArray) (w : World) (e : Ending) (w' : World) : Prop :=
  Below w.heap.size w w' ∧ ((parseE s).2 ≠ 0 → e = .returned (.tuple #[.pointer none, .int .i64 (parseE s).1, .int .i64 (parseE s).2])) ∧
    ((parseE s).2 = 0 → ∃ n vr vm vg, e = .returned (.tuple #[.pointer (some ⟨n + 3, 0, none⟩), .int .i64 0, .int .i64 0]) ∧ w.heap.size ≤ n ∧ CF n w' vr vm vg (outRs s) (outMs s))
theorem ParsePost.bad {s : ByteArray} {w w' : World} {e : Ending} (L E : Int) (hE : parseE s = (L, E)) (h0 : E ≠ 0) (he : e = .returned (.tuple #[.pointer none, .int .i64 L, .int .i64 E])) (hb : Below w.heap.size w w') : ParsePost s w e w' := by
  refine ⟨hb, fun _ => by rw [hE]; exact he, fun h => absurd (by rw [hE] at h; exact h) h0⟩
theorem mks_of_row {w : World} {base : Nat} {v : Value} {ms : List (Int × Int)} {n : Nat} (hn : n = ms.length) (h : w.ownsRow base 34 2 v n (flatM ms)) : Mks w v ms := by
  rcases ownsRow_cell (k := 2) (fun _ => rfl) hn h with ⟨hv, hn⟩ | ⟨g, cap, hv, hg, hlt, hm, hc⟩
  · exact .inl ⟨none, 0, hv, hn⟩
  · refine .inr ⟨g, 0, cap, hv, hlt, hm, ?_⟩
    constructor
    · intro i hi; have := hc i hi 0 (by omega); simpa [markCells] using this
    · intro i hi; have := hc i hi 1 (by omega); simpa [markCells] using this
theorem TX.start (w : World) (bt : Nat) (h : bt = w.heap.size) : TX bt (w.alloc (.cells #[.slice none 0 0, .slice none 0 0, .slice none 0 0] 99)) (.slice none 0 0) (.slice none 0 0) (.slice none 0 0) [] [] [] := by
  subst h
  refine ⟨by simp, ?_, ?_, ?_, ?_, ?_, ?_, World.ownsRow_nil _ _ _ _, World.ownsRow_nil _ _ _ _, World.ownsRow_nil _ _ _ _, (fun k h => by simp [Value.ownBlock] at h), (fun k h => by simp [Value.ownBlock] at h), (fun k h => by simp [Value.ownBlock] at h)⟩
  all_goals simp [World.cell?_alloc_new]
theorem mkOf_ok (rs : List Rg) (x : Int × ByteArray × ByteArray) : markOk (mkOf rs x) := by
  unfold markOk mkOf
  simp only
  have h1 : (place rs x.2.1).getD 0 % 256 < 256 := Nat.mod_lt _ (by omega)
  have h2 : (numC x.2.2).getD 0 ≤ 9999 := by
    cases h : numC x.2.2 with
    | none => simp
    | some v => exact numC_le _ v h
  omega

set_option maxHeartbeats 4000000 in
set_option maxRecDepth 100000 in
theorem cparse_any (s : ByteArray) (w : World) (hs : s.size ≤ 4000) (hG : Gl w) : Calls Tryd.prog 13 #[.string s] w (ParsePost s w) := by
  obtain ⟨m, hm⟩ := hG.max
  have hg1 := hG.lt
  have HG := Lib.hid hG
  have hlb : ∀ x ∈ linesOf s, x.size ≤ 4000 := fun x hx => Nat.le_trans (lines_size s x hx) hs
  have HLB := Lib.hid hlb
  have HST := Lib.hid (stAt_ok (linesOf s) hlb)
  have hll := lines_len s
  have hcl : (linesOf s).length ≤ 4001 := by
    have := Lib.countB_le ⟨#[10]⟩ (by decide) s.size s (Nat.le_refl _)
    omega
  have HA1 : Below w.heap.size w (w.alloc (.cells #[.slice none 0 0, .slice none 0 0, .slice none 0 0] 99)) := (Below.refl _ _).alloc (Nat.le_refl _) _
  have hsp := Tryd.strings_Split s ⟨#[10]⟩ m (w.alloc (.cells #[.slice none 0 0, .slice none 0 0, .slice none 0 0] 99)) (by omega) ((HA1.cell (p := ⟨1, 0, none⟩) (by simpa using hg1)).trans hm) (by decide)
  rw [← hll] at hsp
  change Calls _ _ _ _ (fun e w' => e = .returned (.slice (some ⟨_, 0, none⟩) (linesOf s).length (linesOf s).length) ∧ w' = World.alloc _ (.cells ((linesOf s).map Value.string).toArray 9)) at hsp
  have HT0 := Lib.hid (TX.start w w.heap.size rfl)
  have hlong : ¬ (65536 < (s.size : Int)) := by omega
  clear hlb hG hm hll
  go_enter Tryd.func13, Tryd.ntmps13
  go_wp2_with fail
  refine hsp.mono ?_
  rintro e w2 ⟨rfl, rfl⟩
  obtain ⟨W1, hW1⟩ : ∃ x, w.alloc (.cells #[.slice none 0 0, .slice none 0 0, .slice none 0 0] 99) = x := ⟨_, rfl⟩
  have hz1 : W1.heap.size = w.heap.size + 1 := by rw [← hW1]; simp
  rw [hW1] at HT0 HA1 ⊢
  clear hsp hlong
  obtain ⟨W2, hW2⟩ : ∃ x, W1.alloc (.cells ((linesOf s).map Value.string).toArray 9) = x := ⟨_, rfl⟩
  have hA2 : Below W1.heap.size W1 W2 := hW2 ▸ (Below.refl _ _).alloc (Nat.le_refl _) _
  have hz2 : W2.heap.size = w.heap.size + 2 := by rw [← hW2]; simp; omega
  have hcells : ∀ k (hk : k < (linesOf s).length), W2.cell? ⟨w.heap.size + 1, k, none⟩ = some (.string (wAt (linesOf s) k)) := by
    intro k hk
    have h1 := cells_new W1 ((linesOf s).map Value.string) 9 k (.string (linesOf s)[k]) (by simp [hk])
    rw [hW2, hz1] at h1
    rw [← wAt_is _ k hk, ← h1]
    congr 1
    cases k <;> simp [Addr.add]
  have HCl := Lib.hid hcells
  rw [hz1, hW2]
  have HT2 := Lib.hid (HT0.out.below hA2)
  have HA2 := Lib.hid (HA1.trans (hA2.mono (by omega)))
  clear hcells hA2 hW2 HT0 hW1 HA1
  obtain ⟨L, hL⟩ : ∃ L, (linesOf s).length = L := ⟨_, rfl⟩
  have HL := Lib.hid hL
  rw [hL] at hcl ⊢
  clear hL
  go_wp2
  go_loopw [24] (fun i wr => ∃ k : Nat, k ≤ L ∧ i = .int .i64 k ∧ (linesE (linesOf s) k).2 = 0 ∧ Below w.heap.size w wr ∧ wr.heap[w.heap.size + 1]? = W2.heap[w.heap.size + 1]? ∧ ∃ vr vc vt, TX w.heap.size wr vr vc vt (stAt (linesOf s) k).rs (stAt (linesOf s) k).cls (stAt (linesOf s) k).trs ∧ ¬ Own3 vr vc vt (w.heap.size + 1)) (fun i _ => L - (intOf i).toNat)
  case atStart =>
    refine ⟨0, by omega, rfl, rfl, HA2.out, rfl, _, _, _, HT2.out, ?_⟩
    intro h
    rcases h with h | h | h <;> simp [Value.ownBlock] at h
  case round =>
    obtain ⟨k, hk, rfl, hE, hb, hsame, vr, vc, vt, hT, hO⟩ := hrel
    have HE := Lib.hid hE
    have HT := Lib.hid hT
    have HO := Lib.hid hO
    have HB := Lib.hid hb
    have HSame := Lib.hid hsame
    clear hE hT hO hb hsame
    have hwlt : w.heap.size < wr.heap.size := HT.out.lt
    by_cases hlt : k < L
    · have hltr : k < (linesOf s).length := by rw [HL.out]; exact hlt
      have hbl1 : w.heap.size + 1 < wr.heap.size := by
        have h1 : w.heap.size + 1 < W2.heap.size := by omega
        have h2 : (wr.heap[w.heap.size + 1]?).isSome = true := by rw [HSame.out]; simp [h1]
        rcases Nat.lt_or_ge (w.heap.size + 1) wr.heap.size with h | h
        · exact h
        · rw [Array.getElem?_eq_none h] at h2; cases h2
      have e0 := (cell_same (o := k) HSame.out).trans (HCl.out k hltr)
      have hlsz : (wAt (linesOf s) k).size ≤ 4000 := wAt_size _ 4000 k HLB.out
      have HStep : Hid (linesE (linesOf s) (k + 1) = if lineE (wordsOf (wAt (linesOf s) k)) = 0 then (0, 0) else ((k : Int) + 1, lineE (wordsOf (wAt (linesOf s) k)))) := by
        show linesE _ _ = _
        rw [linesE, if_pos HE.out]
      have HLast : Hid ((linesE (linesOf s) (k + 1)).2 ≠ 0 → parseE s = linesE (linesOf s) (k + 1)) := by
        intro h
        have h2 := linesE_bad (linesOf s) (k + 1) h (linesOf s).length (by omega)
        unfold parseE
        simp only
        rw [h2, if_pos h]
      have HSt : Hid (stAt (linesOf s) (k + 1) = lineF (stAt (linesOf s) k) ((k : Int) + 1) (wordsOf (wAt (linesOf s) k))) := rfl
      have hok := HST.out k
      have HOk := Lib.hid hok
      have hl1 := hok.l1
      have hl2 := hok.l2
      have hl3 := hok.eq
      clear hok
      generalize wAt (linesOf s) k = l at *
      have hcut : ∀ W, Below wr.heap.size wr W → Calls Tryd.prog 38 #[.string l, .string ⟨#[35]⟩] W _ := fun W hW => by
        obtain ⟨m, hm⟩ := (HG.out.below (HB.out.trans (hW.mono (by omega))) (by omega)).max
        have h3 : l.data.toList.length = l.size := Array.length_toList
        have := cut_any l.data.toList 35 m W (by omega) hm
        rw [Array.toArray_toList] at this
        exact this
      have hwl := words_len l
      have hws := words_size l
      go_wp2_with fail
      refine (hcut wr (Below.refl _ _)).mono ?_
      rintro e w3 ⟨rfl, hb3⟩
      have HB3 := Lib.hid hb3
      clear hcut hb3
      go_wp2_with fail
      refine (Tryd.strings_FieldsFunc 41 #[] (enters_of Tryd.func41 (by kernel_rfl) rfl) blankP ⟨(splitC 35 l.data.toList).1.toArray⟩ w3 (by
        have h2 := split_fst_len 35 l.data.toList
        have h3 : l.data.toList.length = l.size := Array.length_toList
        have h4 : (⟨(splitC 35 l.data.toList).1.toArray⟩ : ByteArray).size = (splitC 35 l.data.toList).1.length := by show ((splitC 35 l.data.toList).1.toArray).size = _; simp
        omega) (isblank_pred w3)).mono ?_
      rintro e w4 ⟨A, rfl, hA3, hown, hb4⟩
      change World.ownsRow w4 w3.heap.size 9 1 (.slice (some ⟨A, 0, none⟩) (wordsOf l).length (wordsOf l).length) (wordsOf l).length ((wordsOf l).map Value.string) at hown
      have hb34 := HB3.out.trans (hb4.mono HB3.out.size)
      have HB34 := Lib.hid hb34
      have hWd : Wd w4 A (wordsOf l) := by
        have hAl := ownsRow_lt hown A rfl
        refine ⟨hAl, fun i hi => ?_⟩
        rw [map_flat] at hown
        rcases ownsRow_cell (k := 1) (f := fun s => [Value.string s]) (l := wordsOf l) (fun _ => rfl) rfl hown with ⟨hv, -⟩ | ⟨g, cap, hv, -, -, -, hc⟩
        · cases hv
        · have hgA : A = g := by simp at hv; exact hv.1
          subst hgA
          have := hc i hi 0 (by omega)
          simpa using this
      have hA : wr.heap.size ≤ A := Nat.le_trans HB3.out.size hA3
      have hOA : ¬ Own3 vr vc vt A := by
        intro h
        rcases h with h | h | h
        · have := ownsRow_lt0 HT.out.rr A h; omega
        · have := ownsRow_lt0 HT.out.rc A h; omega
        · have := ownsRow_lt0 HT.out.rt A h; omega
      have hRead := read_any w.heap.size A vr vc vt (stAt (linesOf s) k).rs (stAt (linesOf s) k).cls (stAt (linesOf s) k).trs ((k : Int) + 1) (wordsOf l) w4 (HT.out.below hb34) (HG.out.below (HB.out.trans (hb34.mono (by omega))) (by omega)) (by omega) hWd (by omega) hOA (by omega) (fun x hx => Nat.le_trans (hws x hx) hlsz) (by omega) (by omega) (by omega)
      change Calls _ _ #[_, _, .slice _ (wordsOf l).length (wordsOf l).length] _ _ at hRead
      clear hown hb4 hWd hb34
      go_wp2_with fail
      refine hRead.mono ?_
      rintro e w5 ⟨rfl, hbad, hgood⟩
      clear hRead e0
      by_cases h0 : lineE (wordsOf l) = 0
      · obtain ⟨vr', vc', vt', hT5, hF5⟩ := hgood h0
        have HE5 : Hid ((linesE (linesOf s) (k + 1)).2 = 0) := by show (linesE _ _).2 = 0; rw [HStep.out, if_pos h0]
        have HT5 := Lib.hid hT5
        have HF5 := Lib.hid hF5
        have H0 := Lib.hid h0
        rw [h0]
        clear hbad hgood hT5 hF5 h0
        go_wp2
        go_roundw
        case rel =>
          refine ⟨k + 1, by omega, by go_num, HE5.out, HB.out.trans ((HB34.out.mono (by omega)).trans HF5.out.bel), ?_, vr', vc', vt', ?_, ?_⟩
          · exact ((HF5.out.same _ (by have := HB34.out.size; omega) (by omega) HO.out).trans (HB34.out.block _ hbl1)).trans HSame.out
          · rw [HSt.out]; exact HT5.out
          · intro h
            rcases HF5.out.new _ h with h | h
            · exact HO.out h
            · have := HB34.out.size; omega
        case measure => simp [intOf]; omega
      · have HP : Hid (parseE s = ((k : Int) + 1, lineE (wordsOf l))) := by
          show parseE s = _
          have h2 : linesE (linesOf s) (k + 1) = ((k : Int) + 1, lineE (wordsOf l)) := by rw [HStep.out, if_neg h0]
          rw [HLast.out (by rw [h2]; exact h0), h2]
        have HB5 := Lib.hid (HB.out.trans ((HB34.out.trans ((hbad h0).mono HB34.out.size)).mono (by omega)))
        have H0 := Lib.hid h0
        clear hbad hgood
        generalize lineE (wordsOf l) = E at *
        have hE0 : ¬ (E = 0) := h0
        go_wp2
        refine bodyPost_ret (v := .tuple #[.pointer none, .int .i64 ((k : Int) + 1), .int .i64 E]) (by simp [results, Tryd.results13, go_sem]) rfl (ParsePost.bad _ E HP.out H0.out rfl HB5.out)
    · obtain rfl : k = L := by omega
      have hok := HST.out (linesOf s).length
      have HP1 : Hid (parseE s = if clB (stAt (linesOf s) (linesOf s).length).rs (stAt (linesOf s) (linesOf s).length).cls = false then (0, 3)
          else if (mksE (stAt (linesOf s) (linesOf s).length).rs (stAt (linesOf s) (linesOf s).length).trs (stAt (linesOf s) (linesOf s).length).trs.length).2 ≠ 0 then mksE (stAt (linesOf s) (linesOf s).length).rs (stAt (linesOf s) (linesOf s).length).trs (stAt (linesOf s) (linesOf s).length).trs.length
          else (0, newE (outRs s) (outMs s))) := by
        show parseE s = _
        unfold parseE
        simp only
        rw [if_neg (by rw [HL.out, HE.out]; simp)]
      have HOutR : Hid (outRs s = clF (stAt (linesOf s) (linesOf s).length).rs (stAt (linesOf s) (linesOf s).length).cls) := rfl
      have HOutM : Hid (outMs s = (stAt (linesOf s) (linesOf s).length).trs.map (mkOf (stAt (linesOf s) (linesOf s).length).rs)) := rfl
      have hT6 := HT.out
      rw [← HL.out] at hT6
      have HT6 := Lib.hid hT6
      have HOK := Lib.hid hok
      obtain ⟨w6, rfl⟩ : ∃ x, x = wr := ⟨wr, rfl⟩
      clear hT6 HT HSame HE hok HST
      have hlen1 : (stAt (linesOf s) (linesOf s).length).rs.length ≤ 5000 := by have := HOK.out.l1; have := HL.out; omega
      have hlen2 : (stAt (linesOf s) (linesOf s).length).trs.length ≤ 5000 := by have := HOK.out.l2; have := HL.out; omega
      generalize stAt (linesOf s) (linesOf s).length = st at *
      obtain ⟨rs, cls, trs⟩ := st
      simp only at HP1 HOutR HOutM HT6 hlen1 hlen2
      have hnames := names_any w.heap.size vr vc vt rs cls trs w6 HT6.out (fun r hr => by have := (HOK.out.rs r hr).2; unfold maxLen; omega) hlen1
      go_wp2_with fail
      refine hnames.mono ?_
      rintro e w7 ⟨rfl, hm7, hb7⟩
      have HM7 := Lib.hid hm7
      have HT7 := Lib.hid (HT6.out.below hb7)
      have HB7 := Lib.hid (HB.out.trans (hb7.mono (by omega)))
      have hBne : Value.ownBlock vr ≠ some w6.heap.size := fun e => by have := ownsRow_lt0 HT6.out.rr _ e; omega
      have HBne := Lib.hid hBne
      have hclr := clears_any w.heap.size w6.heap.size rs.length vr vc vt rs cls trs w7 HT7.out HOK.out.eq (fun x hx => by have := HOK.out.cls x hx; unfold maxLen; omega) hlen1 hm7 hBne
      clear hnames hm7 hb7 hBne
      go_wp2_with fail
      refine hclr.mono ?_
      rintro e w8 ⟨hbad, hgood⟩
      clear hclr
      by_cases hcb : clB rs cls = true
      · obtain ⟨rfl, hRg, hClW⟩ := hgood hcb
        have HRg := Lib.hid hRg
        have HClW := Lib.hid hClW
        have hown0 : Value.ownBlock vr ≠ some w.heap.size := fun e => by have := ownsRow_block HT7.out.rr _ e; omega
        have c08 := (cell_same (o := 0) (hClW.same _ hown0)).trans HT7.out.c0
        have c28 := (cell_same (o := 2) (hClW.same _ hown0)).trans HT7.out.c2
        have rt8 : w8.ownsRow (w.heap.size + 1) 138 3 vt trs.length (trs.flatMap trustCells) := ownsRow_same2 HT7.out.rt (fun b hb => hClW.same b (fun e => HT7.out.d2 b e hb))
        have hm8 := ownsMap_same HM7.out (hClW.same _ HBne.out)
        have hlt8 : w.heap.size < w8.heap.size := by rw [hClW.sz]; exact HT7.out.lt
        have hmks := marks_any w.heap.size w6.heap.size rs.length vt rs trs w8 hlt8 c28 rt8 (fun x hx => by have := HOK.out.trs x hx; unfold maxLen; omega) hlen2 hlen1 hm8
        have HB8 := Lib.hid (HB7.out.trans hClW.bel)
        have HC0 := Lib.hid c08
        have HCB := Lib.hid hcb
        clear hbad hgood hRg hClW c08 c28 rt8 hm8 hcb
        go_wp2_with fail
        refine hmks.mono ?_
        rintro e w9 ⟨hb9, hbad, hgood⟩
        clear hmks
        by_cases hme : (mksE rs trs trs.length).2 = 0
        · obtain ⟨vmk, rfl, hown9⟩ := hgood hme
          have HP2 : Hid (parseE s = (0, newE (outRs s) (outMs s))) := by
            show parseE s = _
            rw [HP1.out, if_neg (by rw [HCB.out]; simp), if_neg (by rw [hme]; simp)]
          have hRg9 := HRg.out.below hb9
          rw [← HOutR.out] at hRg9
          have hMk9 := mks_of_row (ms := outMs s) (n := trs.length) (by rw [HOutM.out, List.length_map]) (by rw [HOutM.out]; exact hown9)
          have hokR : ∀ r ∈ outRs s, r.ok := by
            intro r hr
            rw [HOutR.out] at hr
            obtain ⟨i, hi, rfl⟩ := List.mem_iff_getElem.1 hr
            have hi' : i < rs.length := by rw [clF_len rs cls HOK.out.eq] at hi; exact hi
            rw [clF_get rs cls HOK.out.eq i hi']
            exact (HOK.out.rs rs[i] (List.getElem_mem _)).1
          have hokM : ∀ q ∈ outMs s, markOk q := by
            intro q hq
            rw [HOutM.out] at hq
            obtain ⟨x, _, rfl⟩ := List.mem_map.1 hq
            exact mkOf_ok rs x
          have hlM : (outMs s).length ≤ 5000 := by rw [HOutM.out]; simpa using hlen2
          have hnew := new_any vr vmk (outRs s) (outMs s) w9 hRg9 hokR hMk9 hokM hlM
          have c09 := (hb9.cell (p := ⟨w.heap.size, 0, none⟩) hlt8).trans HC0.out
          have HB9 := Lib.hid (HB8.out.trans (hb9.mono (by omega)))
          have hw9 := hb9.size
          obtain ⟨va, vcap, rfl⟩ := hRg9.form
          obtain ⟨ka, kcap, rfl⟩ := hMk9.form
          clear hbad hgood hown9 hRg9 hMk9 hokR hokM hb9
          go_wp2_with fail
          refine hnew.mono ?_
          rintro e w10 ⟨hbadN, hgoodN⟩
          clear hnew c09
          by_cases hn0 : newE (outRs s) (outMs s) = 0
          · obtain ⟨n, ur, um, ug, rfl, hn, hb10, hCF⟩ := hgoodN hn0
            have HCF := Lib.hid hCF
            have HPn : Hid (parseE s = (0, 0)) := by show parseE s = _; rw [HP2.out, hn0]
            have HB10 := Lib.hid (HB9.out.trans (hb10.mono (by omega)))
            clear hbadN hgoodN hCF hb10 hn0 hme
            go_wp2
            refine bodyPost_ret (v := .tuple #[.pointer (some ⟨n + 3, 0, none⟩), .int .i64 0, .int .i64 0]) (by simp [results, Tryd.results13, go_sem]) rfl ?_
            exact ⟨HB10.out, fun h => absurd (by rw [HPn.out]) h, fun _ => ⟨n, ur, um, ug, rfl, by omega, HCF.out⟩⟩
          · obtain ⟨rfl, hb10⟩ := hbadN hn0
            have HB10 := Lib.hid (HB9.out.trans (hb10.mono (by omega)))
            have H0 := Lib.hid hn0
            clear hbadN hgoodN hb10 hme
            generalize newE (outRs s) (outMs s) = E at *
            go_wp2
            refine bodyPost_ret (v := .tuple #[.pointer none, .int .i64 0, .int .i64 E]) (by simp [results, Tryd.results13, go_sem]) rfl (ParsePost.bad 0 E HP2.out H0.out rfl HB10.out)
        · have he := hbad hme
          subst he
          have HP2 : Hid (parseE s = ((mksE rs trs trs.length).1, (mksE rs trs trs.length).2)) := by
            show parseE s = _
            rw [HP1.out, if_neg (by rw [HCB.out]; simp), if_pos hme]
          have HB9 := Lib.hid (HB8.out.trans (hb9.mono (by omega)))
          have H0 := Lib.hid hme
          clear hbad hgood hb9
          generalize (mksE rs trs trs.length).2 = E at *
          generalize (mksE rs trs trs.length).1 = Ln at *
          have hE0 : ¬ (E = 0) := hme
          go_wp2
          refine bodyPost_ret (v := .tuple #[.pointer none, .int .i64 Ln, .int .i64 E]) (by simp [results, Tryd.results13, go_sem]) rfl (ParsePost.bad Ln E HP2.out H0.out rfl HB9.out)
      · have hcf : clB rs cls = false := by simpa using hcb
        obtain ⟨rfl, hb8⟩ := hbad hcf
        have HP2 : Hid (parseE s = (0, 3)) := by show parseE s = _; rw [HP1.out, if_pos hcf]
        have HB8 := Lib.hid (HB7.out.trans hb8)
        clear hbad hgood hb8 hcb hcf
        go_wp2
        refine bodyPost_ret (v := .tuple #[.pointer none, .int .i64 0, .int .i64 3]) (by simp [results, Tryd.results13, go_sem]) rfl (ParsePost.bad 0 3 HP2.out (by decide) rfl HB8.out)
end Go.Proofs.YtfackmiojbdjhaaDoor
