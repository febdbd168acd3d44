import Derived.Test.YtfackmiojbdjhaaDoorCPA
import Derived.Test.YtfackmiojbdjhaaDoorMT
/- A configuration's text, read: its lines, its words, its numbers. -/
namespace Go.Proofs.YtfackmiojbdjhaaDoor
set_option linter.unusedSimpArgs false
set_option linter.unusedVariables false
open Go.RowKit Go.Maps

/-- a byte of a word -/
def plainB (b : UInt8) : Bool := decide (b.toNat < 128) && !(blankP b.toNat) && decide (b ≠ 35)
def Word (w : List UInt8) : Prop := w ≠ [] ∧ ∀ b ∈ w, plainB b = true
def joinW : List (List UInt8) → List UInt8
  | [] => []
  | w :: r => w ++ (match r with | [] => [] | _ :: _ => 32 :: joinW r)
theorem joinW_cons2 (w x : List UInt8) (r : List (List UInt8)) : joinW (w :: x :: r) = w ++ 32 :: joinW (x :: r) := rfl
theorem joinW_one (w : List UInt8) : joinW [w] = w := by simp [joinW]
def spn : List (List UInt8) → Nat → List (Nat × Nat)
  | [], _ => []
  | w :: r, k => (k, k + w.length) :: spn r (k + w.length + 1)
theorem run_p0 (l : List UInt8) (f i : Nat) (acc : List (Nat × Nat)) (h : i < l.length) (h1 : l[i].toNat < 128) (hb : blankP l[i].toNat = false) :
    Lib.spansFromP blankP ⟨l.toArray⟩ (f + 1) i none acc = Lib.spansFromP blankP ⟨l.toArray⟩ f (i + 1) (some i) acc := by
  have hp : i < (⟨l.toArray⟩ : ByteArray).size := h
  have hd := decode_ascii ⟨l.toArray⟩ i hp h1
  have e : (⟨l.toArray⟩ : ByteArray)[i] = l[i] := rfl
  conv => lhs; unfold Lib.spansFromP
  rw [if_pos hp, hd, e, hb]
  rfl
theorem run_p1 (l : List UInt8) (f i a : Nat) (acc : List (Nat × Nat)) (h : i < l.length) (h1 : l[i].toNat < 128) (hb : blankP l[i].toNat = false) :
    Lib.spansFromP blankP ⟨l.toArray⟩ (f + 1) i (some a) acc = Lib.spansFromP blankP ⟨l.toArray⟩ f (i + 1) (some a) acc := by
  have hp : i < (⟨l.toArray⟩ : ByteArray).size := h
  have hd := decode_ascii ⟨l.toArray⟩ i hp h1
  have e : (⟨l.toArray⟩ : ByteArray)[i] = l[i] := rfl
  conv => lhs; unfold Lib.spansFromP
  rw [if_pos hp, hd, e, hb]
  rfl
theorem run_b1 (l : List UInt8) (f i a : Nat) (acc : List (Nat × Nat)) (h : i < l.length) (h1 : l[i].toNat < 128) (hb : blankP l[i].toNat = true) :
    Lib.spansFromP blankP ⟨l.toArray⟩ (f + 1) i (some a) acc = Lib.spansFromP blankP ⟨l.toArray⟩ f (i + 1) none (acc ++ [(a, i)]) := by
  have hp : i < (⟨l.toArray⟩ : ByteArray).size := h
  have hd := decode_ascii ⟨l.toArray⟩ i hp h1
  have e : (⟨l.toArray⟩ : ByteArray)[i] = l[i] := rfl
  conv => lhs; unfold Lib.spansFromP
  rw [if_pos hp, hd, e, hb]
  rfl
theorem plain_parts {b : UInt8} (h : plainB b = true) : b.toNat < 128 ∧ blankP b.toNat = false ∧ b ≠ 35 := by
  simp only [plainB, Bool.and_eq_true, decide_eq_true_eq, Bool.not_eq_true'] at h
  exact ⟨h.1.1, h.1.2, h.2⟩
/-- on within a word -/
theorem run_in (l : List UInt8) (a : Nat) (acc : List (Nat × Nat)) (f : Nat) : ∀ (m i : Nat), i + m ≤ l.length → (∀ j (hj : j < l.length), i ≤ j → j < i + m → plainB l[j] = true) →
    Lib.spansFromP blankP ⟨l.toArray⟩ (m + f) i (some a) acc = Lib.spansFromP blankP ⟨l.toArray⟩ f (i + m) (some a) acc
  | 0, i, _, _ => by rw [Nat.zero_add, Nat.add_zero]
  | m + 1, i, hi, hp => by
    have h0 := plain_parts (hp i (by omega) (Nat.le_refl _) (by omega))
    rw [show m + 1 + f = (m + f) + 1 by omega, run_p1 l (m + f) i a acc (by omega) h0.1 h0.2.1]
    rw [run_in l a acc f m (i + 1) (by omega) (fun j hj h1 h2 => hp j hj (by omega) (by omega))]
    congr 1; omega
theorem mid_get (p q r : List UInt8) (j : Nat) (h : j < (p ++ (q ++ r)).length) (h1 : p.length ≤ j) (h2 : j < p.length + q.length) : (p ++ (q ++ r))[j] = q[j - p.length]'(by omega) := by
  rw [List.getElem_append_right h1, List.getElem_append_left]
theorem run_words : ∀ (ws : List (List UInt8)) (hws : ∀ w ∈ ws, Word w) (pre : List UInt8) (acc : List (Nat × Nat)),
    Lib.closeSpans ⟨(pre ++ joinW ws).toArray⟩ (Lib.spansFromP blankP ⟨(pre ++ joinW ws).toArray⟩ (joinW ws).length pre.length none acc) = acc ++ spn ws pre.length
  | [], _, pre, acc => by simp [joinW, Lib.spansFromP, Lib.closeSpans, spn]
  | w :: r, hws, pre, acc => by
    have hw := hws w (List.mem_cons_self ..)
    obtain ⟨b, w', rfl⟩ : ∃ b w', w = b :: w' := by
      cases w with
      | nil => exact absurd rfl hw.1
      | cons b w' => exact ⟨b, w', rfl⟩
    have hb := plain_parts (hw.2 b (List.mem_cons_self ..))
    -- the word, then what follows
    have key : ∀ (t : List UInt8) (f : Nat), f = t.length → Lib.spansFromP blankP ⟨(pre ++ ((b :: w') ++ t)).toArray⟩ ((b :: w').length + f) pre.length none acc = Lib.spansFromP blankP ⟨(pre ++ ((b :: w') ++ t)).toArray⟩ f (pre.length + (b :: w').length) (some pre.length) acc := by
      intro t f hf
      have hl : (pre ++ ((b :: w') ++ t)).length = pre.length + (w'.length + 1) + t.length := by simp; omega
      have h0 : (pre ++ ((b :: w') ++ t))[pre.length]'(by rw [hl]; omega) = b := by simp
      rw [show (b :: w').length + f = (w'.length + f) + 1 by simp; omega, run_p0 _ _ _ _ (by rw [hl]; omega) (by rw [h0]; exact hb.1) (by rw [h0]; exact hb.2.1)]
      rw [run_in _ pre.length acc f w'.length (pre.length + 1) (by rw [hl]; omega) (fun j hj h1 h2 => by
        rw [mid_get pre (b :: w') t j hj (by omega) (by simp; omega)]
        exact hw.2 _ (List.getElem_mem _))]
      congr 1
      simp; omega
    cases r with
    | nil =>
      have k0 := key [] 0 rfl
      rw [List.append_nil, Nat.add_zero] at k0
      rw [joinW_one, k0, Lib.spansFromP]
      simp [Lib.closeSpans, spn, ByteArray.size]
    | cons x r =>
      have k0 := key (32 :: joinW (x :: r)) (32 :: joinW (x :: r)).length rfl
      have hl : (pre ++ ((b :: w') ++ 32 :: joinW (x :: r))).length = pre.length + (w'.length + 1) + (1 + (joinW (x :: r)).length) := by simp; omega
      have h32 : (pre ++ ((b :: w') ++ 32 :: joinW (x :: r)))[pre.length + (b :: w').length]'(by rw [hl]; simp; omega) = 32 := by
        rw [List.getElem_append_right (by omega)]
        simp
      rw [joinW_cons2, List.length_append, k0, List.length_cons (a := (32 : UInt8)), run_b1 _ _ _ _ _ (by rw [hl]; simp; omega) (by rw [h32]; decide) (by rw [h32]; decide)]
      have ih := run_words (x :: r) (fun y hy => hws y (List.mem_cons_of_mem _ hy)) (pre ++ (b :: w') ++ [32]) (acc ++ [(pre.length, pre.length + (b :: w').length)])
      have e1 : pre ++ (b :: w') ++ [32] ++ joinW (x :: r) = pre ++ ((b :: w') ++ 32 :: joinW (x :: r)) := by simp
      have e2 : (pre ++ (b :: w') ++ [32]).length = pre.length + (b :: w').length + 1 := by simp; omega
      rw [e1, e2] at ih
      rw [ih, List.append_assoc]
      rfl
theorem spn_cut : ∀ (ws : List (List UInt8)) (pre : List UInt8), (spn ws pre.length).map (fun x => (⟨(pre ++ joinW ws).toArray⟩ : ByteArray).extract x.1 x.2) = ws.map fun w => ⟨w.toArray⟩
  | [], pre => rfl
  | [w], pre => by
    rw [joinW_one]
    simp only [spn, List.map_cons, List.map_nil]
    rw [ext_mid]
    simp
  | w :: x :: r, pre => by
    have ih := spn_cut (x :: r) (pre ++ w ++ [32])
    have e1 : pre ++ w ++ [32] ++ joinW (x :: r) = pre ++ (w ++ 32 :: joinW (x :: r)) := by simp
    have e2 : (pre ++ w ++ [32]).length = pre.length + w.length + 1 := by simp; omega
    rw [e1, e2] at ih
    rw [joinW_cons2]
    rw [spn, List.map_cons, ih, List.map_cons, ext_mid]
    simp
theorem join_no (c : UInt8) (hc : c ≠ 32) : ∀ (ws : List (List UInt8)), (∀ w ∈ ws, ∀ b ∈ w, b ≠ c) → ∀ b ∈ joinW ws, b ≠ c
  | [], _, b, hb => by simp [joinW] at hb
  | [w], h, b, hb => by rw [joinW_one] at hb; exact h w (List.mem_cons_self ..) b hb
  | w :: x :: r, h, b, hb => by
    rw [joinW_cons2] at hb
    rcases List.mem_append.1 hb with hb | hb
    · exact h w (List.mem_cons_self ..) b hb
    · rcases List.mem_cons.1 hb with rfl | hb
      · exact fun e => hc e.symm
      · exact join_no c hc (x :: r) (fun y hy => h y (List.mem_cons_of_mem _ hy)) b hb
theorem words_join (ws : List (List UInt8)) (h : ∀ w ∈ ws, Word w) : wordsOf ⟨(joinW ws).toArray⟩ = ws.map fun w => ⟨w.toArray⟩ := by
  have h35 := join_no 35 (by decide) ws (fun w hw b hb => (plain_parts ((h w hw).2 b hb)).2.2)
  have hs := splitC_all 35 _ h35
  have h1 := run_words ws h [] []
  simp only [List.nil_append, List.length_nil] at h1
  have h2 := spn_cut ws []
  simp only [List.nil_append, List.length_nil] at h2
  unfold wordsOf Lib.goFieldsP Lib.spansOfP
  show List.map _ (Lib.closeSpans ⟨(splitC 35 (joinW ws)).1.toArray⟩ (Lib.spansFromP blankP ⟨(splitC 35 (joinW ws)).1.toArray⟩ _ 0 none [])) = _
  rw [hs]
  show List.map _ (Lib.closeSpans ⟨(joinW ws).toArray⟩ (Lib.spansFromP blankP ⟨(joinW ws).toArray⟩ (joinW ws).toArray.size 0 none [])) = _
  rw [show (joinW ws).toArray.size = (joinW ws).length by simp, h1]
  exact h2
/-- lines, each with its end -/
def textW (ls : List (List (List UInt8))) : List UInt8 := ls.flatMap fun ws => joinW ws ++ [10]
theorem lines_text : ∀ (ls : List (List (List UInt8))), (∀ ws ∈ ls, ∀ w ∈ ws, Word w) → linesOf ⟨(textW ls).toArray⟩ = (ls.map fun ws => (⟨(joinW ws).toArray⟩ : ByteArray)) ++ [⟨#[]⟩]
  | [], _ => lines_none [] rfl
  | ws :: r, h => by
    have hno : ∀ b ∈ joinW ws, b ≠ 10 := join_no 10 (by decide) ws (fun w hw b hb => by
      have h1 := (plain_parts ((h ws (List.mem_cons_self ..) w hw).2 b hb)).2.1
      rintro rfl
      revert h1; decide)
    have e : textW (ws :: r) = joinW ws ++ 10 :: textW r := by simp [textW]
    have hsp := splitC_app 10 (joinW ws) (textW r) hno
    rw [e, lines_some _ (textW r) (by rw [hsp]), hsp, lines_text r (fun x hx => h x (List.mem_cons_of_mem _ hx))]
    rfl
end Go.Proofs.YtfackmiojbdjhaaDoor

/- A configuration's text reads back. -/
namespace Go.Proofs.YtfackmiojbdjhaaDoor
set_option linter.unusedSimpArgs false
set_option linter.unusedVariables false
open Go.RowKit Go.Maps

def by8 (s : ByteArray) : List UInt8 := s.data.toList
theorem mk_by8 (s : ByteArray) : (⟨(by8 s).toArray⟩ : ByteArray) = s := by unfold by8; rw [Array.toArray_toList]
def nmAt (rs : List Rg) (c : Int) : ByteArray := (regAt rs c).1.nm
def lineR (rs : List Rg) (r : Rg) : List (List UInt8) := [by8 labelW, by8 r.nm, txt r.lv (catL r.cs 16), by8 (kw 0), Lib.itoa r.bl, by8 (kw 1), Lib.itoa r.nd, by8 (kw 2), Lib.itoa r.fr, by8 (kw 3), Lib.itoa r.pr, by8 (kw 4), Lib.itoa r.op, by8 clearW, by8 (nmAt rs r.cl)]
def lineM (rs : List Rg) (m : Int × Int) : List (List UInt8) := [by8 trustW, by8 (nmAt rs m.1), Lib.itoa m.2]
def confL (rs : List Rg) (ms : List (Int × Int)) : List (List (List UInt8)) := rs.map (lineR rs) ++ ms.map (lineM rs)
def confT (rs : List Rg) (ms : List (Int × Int)) : ByteArray := ⟨(textW (confL rs ms)).toArray⟩
def mkB (w : List UInt8) : ByteArray := ⟨w.toArray⟩

set_option maxRecDepth 1000000 in
theorem num_fin (n : Fin 1000) : numC ⟨(Lib.decDigits n.val).toArray⟩ = some n.val ∧ (Lib.decDigits n.val).all plainB = true ∧ (Lib.decDigits n.val).isEmpty = false := by
  revert n; decide +kernel
theorem num_itoa (z : Int) (h0 : 0 ≤ z) (h1 : z < 1000) : numC (mkB (Lib.itoa z)) = some z.toNat ∧ Word (Lib.itoa z) := by
  obtain ⟨N, rfl⟩ := Int.eq_ofNat_of_zero_le h0
  rw [Lib.itoa_nonneg]
  obtain ⟨d1, d2, d3⟩ := num_fin ⟨N, by omega⟩
  exact ⟨d1, (fun e => by simp only at d3; rw [e] at d3; cases d3), fun b hb => List.all_eq_true.1 d2 b hb⟩
theorem plain_letter (b : UInt8) (h : letterB b = true) : plainB b = true := by
  simp only [letterB, Bool.and_eq_true, decide_eq_true_eq] at h
  simp only [plainB, Bool.and_eq_true, decide_eq_true_eq, Bool.not_eq_true']
  refine ⟨⟨by omega, by simp [blankP]; omega⟩, ?_⟩
  rintro rfl; revert h; decide
theorem word_nm (s : ByteArray) (h : nameB s = true) : Word (by8 s) := by
  simp only [nameB, Bool.and_eq_true, decide_eq_true_eq] at h
  refine ⟨fun e => ?_, fun b hb => plain_letter b (List.all_eq_true.1 h.2 b hb)⟩
  have h3 : s.data.toList.length = s.size := Array.length_toList
  have h4 := congrArg List.length e
  unfold by8 at h4
  rw [h3] at h4
  have h5 : s.size = 0 := h4
  omega
theorem tail_plain : ∀ (l : List Int) (b : Bool), (∀ z ∈ l, 0 ≤ z ∧ z < 16) → ∀ x ∈ tailT b l, plainB x = true
  | [], b, _, x, hx => by simp [tailT] at hx
  | z :: r, b, h, x, hx => by
    rw [tailT] at hx
    rcases List.mem_cons.1 hx with rfl | hx
    · cases b <;> decide
    · rcases List.mem_append.1 hx with hx | hx
      · have hz := h z (List.mem_cons_self ..)
        exact (num_itoa z hz.1 (by omega)).2.2 x hx
      · exact tail_plain r false (fun y hy => h y (List.mem_cons_of_mem _ hy)) x hx
theorem word_txt (la ca : Int) (h0 : 0 ≤ la) (h1 : la < 16) : Word (txt la (catL ca 16)) := by
  have hw := (num_itoa la h0 (by omega)).2
  unfold txt
  refine ⟨fun e => hw.1 (List.append_eq_nil_iff.1 e).1, fun b hb => ?_⟩
  rcases List.mem_append.1 hb with hb | hb
  · exact hw.2 b hb
  · exact tail_plain _ true (fun z hz => catL_mem ca 16 z hz) b hb
structure GoodR (rs : List Rg) (r : Rg) : Prop where
  nm : nameB r.nm = true
  lv0 : 0 ≤ r.lv
  lv1 : r.lv < 16
  cs0 : 0 ≤ r.cs
  cs1 : r.cs < 65536
  bl : 0 ≤ r.bl ∧ r.bl < 1000
  nd : 0 ≤ r.nd ∧ r.nd < 1000
  fr : 0 ≤ r.fr ∧ r.fr < 1000
  pr : 0 ≤ r.pr ∧ r.pr < 1000
  op : 0 ≤ r.op ∧ r.op < 1000
  cl : ∃ c : Nat, ∃ h : c < rs.length, r.cl = c ∧ nameB rs[c].nm = true ∧ nmAt rs r.cl = rs[c].nm
theorem nmAt_in (rs : List Rg) (c : Nat) (h : c < rs.length) : nmAt rs (c : Int) = rs[c].nm := by unfold nmAt; rw [regAt_in rs c h]
theorem good_of {rs : List Rg} {ms : List (Int × Int)} (h : newE rs ms = 0) (hok : ∀ r ∈ rs, r.ok) : ∀ r ∈ rs, GoodR rs r := by
  obtain ⟨-, -, hre, -, -⟩ := newE_zero h
  intro r hr
  obtain ⟨k, hk, rfl⟩ := List.mem_iff_getElem.1 hr
  have h1 := regsE_all rs _ hre k hk
  obtain ⟨a1, ⟨a2, a3⟩, -⟩ := oneE_apart hk h1
  obtain ⟨-, o1, o2, o3, o4⟩ := hok _ hr
  have hv : haveB rs[k] = true := by
    have h2 := h1
    unfold oneE at h2
    have e : rs.getD k zeroRg = rs[k] := by rw [List.getD_eq_getElem?_getD, List.getElem?_eq_getElem hk]; rfl
    simp only [e] at h2
    rw [if_neg (by rw [a1]; decide)] at h2
    split at h2
    · cases h2
    · rename_i h3
      simp only [Bool.not_eq_false, Bool.and_eq_true] at h3
      exact h3.1.1
  simp only [haveB, Bool.and_eq_true, decide_eq_true_eq] at hv
  obtain ⟨c, hc⟩ := Int.eq_ofNat_of_zero_le a2
  have hcl : c < rs.length := by omega
  have h2 := (oneE_apart hcl (regsE_all rs _ hre c hcl)).1
  exact ⟨a1, o1, by omega, o3, o4, by omega, by omega, by omega, by omega, by omega, c, hcl, hc, h2, by rw [hc]; exact nmAt_in rs c hcl⟩
theorem word_kw : ∀ i, i < 5 → Word (by8 (kw i)) := by
  have h : ∀ i, i < 5 → (by8 (kw i)).isEmpty = false ∧ (by8 (kw i)).all plainB = true := by decide +kernel
  intro i hi
  obtain ⟨h1, h2⟩ := h i hi
  exact ⟨(fun e => by rw [e] at h1; cases h1), fun b hb => List.all_eq_true.1 h2 b hb⟩
theorem word_key : Word (by8 labelW) ∧ Word (by8 trustW) ∧ Word (by8 clearW) := by
  have h : ∀ w ∈ [by8 labelW, by8 trustW, by8 clearW], w.isEmpty = false ∧ w.all plainB = true := by decide +kernel
  refine ⟨?_, ?_, ?_⟩
  all_goals
    refine ⟨?_, ?_⟩
    · intro e
      first
        | (have h1 := (h (by8 labelW) (by simp)).1; rw [e] at h1; cases h1)
        | (have h1 := (h (by8 trustW) (by simp)).1; rw [e] at h1; cases h1)
        | (have h1 := (h (by8 clearW) (by simp)).1; rw [e] at h1; cases h1)
    · intro b hb
      first
        | exact List.all_eq_true.1 (h (by8 labelW) (by simp)).2 b hb
        | exact List.all_eq_true.1 (h (by8 trustW) (by simp)).2 b hb
        | exact List.all_eq_true.1 (h (by8 clearW) (by simp)).2 b hb
theorem words_R {rs : List Rg} {r : Rg} (h : GoodR rs r) : ∀ w ∈ lineR rs r, Word w := by
  obtain ⟨c, hc, h1, h2, h3⟩ := h.cl
  have hn : Word (by8 (nmAt rs r.cl)) := by rw [h3]; exact word_nm _ h2
  intro w hw
  simp only [lineR, List.mem_cons, List.not_mem_nil, or_false] at hw
  rcases hw with rfl | rfl | rfl | rfl | rfl | rfl | rfl | rfl | rfl | rfl | rfl | rfl | rfl | rfl | rfl
  · exact word_key.1
  · exact word_nm _ h.nm
  · exact word_txt _ _ h.lv0 h.lv1
  · exact word_kw 0 (by decide)
  · exact (num_itoa _ h.bl.1 h.bl.2).2
  · exact word_kw 1 (by decide)
  · exact (num_itoa _ h.nd.1 h.nd.2).2
  · exact word_kw 2 (by decide)
  · exact (num_itoa _ h.fr.1 h.fr.2).2
  · exact word_kw 3 (by decide)
  · exact (num_itoa _ h.pr.1 h.pr.2).2
  · exact word_kw 4 (by decide)
  · exact (num_itoa _ h.op.1 h.op.2).2
  · exact word_key.2.2
  · exact hn
/-- a label as its line says it: without its clear -/
def z0 (r : Rg) : Rg := { r with cl := 0 }
theorem line_R {rs : List Rg} {r : Rg} (h : GoodR rs r) (W : List ByteArray) (hW : W = (lineR rs r).map mkB) : W.length = 15 ∧ wAt W 0 = labelW ∧ lineE W = 0 ∧ labRg W = z0 r ∧ wAt W 14 = nmAt rs r.cl := by
  have w0 : wAt W 0 = labelW := by rw [hW]; exact mk_by8 _
  have w1 : wAt W 1 = r.nm := by rw [hW]; exact mk_by8 _
  have w2 : wAt W 2 = mkB (txt r.lv (catL r.cs 16)) := by rw [hW]; rfl
  have w13 : wAt W 13 = clearW := by rw [hW]; exact mk_by8 _
  have w14 : wAt W 14 = nmAt rs r.cl := by rw [hW]; exact mk_by8 _
  have hl : W.length = 15 := by rw [hW]; rfl
  have k0 : wAt W 3 = kw 0 := by rw [hW]; exact mk_by8 _
  have k1 : wAt W 5 = kw 1 := by rw [hW]; exact mk_by8 _
  have k2 : wAt W 7 = kw 2 := by rw [hW]; exact mk_by8 _
  have k3 : wAt W 9 = kw 3 := by rw [hW]; exact mk_by8 _
  have k4 : wAt W 11 = kw 4 := by rw [hW]; exact mk_by8 _
  have n0 : numC (wAt W 4) = some r.bl.toNat := by rw [hW]; exact (num_itoa _ h.bl.1 h.bl.2).1
  have n1 : numC (wAt W 6) = some r.nd.toNat := by rw [hW]; exact (num_itoa _ h.nd.1 h.nd.2).1
  have n2 : numC (wAt W 8) = some r.fr.toNat := by rw [hW]; exact (num_itoa _ h.fr.1 h.fr.2).1
  have n3 : numC (wAt W 10) = some r.pr.toNat := by rw [hW]; exact (num_itoa _ h.pr.1 h.pr.2).1
  have n4 : numC (wAt W 12) = some r.op.toNat := by rw [hW]; exact (num_itoa _ h.op.1 h.op.2).1
  have hr := read_text r.lv r.cs h.lv0 (by have := h.lv1; omega) h.cs0 h.cs1
  have ht : (mkB (txt r.lv (catL r.cs 16))).data.toList = txt r.lv (catL r.cs 16) := rfl
  have hwe : wantE r.lv = 0 := by have := h.lv1; unfold wantE; rw [if_neg (by omega), if_neg (by omega)]
  have hr2 := hr.2 (by have := h.lv1; omega)
  refine ⟨hl, w0, ?_, ?_, w14⟩
  · unfold lineE
    rw [if_neg (by omega), if_pos w0]
    unfold labE
    rw [if_neg (by rintro (h1 | h1); exact h1 hl; exact h1 w13), w2, ht, hr.1, hwe]
    rw [if_neg (by decide), if_neg]
    simp [numsB, k0, k1, k2, k3, k4, n0, n1, n2, n3, n4]
  · unfold labRg labN
    rw [w1, w2, ht, hr2.1, hr2.2]
    simp only [Nat.reduceMul, Nat.reduceAdd, n0, n1, n2, n3, n4, Option.getD_some]
    have b0 := h.bl.1
    have b1 := h.nd.1
    have b2 := h.fr.1
    have b3 := h.pr.1
    have b4 := h.op.1
    rw [Int.toNat_of_nonneg b0, Int.toNat_of_nonneg b1, Int.toNat_of_nonneg b2, Int.toNat_of_nonneg b3, Int.toNat_of_nonneg b4]
    rfl
end Go.Proofs.YtfackmiojbdjhaaDoor

/- A configuration's text is that configuration. -/
namespace Go.Proofs.YtfackmiojbdjhaaDoor
set_option linter.unusedSimpArgs false
set_option linter.unusedVariables false
open Go.RowKit Go.Maps

theorem lineB_0 (st : TS) (L : Int) (ws : List ByteArray) (h : ws.length = 0) : lineF st L ws = st := by unfold lineF; rw [if_pos h]
theorem lineB_t (st : TS) (L : Int) (ws : List ByteArray) (h : ws.length ≠ 0) (h0 : wAt ws 0 = trustW) : lineF st L ws = ⟨st.rs, st.cls, st.trs ++ [(L, wAt ws 1, wAt ws 2)]⟩ := by
  unfold lineF; rw [if_neg h, if_neg (by rw [h0]; decide)]
theorem lineB_l (st : TS) (L : Int) (ws : List ByteArray) (h : ws.length ≠ 0) (h0 : wAt ws 0 = labelW) : lineF st L ws = ⟨st.rs ++ [labRg ws], st.cls ++ [wAt ws 14], st.trs⟩ := by
  unfold lineF; rw [if_neg h, if_pos h0]

structure GoodM (rs : List Rg) (m : Int × Int) : Prop where
  lab : ∃ c : Nat, ∃ h : c < rs.length, m.1 = c ∧ nameB rs[c].nm = true ∧ nmAt rs m.1 = rs[c].nm
  num : 0 ≤ m.2 ∧ m.2 < 1000
theorem goodM_of {rs : List Rg} {ms : List (Int × Int)} (h : newE rs ms = 0) (hok : ∀ r ∈ rs, r.ok) : ∀ m ∈ ms, GoodM rs m := by
  have hg := good_of h hok
  obtain ⟨-, -, hre, -, hme⟩ := newE_zero h
  have hall : ∀ n, marksE rs ms n = 0 → ∀ k, k < n → markOne rs ms k = 0 := by
    intro n
    induction n with
    | zero => intro _ k hk; omega
    | succ n ih =>
      intro h k hk
      have h0 : marksE rs ms n = 0 := by
        by_cases e : marksE rs ms n = 0
        · exact e
        · rw [marksE, if_neg e] at h; exact absurd h e
      by_cases e : k = n
      · subst e; rw [marksE, if_pos h0] at h; exact h
      · exact ih h0 k (by omega)
  intro m hm
  obtain ⟨k, hk, rfl⟩ := List.mem_iff_getElem.1 hm
  have h1 := hall _ hme k hk
  unfold markOne at h1
  have e : ms.getD k (0, 0) = ms[k] := by rw [List.getD_eq_getElem?_getD, List.getElem?_eq_getElem hk]; rfl
  simp only [e] at h1
  split at h1
  · cases h1
  · rename_i h2
    simp only [Bool.not_eq_false, Bool.and_eq_true, decide_eq_true_eq] at h2
    obtain ⟨⟨h3, h4⟩, h5⟩ := h2
    have hin : 0 ≤ ms[k].1 ∧ ms[k].1 < rs.length := by
      rcases Int.lt_or_le ms[k].1 0 with h6 | h6
      · rw [regAt_out rs _ (.inl h6)] at h3; cases h3
      · refine ⟨h6, ?_⟩
        rcases Int.lt_or_le ms[k].1 rs.length with h7 | h7
        · exact h7
        · rw [regAt_out rs _ (.inr h7)] at h3; cases h3
    obtain ⟨c, hc⟩ := Int.eq_ofNat_of_zero_le hin.1
    have hcl : c < rs.length := by omega
    have hgc := hg rs[c] (List.getElem_mem _)
    rw [hc, regAt_in rs c hcl] at h5
    have hnd := hgc.nd
    exact ⟨⟨c, hcl, hc, hgc.nm, by rw [hc]; exact nmAt_in rs c hcl⟩, by omega, by simp only at h5; omega⟩
theorem words_M {rs : List Rg} {m : Int × Int} (h : GoodM rs m) : ∀ w ∈ lineM rs m, Word w := by
  obtain ⟨c, hc, h1, h2, h3⟩ := h.lab
  intro w hw
  simp only [lineM, List.mem_cons, List.not_mem_nil, or_false] at hw
  rcases hw with rfl | rfl | rfl
  · exact word_key.2.1
  · rw [h3]; exact word_nm _ h2
  · exact (num_itoa _ h.num.1 h.num.2).2
theorem line_M {rs : List Rg} {m : Int × Int} (W : List ByteArray) (hW : W = (lineM rs m).map mkB) : W.length = 3 ∧ wAt W 0 = trustW ∧ lineE W = 0 ∧ wAt W 1 = nmAt rs m.1 ∧ wAt W 2 = mkB (Lib.itoa m.2) := by
  have w0 : wAt W 0 = trustW := by rw [hW]; exact mk_by8 _
  have w1 : wAt W 1 = nmAt rs m.1 := by rw [hW]; exact mk_by8 _
  have w2 : wAt W 2 = mkB (Lib.itoa m.2) := by rw [hW]; rfl
  have hl : W.length = 3 := by rw [hW]; rfl
  refine ⟨hl, w0, ?_, w1, w2⟩
  unfold lineE
  rw [if_neg (by omega), if_neg (by rw [w0]; decide), if_pos ⟨w0, hl⟩]

/-- the lines of a configuration's text -/
def confLs (rs : List Rg) (ms : List (Int × Int)) : List ByteArray := (confL rs ms).map (fun ws => mkB (joinW ws)) ++ [⟨#[]⟩]
theorem confL_len (rs : List Rg) (ms : List (Int × Int)) : (confL rs ms).length = rs.length + ms.length := by simp [confL]
theorem lines_conf {rs : List Rg} {ms : List (Int × Int)} (hg : ∀ r ∈ rs, GoodR rs r) (hm : ∀ m ∈ ms, GoodM rs m) : linesOf (confT rs ms) = confLs rs ms := by
  unfold confT confLs
  rw [lines_text (confL rs ms) (fun ws hws => by
    rcases List.mem_append.1 hws with h | h
    · obtain ⟨r, hr, rfl⟩ := List.mem_map.1 h
      exact words_R (hg r hr)
    · obtain ⟨m, hm', rfl⟩ := List.mem_map.1 h
      exact words_M (hm m hm'))]
  rfl
theorem confLs_len (rs : List Rg) (ms : List (Int × Int)) : (confLs rs ms).length = rs.length + ms.length + 1 := by simp [confLs, confL_len]
theorem confLs_R (rs : List Rg) (ms : List (Int × Int)) (k : Nat) (h : k < rs.length) : wAt (confLs rs ms) k = mkB (joinW (lineR rs rs[k])) := by
  rw [← wAt_is _ k (by rw [confLs_len]; omega)]
  unfold confLs
  rw [List.getElem_append_left (by rw [List.length_map, confL_len]; omega), List.getElem_map]
  congr 2
  unfold confL
  rw [List.getElem_append_left (by rw [List.length_map]; exact h), List.getElem_map]
theorem confLs_M (rs : List Rg) (ms : List (Int × Int)) (k : Nat) (h : k < ms.length) : wAt (confLs rs ms) (rs.length + k) = mkB (joinW (lineM rs ms[k])) := by
  rw [← wAt_is _ (rs.length + k) (by rw [confLs_len]; omega)]
  unfold confLs
  rw [List.getElem_append_left (by rw [List.length_map, confL_len]; omega), List.getElem_map]
  congr 2
  unfold confL
  rw [List.getElem_append_right (by rw [List.length_map]; omega), List.getElem_map]
  simp
theorem confLs_last (rs : List Rg) (ms : List (Int × Int)) : wAt (confLs rs ms) (rs.length + ms.length) = ⟨#[]⟩ := by
  rw [← wAt_is _ (rs.length + ms.length) (by rw [confLs_len]; omega)]
  unfold confLs
  rw [List.getElem_append_right (by rw [List.length_map, confL_len]; omega)]
  simp [confL_len]
theorem words_nil : wordsOf ⟨#[]⟩ = [] := words_join [] (fun w h => by cases h)

theorem st_R {rs : List Rg} {ms : List (Int × Int)} (hg : ∀ r ∈ rs, GoodR rs r) : ∀ k, k ≤ rs.length → linesE (confLs rs ms) k = (0, 0) ∧ stAt (confLs rs ms) k = ⟨(rs.take k).map z0, (rs.take k).map (fun r => nmAt rs r.cl), []⟩
  | 0, _ => ⟨rfl, rfl⟩
  | k + 1, hk => by
    obtain ⟨ih1, ih2⟩ := st_R (ms := ms) hg k (by omega)
    have hw : wordsOf (wAt (confLs rs ms) k) = (lineR rs rs[k]).map mkB := by
      rw [confLs_R rs ms k (by omega)]
      exact words_join _ (words_R (hg _ (List.getElem_mem _)))
    obtain ⟨l1, l2, l3, l4, l5⟩ := line_R (hg rs[k] (List.getElem_mem _)) _ rfl
    refine ⟨?_, ?_⟩
    · rw [linesE, ih1, hw, l3]; rfl
    · rw [stAt, ih2, hw, lineB_l _ _ _ (by rw [l1]; decide) l2, l4, l5, List.take_add_one, List.getElem?_eq_getElem (show k < rs.length by omega)]
      simp only [List.map_append, List.map_cons, List.map_nil, Option.toList_some]
theorem st_M {rs : List Rg} {ms : List (Int × Int)} (hg : ∀ r ∈ rs, GoodR rs r) (hm : ∀ m ∈ ms, GoodM rs m) : ∀ k, k ≤ ms.length → linesE (confLs rs ms) (rs.length + k) = (0, 0) ∧
    (stAt (confLs rs ms) (rs.length + k)).rs = rs.map z0 ∧ (stAt (confLs rs ms) (rs.length + k)).cls = rs.map (fun r => nmAt rs r.cl) ∧ (stAt (confLs rs ms) (rs.length + k)).trs.map (fun x => x.2) = (ms.take k).map (fun m => (nmAt rs m.1, mkB (Lib.itoa m.2)))
  | 0, _ => by
    obtain ⟨h1, h2⟩ := st_R (ms := ms) hg rs.length (Nat.le_refl _)
    rw [List.take_length] at h2
    rw [Nat.add_zero, h2]
    exact ⟨h1, rfl, rfl, rfl⟩
  | k + 1, hk => by
    obtain ⟨ih1, ih2, ih3, ih4⟩ := st_M hg hm k (by omega)
    have hw : wordsOf (wAt (confLs rs ms) (rs.length + k)) = (lineM rs ms[k]).map mkB := by
      rw [confLs_M rs ms k (by omega)]
      exact words_join _ (words_M (hm _ (List.getElem_mem _)))
    obtain ⟨l1, l2, l3, l4, l5⟩ := line_M (rs := rs) (m := ms[k]) _ rfl
    rw [show rs.length + (k + 1) = (rs.length + k) + 1 by omega]
    refine ⟨?_, ?_, ?_, ?_⟩
    · rw [linesE, ih1, hw, l3]; rfl
    · rw [stAt, hw, lineB_t _ _ _ (by rw [l1]; decide) l2]; exact ih2
    · rw [stAt, hw, lineB_t _ _ _ (by rw [l1]; decide) l2]; exact ih3
    · rw [stAt, hw, lineB_t _ _ _ (by rw [l1]; decide) l2, List.map_append, ih4, List.take_add_one, List.getElem?_eq_getElem (show k < ms.length by omega), l4, l5]
      simp only [List.map_append, List.map_cons, List.map_nil, Option.toList_some]
theorem place_nm {rs : List Rg} {ms : List (Int × Int)} (h : newE rs ms = 0) (c : Nat) (hc : c < rs.length) : place (rs.map z0) rs[c].nm = some c := by
  obtain ⟨-, -, hre, -, -⟩ := newE_zero h
  rw [place_names rs (rs.map z0) _ (by rw [List.map_map]; rfl)]
  refine place_at rs _ c hc rfl (fun j hj hjc => ?_)
  exact ((oneE_apart hc (regsE_all rs _ hre c hc)).2.2 j hjc).1
theorem mksE_good (rs : List Rg) (trs : List (Int × ByteArray × ByteArray)) (h : ∀ x ∈ trs, mkOne rs x = 0) : ∀ k, k ≤ trs.length → mksE rs trs k = (0, 0)
  | 0, _ => rfl
  | k + 1, hk => by
    have ih := mksE_good rs trs h k (by omega)
    have e : trs.getD k (0, ByteArray.empty, ByteArray.empty) = trs[k] := by rw [List.getD_eq_getElem?_getD, List.getElem?_eq_getElem (show k < trs.length by omega)]; rfl
    rw [mksE, ih, e, h _ (List.getElem_mem _)]
    rfl
theorem conf_parse {rs : List Rg} {ms : List (Int × Int)} (h : newE rs ms = 0) (hok : ∀ r ∈ rs, r.ok) : parseE (confT rs ms) = (0, 0) ∧ outRs (confT rs ms) = rs ∧ outMs (confT rs ms) = ms := by
  have hg := good_of h hok
  have hm := goodM_of h hok
  have hr64 := (newE_zero h).2.1
  have hls := lines_conf hg hm
  obtain ⟨m1, m2, m3, m4⟩ := st_M hg hm ms.length (Nat.le_refl _)
  rw [List.take_length] at m4
  have hlast : wordsOf (wAt (confLs rs ms) (rs.length + ms.length)) = [] := by rw [confLs_last]; exact words_nil
  have hst : stAt (confLs rs ms) (rs.length + ms.length + 1) = stAt (confLs rs ms) (rs.length + ms.length) := by rw [stAt, hlast, lineB_0 _ _ _ rfl]
  have hE : linesE (confLs rs ms) (rs.length + ms.length + 1) = (0, 0) := by rw [linesE, m1, hlast]; rfl
  have hlen := confLs_len rs ms
  obtain ⟨st, hst0⟩ : ∃ x, stAt (confLs rs ms) (rs.length + ms.length) = x := ⟨_, rfl⟩
  rw [hst0] at m2 m3 m4 hst
  have hcl : ∀ r ∈ rs, ∃ c : Nat, r.cl = c ∧ place (rs.map z0) (nmAt rs r.cl) = some c := by
    intro r hr
    obtain ⟨c, hc, h1, -, h3⟩ := (hg r hr).cl
    exact ⟨c, h1, by rw [h3]; exact place_nm h c hc⟩
  have hO : outRs (confT rs ms) = rs := by
    unfold outRs
    rw [hls, hlen, hst, m2, m3]
    refine List.ext_getElem (by rw [clF_len _ _ (by simp)]; simp) (fun i h1 h2 => ?_)
    rw [clF_get _ _ (by simp) i (by simpa using h2)]
    simp only [List.getElem_map]
    obtain ⟨c, e1, e2⟩ := hcl rs[i] (List.getElem_mem _)
    unfold clR
    rw [e2]
    simp only [z0, Option.getD_some]
    rw [← e1]
  have hx : ∀ x ∈ st.trs, ∃ m ∈ ms, x.2 = (nmAt rs m.1, mkB (Lib.itoa m.2)) := by
    intro x hx
    have h1 : x.2 ∈ st.trs.map (fun x => x.2) := List.mem_map.2 ⟨x, hx, rfl⟩
    rw [m4] at h1
    obtain ⟨m, hmm, e⟩ := List.mem_map.1 h1
    exact ⟨m, hmm, e.symm⟩
  have hM : outMs (confT rs ms) = ms := by
    unfold outMs
    rw [hls, hlen, hst, m2]
    have e1 : st.trs.map (mkOf (rs.map z0)) = (st.trs.map (fun x => x.2)).map (fun y => mkOf (rs.map z0) (0, y)) := by rw [List.map_map]; rfl
    rw [e1, m4, List.map_map]
    conv => rhs; rw [← List.map_id ms]
    refine List.map_congr_left (fun m hmm => ?_)
    obtain ⟨⟨c, hc, e2, -, e3⟩, e4, e5⟩ := hm m hmm
    show mkOf (rs.map z0) (0, nmAt rs m.1, mkB (Lib.itoa m.2)) = m
    unfold mkOf
    simp only
    rw [e3, place_nm h c hc, (num_itoa m.2 e4 e5).1]
    simp only [Option.getD_some]
    rw [Nat.mod_eq_of_lt (by omega), Int.toNat_of_nonneg e4, ← e2]
  refine ⟨?_, hO, hM⟩
  unfold parseE
  simp only
  rw [hO, hM, h, hls, hlen, hE, hst, m2, m3]
  rw [if_neg (by decide), if_neg, if_neg]
  · rw [mksE_good _ _ (fun x hx' => ?_) _ (Nat.le_refl _)]
    · simp
    · obtain ⟨m, hmm, e⟩ := hx x hx'
      obtain ⟨⟨c, hc, e2, -, e3⟩, e4, e5⟩ := hm m hmm
      unfold mkOne
      rw [e]
      simp only
      rw [e3, place_nm h c hc, (num_itoa m.2 e4 e5).1]
      rfl
  · rw [Bool.not_eq_false]
    unfold clB
    rw [List.all_eq_true]
    intro y hy
    obtain ⟨r, hr, rfl⟩ := List.mem_map.1 hy
    obtain ⟨c, -, e2⟩ := hcl r hr
    rw [e2]; rfl
end Go.Proofs.YtfackmiojbdjhaaDoor

/- A configuration's text, byte by byte as it is written. -/
namespace Go.Proofs.YtfackmiojbdjhaaDoor
set_option linter.unusedSimpArgs false
set_option linter.unusedVariables false
open Go.RowKit Go.Maps

theorem byteCells_app (l m : List UInt8) : Lib.byteCells (l ++ m) = Lib.byteCells l ++ Lib.byteCells m := by simp [Lib.byteCells]
theorem byteCells_str (s : ByteArray) : Lib.byteCells s.data.toList = Lib.strCells s := by rfl
theorem cells_s (l : List UInt8) (s : ByteArray) : Lib.byteCells l ++ Lib.strCells s = Lib.byteCells (l ++ s.data.toList) := by rw [byteCells_app, byteCells_str]
def numR (r : Rg) (i : Nat) : Int := if i = 0 then r.bl else if i = 1 then r.nd else if i = 2 then r.fr else if i = 3 then r.pr else r.op
def hdL (r : Rg) : List UInt8 := [108, 97, 98, 101, 108, 32] ++ by8 r.nm ++ [32] ++ txt r.lv (catL r.cs 16)
def nuL (r : Rg) (i : Nat) : List UInt8 := [32] ++ by8 (kw i) ++ [32] ++ Lib.itoa (numR r i)
def nusL (r : Rg) : Nat → List UInt8
  | 0 => []
  | i + 1 => nusL r i ++ nuL r i
def tlL (rs : List Rg) (r : Rg) : List UInt8 := [32, 99, 108, 101, 97, 114, 32] ++ by8 (nmAt rs r.cl) ++ [10]
def mkL (rs : List Rg) (m : Int × Int) : List UInt8 := [116, 114, 117, 115, 116, 32] ++ by8 (nmAt rs m.1) ++ [32] ++ Lib.itoa m.2 ++ [10]
def lnL (rs : List Rg) (r : Rg) : List UInt8 := hdL r ++ nusL r 5 ++ tlL rs r
def txR (rs : List Rg) (k : Nat) : List UInt8 := (rs.take k).flatMap (lnL rs)
def txM (rs : List Rg) (ms : List (Int × Int)) (j : Nat) : List UInt8 := txR rs rs.length ++ (ms.take j).flatMap (mkL rs)
theorem lnL_join (rs : List Rg) (r : Rg) : joinW (lineR rs r) ++ [10] = lnL rs r := by
  have e1 : by8 labelW = [108, 97, 98, 101, 108] := rfl
  have e2 : by8 clearW = [99, 108, 101, 97, 114] := rfl
  simp [lineR, joinW, lnL, hdL, nusL, nuL, tlL, numR, e1, e2, List.append_assoc]
theorem mkL_join (rs : List Rg) (m : Int × Int) : joinW (lineM rs m) ++ [10] = mkL rs m := by
  have e1 : by8 trustW = [116, 114, 117, 115, 116] := rfl
  simp [lineM, joinW, mkL, e1, List.append_assoc]
theorem conf_txt (rs : List Rg) (ms : List (Int × Int)) : confT rs ms = ⟨(txM rs ms ms.length).toArray⟩ := by
  unfold confT textW confL txM txR
  rw [List.take_length, List.take_length, List.flatMap_append, List.flatMap_map, List.flatMap_map]
  have e1 : (fun a => joinW (lineR rs a) ++ [10]) = lnL rs := funext (lnL_join rs)
  have e2 : (fun a => joinW (lineM rs a) ++ [10]) = mkL rs := funext (mkL_join rs)
  rw [← e1, ← e2]
theorem txR_step (rs : List Rg) (k : Nat) (h : k < rs.length) : txR rs (k + 1) = txR rs k ++ hdL rs[k] ++ nusL rs[k] 5 ++ tlL rs rs[k] := by
  unfold txR
  rw [List.take_add_one, List.getElem?_eq_getElem h, Option.toList_some, List.flatMap_append]
  simp [lnL, List.append_assoc]
theorem txM_zero (rs : List Rg) (ms : List (Int × Int)) : txM rs ms 0 = txR rs rs.length := by simp [txM]
theorem txM_step (rs : List Rg) (ms : List (Int × Int)) (k : Nat) (h : k < ms.length) : txM rs ms (k + 1) = txM rs ms k ++ mkL rs ms[k] := by
  unfold txM
  rw [List.take_add_one, List.getElem?_eq_getElem h, Option.toList_some, List.flatMap_append]
  simp [List.append_assoc]
/-- numbers that one or two digits hold -/
structure Low (r : Rg) : Prop where
  bl : 0 ≤ r.bl ∧ r.bl < 100
  nd : 0 ≤ r.nd ∧ r.nd < 100
  fr : 0 ≤ r.fr ∧ r.fr < 100
  pr : 0 ≤ r.pr ∧ r.pr < 100
  op : 0 ≤ r.op ∧ r.op < 100
theorem Low.num {r : Rg} (h : Low r) (i : Nat) : 0 ≤ numR r i ∧ numR r i < 100 := by
  unfold numR
  split
  · exact h.bl
  split
  · exact h.nd
  split
  · exact h.fr
  split
  · exact h.pr
  · exact h.op
theorem by8_len (s : ByteArray) : (by8 s).length = s.size := Array.length_toList
theorem name_len {s : ByteArray} (h : nameB s = true) : (by8 s).length ≤ 8 := by
  simp only [nameB, Bool.and_eq_true, decide_eq_true_eq] at h
  rw [by8_len]; exact h.1.2
theorem kw_len (i : Nat) : (by8 (kw i)).length ≤ 6 := by
  unfold kw
  repeat' split
  all_goals decide
theorem hdL_len {rs : List Rg} {r : Rg} (h : GoodR rs r) : (hdL r).length ≤ 90 := by
  have h1 := name_len h.nm
  have h2 := txt_len r.lv (catL r.cs 16) h.lv0 (by have := h.lv1; omega) (fun z hz => catL_mem r.cs 16 z hz)
  have h3 := catL_len r.cs 16
  unfold hdL
  simp only [List.length_append, List.length_cons, List.length_nil]
  omega
theorem nuL_len {r : Rg} (h : Low r) (i : Nat) : (nuL r i).length ≤ 11 := by
  have h1 := kw_len i
  have h2 := h.num i
  have h3 := itoa_len (numR r i) h2.1 (by omega)
  unfold nuL
  simp only [List.length_append, List.length_cons, List.length_nil]
  omega
theorem nusL_len {r : Rg} (h : Low r) : ∀ i, (nusL r i).length ≤ 11 * i
  | 0 => by simp [nusL]
  | i + 1 => by
    have h1 := nusL_len h i
    have h2 := nuL_len h i
    rw [nusL, List.length_append]
    omega
theorem tlL_len {rs : List Rg} {r : Rg} (h : GoodR rs r) : (tlL rs r).length ≤ 16 := by
  obtain ⟨c, hc, -, h2, h3⟩ := h.cl
  have h1 := name_len h2
  unfold tlL
  rw [h3]
  simp only [List.length_append, List.length_cons, List.length_nil]
  omega
theorem mkL_len {rs : List Rg} {m : Int × Int} (h : GoodM rs m) (hl : m.2 < 100) : (mkL rs m).length ≤ 19 := by
  obtain ⟨c, hc, -, h2, h3⟩ := h.lab
  have h1 := name_len h2
  have h4 := itoa_len m.2 h.num.1 (by omega)
  unfold mkL
  rw [h3]
  simp only [List.length_append, List.length_cons, List.length_nil]
  omega
theorem txR_len {rs : List Rg} (hg : ∀ r ∈ rs, GoodR rs r) (hl : ∀ r ∈ rs, Low r) : ∀ k, k ≤ rs.length → (txR rs k).length ≤ 170 * k
  | 0, _ => by simp [txR]
  | k + 1, hk => by
    have h1 := txR_len hg hl k (by omega)
    have hm : rs[k] ∈ rs := List.getElem_mem _
    have h2 := hdL_len (hg _ hm)
    have h3 := nusL_len (hl _ hm) 5
    have h4 := tlL_len (hg _ hm)
    rw [txR_step rs k (by omega)]
    simp only [List.length_append]
    omega
theorem txM_len {rs : List Rg} {ms : List (Int × Int)} (hg : ∀ r ∈ rs, GoodR rs r) (hl : ∀ r ∈ rs, Low r) (hm : ∀ m ∈ ms, GoodM rs m ∧ m.2 < 100) : ∀ k, k ≤ ms.length → (txM rs ms k).length ≤ 170 * rs.length + 19 * k
  | 0, _ => by
    rw [txM_zero]
    have := txR_len hg hl rs.length (Nat.le_refl _)
    omega
  | k + 1, hk => by
    have h1 := txM_len hg hl hm k (by omega)
    have h2 := hm ms[k] (List.getElem_mem _)
    have h3 := mkL_len h2.1 h2.2
    rw [txM_step rs ms k (by omega)]
    simp only [List.length_append]
    omega
/-- what is written at once -/
theorem str_hd (r : Rg) : ((((⟨#[108, 97, 98, 101, 108, 32]⟩ : ByteArray) ++ r.nm) ++ ⟨#[32]⟩) ++ ⟨(txt r.lv (catL r.cs 16)).toArray⟩ : ByteArray).data.toList = hdL r := by
  simp [hdL, by8, ByteArray.data_append]
theorem str_nu (r : Rg) (i : Nat) : ((((⟨#[32]⟩ : ByteArray) ++ kw i) ++ ⟨#[32]⟩) ++ ⟨(Lib.itoa (numR r i)).toArray⟩ : ByteArray).data.toList = nuL r i := by
  simp [nuL, by8, ByteArray.data_append]
theorem str_tl (rs : List Rg) (r : Rg) : (((⟨#[32, 99, 108, 101, 97, 114, 32]⟩ : ByteArray) ++ nmAt rs r.cl) ++ ⟨#[10]⟩ : ByteArray).data.toList = tlL rs r := by
  simp [tlL, by8, ByteArray.data_append]
theorem str_mk (rs : List Rg) (m : Int × Int) : (((((⟨#[116, 114, 117, 115, 116, 32]⟩ : ByteArray) ++ nmAt rs m.1) ++ ⟨#[32]⟩) ++ ⟨(Lib.itoa m.2).toArray⟩) ++ ⟨#[10]⟩ : ByteArray).data.toList = mkL rs m := by
  simp [mkL, by8, ByteArray.data_append]
end Go.Proofs.YtfackmiojbdjhaaDoor
