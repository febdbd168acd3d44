import Derived.Test.YtdebkifnaiohcaaG14
import Derived.Test.YtdebkifnaiohcaaG7
import Derived.Laws.BitsAllLaws
import Derived.Laws.IdiomStrings
/- NodeBytes: what the bytes say and back; bytes as a text; bytes compared. -/
namespace Go.Proofs.Ytdebkifnaiohcaa
set_option linter.unusedSimpArgs false
set_option linter.unusedVariables false
open Go.RowKit Go.Maps


theorem wpAnyH_monoS {P : Program} {md : Region.Mode} {ops : Array Oper} {Q : Exit → Act → World → Prop} {S S' : World → Prop} (h : ∀ w, S' w → S w) :
    ∀ (fuel : Nat) (listed : Array Bool) (a : Act) (w : World), wpAnyH P md ops Q S' fuel listed a w → wpAnyH P md ops Q S fuel listed a w
  | 0, _, _, _, hh => hh
  | fuel + 1, listed, a, w, hh => ⟨hh.1, fun i hi => wpOp_mono (fun a' w' h' => ⟨h w' h'.1, wpAnyH_monoS h fuel _ a' w' h'.2⟩) (hh.2 i hi)⟩
theorem Try.guard28 : Try.prog.eqGuardType Try.prog.depth 28 = false := by kernel_rfl
theorem eqItems_b28 (n d : Nat) (f g : Nat → Int) (w : World) (is : List Nat) (h : ∀ i ∈ is, i < n) : (Op.eqItems (d + 1) 5 1 (byts n f).toArray (byts n g).toArray is).run Try.prog w = .ok (is.all fun i => f i == g i) w := eqItems_byts n d f g w is h
theorem eq28 (f g : Nat → Int) (w : World) : (Op.equalIn 10000 28 (.agg (byts 32 f).toArray) (.agg (byts 32 g).toArray)).run Try.prog w = .ok (eqb 32 f g) w := by
  obtain ⟨i, hi⟩ : ∃ i, Try.prog.info? 5 = some i := by
    have := Try.info5
    cases h : Try.prog.info? 5 with
    | none => simp [h] at this
    | some i => exact ⟨i, rfl⟩
  rw [run_equalIn_array w 9999 (byts 32 f).toArray (byts 32 g).toArray Try.arr28 hi, Try.cells5]
  exact eqItems_byts 32 9998 f g w (List.range 32) (fun j hj => List.mem_range.1 hj)
theorem encF_byt {f : Nat → Int} (h : NdOk f) : Byt32 (encF f) := by
  intro j hj
  unfold encF
  by_cases h0 : j = 0
  · rw [if_pos h0]; exact h.k
  rw [if_neg h0]
  by_cases h1 : j = 1
  · rw [if_pos h1]; exact h.l
  rw [if_neg h1]
  repeat' split
  all_goals first | exact dig_bd _ _ | exact ⟨Int.le_refl _, by decide⟩
theorem num2_dig (x : Int) (h0 : 0 ≤ x) (h1 : x < 65536) : dig x 0 + dig x 1 * 256 = x := by
  unfold dig
  simp
  omega
theorem dec_enc {f : Nat → Int} (h : NdOk f) : ∀ i, i < 12 → decN (encF f) i = f i := by
  have hp (k : Nat) (hk : k < 8) : numS (encF f) (8 + 2 * k) 2 = f (4 + k) := by
    have e0 : encF f (8 + 2 * k) = dig (f (4 + k)) 0 := by
      unfold encF
      rw [if_neg (by omega), if_neg (by omega), if_neg (by omega), if_neg (by omega), if_pos (by omega), show (8 + 2 * k - 8) / 2 = k by omega, show (8 + 2 * k - 8) % 2 = 0 by omega]
    have e1 : encF f (8 + 2 * k + 1) = dig (f (4 + k)) 1 := by
      unfold encF
      rw [if_neg (by omega), if_neg (by omega), if_neg (by omega), if_neg (by omega), if_pos (by omega), show (8 + 2 * k + 1 - 8) / 2 = k by omega, show (8 + 2 * k + 1 - 8) % 2 = 1 by omega]
    have hb := h.p (4 + k) (by omega) (by omega)
    have hd := num2_dig (f (4 + k)) hb.1 hb.2
    simp only [numS, Nat.add_zero, e0, e1]
    simp
    omega
  intro i hi
  by_cases h0 : i = 0
  · subst h0; rfl
  by_cases h1 : i = 1
  · subst h1; rfl
  by_cases h2 : i = 2
  · subst h2
    have hd := num2_dig (f 2) h.g.1 h.g.2
    show numS (encF f) 2 2 = f 2
    have e0 : encF f 2 = dig (f 2) 0 := rfl
    have e1 : encF f 3 = dig (f 2) 1 := rfl
    simp only [numS, Nat.add_zero, e0, e1]
    simp
    omega
  by_cases h3 : i = 3
  · subst h3
    show numS (encF f) 4 4 = f 3
    have e0 : encF f 4 = dig (f 3) 0 := rfl
    have e1 : encF f 5 = dig (f 3) 1 := rfl
    have e2 : encF f 6 = dig (f 3) 2 := rfl
    have e3 : encF f 7 = dig (f 3) 3 := rfl
    have hs := h.s
    simp only [numS, Nat.add_zero, e0, e1, e2, e3]
    unfold dig
    simp
    omega
  · unfold decN
    rw [if_neg h0, if_neg h1, if_neg h2, if_neg h3, hp (i - 4) (by omega), show 4 + (i - 4) = i by omega]
theorem tail_enc (f : Nat → Int) : tailZ (encF f) = true := by
  rw [tailZ_iff]
  intro j hj
  unfold encF
  rw [if_neg (by omega), if_neg (by omega), if_neg (by omega), if_neg (by omega), if_neg (by omega)]
theorem ndc_congr {f g : Nat → Int} (h : ∀ i, i < 12 → f i = g i) : ndc f = ndc g := by
  unfold ndc
  rw [h 0 (by decide), h 1 (by decide), h 2 (by decide), h 3 (by decide), h 4 (by decide), h 5 (by decide), h 6 (by decide), h 7 (by decide), h 8 (by decide), h 9 (by decide), h 10 (by decide), h 11 (by decide)]
theorem eqb_congr {n : Nat} {f g f' g' : Nat → Int} (h : ∀ i, i < n → f i = f' i) (h' : ∀ i, i < n → g i = g' i) : eqb n f g = eqb n f' g' := by
  rw [Bool.eq_iff_iff, eqb_iff, eqb_iff]
  exact ⟨fun e i hi => by rw [← h i hi, ← h' i hi]; exact e i hi, fun e i hi => by rw [h i hi, h' i hi]; exact e i hi⟩
theorem blank_congr {f g : Nat → Int} (h : ∀ i, i < 12 → f i = g i) : blankB f = blankB g := by
  unfold blankB
  exact eqb_congr h (fun i _ => by unfold genN; rw [h 2 (by decide)])
theorem code_congr {f g : Nat → Int} (h : ∀ i, i < 12 → f i = g i) : codeN f = codeN g := by
  unfold codeN okN
  rw [blank_congr h, h 0 (by decide), h 1 (by decide), h 3 (by decide)]
theorem decE_enc {f : Nat → Int} (h : NdOk f) : decE (encF f) = codeN f := by
  unfold decE
  rw [if_pos (tail_enc f), code_congr (dec_enc h)]
theorem ndc_dec {f : Nat → Int} (h : NdOk f) (hc : codeN f = 0) : ndc (decV (encF f)) = ndc f := by
  unfold decV
  rw [decE_enc h, if_pos hc]
  exact ndc_congr (dec_enc h)
theorem ndc_dec0 {f : Nat → Int} (h : NdOk f) (hc : codeN f ≠ 0) : ndc (decV (encF f)) = ndc zpt := by
  unfold decV
  rw [decE_enc h, if_neg hc]
theorem zpt_ok : NdOk zpt := ⟨⟨Int.le_refl _, by show (0 : Int) < 256; decide⟩, ⟨Int.le_refl _, by show (0 : Int) < 256; decide⟩, ⟨Int.le_refl _, by show (0 : Int) < 65536; decide⟩, ⟨Int.le_refl _, by show (0 : Int) < 4294967296; decide⟩, fun _ _ _ => ⟨Int.le_refl _, by show (0 : Int) < 65536; decide⟩⟩
theorem enc_dec {b : Nat → Int} (h : Byt32 b) (ht : tailZ b = true) : ∀ j, j < 32 → encF (decN b) j = b j := by
  have hz := (tailZ_iff b).1 ht
  have hp (k : Nat) (hk : k < 8) : decN b (4 + k) = b (8 + 2 * k) + b (8 + 2 * k + 1) * 256 := by
    unfold decN
    rw [if_neg (by omega), if_neg (by omega), if_neg (by omega), if_neg (by omega), show 4 + k - 4 = k by omega]
    simp [numS]
  intro j hj
  by_cases h0 : j = 0
  · subst h0; rfl
  by_cases h1 : j = 1
  · subst h1; rfl
  by_cases h4 : j < 4
  · have b2 := h 2 (by decide)
    have b3 := h 3 (by decide)
    have e : decN b 2 = b 2 + b 3 * 256 := by show numS b 2 2 = _; simp [numS]
    unfold encF
    rw [if_neg h0, if_neg h1, if_pos h4, e]
    have : j = 2 ∨ j = 3 := by omega
    rcases this with rfl | rfl
    · show (b 2 + b 3 * 256) % 256 = b 2; omega
    · show (b 2 + b 3 * 256) / 256 % 256 = b 3; omega
  by_cases h8 : j < 8
  · have b4 := h 4 (by decide)
    have b5 := h 5 (by decide)
    have b6 := h 6 (by decide)
    have b7 := h 7 (by decide)
    have e : decN b 3 = b 4 + b 5 * 256 + b 6 * 65536 + b 7 * 16777216 := by show numS b 4 4 = _; simp [numS]
    unfold encF
    rw [if_neg h0, if_neg h1, if_neg h4, if_pos h8, e]
    have : j = 4 ∨ j = 5 ∨ j = 6 ∨ j = 7 := by omega
    rcases this with rfl | rfl | rfl | rfl
    · show (b 4 + b 5 * 256 + b 6 * 65536 + b 7 * 16777216) % 256 = b 4; omega
    · show (b 4 + b 5 * 256 + b 6 * 65536 + b 7 * 16777216) / 256 % 256 = b 5; omega
    · show (b 4 + b 5 * 256 + b 6 * 65536 + b 7 * 16777216) / 65536 % 256 = b 6; omega
    · show (b 4 + b 5 * 256 + b 6 * 65536 + b 7 * 16777216) / 16777216 % 256 = b 7; omega
  by_cases h24 : j < 24
  · obtain ⟨k, hk, hjk⟩ : ∃ k, k < 8 ∧ (j = 8 + 2 * k ∨ j = 8 + 2 * k + 1) := ⟨(j - 8) / 2, by omega, by omega⟩
    have c0 := h (8 + 2 * k) (by omega)
    have c1 := h (8 + 2 * k + 1) (by omega)
    unfold encF
    rw [if_neg h0, if_neg h1, if_neg h4, if_neg h8, if_pos h24, show (j - 8) / 2 = k by omega, hp k hk]
    rcases hjk with e | e
    · rw [show (j - 8) % 2 = 0 by omega, e]
      show (b (8 + 2 * k) + b (8 + 2 * k + 1) * 256) % 256 = _
      omega
    · rw [show (j - 8) % 2 = 1 by omega, e]
      show (b (8 + 2 * k) + b (8 + 2 * k + 1) * 256) / 256 % 256 = _
      omega
  · unfold encF
    rw [if_neg h0, if_neg h1, if_neg h4, if_neg h8, if_neg h24]
    have := hz (j - 24) (by omega)
    rw [show 24 + (j - 24) = j by omega] at this
    exact this.symm
/-- bytes as a text -/
def bsOf (f : Nat → Int) : ByteArray := ⟨((List.range 32).map fun j => UInt8.ofNat (f j).toNat).toArray⟩
theorem yields_str {ops : Array Oper} {S : World → Prop} {op : Oper} {a : Act} (hw : Region.wanted op (yielded ops a.tmps) = true) (x : Operand) (ho : op.op = .convert 34 9 x) (f : Nat → Int) (hf : Byt32 f) (g cap : Nat) (hx : a.eval x = .slice (some ⟨g, 0, none⟩) 32 cap)
    (hc : ∀ W, S W → ∀ j, j < 32 → W.cell? ⟨g, j, none⟩ = some (.int .u8 (f j))) : YieldsIf Try.prog ops S op (.string (bsOf f)) a :=
  .inl ⟨hw, fun w hS => by
    have hlist : ∃ l : List UInt8, l.length = 32 ∧ (⟨l.toArray⟩ : ByteArray) = bsOf f ∧ ∀ j (hj : j < l.length), (l[j].toNat : Int) = f j := by
      refine ⟨(List.range 32).map fun j => UInt8.ofNat (f j).toNat, by simp, rfl, fun j hj => ?_⟩
      have hj' : j < 32 := by simpa using hj
      have hb := hf j hj'
      rw [List.getElem_map, List.getElem_range, UInt8.toNat_ofNat']
      omega
    obtain ⟨l, hl, hbs, hv⟩ := hlist
    have hr := run_convert_bytes_back (P := Try.prog) w 34 9 5 ⟨g, 0, none⟩ cap l Try.underlying34 Try.underlying5 Try.underlying9 (fun j hj => by
      rw [Addr.add_mid, Nat.zero_add, hc w hS j (by omega), hv j hj])
    rw [hl, hbs] at hr
    have hr' : (convert 34 9 (.slice (some ⟨g, 0, none⟩) 32 cap)).run Try.prog w = .ok (.string (bsOf f)) w := hr
    unfold execOp
    simp [ho, hx, hr', Result.andThen]⟩
theorem u8_or_bd (l x : Int) (h0 : 0 ≤ l) (h1 : l < 256) (h2 : 0 ≤ x) (h3 : x < 256) : 0 ≤ Go.bits .or .u8 l x ∧ Go.bits .or .u8 l x < 256 ∧ (Go.bits .or .u8 l x = 0 ↔ l = 0 ∧ x = 0) := by
  obtain ⟨a, rfl⟩ := Int.eq_ofNat_of_zero_le h0
  obtain ⟨b, rfl⟩ := Int.eq_ofNat_of_zero_le h2
  rw [u8_or_nat a b (by omega) (by omega)]
  have := Nat.or_lt_two_pow (x := a) (y := b) (n := 8) (by omega) (by omega)
  refine ⟨by omega, by omega, ?_⟩
  have hz : (a ||| b = 0) ↔ a = 0 ∧ b = 0 := Nat.or_eq_zero_iff
  constructor
  · intro h
    have h' : a ||| b = 0 := by exact_mod_cast h
    have := hz.1 h'
    omega
  · rintro ⟨e1, e2⟩
    have : a ||| b = 0 := hz.2 ⟨by omega, by omega⟩
    rw [this]; rfl
end Go.Proofs.Ytdebkifnaiohcaa
