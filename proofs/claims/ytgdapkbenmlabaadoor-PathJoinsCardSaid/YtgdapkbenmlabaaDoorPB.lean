import Derived.Test.YtgdapkbenmlabaaDoorPA
/- Names, labels' names, dots: the code's tests and the answer's. -/
namespace Go.Proofs.YtgdapkbenmlabaaDoor.Pt
set_option linter.unusedSimpArgs false
set_option linter.unusedVariables false
open Go.RowKit Go.Maps

/-- the text ahead of the first c, and what stands behind it, if there is one -/
def splitC (c : UInt8) : List UInt8 → List UInt8 × Option (List UInt8)
  | [] => ([], none)
  | x :: r => if x = c then ([], some r) else (x :: (splitC c r).1, (splitC c r).2)
theorem splitC_none (c : UInt8) : ∀ s, (splitC c s).2 = none → (splitC c s).1 = s ∧ ∀ x ∈ s, x ≠ c
  | [], _ => ⟨rfl, by simp⟩
  | x :: r, h => by
    rw [splitC] at h ⊢
    split
    · rename_i hx; rw [if_pos hx] at h; cases h
    · rename_i hx
      rw [if_neg hx] at h
      obtain ⟨h1, h2⟩ := splitC_none c r h
      refine ⟨by simp [h1], fun y hy => ?_⟩
      rcases List.mem_cons.1 hy with rfl | hy
      · exact hx
      · exact h2 y hy
theorem splitC_some (c : UInt8) : ∀ s t, (splitC c s).2 = some t → s = (splitC c s).1 ++ c :: t ∧ ∀ x ∈ (splitC c s).1, x ≠ c
  | [], _, h => by cases h
  | x :: r, t, h => by
    rw [splitC] at h ⊢
    split
    · rename_i hx
      rw [if_pos hx] at h
      injection h with h
      subst h hx
      exact ⟨rfl, by simp⟩
    · rename_i hx
      rw [if_neg hx] at h
      obtain ⟨h1, h2⟩ := splitC_some c r t h
      refine ⟨congrArg (x :: ·) h1, fun y hy => ?_⟩
      rcases List.mem_cons.1 hy with rfl | hy
      · exact hx
      · exact h2 y hy
theorem splitC_app (c : UInt8) : ∀ (h t : List UInt8), (∀ x ∈ h, x ≠ c) → splitC c (h ++ c :: t) = (h, some t)
  | [], t, _ => by rw [List.nil_append, splitC, if_pos rfl]
  | x :: r, t, h => by
    rw [List.cons_append, splitC, if_neg (h x (List.mem_cons_self ..)), splitC_app c r t (fun y hy => h y (List.mem_cons_of_mem _ hy))]
theorem splitC_all (c : UInt8) : ∀ (h : List UInt8), (∀ x ∈ h, x ≠ c) → splitC c h = (h, none)
  | [], _ => rfl
  | x :: r, h => by
    rw [splitC, if_neg (h x (List.mem_cons_self ..)), splitC_all c r (fun y hy => h y (List.mem_cons_of_mem _ hy))]
theorem splitC_lt (c : UInt8) (s t : List UInt8) (h : (splitC c s).2 = some t) : t.length < s.length := by
  have := congrArg List.length (splitC_some c s t h).1
  rw [List.length_append, List.length_cons] at this
  omega
def maySt (b : UInt8) : Bool := decide (33 ≤ b.toNat) && (decide (b.toNat ≤ 126) && (!decide (b.toNat = 47) && !decide (b.toNat = 64)))
/-- what Name tells of a text -/
def nameC (s : ByteArray) : Int := if s.size = 0 ∨ s = ⟨#[46]⟩ ∨ s = ⟨#[46, 46]⟩ then 7 else if 14 < s.size then 8 else if s.data.toList.all maySt = true then 0 else 7
set_option maxHeartbeats 4000000 in
theorem maystand_any (x : UInt8) (w : World) : Calls Tryd.prog 24 #[.int .u8 x.toNat] w fun e w' => e = .returned (.bool (maySt x)) ∧ w' = w := by
  unfold maySt
  obtain ⟨n, hn⟩ : ∃ n, x.toNat = n := ⟨_, rfl⟩
  rw [hn]
  clear hn
  by_cases h1 : 33 ≤ n
  · by_cases h2 : n ≤ 126
    · by_cases h3 : n = 47
      · subst h3
        go_enter Tryd.func24, Tryd.ntmps24
        go_wp2_with fail
        go_ret
        exact ⟨rfl, rfl⟩
      · by_cases h4 : n = 64
        · subst h4
          go_enter Tryd.func24, Tryd.ntmps24
          go_wp2_with fail
          go_ret
          exact ⟨rfl, rfl⟩
        · have h1' : (33 : Int) ≤ n := by omega
          have h2' : (n : Int) ≤ 126 := by omega
          have h3' : ¬ ((n : Int) = 47) := by omega
          have h4' : ¬ ((n : Int) = 64) := by omega
          go_enter Tryd.func24, Tryd.ntmps24
          go_wp2_with fail
          go_ret
          exact ⟨by simp [h1, h2, h3, h4]; omega, rfl⟩
    · have h1' : (33 : Int) ≤ n := by omega
      have h2' : ¬ (n : Int) ≤ 126 := by omega
      go_enter Tryd.func24, Tryd.ntmps24
      go_wp2_with fail
      go_ret
      exact ⟨by simp [h1, h2], rfl⟩
  · have h1' : ¬ (33 : Int) ≤ n := by omega
    go_enter Tryd.func24, Tryd.ntmps24
    go_wp2_with fail
    go_ret
    exact ⟨by simp [h1], rfl⟩
theorem may_upto (s : ByteArray) (h : ∀ j (hj : j < s.size), maySt s[j] = true) : s.data.toList.all maySt = true := by
  rw [List.all_eq_true]
  intro x hx
  obtain ⟨j, hj, rfl⟩ := List.mem_iff_getElem.1 hx
  have hj' : j < s.size := by simpa using hj
  exact h j hj'
theorem may_bad (s : ByteArray) (j : Nat) (hj : j < s.size) (h : maySt s[j] = false) : s.data.toList.all maySt = false := by
  rw [← Bool.not_eq_true, List.all_eq_true]
  intro hh
  have := hh s[j] (by
    have : j < s.data.toList.length := by simpa using hj
    exact List.mem_iff_getElem.2 ⟨j, this, rfl⟩)
  rw [h] at this
  cases this
theorem ba_ext {s : ByteArray} {d : Array UInt8} (h : s.toList = d.toList) : s = ⟨d⟩ := by
  rw [ByteArray.toList_eq] at h
  obtain ⟨a⟩ := s
  congr 1
  exact Array.ext' h
set_option maxHeartbeats 8000000 in
theorem name_any (s : ByteArray) (w : World) : Calls Tryd.prog 18 #[.string s] w fun e w' => e = .returned (.int .i64 (nameC s)) ∧ w' = w := by
  by_cases h0 : s = ⟨#[]⟩
  · subst h0
    go_enter Tryd.func18, Tryd.ntmps18
    go_wp2_with fail
    go_ret
    exact ⟨rfl, rfl⟩
  by_cases h1 : s = ⟨#[46]⟩
  · subst h1
    go_enter Tryd.func18, Tryd.ntmps18
    go_wp2_with fail
    go_ret
    exact ⟨rfl, rfl⟩
  by_cases h2 : s = ⟨#[46, 46]⟩
  · subst h2
    go_enter Tryd.func18, Tryd.ntmps18
    go_wp2_with fail
    go_ret
    exact ⟨by unfold nameC; rw [if_pos (.inr (.inr rfl))]; rfl, rfl⟩
  have hz : ¬ (s.size = 0 ∨ s = ⟨#[46]⟩ ∨ s = ⟨#[46, 46]⟩) := by
    rintro (h | h | h)
    · refine h0 ?_
      obtain ⟨d⟩ := s
      congr 1
      exact Array.size_eq_zero_iff.1 h
    · exact h1 h
    · exact h2 h
  have HZ := Lib.hid hz
  clear hz
  have q0 : s.toList.isEmpty = false := by
    rw [← Bool.not_eq_true, List.isEmpty_iff]
    exact fun h => h0 (ba_ext h)
  have q1 : (s.toList == [46]) = false := by
    rw [← Bool.not_eq_true, beq_iff_eq]
    exact fun h => h1 (ba_ext h)
  have q2 : (s.toList == [46, 46]) = false := by
    rw [← Bool.not_eq_true, beq_iff_eq]
    exact fun h => h2 (ba_ext h)
  clear h0 h1 h2
  by_cases h14 : 14 < s.size
  · have h14' : (14 : Int) < s.size := by omega
    have HL := Lib.hid h14
    go_enter Tryd.func18, Tryd.ntmps18
    go_wp2_with fail
    go_ret
    exact ⟨by unfold nameC; rw [if_neg HZ.out, if_pos HL.out]; rfl, rfl⟩
  · have h14' : ¬ (14 : Int) < s.size := by omega
    have HL := Lib.hid h14
    have hl : (s.size : Int) ≤ 14 := by omega
    go_enter Tryd.func18, Tryd.ntmps18
    go_wp2_with fail
    go_loop [3, 19] (fun _ i => ∃ k : Nat, k ≤ s.size ∧ i = .int .i64 k ∧ ∀ j (hj : j < s.size), j < k → maySt s[j] = true) (fun _ i => s.size - (Go.RowKit.intOf i).toNat)
    case atStart => exact ⟨0, Nat.zero_le _, rfl, fun j _ h => absurd h (Nat.not_lt_zero _)⟩
    case round =>
      obtain ⟨k, hk, rfl, hall⟩ := hrel
      have HA := Lib.hid hall
      clear hall
      by_cases hlt : k < s.size
      · have hlt' : (k : Int) < s.size := by omega
        have hk0 : (0 : Int) ≤ k := by omega
        have HM := Lib.hid (fun W => maystand_any s[k] W)
        go_wp2_with fail
        refine (HM.out w).mono ?_
        rintro e wz ⟨rfl, hwz⟩
        rw [hwz]
        clear hwz
        cases hm : maySt s[k]
        · have HF := Lib.hid (may_bad s k hlt hm)
          clear HM
          go_wp2_with fail
          go_ret
          exact ⟨by unfold nameC; rw [if_neg HZ.out, if_neg HL.out, if_neg (by rw [HF.out]; decide)]; rfl, rfl⟩
        · have HT := Lib.hid hm
          clear HM
          go_wp2_with fail
          go_round
          case rel =>
            refine ⟨k + 1, by omega, by go_num, fun j hj hjk => ?_⟩
            by_cases e : j = k
            · subst e
              exact HT.out
            · exact HA.out j hj (by omega)
          case measure => simp [Go.RowKit.intOf]; omega
      · obtain rfl : k = s.size := by omega
        have HT := Lib.hid (may_upto s (fun j hj => HA.out j hj hj))
        clear HA
        go_wp2_with fail
        go_ret
        exact ⟨by unfold nameC; rw [if_neg HZ.out, if_neg HL.out, if_pos HT.out]; rfl, rfl⟩
set_option maxHeartbeats 4000000 in
theorem islabel_any (s : ByteArray) (w : World) : Calls Tryd.prog 16 #[.string s] w fun e w' => e = .returned (.bool (nameB s)) ∧ Below w.heap.size w w' := by
  by_cases h1 : s.size < 1
  · have hd : Hid (nameB s = false) := by show nameB s = false; simp [nameB]; omega
    go_enter Tryd.func16, Tryd.ntmps16
    go_wp2
    go_ret
    exact ⟨ret_bool hd.out.symm, Below.refl _ _⟩
  · by_cases h8 : 8 < s.size
    · have hd : Hid (nameB s = false) := by show nameB s = false; simp [nameB]; omega
      go_enter Tryd.func16, Tryd.ntmps16
      go_wp2
      go_ret
      exact ⟨ret_bool hd.out.symm, Below.refl _ _⟩
    · have hz : ¬ ((s.size : Int) < 1) := by omega
      have h8' : ¬ (8 < (s.size : Int)) := by omega
      go_enter Tryd.func16, Tryd.ntmps16
      go_wp2
      go_loopw [3, 14] (fun _ i wr => ∃ k : Nat, k ≤ s.size ∧ i = .int .i64 k ∧ Below w.heap.size w wr ∧ ∀ j (hj : j < s.size), j < k → letterB s[j] = true) (fun _ i _ => s.size - (intOf i).toNat)
      case atStart => exact ⟨0, Nat.zero_le _, rfl, Below.refl _ _, fun j _ h => by omega⟩
      case round =>
        obtain ⟨k, hk, rfl, hb, hall⟩ := hrel
        have HA := Lib.hid hall
        clear hall
        by_cases hlt : k < s.size
        · have HL := Lib.hid (show letterB s[k] = letterB s[k] from rfl)
          obtain ⟨R, hR⟩ : ∃ R, s[k] = R := ⟨_, rfl⟩
          by_cases hlow : R.toNat < 97
          · have HF : Hid (nameB s = false) := by
              show nameB s = false
              rw [nameB, letters_bad s k hlt (by rw [hR]; simp [letterB]; omega), Bool.and_false]
            clear HL
            go_wp2
            go_ret
            exact ⟨ret_bool HF.out.symm, hb⟩
          · by_cases hhi : 122 < R.toNat
            · have HF : Hid (nameB s = false) := by
                show nameB s = false
                rw [nameB, letters_bad s k hlt (by rw [hR]; simp [letterB]; omega), Bool.and_false]
              clear HL
              go_wp2
              go_ret
              exact ⟨ret_bool HF.out.symm, hb⟩
            · have HG : Hid (letterB s[k] = true) := by
                show letterB s[k] = true
                rw [hR]; simp [letterB]; omega
              clear HL
              go_wp2
              go_roundw
              case rel =>
                refine ⟨k + 1, by omega, by go_num, hb, fun j hj hjp => ?_⟩
                by_cases e : j = k
                · subst e; exact HG.out
                · exact HA.out j hj (by omega)
              case measure => simp [intOf]; omega
        · have HT : Hid (nameB s = true) := by
            show nameB s = true
            rw [nameB, letters_upto s (fun j hj => HA.out j hj (by omega))]
            simp; omega
          go_wp2
          go_ret
          exact ⟨ret_bool HT.out.symm, hb⟩

def dotsB (s : ByteArray) : Bool := (s.toList == [46]) || (s.toList == [46, 46])
theorem isdots_any (s : ByteArray) (w : World) : Calls Tryd.prog 17 #[.string s] w fun e w' => e = .returned (.bool (dotsB s)) ∧ w' = w := by
  unfold dotsB
  cases h1 : (s.toList == [46])
  · cases h2 : (s.toList == [46, 46])
    · go_enter Tryd.func17, Tryd.ntmps17
      go_wp2_with fail
      go_ret
      exact ⟨rfl, rfl⟩
    · go_enter Tryd.func17, Tryd.ntmps17
      go_wp2_with fail
      go_ret
      exact ⟨rfl, rfl⟩
  · go_enter Tryd.func17, Tryd.ntmps17
    go_wp2_with fail
    go_ret
    exact ⟨rfl, rfl⟩
end Go.Proofs.YtgdapkbenmlabaaDoor.Pt
