import Derived.Test.YtnfadmifdncjoaaGreatKD
/- Configurations: sizes of 2 labels. -/
namespace Go.Proofs.YtnfadmifdncjoaaGreat.Cf
set_option linter.unusedSimpArgs false
set_option linter.unusedVariables false
open Go.RowKit Go.Maps
set_option maxHeartbeats 40000000 in
set_option maxRecDepth 100000 in
theorem sizelabs_2 (m : Int) (hm : 2 + m.toNat % 4 = 2) (m0 : 0 ≤ m) (m1 : m < 256) (H : Nat → Nat → Int) (hH : Hok H) (tv : Value) (ts : List Int) (hts : ∀ x ∈ ts, 0 ≤ x ∧ x < 256) (w : World) (htv : U8s w tv ts) (hl : ts.length ≤ maxLen) :
    Calls Tryz.prog 42 #[sizeVal m H tv] w fun e w' => ∃ v1 v2, e = .returned (.tuple #[v1, v2]) ∧ Below w.heap.size w w' ∧ Regs w' v1 (sizeRs 2 H) ∧ Mks w' v2 (sizeMs 2 ts) := by
  obtain ⟨i0, hi, hz0, hz1, hz2⟩ := info_parts Tryz.info39
  have HTV := Lib.hid htv
  have HTS := Lib.hid hts
  have HH := Lib.hid hH
  have hMm : m % 4 = 2 - 2 := by omega
  simp only [show (2 : Int) - 2 = (0 : Int) from rfl] at hMm
  have HB := Lib.hid (BoxS.new w m H tv 26)
  have hb00 := HB.out.c0
  unfold sizeVal
  clear htv hts hH
  go_enter Tryz.func42, Tryz.ntmps42
  go_wp2
  obtain ⟨w0, hw0⟩ : ∃ x, w.alloc (.cells #[.int .u8 m, .int .u8 (H 0 0), .int .u8 (H 0 1), .int .u8 (H 0 2), .int .u8 (H 0 3), .int .u8 (H 0 4), .int .u8 (H 1 0), .int .u8 (H 1 1), .int .u8 (H 1 2), .int .u8 (H 1 3), .int .u8 (H 1 4), .int .u8 (H 2 0), .int .u8 (H 2 1), .int .u8 (H 2 2), .int .u8 (H 2 3), .int .u8 (H 2 4), .int .u8 (H 3 0), .int .u8 (H 3 1), .int .u8 (H 3 2), .int .u8 (H 3 3), .int .u8 (H 3 4), .int .u8 (H 4 0), .int .u8 (H 4 1), .int .u8 (H 4 2), .int .u8 (H 4 3), .int .u8 (H 4 4), tv] 26) = x := ⟨_, rfl⟩
  rw [hw0] at HB ⊢
  obtain ⟨sv0, hsv⟩ : ∃ x : Value, Value.agg #[.int .u8 m, .int .u8 (H 0 0), .int .u8 (H 0 1), .int .u8 (H 0 2), .int .u8 (H 0 3), .int .u8 (H 0 4), .int .u8 (H 1 0), .int .u8 (H 1 1), .int .u8 (H 1 2), .int .u8 (H 1 3), .int .u8 (H 1 4), .int .u8 (H 2 0), .int .u8 (H 2 1), .int .u8 (H 2 2), .int .u8 (H 2 3), .int .u8 (H 2 4), .int .u8 (H 3 0), .int .u8 (H 3 1), .int .u8 (H 3 2), .int .u8 (H 3 3), .int .u8 (H 3 4), .int .u8 (H 4 0), .int .u8 (H 4 1), .int .u8 (H 4 2), .int .u8 (H 4 3), .int .u8 (H 4 4), tv] = x := ⟨_, rfl⟩
  rw [hsv]
  have hsz0 : w0.heap.size = w.heap.size + 1 := by rw [← hw0]; simp
  have HBW : Hid (Below w.heap.size w w0) := by rw [← hw0]; exact (Below.refl _ _).alloc (Nat.le_refl _) _
  have hbl : w.heap.size < w0.heap.size := by omega
  clear hw0 hb00 hsv hMm hsz0
  go_loopw [5, 22] (fun v i wr => ∃ k : Nat, k ≤ 2 ∧ i = .int .i64 k ∧ wr.ownsRow w0.heap.size 41 9 v k (flatR ((sizeR0 2 H).take k)) ∧ Below w0.heap.size w0 wr) (fun _ i _ => 2 - (intOf i).toNat)
  case atStart => exact ⟨0, by omega, rfl, World.ownsRow_nil _ _ _ _, Below.refl _ _⟩
  case round =>
    obtain ⟨k, hk, rfl, hown, hb⟩ := hrel
    obtain ⟨ra, rcap, rfl⟩ := ownsRow_form hown
    have HO := Lib.hid hown
    have HBR := Lib.hid hb
    have hwz := hb.size
    have HBX := Lib.hid (HB.out.below hb (by omega))
    clear hown hb
    by_cases hlt : k < 2
    · have h0 := HBX.out.ch k 0 (by omega) (by omega)
      have h1 := HBX.out.ch k 1 (by omega) (by omega)
      have h2 := HBX.out.ch k 2 (by omega) (by omega)
      have h3 := HBX.out.ch k 3 (by omega) (by omega)
      have h4 := HBX.out.ch k 4 (by omega) (by omega)
      simp only [Nat.add_zero] at h0
      go_wp2
      obtain ⟨x0, e0⟩ : ∃ x, H k 0 = x := ⟨_, rfl⟩
      obtain ⟨x1, e1⟩ : ∃ x, H k 1 = x := ⟨_, rfl⟩
      obtain ⟨x2, e2⟩ : ∃ x, H k 2 = x := ⟨_, rfl⟩
      obtain ⟨x3, e3⟩ : ∃ x, H k 3 = x := ⟨_, rfl⟩
      obtain ⟨x4, e4⟩ : ∃ x, H k 4 = x := ⟨_, rfl⟩
      have r0 := HH.out k 0 (by omega) (by omega)
      have r1 := HH.out k 1 (by omega) (by omega)
      have r2 := HH.out k 2 (by omega) (by omega)
      have r3 := HH.out k 3 (by omega) (by omega)
      have r4 := HH.out k 4 (by omega) (by omega)
      have HSE : Hid (sizeRg 2 H k = ⟨nmL k, lvL k, csL k, 8 + x0 % 60, 8 + 2 * (x1 % 12), 4 + x2 % 40, 1 + x3 % 6, 2 + x4 % 14, if 2 = 2 then 1 else if 2 < 4 ∧ 0 < k then (k : Int) else 1⟩) := by
        show sizeRg 2 H k = _
        unfold sizeRg
        rw [e0, e1, e2, e3, e4]
        try rfl
      simp only [e0, e1, e2, e3, e4] at r0 r1 r2 r3 r4 ⊢
      obtain ⟨r00, r01⟩ := r0
      obtain ⟨r10, r11⟩ := r1
      obtain ⟨r20, r21⟩ := r2
      obtain ⟨r30, r31⟩ := r3
      obtain ⟨r40, r41⟩ := r4
      have HT : Hid ((sizeR0 2 H).take (k + 1) = (sizeR0 2 H).take k ++ [sizeRg 2 H k]) := by
        have hl : k < (sizeR0 2 H).length := by rw [sizeR0_len]; exact hlt
        show (sizeR0 2 H).take (k + 1) = _
        rw [List.take_succ_eq_append_getElem hl]
        simp [sizeR0]
      obtain ⟨w1, hw1⟩ : ∃ x, wr.alloc (.cells #[.int .u8 x0, .int .u8 x1, .int .u8 x2, .int .u8 x3, .int .u8 x4] 22) = x := ⟨_, rfl⟩
      rw [hw1]
      have q0 : w1.cell? ⟨wr.heap.size, 0, none⟩ = some (.int .u8 x0) := by rw [← hw1]; simp [World.cell?_alloc_new]
      have q1 : w1.cell? ⟨wr.heap.size, 1, none⟩ = some (.int .u8 x1) := by rw [← hw1]; simp [World.cell?_alloc_new]
      have q2 : w1.cell? ⟨wr.heap.size, 2, none⟩ = some (.int .u8 x2) := by rw [← hw1]; simp [World.cell?_alloc_new]
      have q3 : w1.cell? ⟨wr.heap.size, 3, none⟩ = some (.int .u8 x3) := by rw [← hw1]; simp [World.cell?_alloc_new]
      have q4 : w1.cell? ⟨wr.heap.size, 4, none⟩ = some (.int .u8 x4) := by rw [← hw1]; simp [World.cell?_alloc_new]
      have hs1 : w1.heap.size = wr.heap.size + 1 := by rw [← hw1]; simp
      have hbr1 : Below wr.heap.size wr w1 := by rw [← hw1]; exact (Below.refl _ _).alloc (Nat.le_refl _) _
      have HO1 := Lib.hid (ownsRow_below HO.out hbr1)
      have HBR1 := Lib.hid (HBR.out.trans (hbr1.mono hwz))
      have hq : wr.heap.size < w1.heap.size := by omega
      clear hw1 hbr1 hs1 h0 h1 h2 h3 h4 e0 e1 e2 e3 e4
      clear HO HBR HBX
      apply share4 (F := fun (A A2 g : Nat) (w5 : World) => Box9 w5 g ⟨nmL k, lvL k, csL k, 8 + x0 % 60, 8 + 2 * (x1 % 12), 4 + x2 % 40, 1 + x3 % 6, 2 + x4 % 14, 1⟩ ∧ w5.frozen? ⟨g, 8, none⟩ = false ∧ Below w1.heap.size w1 w5 ∧ g < w5.heap.size ∧ w1.heap.size ≤ g)
      · intro tail
        refine wp_region_held (S := fun W => Below w1.heap.size w1 W) (by kernel_rfl) ?_
        change wpAnyH _ _ _ _ _ _ _ _ (World.drew _)
        have hS0 : Below w1.heap.size w1 w1.drew := (Below.refl _ w1).drew
        refine wpAnyH_take (i := 1) (v := ?_) rfl (by kernel_rfl) (by kernel_rfl) (by kernel_rfl) (fun _ _ _ h => h) (Or.inl ⟨by rfl, ?_⟩) hS0 ?_
        rotate_left 1
        · intro W hW
          go_simp
          try with_reducible rfl
        try simp only [Act.put, List.setIfInBounds_toArray, List.set_cons_zero, List.set_cons_succ]
        refine wpAnyH_take (i := 5) (v := ?_) rfl (by kernel_rfl) (by kernel_rfl) (by kernel_rfl) (fun _ _ _ h => h) (Or.inl ⟨by rfl, ?_⟩) hS0 ?_
        rotate_left 1
        · intro W hW
          go_simp
          try with_reducible rfl
        try simp only [Act.put, List.setIfInBounds_toArray, List.set_cons_zero, List.set_cons_succ]
        refine wpAnyH_take (i := 8) (v := ?_) rfl (by kernel_rfl) (by kernel_rfl) (by kernel_rfl) (fun _ _ _ h => h) (Or.inl ⟨by rfl, ?_⟩) hS0 ?_
        rotate_left 1
        · intro W hW
          go_simp
          try with_reducible rfl
        try simp only [Act.put, List.setIfInBounds_toArray, List.set_cons_zero, List.set_cons_succ]
        refine wpAnyH_take (i := 9) (v := ?_) rfl (by kernel_rfl) (by kernel_rfl) (by kernel_rfl) (fun _ _ _ h => h) (Or.inl ⟨by rfl, ?_⟩) hS0 ?_
        rotate_left 1
        · intro W hW
          have q_ := (hW.cell (p := ⟨wr.heap.size, 0, none⟩) hq).trans q0
          go_simp
          try with_reducible rfl
        try simp only [Act.put, List.setIfInBounds_toArray, List.set_cons_zero, List.set_cons_succ]
        refine wpAnyH_take (i := 10) (v := ?_) rfl (by kernel_rfl) (by kernel_rfl) (by kernel_rfl) (fun _ _ _ h => h) (Or.inl ⟨by rfl, ?_⟩) hS0 ?_
        rotate_left 1
        · intro W hW
          go_simp
          try with_reducible rfl
        try simp only [Act.put, List.setIfInBounds_toArray, List.set_cons_zero, List.set_cons_succ]
        refine wpAnyH_take (i := 11) (v := ?_) rfl (by kernel_rfl) (by kernel_rfl) (by kernel_rfl) (fun _ _ _ h => h) (Or.inl ⟨by rfl, ?_⟩) hS0 ?_
        rotate_left 1
        · intro W hW
          go_simp
          try with_reducible rfl
        try simp only [Act.put, List.setIfInBounds_toArray, List.set_cons_zero, List.set_cons_succ]
        refine wpAnyH_take (i := 12) (v := ?_) rfl (by kernel_rfl) (by kernel_rfl) (by kernel_rfl) (fun _ _ _ h => h) (Or.inl ⟨by rfl, ?_⟩) hS0 ?_
        rotate_left 1
        · intro W hW
          go_simp
          try with_reducible rfl
        try simp only [Act.put, List.setIfInBounds_toArray, List.set_cons_zero, List.set_cons_succ]
        refine wpAnyH_take (i := 13) (v := ?_) rfl (by kernel_rfl) (by kernel_rfl) (by kernel_rfl) (fun _ _ _ h => h) (Or.inl ⟨by rfl, ?_⟩) hS0 ?_
        rotate_left 1
        · intro W hW
          go_simp
          try with_reducible rfl
        try simp only [Act.put, List.setIfInBounds_toArray, List.set_cons_zero, List.set_cons_succ]
        refine wpAnyH_take (i := 14) (v := ?_) rfl (by kernel_rfl) (by kernel_rfl) (by kernel_rfl) (fun _ _ _ h => h) (Or.inl ⟨by rfl, ?_⟩) hS0 ?_
        rotate_left 1
        · intro W hW
          have q_ := (hW.cell (p := ⟨wr.heap.size, 1, none⟩) hq).trans q1
          go_simp
          try with_reducible rfl
        try simp only [Act.put, List.setIfInBounds_toArray, List.set_cons_zero, List.set_cons_succ]
        refine wpAnyH_take (i := 15) (v := ?_) rfl (by kernel_rfl) (by kernel_rfl) (by kernel_rfl) (fun _ _ _ h => h) (Or.inl ⟨by rfl, ?_⟩) hS0 ?_
        rotate_left 1
        · intro W hW
          go_simp
          try with_reducible rfl
        try simp only [Act.put, List.setIfInBounds_toArray, List.set_cons_zero, List.set_cons_succ]
        refine wpAnyH_take (i := 16) (v := ?_) rfl (by kernel_rfl) (by kernel_rfl) (by kernel_rfl) (fun _ _ _ h => h) (Or.inl ⟨by rfl, ?_⟩) hS0 ?_
        rotate_left 1
        · intro W hW
          go_simp
          try with_reducible rfl
        try simp only [Act.put, List.setIfInBounds_toArray, List.set_cons_zero, List.set_cons_succ]
        refine wpAnyH_take (i := 17) (v := ?_) rfl (by kernel_rfl) (by kernel_rfl) (by kernel_rfl) (fun _ _ _ h => h) (Or.inl ⟨by rfl, ?_⟩) hS0 ?_
        rotate_left 1
        · intro W hW
          go_simp
          try with_reducible rfl
        try simp only [Act.put, List.setIfInBounds_toArray, List.set_cons_zero, List.set_cons_succ]
        refine wpAnyH_take (i := 18) (v := ?_) rfl (by kernel_rfl) (by kernel_rfl) (by kernel_rfl) (fun _ _ _ h => h) (Or.inl ⟨by rfl, ?_⟩) hS0 ?_
        rotate_left 1
        · intro W hW
          go_simp
          try with_reducible rfl
        try simp only [Act.put, List.setIfInBounds_toArray, List.set_cons_zero, List.set_cons_succ]
        refine wpAnyH_take (i := 19) (v := ?_) rfl (by kernel_rfl) (by kernel_rfl) (by kernel_rfl) (fun _ _ _ h => h) (Or.inl ⟨by rfl, ?_⟩) hS0 ?_
        rotate_left 1
        · intro W hW
          go_simp
          try with_reducible rfl
        try simp only [Act.put, List.setIfInBounds_toArray, List.set_cons_zero, List.set_cons_succ]
        refine wpAnyH_take (i := 20) (v := ?_) rfl (by kernel_rfl) (by kernel_rfl) (by kernel_rfl) (fun _ _ _ h => h) (Or.inl ⟨by rfl, ?_⟩) hS0 ?_
        rotate_left 1
        · intro W hW
          have q_ := (hW.cell (p := ⟨wr.heap.size, 2, none⟩) hq).trans q2
          go_simp
          try with_reducible rfl
        try simp only [Act.put, List.setIfInBounds_toArray, List.set_cons_zero, List.set_cons_succ]
        refine wpAnyH_take (i := 21) (v := ?_) rfl (by kernel_rfl) (by kernel_rfl) (by kernel_rfl) (fun _ _ _ h => h) (Or.inl ⟨by rfl, ?_⟩) hS0 ?_
        rotate_left 1
        · intro W hW
          go_simp
          try with_reducible rfl
        try simp only [Act.put, List.setIfInBounds_toArray, List.set_cons_zero, List.set_cons_succ]
        refine wpAnyH_take (i := 22) (v := ?_) rfl (by kernel_rfl) (by kernel_rfl) (by kernel_rfl) (fun _ _ _ h => h) (Or.inl ⟨by rfl, ?_⟩) hS0 ?_
        rotate_left 1
        · intro W hW
          go_simp
          try with_reducible rfl
        try simp only [Act.put, List.setIfInBounds_toArray, List.set_cons_zero, List.set_cons_succ]
        refine wpAnyH_take (i := 23) (v := ?_) rfl (by kernel_rfl) (by kernel_rfl) (by kernel_rfl) (fun _ _ _ h => h) (Or.inl ⟨by rfl, ?_⟩) hS0 ?_
        rotate_left 1
        · intro W hW
          go_simp
          try with_reducible rfl
        try simp only [Act.put, List.setIfInBounds_toArray, List.set_cons_zero, List.set_cons_succ]
        refine wpAnyH_take (i := 24) (v := ?_) rfl (by kernel_rfl) (by kernel_rfl) (by kernel_rfl) (fun _ _ _ h => h) (Or.inl ⟨by rfl, ?_⟩) hS0 ?_
        rotate_left 1
        · intro W hW
          go_simp
          try with_reducible rfl
        try simp only [Act.put, List.setIfInBounds_toArray, List.set_cons_zero, List.set_cons_succ]
        refine wpAnyH_take (i := 25) (v := ?_) rfl (by kernel_rfl) (by kernel_rfl) (by kernel_rfl) (fun _ _ _ h => h) (Or.inl ⟨by rfl, ?_⟩) hS0 ?_
        rotate_left 1
        · intro W hW
          have q_ := (hW.cell (p := ⟨wr.heap.size, 3, none⟩) hq).trans q3
          go_simp
          try with_reducible rfl
        try simp only [Act.put, List.setIfInBounds_toArray, List.set_cons_zero, List.set_cons_succ]
        refine wpAnyH_take (i := 26) (v := ?_) rfl (by kernel_rfl) (by kernel_rfl) (by kernel_rfl) (fun _ _ _ h => h) (Or.inl ⟨by rfl, ?_⟩) hS0 ?_
        rotate_left 1
        · intro W hW
          go_simp
          try with_reducible rfl
        try simp only [Act.put, List.setIfInBounds_toArray, List.set_cons_zero, List.set_cons_succ]
        refine wpAnyH_take (i := 27) (v := ?_) rfl (by kernel_rfl) (by kernel_rfl) (by kernel_rfl) (fun _ _ _ h => h) (Or.inl ⟨by rfl, ?_⟩) hS0 ?_
        rotate_left 1
        · intro W hW
          go_simp
          try with_reducible rfl
        try simp only [Act.put, List.setIfInBounds_toArray, List.set_cons_zero, List.set_cons_succ]
        refine wpAnyH_take (i := 28) (v := ?_) rfl (by kernel_rfl) (by kernel_rfl) (by kernel_rfl) (fun _ _ _ h => h) (Or.inl ⟨by rfl, ?_⟩) hS0 ?_
        rotate_left 1
        · intro W hW
          go_simp
          try with_reducible rfl
        try simp only [Act.put, List.setIfInBounds_toArray, List.set_cons_zero, List.set_cons_succ]
        refine wpAnyH_take (i := 29) (v := ?_) rfl (by kernel_rfl) (by kernel_rfl) (by kernel_rfl) (fun _ _ _ h => h) (Or.inl ⟨by rfl, ?_⟩) hS0 ?_
        rotate_left 1
        · intro W hW
          go_simp
          try with_reducible rfl
        try simp only [Act.put, List.setIfInBounds_toArray, List.set_cons_zero, List.set_cons_succ]
        refine wpAnyH_take (i := 30) (v := ?_) rfl (by kernel_rfl) (by kernel_rfl) (by kernel_rfl) (fun _ _ _ h => h) (Or.inl ⟨by rfl, ?_⟩) hS0 ?_
        rotate_left 1
        · intro W hW
          have q_ := (hW.cell (p := ⟨wr.heap.size, 4, none⟩) hq).trans q4
          go_simp
          try with_reducible rfl
        try simp only [Act.put, List.setIfInBounds_toArray, List.set_cons_zero, List.set_cons_succ]
        refine wpAnyH_take (i := 31) (v := ?_) rfl (by kernel_rfl) (by kernel_rfl) (by kernel_rfl) (fun _ _ _ h => h) (Or.inl ⟨by rfl, ?_⟩) hS0 ?_
        rotate_left 1
        · intro W hW
          go_simp
          try with_reducible rfl
        try simp only [Act.put, List.setIfInBounds_toArray, List.set_cons_zero, List.set_cons_succ]
        refine wpAnyH_take (i := 32) (v := ?_) rfl (by kernel_rfl) (by kernel_rfl) (by kernel_rfl) (fun _ _ _ h => h) (Or.inl ⟨by rfl, ?_⟩) hS0 ?_
        rotate_left 1
        · intro W hW
          go_simp
          try with_reducible rfl
        try simp only [Act.put, List.setIfInBounds_toArray, List.set_cons_zero, List.set_cons_succ]
        refine wpAnyH_take (i := 33) (v := ?_) rfl (by kernel_rfl) (by kernel_rfl) (by kernel_rfl) (fun _ _ _ h => h) (Or.inl ⟨by rfl, ?_⟩) hS0 ?_
        rotate_left 1
        · intro W hW
          go_simp
          try with_reducible rfl
        try simp only [Act.put, List.setIfInBounds_toArray, List.set_cons_zero, List.set_cons_succ]
        refine wpAnyH_take (i := 34) (v := ?_) rfl (by kernel_rfl) (by kernel_rfl) (by kernel_rfl) (fun _ _ _ h => h) (Or.inl ⟨by rfl, ?_⟩) hS0 ?_
        rotate_left 1
        · intro W hW
          go_simp
          try with_reducible rfl
        try simp only [Act.put, List.setIfInBounds_toArray, List.set_cons_zero, List.set_cons_succ]
        refine wpAnyH_take (i := 35) (v := ?_) rfl (by kernel_rfl) (by kernel_rfl) (by kernel_rfl) (fun _ _ _ h => h) (Or.inl ⟨by rfl, ?_⟩) hS0 ?_
        rotate_left 1
        · intro W hW
          go_simp
          try with_reducible rfl
        try simp only [Act.put, List.setIfInBounds_toArray, List.set_cons_zero, List.set_cons_succ]
        have hk5 : (k : Int) < 5 := by omega
        have a00 : x0.tmod 60 = x0 % 60 := Int.tmod_eq_emod_of_nonneg r00
        have a01 : IntKind.i64.wrap (x0 % 60) = x0 % 60 := by rw [IntKind.wrap_i64]; omega
        have a02 : IntKind.i64.wrap (8 + x0 % 60) = 8 + x0 % 60 := by rw [IntKind.wrap_i64]; omega
        have a10 : x1.tmod 12 = x1 % 12 := Int.tmod_eq_emod_of_nonneg r10
        have a11 : IntKind.i64.wrap (x1 % 12) = x1 % 12 := by rw [IntKind.wrap_i64]; omega
        have a12 : IntKind.i64.wrap (2 * (x1 % 12)) = 2 * (x1 % 12) := by rw [IntKind.wrap_i64]; omega
        have a13 : IntKind.i64.wrap (8 + 2 * (x1 % 12)) = 8 + 2 * (x1 % 12) := by rw [IntKind.wrap_i64]; omega
        have a20 : x2.tmod 40 = x2 % 40 := Int.tmod_eq_emod_of_nonneg r20
        have a21 : IntKind.i64.wrap (x2 % 40) = x2 % 40 := by rw [IntKind.wrap_i64]; omega
        have a22 : IntKind.i64.wrap (4 + x2 % 40) = 4 + x2 % 40 := by rw [IntKind.wrap_i64]; omega
        have a30 : x3.tmod 6 = x3 % 6 := Int.tmod_eq_emod_of_nonneg r30
        have a31 : IntKind.i64.wrap (x3 % 6) = x3 % 6 := by rw [IntKind.wrap_i64]; omega
        have a32 : IntKind.i64.wrap (1 + x3 % 6) = 1 + x3 % 6 := by rw [IntKind.wrap_i64]; omega
        have a40 : x4.tmod 14 = x4 % 14 := Int.tmod_eq_emod_of_nonneg r40
        have a41 : IntKind.i64.wrap (x4 % 14) = x4 % 14 := by rw [IntKind.wrap_i64]; omega
        have a42 : IntKind.i64.wrap (2 + x4 % 14) = 2 + x4 % 14 := by rw [IntKind.wrap_i64]; omega
        have a50 : IntKind.i64.wrap 1 = 1 := by rw [IntKind.wrap_i64]; omega
        simp only [a00, a01, a02, a10, a11, a12, a13, a20, a21, a22, a30, a31, a32, a40, a41, a42, a50]
        clear a00 a01 a02 a10 a11 a12 a13 a20 a21 a22 a30 a31 a32 a40 a41 a42 a50
        refine wpAnyH_ready (rs := [0, 37]) (by kernel_rfl) (by simp) (AllReadyH.cons rfl (fun K hK => ?_) (AllReadyH.cons rfl (fun K hK => ?_) AllReadyH.nil))
        · go_simp
          refine (lawnames_any _).mono ?_
          rintro e w2 ⟨A, rfl, hA1, hA2, hA3, hb2⟩
          have hBN : Below w1.heap.size w1 w2 := (hS0).trans (hb2.mono (hS0).size)
          have nA := hA3 k (by omega)
          refine hK _ _ hBN ?_
          try intro _
          clear hK K hA3
          refine wpAnyH_mono (S' := fun W => (Below w1.heap.size w1 W ∧ W.cell? ⟨A, k, none⟩ = some (.string (nmL k)))) (fun _ h => h.1) _ _ _ _ ?_
          have hSN : (Below w1.heap.size w1 w2 ∧ w2.cell? ⟨A, k, none⟩ = some (.string (nmL k))) := ⟨hBN, nA⟩
          refine wpAnyH_take (i := 2) (v := ?_) rfl (by kernel_rfl) (by kernel_rfl) (by kernel_rfl) (fun _ _ _ h => h) (Or.inl ⟨by rfl, ?_⟩) hSN ?_
          rotate_left 1
          · intro W hW
            go_simp
            try with_reducible rfl
          try simp only [Act.put, List.setIfInBounds_toArray, List.set_cons_zero, List.set_cons_succ]
          refine wpAnyH_take (i := 3) (v := ?_) rfl (by kernel_rfl) (by kernel_rfl) (by kernel_rfl) (fun _ _ _ h => h) (Or.inl ⟨by rfl, ?_⟩) hSN ?_
          rotate_left 1
          · intro W hW
            have q_ := hW.2
            go_simp
            try with_reducible rfl
          try simp only [Act.put, List.setIfInBounds_toArray, List.set_cons_zero, List.set_cons_succ]
          clear hSN
          refine wpAnyH_ready (rs := [4, 37]) (by kernel_rfl) (by simp) (AllReadyH.cons rfl (fun K hK => ?_) (AllReadyH.cons rfl (fun K hK => ?_) AllReadyH.nil))
          · go_simp
            refine (lawlabels_any _).mono ?_
            rintro e w3 ⟨A2, rfl, hL1, hL2, hL3, hL4, hb3⟩
            have hBL : Below w1.heap.size w1 w3 := (hBN).trans (hb3.mono (hBN).size)
            have nL := (hb3.cell (p := ⟨A, k, none⟩) (hA2)).trans (nA)
            have l0 := hL3 k (by omega)
            have l1 := hL4 k (by omega)
            refine hK _ _ ⟨hBL, nL⟩ ?_
            try intro _
            clear hK K hL3 hL4
            refine wpAnyH_mono (S' := fun W => ((Below w1.heap.size w1 W ∧ W.cell? ⟨A, k, none⟩ = some (.string (nmL k))) ∧ W.cell? ⟨A2, k * 2, none⟩ = some (.int .u8 (lvL k)) ∧ W.cell? ⟨A2, k * 2 + 1, none⟩ = some (.int .u16 (csL k)))) (fun _ h => h.1) _ _ _ _ ?_
            have hSL : ((Below w1.heap.size w1 w3 ∧ w3.cell? ⟨A, k, none⟩ = some (.string (nmL k))) ∧ w3.cell? ⟨A2, k * 2, none⟩ = some (.int .u8 (lvL k)) ∧ w3.cell? ⟨A2, k * 2 + 1, none⟩ = some (.int .u16 (csL k))) := ⟨⟨hBL, nL⟩, l0, l1⟩
            refine wpAnyH_take (i := 6) (v := ?_) rfl (by kernel_rfl) (by kernel_rfl) (by kernel_rfl) (fun _ _ _ h => h) (Or.inl ⟨by rfl, ?_⟩) hSL ?_
            rotate_left 1
            · intro W hW
              go_simp
              try with_reducible rfl
            try simp only [Act.put, List.setIfInBounds_toArray, List.set_cons_zero, List.set_cons_succ]
            refine wpAnyH_take (i := 7) (v := ?_) rfl (by kernel_rfl) (by kernel_rfl) (by kernel_rfl) (fun _ _ _ h => h) (Or.inl ⟨by rfl, ?_⟩) hSL ?_
            rotate_left 1
            · intro W hW
              have q_ := hW.2.1
              have q__ := hW.2.2
              go_simp
              try with_reducible rfl
            try simp only [Act.put, List.setIfInBounds_toArray, List.set_cons_zero, List.set_cons_succ]
            refine wpAnyH_take (i := 36) (v := ?_) rfl (by kernel_rfl) (by kernel_rfl) (by kernel_rfl) (fun _ _ _ h => h) (Or.inl ⟨by rfl, ?_⟩) hSL ?_
            rotate_left 1
            · intro W hW
              go_simp
              try with_reducible rfl
            try simp only [Act.put, List.setIfInBounds_toArray, List.set_cons_zero, List.set_cons_succ]
            clear hSL
            refine wpAnyH_ready (rs := [37]) (by kernel_rfl) (by simp) (AllReadyH.cons rfl (fun K hK => ?_) AllReadyH.nil)
            go_simp
            refine hK _ _ ⟨⟨hBL.alloc hBL.size _, cell_al nL _⟩, cell_al l0 _, cell_al l1 _⟩ ?_
            try intro _
            clear hK K
            have hF : Free9 ((w3.alloc (.cells #[.string ⟨#[]⟩, .int .u8 0, .int .u16 0, .int .i64 0, .int .i64 0, .int .i64 0, .int .i64 0, .int .i64 0, .int .i64 0] 41))) w3.heap.size := Free9.new w3 (.string ⟨#[]⟩) (.int .u8 0) (.int .u16 0) (.int .i64 0) (.int .i64 0) (.int .i64 0) (.int .i64 0) (.int .i64 0) (.int .i64 0) 41
            have hBG : Below w1.heap.size w1 ((w3.alloc (.cells #[.string ⟨#[]⟩, .int .u8 0, .int .u16 0, .int .i64 0, .int .i64 0, .int .i64 0, .int .i64 0, .int .i64 0, .int .i64 0] 41))) := (hBL).alloc (hBL).size _
            have hsG : w3.heap.size < ((w3.alloc (.cells #[.string ⟨#[]⟩, .int .u8 0, .int .u16 0, .int .i64 0, .int .i64 0, .int .i64 0, .int .i64 0, .int .i64 0, .int .i64 0] 41))).heap.size := hF.lt
            have hgw := (hBL).size
            have nZ := cell_al nL (.cells #[.string ⟨#[]⟩, .int .u8 0, .int .u16 0, .int .i64 0, .int .i64 0, .int .i64 0, .int .i64 0, .int .i64 0, .int .i64 0] 41)
            have l0Z := cell_al l0 (.cells #[.string ⟨#[]⟩, .int .u8 0, .int .u16 0, .int .i64 0, .int .i64 0, .int .i64 0, .int .i64 0, .int .i64 0, .int .i64 0] 41)
            have l1Z := cell_al l1 (.cells #[.string ⟨#[]⟩, .int .u8 0, .int .u16 0, .int .i64 0, .int .i64 0, .int .i64 0, .int .i64 0, .int .i64 0, .int .i64 0] 41)
            obtain ⟨w4, hq4⟩ : ∃ x, (w3.alloc (.cells #[.string ⟨#[]⟩, .int .u8 0, .int .u16 0, .int .i64 0, .int .i64 0, .int .i64 0, .int .i64 0, .int .i64 0, .int .i64 0] 41)) = x := ⟨_, rfl⟩
            rw [hq4] at hF hBG hsG nZ l0Z l1Z ⊢
            clear hq4
            have hb3s := hb3.size
            obtain ⟨g, hg⟩ : ∃ x, w3.heap.size = x := ⟨_, rfl⟩
            rw [hg] at hF hsG hgw hL2 hb3s ⊢
            have hBZ := hBG
            have hAg : g ≠ A := by omega
            have hA2g : g ≠ A2 := by omega
            obtain ⟨-, ⟨v0, c0⟩, ⟨v1, c1⟩, ⟨v2, c2⟩, ⟨v3, c3⟩, ⟨v4, c4⟩, ⟨v5, c5⟩, ⟨v6, c6⟩, ⟨v7, c7⟩, ⟨v8, c8⟩, f0, f1, f2, f3, f4, f5, f6, f7, f8⟩ := id hF
            have hglt := hF.lt
            refine wpAnyH_ready (rs := [38]) (by kernel_rfl) (by simp) (AllReadyH.cons rfl (fun K hK => ?_) AllReadyH.nil)
            go_simp
            refine hK _ (set9 w4 g ⟨nmL k, lvL k, csL k, 8 + x0 % 60, 8 + 2 * (x1 % 12), 4 + x2 % 40, 1 + x3 % 6, 2 + x4 % 14, 1⟩) ⟨⟨set9_below hBZ hgw _, (set9_other _ w4 hAg).trans nZ⟩, (set9_other _ w4 hA2g).trans l0Z, (set9_other _ w4 hA2g).trans l1Z⟩ ?_
            try intro _
            clear hK K
            refine wpAnyH_done (by kernel_rfl) ?_ _
            clear c0 c1 c2 c3 c4 c5 c6 c7 c8 f0 f1 f2 f3 f4 f5 f6 f7
            exact tail.out A A2 g (set9 w4 g ⟨nmL k, lvL k, csL k, 8 + x0 % 60, 8 + 2 * (x1 % 12), 4 + x2 % 40, 1 + x3 % 6, 2 + x4 % 14, 1⟩) ⟨set9_box hF _, set9_free hF _ 8 f8, set9_below hBZ hgw _, by rw [set9_size]; exact hglt, hgw⟩
          · go_simp
            refine hK _ _ ⟨hBN.alloc hBN.size _, cell_al nA _⟩ ?_
            try intro _
            clear hK K
            have hF : Free9 ((w2.alloc (.cells #[.string ⟨#[]⟩, .int .u8 0, .int .u16 0, .int .i64 0, .int .i64 0, .int .i64 0, .int .i64 0, .int .i64 0, .int .i64 0] 41))) w2.heap.size := Free9.new w2 (.string ⟨#[]⟩) (.int .u8 0) (.int .u16 0) (.int .i64 0) (.int .i64 0) (.int .i64 0) (.int .i64 0) (.int .i64 0) (.int .i64 0) 41
            have hBG : Below w1.heap.size w1 ((w2.alloc (.cells #[.string ⟨#[]⟩, .int .u8 0, .int .u16 0, .int .i64 0, .int .i64 0, .int .i64 0, .int .i64 0, .int .i64 0, .int .i64 0] 41))) := (hBN).alloc (hBN).size _
            have hsG : w2.heap.size < ((w2.alloc (.cells #[.string ⟨#[]⟩, .int .u8 0, .int .u16 0, .int .i64 0, .int .i64 0, .int .i64 0, .int .i64 0, .int .i64 0, .int .i64 0] 41))).heap.size := hF.lt
            have hgw := (hBN).size
            have nZ0 := cell_al nA (.cells #[.string ⟨#[]⟩, .int .u8 0, .int .u16 0, .int .i64 0, .int .i64 0, .int .i64 0, .int .i64 0, .int .i64 0, .int .i64 0] 41)
            obtain ⟨w3, hq4⟩ : ∃ x, (w2.alloc (.cells #[.string ⟨#[]⟩, .int .u8 0, .int .u16 0, .int .i64 0, .int .i64 0, .int .i64 0, .int .i64 0, .int .i64 0, .int .i64 0] 41)) = x := ⟨_, rfl⟩
            rw [hq4] at hF hBG hsG nZ0 ⊢
            clear hq4
            obtain ⟨g, hg⟩ : ∃ x, w2.heap.size = x := ⟨_, rfl⟩
            rw [hg] at hF hsG hgw hA2 ⊢
            refine wpAnyH_ready (rs := [4]) (by kernel_rfl) (by simp) (AllReadyH.cons rfl (fun K hK => ?_) AllReadyH.nil)
            go_simp
            refine (lawlabels_any _).mono ?_
            rintro e w4 ⟨A2, rfl, hL1, hL2, hL3, hL4, hb3⟩
            have hBL : Below w1.heap.size w1 w4 := (hBG).trans (hb3.mono (hBG).size)
            have nL := (hb3.cell (p := ⟨A, k, none⟩) (Nat.lt_trans hA2 hsG)).trans (nZ0)
            have l0 := hL3 k (by omega)
            have l1 := hL4 k (by omega)
            refine hK _ _ ⟨hBL, nL⟩ ?_
            try intro _
            clear hK K hL3 hL4
            refine wpAnyH_mono (S' := fun W => ((Below w1.heap.size w1 W ∧ W.cell? ⟨A, k, none⟩ = some (.string (nmL k))) ∧ W.cell? ⟨A2, k * 2, none⟩ = some (.int .u8 (lvL k)) ∧ W.cell? ⟨A2, k * 2 + 1, none⟩ = some (.int .u16 (csL k)))) (fun _ h => h.1) _ _ _ _ ?_
            have hSL : ((Below w1.heap.size w1 w4 ∧ w4.cell? ⟨A, k, none⟩ = some (.string (nmL k))) ∧ w4.cell? ⟨A2, k * 2, none⟩ = some (.int .u8 (lvL k)) ∧ w4.cell? ⟨A2, k * 2 + 1, none⟩ = some (.int .u16 (csL k))) := ⟨⟨hBL, nL⟩, l0, l1⟩
            refine wpAnyH_take (i := 6) (v := ?_) rfl (by kernel_rfl) (by kernel_rfl) (by kernel_rfl) (fun _ _ _ h => h) (Or.inl ⟨by rfl, ?_⟩) hSL ?_
            rotate_left 1
            · intro W hW
              go_simp
              try with_reducible rfl
            try simp only [Act.put, List.setIfInBounds_toArray, List.set_cons_zero, List.set_cons_succ]
            refine wpAnyH_take (i := 7) (v := ?_) rfl (by kernel_rfl) (by kernel_rfl) (by kernel_rfl) (fun _ _ _ h => h) (Or.inl ⟨by rfl, ?_⟩) hSL ?_
            rotate_left 1
            · intro W hW
              have q_ := hW.2.1
              have q__ := hW.2.2
              go_simp
              try with_reducible rfl
            try simp only [Act.put, List.setIfInBounds_toArray, List.set_cons_zero, List.set_cons_succ]
            refine wpAnyH_take (i := 36) (v := ?_) rfl (by kernel_rfl) (by kernel_rfl) (by kernel_rfl) (fun _ _ _ h => h) (Or.inl ⟨by rfl, ?_⟩) hSL ?_
            rotate_left 1
            · intro W hW
              go_simp
              try with_reducible rfl
            try simp only [Act.put, List.setIfInBounds_toArray, List.set_cons_zero, List.set_cons_succ]
            clear hSL
            have hF := hF.below hb3 hsG
            have hBZ := hBL
            have nZ := nL
            have l0Z := l0
            have l1Z := l1
            have hAg : g ≠ A := by omega
            have hA2g : g ≠ A2 := by omega
            obtain ⟨-, ⟨v0, c0⟩, ⟨v1, c1⟩, ⟨v2, c2⟩, ⟨v3, c3⟩, ⟨v4, c4⟩, ⟨v5, c5⟩, ⟨v6, c6⟩, ⟨v7, c7⟩, ⟨v8, c8⟩, f0, f1, f2, f3, f4, f5, f6, f7, f8⟩ := id hF
            have hglt := hF.lt
            refine wpAnyH_ready (rs := [38]) (by kernel_rfl) (by simp) (AllReadyH.cons rfl (fun K hK => ?_) AllReadyH.nil)
            go_simp
            refine hK _ (set9 w4 g ⟨nmL k, lvL k, csL k, 8 + x0 % 60, 8 + 2 * (x1 % 12), 4 + x2 % 40, 1 + x3 % 6, 2 + x4 % 14, 1⟩) ⟨⟨set9_below hBZ hgw _, (set9_other _ w4 hAg).trans nZ⟩, (set9_other _ w4 hA2g).trans l0Z, (set9_other _ w4 hA2g).trans l1Z⟩ ?_
            try intro _
            clear hK K
            refine wpAnyH_done (by kernel_rfl) ?_ _
            clear c0 c1 c2 c3 c4 c5 c6 c7 c8 f0 f1 f2 f3 f4 f5 f6 f7
            exact tail.out A A2 g (set9 w4 g ⟨nmL k, lvL k, csL k, 8 + x0 % 60, 8 + 2 * (x1 % 12), 4 + x2 % 40, 1 + x3 % 6, 2 + x4 % 14, 1⟩) ⟨set9_box hF _, set9_free hF _ 8 f8, set9_below hBZ hgw _, by rw [set9_size]; exact hglt, hgw⟩
        · go_simp
          refine hK _ _ (((Below.refl _ w1).alloc (Nat.le_refl _) _).drew) ?_
          try intro _
          clear hK K
          have hF : Free9 ((w1.alloc (.cells #[.string ⟨#[]⟩, .int .u8 0, .int .u16 0, .int .i64 0, .int .i64 0, .int .i64 0, .int .i64 0, .int .i64 0, .int .i64 0] 41)).drew) w1.heap.size := (Free9.new w1 (.string ⟨#[]⟩) (.int .u8 0) (.int .u16 0) (.int .i64 0) (.int .i64 0) (.int .i64 0) (.int .i64 0) (.int .i64 0) (.int .i64 0) 41).below (B := w1.heap.size + 1) ((Below.refl _ _).drew) (Nat.lt_succ_self _)
          have hBG : Below w1.heap.size w1 ((w1.alloc (.cells #[.string ⟨#[]⟩, .int .u8 0, .int .u16 0, .int .i64 0, .int .i64 0, .int .i64 0, .int .i64 0, .int .i64 0, .int .i64 0] 41)).drew) := (((Below.refl w1.heap.size w1)).alloc ((Below.refl w1.heap.size w1)).size _).drew
          have hsG : w1.heap.size < ((w1.alloc (.cells #[.string ⟨#[]⟩, .int .u8 0, .int .u16 0, .int .i64 0, .int .i64 0, .int .i64 0, .int .i64 0, .int .i64 0, .int .i64 0] 41)).drew).heap.size := hF.lt
          have hgw := ((Below.refl w1.heap.size w1)).size
          obtain ⟨w2, hq4⟩ : ∃ x, (w1.alloc (.cells #[.string ⟨#[]⟩, .int .u8 0, .int .u16 0, .int .i64 0, .int .i64 0, .int .i64 0, .int .i64 0, .int .i64 0, .int .i64 0] 41)).drew = x := ⟨_, rfl⟩
          rw [hq4] at hF hBG hsG  ⊢
          clear hq4
          
          refine wpAnyH_ready (rs := [0]) (by kernel_rfl) (by simp) (AllReadyH.cons rfl (fun K hK => ?_) AllReadyH.nil)
          go_simp
          refine (lawnames_any _).mono ?_
          rintro e w3 ⟨A, rfl, hA1, hA2, hA3, hb2⟩
          have hBN : Below w1.heap.size w1 w3 := (hBG).trans (hb2.mono (hBG).size)
          have nA := hA3 k (by omega)
          refine hK _ _ hBN ?_
          try intro _
          clear hK K hA3
          refine wpAnyH_mono (S' := fun W => (Below w1.heap.size w1 W ∧ W.cell? ⟨A, k, none⟩ = some (.string (nmL k)))) (fun _ h => h.1) _ _ _ _ ?_
          have hSN : (Below w1.heap.size w1 w3 ∧ w3.cell? ⟨A, k, none⟩ = some (.string (nmL k))) := ⟨hBN, nA⟩
          refine wpAnyH_take (i := 2) (v := ?_) rfl (by kernel_rfl) (by kernel_rfl) (by kernel_rfl) (fun _ _ _ h => h) (Or.inl ⟨by rfl, ?_⟩) hSN ?_
          rotate_left 1
          · intro W hW
            go_simp
            try with_reducible rfl
          try simp only [Act.put, List.setIfInBounds_toArray, List.set_cons_zero, List.set_cons_succ]
          refine wpAnyH_take (i := 3) (v := ?_) rfl (by kernel_rfl) (by kernel_rfl) (by kernel_rfl) (fun _ _ _ h => h) (Or.inl ⟨by rfl, ?_⟩) hSN ?_
          rotate_left 1
          · intro W hW
            have q_ := hW.2
            go_simp
            try with_reducible rfl
          try simp only [Act.put, List.setIfInBounds_toArray, List.set_cons_zero, List.set_cons_succ]
          clear hSN
          have hF := hF.below hb2 hsG
          refine wpAnyH_ready (rs := [4]) (by kernel_rfl) (by simp) (AllReadyH.cons rfl (fun K hK => ?_) AllReadyH.nil)
          go_simp
          refine (lawlabels_any _).mono ?_
          rintro e w4 ⟨A2, rfl, hL1, hL2, hL3, hL4, hb3⟩
          have hBL : Below w1.heap.size w1 w4 := (hBN).trans (hb3.mono (hBN).size)
          have nL := (hb3.cell (p := ⟨A, k, none⟩) (hA2)).trans (nA)
          have l0 := hL3 k (by omega)
          have l1 := hL4 k (by omega)
          refine hK _ _ ⟨hBL, nL⟩ ?_
          try intro _
          clear hK K hL3 hL4
          refine wpAnyH_mono (S' := fun W => ((Below w1.heap.size w1 W ∧ W.cell? ⟨A, k, none⟩ = some (.string (nmL k))) ∧ W.cell? ⟨A2, k * 2, none⟩ = some (.int .u8 (lvL k)) ∧ W.cell? ⟨A2, k * 2 + 1, none⟩ = some (.int .u16 (csL k)))) (fun _ h => h.1) _ _ _ _ ?_
          have hSL : ((Below w1.heap.size w1 w4 ∧ w4.cell? ⟨A, k, none⟩ = some (.string (nmL k))) ∧ w4.cell? ⟨A2, k * 2, none⟩ = some (.int .u8 (lvL k)) ∧ w4.cell? ⟨A2, k * 2 + 1, none⟩ = some (.int .u16 (csL k))) := ⟨⟨hBL, nL⟩, l0, l1⟩
          refine wpAnyH_take (i := 6) (v := ?_) rfl (by kernel_rfl) (by kernel_rfl) (by kernel_rfl) (fun _ _ _ h => h) (Or.inl ⟨by rfl, ?_⟩) hSL ?_
          rotate_left 1
          · intro W hW
            go_simp
            try with_reducible rfl
          try simp only [Act.put, List.setIfInBounds_toArray, List.set_cons_zero, List.set_cons_succ]
          refine wpAnyH_take (i := 7) (v := ?_) rfl (by kernel_rfl) (by kernel_rfl) (by kernel_rfl) (fun _ _ _ h => h) (Or.inl ⟨by rfl, ?_⟩) hSL ?_
          rotate_left 1
          · intro W hW
            have q_ := hW.2.1
            have q__ := hW.2.2
            go_simp
            try with_reducible rfl
          try simp only [Act.put, List.setIfInBounds_toArray, List.set_cons_zero, List.set_cons_succ]
          refine wpAnyH_take (i := 36) (v := ?_) rfl (by kernel_rfl) (by kernel_rfl) (by kernel_rfl) (fun _ _ _ h => h) (Or.inl ⟨by rfl, ?_⟩) hSL ?_
          rotate_left 1
          · intro W hW
            go_simp
            try with_reducible rfl
          try simp only [Act.put, List.setIfInBounds_toArray, List.set_cons_zero, List.set_cons_succ]
          clear hSL
          have hsH := hF.lt
          have hF := hF.below hb3 hsH
          have hBZ := hBL
          have nZ := nL
          have l0Z := l0
          have l1Z := l1
          have hAg : w1.heap.size ≠ A := by omega
          have hA2g : w1.heap.size ≠ A2 := by omega
          obtain ⟨-, ⟨v0, c0⟩, ⟨v1, c1⟩, ⟨v2, c2⟩, ⟨v3, c3⟩, ⟨v4, c4⟩, ⟨v5, c5⟩, ⟨v6, c6⟩, ⟨v7, c7⟩, ⟨v8, c8⟩, f0, f1, f2, f3, f4, f5, f6, f7, f8⟩ := id hF
          have hglt := hF.lt
          refine wpAnyH_ready (rs := [38]) (by kernel_rfl) (by simp) (AllReadyH.cons rfl (fun K hK => ?_) AllReadyH.nil)
          go_simp
          refine hK _ (set9 w4 w1.heap.size ⟨nmL k, lvL k, csL k, 8 + x0 % 60, 8 + 2 * (x1 % 12), 4 + x2 % 40, 1 + x3 % 6, 2 + x4 % 14, 1⟩) ⟨⟨set9_below hBZ hgw _, (set9_other _ w4 hAg).trans nZ⟩, (set9_other _ w4 hA2g).trans l0Z, (set9_other _ w4 hA2g).trans l1Z⟩ ?_
          try intro _
          clear hK K
          refine wpAnyH_done (by kernel_rfl) ?_ _
          clear c0 c1 c2 c3 c4 c5 c6 c7 c8 f0 f1 f2 f3 f4 f5 f6 f7
          exact tail.out A A2 w1.heap.size (set9 w4 w1.heap.size ⟨nmL k, lvL k, csL k, 8 + x0 % 60, 8 + 2 * (x1 % 12), 4 + x2 % 40, 1 + x3 % 6, 2 + x4 % 14, 1⟩) ⟨set9_box hF _, set9_free hF _ 8 f8, set9_below hBZ hgw _, by rw [set9_size]; exact hglt, hgw⟩
      · rintro A A2 g w5 ⟨HBX, f8, hB5, hg5, hgw⟩
        obtain ⟨-, b0, b1, b2, b3, b4, b5, b6, b7, b8⟩ := HBX
        simp only at b0 b1 b2 b3 b4 b5 b6 b7 b8
        have HBZ := Lib.hid hB5
        clear hB5
        have HK5 : True := trivial
        rcases Nat.eq_zero_or_pos k with hk0 | hk0
        · have HK0 := Lib.hid hk0
          clear hk0
          have hE5 : ¬ ((0 : Int) < (k : Int)) := by have := HK0.out; omega
          have HSC : Hid (sizeRg 2 H k = ⟨nmL k, lvL k, csL k, 8 + x0 % 60, 8 + 2 * (x1 % 12), 4 + x2 % 40, 1 + x3 % 6, 2 + x4 % 14, 1⟩) := by
            show sizeRg 2 H k = _
            rw [HSE.out]
            rw [if_pos rfl]
          go_wp2_with (first | (at_builtin; refine wpList_append_own _ rfl _ _ 107 rfl w0.heap.size 41 i0 _ 9 72 Tryz.underlying107 hi hz0 hz1 hz2 rfl (by decide) _ _ _ rfl ((ownsRow_below HO1.out (HBZ.out.setCell hgw _)).alloc _) ⟨w5.heap.size, 0, none⟩ 1 1 [.string (nmL k), .int .u8 (lvL k), .int .u16 (csL k), .int .i64 (8 + x0 % 60), .int .i64 (8 + 2 * (x1 % 12)), .int .i64 (4 + x2 % 40), .int .i64 (1 + x3 % 6), .int .i64 (2 + x4 % 14), .int .i64 1] rfl rfl (by simpa only [size_set] using cells_new (w5.setCell ⟨g, 8, none⟩ (.int .i64 1)) [.string (nmL k), .int .u8 (lvL k), .int .u16 (csL k), .int .i64 (8 + x0 % 60), .int .i64 (8 + 2 * (x1 % 12)), .int .i64 (4 + x2 % 40), .int .i64 (1 + x3 % 6), .int .i64 (2 + x4 % 14), .int .i64 1] 41) (by simp [Value.oneCell']) (by unfold maxLen; omega) (by omega) (by have h1_ := HBR1.out.size; have h2_ := HBZ.out.size; first | omega | (simp; omega) | (simp only [size_set]; omega)) ?_))
          intro v' w7 hown' hgrow _
          have HB7 := Lib.hid (((HBR1.out.trans ((by first | exact HBZ.out | exact HBZ.out.setCell hgw _ | exact (HBZ.out.setCell hgw _).setCell hgw _ : Below w1.heap.size w1 _).mono HBR1.out.size)).alloc (by have h1_ := HBR1.out.size; have h2_ := HBZ.out.size; first | omega | (simp only [size_set]; omega)) _).grown hgrow (by have h1_ := HBR1.out.size; have h2_ := HBZ.out.size; first | omega | (simp; omega) | (simp only [size_set]; omega)) (ownsRow_block HO1.out))
          have HO7 := Lib.hid hown'
          clear hown' hgrow
          go_wp2
          go_roundw
          case rel =>
            refine ⟨k + 1, by omega, by go_num, ?_, HB7.out⟩
            rw [HT.out, flatR, List.flatMap_append]
            simpa [HSC.out, flatR, Rg.cells] using HO7.out
          case measure => simp [intOf]; omega
        · have HK0 := Lib.hid hk0
          clear hk0
          have hE5 : ((0 : Int) < (k : Int)) := by have := HK0.out; omega
          have HSC : Hid (sizeRg 2 H k = ⟨nmL k, lvL k, csL k, 8 + x0 % 60, 8 + 2 * (x1 % 12), 4 + x2 % 40, 1 + x3 % 6, 2 + x4 % 14, 1⟩) := by
            show sizeRg 2 H k = _
            rw [HSE.out]
            rw [if_pos rfl]
          go_wp2_with (first | (at_builtin; refine wpList_append_own _ rfl _ _ 107 rfl w0.heap.size 41 i0 _ 9 72 Tryz.underlying107 hi hz0 hz1 hz2 rfl (by decide) _ _ _ rfl ((ownsRow_below HO1.out ((HBZ.out.setCell hgw _).setCell hgw _)).alloc _) ⟨w5.heap.size, 0, none⟩ 1 1 [.string (nmL k), .int .u8 (lvL k), .int .u16 (csL k), .int .i64 (8 + x0 % 60), .int .i64 (8 + 2 * (x1 % 12)), .int .i64 (4 + x2 % 40), .int .i64 (1 + x3 % 6), .int .i64 (2 + x4 % 14), .int .i64 1] rfl rfl (by simpa only [size_set] using cells_new ((w5.setCell ⟨g, 8, none⟩ (.int .i64 k)).setCell ⟨g, 8, none⟩ (.int .i64 1)) [.string (nmL k), .int .u8 (lvL k), .int .u16 (csL k), .int .i64 (8 + x0 % 60), .int .i64 (8 + 2 * (x1 % 12)), .int .i64 (4 + x2 % 40), .int .i64 (1 + x3 % 6), .int .i64 (2 + x4 % 14), .int .i64 1] 41) (by simp [Value.oneCell']) (by unfold maxLen; omega) (by omega) (by have h1_ := HBR1.out.size; have h2_ := HBZ.out.size; first | omega | (simp; omega) | (simp only [size_set]; omega)) ?_))
          intro v' w7 hown' hgrow _
          have HB7 := Lib.hid (((HBR1.out.trans ((by first | exact HBZ.out | exact HBZ.out.setCell hgw _ | exact (HBZ.out.setCell hgw _).setCell hgw _ : Below w1.heap.size w1 _).mono HBR1.out.size)).alloc (by have h1_ := HBR1.out.size; have h2_ := HBZ.out.size; first | omega | (simp only [size_set]; omega)) _).grown hgrow (by have h1_ := HBR1.out.size; have h2_ := HBZ.out.size; first | omega | (simp; omega) | (simp only [size_set]; omega)) (ownsRow_block HO1.out))
          have HO7 := Lib.hid hown'
          clear hown' hgrow
          go_wp2
          go_roundw
          case rel =>
            refine ⟨k + 1, by omega, by go_num, ?_, HB7.out⟩
            rw [HT.out, flatR, List.flatMap_append]
            simpa [HSC.out, flatR, Rg.cells] using HO7.out
          case measure => simp [intOf]; omega
    · obtain rfl : k = 2 := by omega
      obtain ⟨wR, rfl⟩ : ∃ x, x = wr := ⟨wr, rfl⟩
      have HOF : Hid (wR.ownsRow w0.heap.size 41 9 (.slice ra 2 rcap) 2 (flatR (sizeR0 2 H))) := by
        have := HO.out
        rw [List.take_of_length_le (by rw [sizeR0_len]; exact Nat.le_refl _)] at this
        exact this
      have c26 := HBX.out.c26
      have HBF := Lib.hid (HBW.out.trans (HBR.out.mono HBW.out.size))
      have HRG : Hid (Regs wR (.slice ra 2 rcap) (sizeRs 2 H)) := by
        have h := HOF.out
        have := regs_of_row (rs := sizeR0 2 H) (by rw [sizeR0_len]; exact h)
        show Regs wR _ (sizeRs 2 H)
        unfold sizeRs
        rw [if_neg (by decide)]
        exact this
      have HTV2 := Lib.hid (HTV.out.below HBF.out)
      clear HO HBR HBX hlt
      rcases HTV2.out with ⟨ta, tcap, rfl, rfl⟩ | ⟨tb, toff, tcap, rfl, tlt, tmax, tcell⟩
      · go_wp2
        refine wp_loop_rounds 1 ?_
        rw [rounds_succ]
        go_wp2
        refine bodyPost_ret (v := .tuple #[.slice ra 2 rcap, .slice none 0 0]) (by simp [results, Tryz.results42, go_sem]) rfl ⟨_, _, rfl, HBF.out, HRG.out, .inl ⟨none, 0, rfl, rfl⟩⟩
      · obtain ⟨N, hN⟩ : ∃ N, ts.length = N := ⟨_, rfl⟩
        have HN := Lib.hid hN
        rw [hN] at c26 hl
        unfold maxLen at hl
        have HC := Lib.hid tcell
        clear tcell hN
        obtain ⟨i1, hi', hy0, hy1, hy2⟩ := info_parts Tryz.info34
        have hwb : w0.heap.size ≤ wR.heap.size := hwz
        go_wp2
        go_loopw [9, 90] (fun v i wx => ∃ j : Nat, j ≤ N ∧ i = .int .i64 j ∧ wx.ownsRow wR.heap.size 177 2 v (acM 2 ts j).length (flatM (acM 2 ts j)) ∧ Below wR.heap.size wR wx) (fun _ i _ => N - (intOf i).toNat)
        case atStart => exact ⟨0, by omega, rfl, World.ownsRow_nil _ _ _ _, Below.refl _ _⟩
        case round =>
          obtain ⟨j, hj, rfl, hown, hbx⟩ := hrel
          obtain ⟨wX, rfl⟩ : ∃ x, x = wr := ⟨wr, rfl⟩
          obtain ⟨va, vcap, rfl⟩ := ownsRow_form hown
          have HOX := Lib.hid hown
          have HBX := Lib.hid hbx
          have hxz := hbx.size
          have hlen := acM_nine 2 ts j (by rw [HN.out]; exact hj)
          clear hown hbx
          by_cases hjn : j < N
          · have hjt : j < ts.length := by rw [HN.out]; exact hjn
            have ex := (HBX.out.cell (p := ⟨tb, toff + j, none⟩) tlt).trans (HC.out j hjt)
            have HSU := Lib.hid (acM_succ 2 ts j hjt)
            have hxr := HTS.out ts[j] (List.getElem_mem _)
            generalize ts[j] = x at *
            obtain ⟨hx0, hx1⟩ := hxr
            generalize hAC : acM 2 ts j = ac at *
            obtain ⟨L, hL⟩ : ∃ L, ac.length = L := ⟨_, rfl⟩
            have HLN := Lib.hid hL
            rw [hL] at hlen ⊢
            have hL63 : (L : Int) ≤ 5000 := by omega
            have hnx : sizeMk 2 x = (x % 2, 4 + x / 8 % 4) := rfl
            clear hL hAC hjt
            go_wp2
            obtain ⟨W, hW⟩ : ∃ z, wX.alloc (.cells #[.int .u8 (x % 2), .int .u16 (4 + x / 8 % 4)] 177) = z := ⟨_, rfl⟩
            rw [hW]
            have p0 : W.cell? ⟨wX.heap.size, 0, none⟩ = some (.int .u8 (x % 2)) := by rw [← hW]; simp [World.cell?_alloc_new]
            have p1 : W.cell? ⟨wX.heap.size, 1, none⟩ = some (.int .u16 (4 + x / 8 % 4)) := by rw [← hW]; simp [World.cell?_alloc_new]
            have hplt : wX.heap.size < W.heap.size := by rw [← hW]; simp
            have HBW2 : Hid (Below wR.heap.size wR W) := by rw [← hW]; exact HBX.out.alloc hxz _
            have HOW : Hid (W.ownsRow wR.heap.size 177 2 (.slice va L vcap) L (flatM ac)) := by
              have h := HOX.out
              rw [HLN.out] at h
              rw [← hW]
              exact h.alloc _
            have HQ : Hid (∀ q (hq : q < ac.length), ∃ vg, va = some ⟨vg, 0, none⟩ ∧ vg < W.heap.size ∧ W.cell? ⟨vg, q * 2, none⟩ = some (.int .u8 ac[q].1) ∧ W.cell? ⟨vg, q * 2 + 1, none⟩ = some (.int .u16 ac[q].2)) := by
              intro q hq
              rcases ownsRow_cell (k := 2) (f := markCells) (l := ac) (fun _ => rfl) HLN.out.symm HOW.out with ⟨-, hn⟩ | ⟨vg, cc, hv, -, hgl, -, hcc⟩
              · rw [hn] at hq; simp at hq
              · simp at hv
                obtain ⟨rfl, -, rfl⟩ := hv
                have h0 := hcc q hq 0 (by omega)
                have h1 := hcc q hq 1 (by omega)
                simp [markCells] at h0 h1
                exact ⟨vg, rfl, hgl, h0, h1⟩
            have hwW : wR.heap.size ≤ W.heap.size := by omega
            clear hW HOX
            go_loopw [13, 109] (fun o i wi => ∃ q : Nat, q ≤ L ∧ i = .int .i64 q ∧ o = .bool (decide ((8 : Int) < (j : Int)) || (ac.take q).any (fun y => decide (y = sizeMk 2 x))) ∧ Below W.heap.size W wi) (fun _ i _ => L - (intOf i).toNat)
            case atStart => exact ⟨0, by omega, rfl, by simp, Below.refl _ _⟩
            case round =>
              obtain ⟨q, hq, rfl, rfl, hbi⟩ := hrel
              obtain ⟨wI, rfl⟩ : ∃ x, x = wr := ⟨wr, rfl⟩
              obtain ⟨ob, hob⟩ : ∃ b, (decide ((8 : Int) < (j : Int)) || (ac.take q).any (fun y => decide (y = sizeMk 2 x))) = b := ⟨_, rfl⟩
              rw [hob]
              have HOB := Lib.hid hob
              have g0 := (hbi.cell (p := ⟨wX.heap.size, 0, none⟩) hplt).trans p0
              have g1 := (hbi.cell (p := ⟨wX.heap.size, 1, none⟩) hplt).trans p1
              have hiz := hbi.size
              have hxI : wX.heap.size < wI.heap.size := by omega
              have HBI := Lib.hid hbi
              clear hob
              by_cases hql : q < L
              · have hqa : q < ac.length := by rw [HLN.out]; exact hql
                obtain ⟨vg, hva, hvl, d0, d1⟩ := HQ.out q hqa
                have d0 := (hbi.cell (p := ⟨vg, q * 2, none⟩) hvl).trans d0
                have d1 := (hbi.cell (p := ⟨vg, q * 2 + 1, none⟩) hvl).trans d1
                have HTK := Lib.hid (List.take_succ_eq_append_getElem hqa)
                clear hbi
                subst hva
                generalize ac[q] = y at *
                obtain ⟨y0, y1⟩ := y
                simp only at d0 d1
                cases ob
                · by_cases e0 : y0 = x % 2
                  · subst e0
                    by_cases e1 : y1 = 4 + x / 8 % 4
                    · subst e1
                      go_wp2
                      go_roundw
                      case rel =>
                        refine ⟨q + 1, by omega, by go_num, ?_, HBI.out.alloc hiz _⟩
                        rw [HTK.out, List.any_append, ← Bool.or_assoc, HOB.out]
                        simp [hnx]
                      case measure => simp [intOf]; omega
                    · go_wp2
                      go_roundw
                      case rel =>
                        refine ⟨q + 1, by omega, by go_num, ?_, HBI.out.alloc hiz _⟩
                        rw [HTK.out, List.any_append, ← Bool.or_assoc, HOB.out]
                        simp [hnx, e1]
                      case measure => simp [intOf]; omega
                  · go_wp2
                    go_roundw
                    case rel =>
                      refine ⟨q + 1, by omega, by go_num, ?_, HBI.out.alloc hiz _⟩
                      rw [HTK.out, List.any_append, ← Bool.or_assoc, HOB.out]
                      simp [hnx, e0]
                    case measure => simp [intOf]; omega
                · go_wp2
                  go_roundw
                  case rel =>
                    refine ⟨q + 1, by omega, by go_num, ?_, HBI.out.alloc hiz _⟩
                    rw [HTK.out, List.any_append, ← Bool.or_assoc, HOB.out]
                    rfl
                  case measure => simp [intOf]; omega
              · obtain rfl : q = L := by omega
                have HOB2 : Hid ((decide ((8 : Int) < (j : Int)) || ac.any (fun y => decide (y = sizeMk 2 x))) = ob) := by
                  have := HOB.out
                  rw [← HLN.out, List.take_length] at this
                  exact this
                have hOI := ownsRow_below HOW.out HBI.out
                have HOI := Lib.hid hOI
                have HB9 := Lib.hid (HBW2.out.trans (HBI.out.mono hwW))
                clear hOI hbi
                cases ob
                · have HA : Hid (acM 2 ts (j + 1) = ac ++ [(x % 2, 4 + x / 8 % 4)]) := by
                    show acM 2 ts (j + 1) = _
                    rw [HSU.out, if_neg]
                    · rw [hnx]
                    · have := HOB2.out
                      simp at this
                      intro h
                      rcases h with h | h
                      · omega
                      · exact this.2 _ _ h rfl
                  have hwI : wR.heap.size ≤ wI.heap.size := by omega
                  go_wp2_with (first | (at_builtin; refine wpList_append_own _ rfl _ _ 114 rfl wR.heap.size 177 i1 _ 2 4 Tryz.underlying114 hi' hy0 hy1 hy2 rfl (by decide) _ _ _ rfl (HOI.out.alloc _) ⟨wI.heap.size, 0, none⟩ 1 1 [.int .u8 (x % 2), .int .u16 (4 + x / 8 % 4)] rfl rfl (cells_new wI _ 177) (by simp [Value.oneCell']) (by unfold maxLen; omega) (by omega) (by simp; omega) ?_))
                  intro v' w3 hown' hgrow _
                  have HB3 := Lib.hid ((HB9.out.alloc hwI (.cells #[.int .u8 (x % 2), .int .u16 (4 + x / 8 % 4)] 177)).grown hgrow (by simp; omega) (ownsRow_block HOI.out))
                  have HO3 := Lib.hid hown'
                  obtain ⟨va2, vc2, rfl⟩ := ownsRow_form hown'
                  clear hown' hgrow HOI HOW HQ HOB2 HBI HSU HB9
                  clear g0 g1 p0 p1 ex c26
                  go_wp2
                  refine ⟨?_, ?measure⟩
                  apply Exists.intro
                  apply Exists.intro
                  apply Exists.intro
                  repeat apply Exists.intro
                  refine ⟨?rel, rfl⟩
                  case rel =>
                    refine ⟨j + 1, by omega, by go_num, ?_, HB3.out⟩
                    rw [HA.out, List.length_append, HLN.out, flatM, List.flatMap_append]
                    simpa [flatM, markCells] using HO3.out
                  case measure => simp [intOf]; omega
                · have HA : Hid (acM 2 ts (j + 1) = ac) := by
                    show acM 2 ts (j + 1) = ac
                    rw [HSU.out, if_pos]
                    have := HOB2.out
                    simp at this
                    rcases this with h | h
                    · exact .inl (by omega)
                    · exact .inr h
                  go_wp2
                  go_roundw
                  case rel =>
                    refine ⟨j + 1, by omega, by go_num, ?_, HB9.out⟩
                    rw [HA.out, HLN.out]
                    exact HOI.out
                  case measure => simp [intOf]; omega
          · obtain rfl : j = N := by omega
            have HM : Hid (Mks wX (.slice va (acM 2 ts j).length vcap) (sizeMs 2 ts)) := by
              have h := mks_of_row rfl HOX.out
              rw [← acM_all, HN.out]
              exact h
            go_wp2
            refine bodyPost_ret (v := .tuple #[.slice ra 2 rcap, .slice va (acM 2 ts j).length vcap]) (by simp [results, Tryz.results42, go_sem]) rfl ⟨_, _, rfl, HBF.out.trans (HBX.out.mono HBF.out.size), HRG.out.below HBX.out, ?_⟩
            exact HM.out
end Go.Proofs.YtnfadmifdncjoaaGreat.Cf
