import Derived.Test.YtdebkifnaiohcaaE3
/- The state that a disk may have; point, Format. -/
namespace Go.Proofs.Ytdebkifnaiohcaa
set_option linter.unusedSimpArgs false
set_option linter.unusedVariables false
open Go.RowKit Go.Maps

/-- a disk that calls in any order may have left: so many counts at most, so many blocks, bytes -/
structure Sane (s : DS) (N k : Nat) : Prop where
  n : s.n = N
  r0 : 0 ≤ s.rd
  r1 : s.rd ≤ k
  w0 : 0 ≤ s.wr
  w1 : s.wr ≤ k
  l0 : s.ar = true → 0 ≤ s.lf
  l1 : s.lf < 9223372036854775808
  byt : ∀ j, 0 ≤ s.f j ∧ s.f j < 256
theorem DS.write_n (s : DS) (x : Nat) (b : Nat → Int) : (s.write x b).2.n = s.n := by
  unfold DS.write
  split <;> rfl
theorem Sane.mono {s : DS} {N k k' : Nat} (h : Sane s N k) (hk : k ≤ k') : Sane s N k' :=
  ⟨h.n, h.r0, by have := h.r1; omega, h.w0, by have := h.w1; omega, h.l0, h.l1, h.byt⟩
theorem Sane.write {s : DS} {N k : Nat} (h : Sane s N k) (x : Nat) (b : Nat → Int) (hb : Byt b) : Sane (s.write x b).2 N (k + 1) := by
  obtain ⟨n, r0, r1, w0, w1, l0, l1, byt⟩ := h
  unfold DS.write
  by_cases hc : s.ar = true ∧ s.lf = 0 ∨ s.de = true
  · rw [if_pos hc]
    exact ⟨n, r0, by show s.rd ≤ ((k + 1 : Nat) : Int); omega, w0, by show s.wr ≤ ((k + 1 : Nat) : Int); omega, l0, l1, byt⟩
  · rw [if_neg hc]
    refine ⟨n, r0, by show s.rd ≤ ((k + 1 : Nat) : Int); omega, by show 0 ≤ s.wr + 1; omega, by show s.wr + 1 ≤ ((k + 1 : Nat) : Int); omega, fun ha => ?_, ?_, fun j => ?_⟩
    · have h1 : s.ar = true := ha
      have h2 := l0 h1
      have h3 : ¬ (s.lf = 0) := fun e => hc (.inl ⟨h1, e⟩)
      show 0 ≤ (if s.ar = true then s.lf - 1 else s.lf)
      rw [if_pos h1]
      omega
    · show (if s.ar = true then s.lf - 1 else s.lf) < _
      split <;> omega
    · show 0 ≤ upd s.f (x * 64) 64 b j ∧ upd s.f (x * 64) 64 b j < 256
      unfold upd
      split
      · exact hb _ (by omega)
      · exact byt j
def DS.rdd (s : DS) : DS := { s with rd := s.rd + 1 }
theorem Sane.rdd {s : DS} {N k : Nat} (h : Sane s N k) : Sane s.rdd N (k + 1) :=
  ⟨h.n, by have := h.r0; show 0 ≤ s.rd + 1; omega, by have := h.r1; show s.rd + 1 ≤ ((k + 1 : Nat) : Int); omega, h.w0, by have := h.w1; show s.wr ≤ ((k + 1 : Nat) : Int); omega, h.l0, h.l1, h.byt⟩
/-- block k of a disk -/
def DS.blk (s : DS) (k : Nat) : Nat → Int := fun i => s.f (k * 64 + i)
theorem Sane.blk {s : DS} {N k : Nat} (h : Sane s N k) (x : Nat) : Byt (s.blk x) := fun j _ => h.byt _
theorem DS.write_code (s : DS) (x : Nat) (b : Nat → Int) : (s.write x b).1 = 0 ∨ (s.write x b).1 = 24 := by
  unfold DS.write
  split
  · exact .inr rfl
  · exact .inl rfl
theorem byt_zero : Byt fun _ => 0 := fun _ _ => ⟨Int.le_refl _, show (0 : Int) < 256 by decide⟩
/-- Write, at a place that is there -/
theorem write_any (d g : Nat) (s : DS) (b : Nat → Int) (x N k : Nat) (hx : x < N) (hN : N ≤ 65536) (hk : k < 900000) (hs : Sane s N k) (w : World) (h : Dk w d g s) :
    Calls Try.prog 55 #[.pointer (some ⟨d, 0, none⟩), .int .i64 x, .agg (byts 64 b).toArray] w fun e w' => e = .returned (.int .i64 (s.write x b).1) ∧ Dk w' d g (s.write x b).2 ∧ Kp w w' d g :=
  write_in d g s b x (by rw [hs.n]; exact hx) (by rw [hs.n]; exact hN) hs.w0 (by have := hs.w1; omega) hs.l0 hs.l1 w h
theorem read_any (d g : Nat) (s : DS) (x N k : Nat) (hx : x < N) (hN : N ≤ 65536) (hk : k < 900000) (hs : Sane s N k) (w : World) (h : Dk w d g s) :
    Calls Try.prog 48 #[.pointer (some ⟨d, 0, none⟩), .int .i64 x] w fun e w' => e = .returned (.tuple #[.agg (byts 64 (s.blk x)).toArray, .int .i64 0]) ∧ Dk w' d g s.rdd ∧ Kp w w' d g :=
  read_in d g s x (by rw [hs.n]; exact hx) (by rw [hs.n]; exact hN) hs.r0 (by have := hs.r1; omega) w h

set_option maxHeartbeats 4000000 in
set_option maxRecDepth 100000 in
theorem point_any (l d g fi N k : Nat) (s : DS) (v : Value) (ts : List Nat) (h30 : ts.length ≤ 30) (hts : ∀ t ∈ ts, t ≤ 65536) (hf : fi + 31 ≤ N) (hN : N ≤ 65536) (hk : k < 900000) (hs : Sane s N k) (w : World) (hl : Lg w l d fi) (hd : Dk w d g s) (hv : Ns w v ts) (hld : l ≠ d) (hlg : l ≠ g) :
    Calls Try.prog 47 #[.pointer (some ⟨l, 0, none⟩), v] w fun e w' => e = .returned (.int .i64 (s.write fi (headF ts)).1) ∧ Dk w' d g (s.write fi (headF ts)).2 ∧ Kp w w' d g := by
  have HL := Lib.hid hl
  have HD := Lib.hid hd
  have HV := Lib.hid hv
  have HS := Lib.hid hs
  have HT := Lib.hid hts
  obtain ⟨q, hq⟩ : ∃ q, (s.write fi (headF ts)).1 = q := ⟨_, rfl⟩
  obtain ⟨s2, hs2⟩ : ∃ s2, (s.write fi (headF ts)).2 = s2 := ⟨_, rfl⟩
  have HW : Hid (∀ W, Dk W d g s → Calls Try.prog 55 #[.pointer (some ⟨d, 0, none⟩), .int .i64 fi, .agg (byts 64 (headF ts)).toArray] W fun e w' => e = .returned (.int .i64 q) ∧ Dk w' d g s2 ∧ Kp W w' d g) := fun W h => by
    have := write_any d g s (headF ts) fi N k (by omega) hN hk hs W h
    rwa [hq, hs2] at this
  rw [hq, hs2]
  clear hl hd hv hs hts hq hs2
  go_enter Try.func47, Try.ntmps47
  go_wp2_with fail
  refine wp_region_held (S := fun W => Lg W l d fi) (by kernel_rfl) ?_
  change wpAnyH _ _ _ _ _ _ _ _ (World.drew _)
  have hS0 : Lg w.drew l d fi := HL.out.keep (Below.refl _ _).drew
  refine wpAnyH_take (i := 0) (v := ?_) rfl (by kernel_rfl) (by kernel_rfl) (by kernel_rfl) (fun _ _ _ h => h) (Or.inl ⟨by rfl, ?_⟩) hS0 ?_
  rotate_left 1
  · intro W hW
    go_simp
    try with_reducible rfl
  simp only [Act.put, List.getElem_toArray, List.getElem_cons_zero, List.getElem_cons_succ, List.setIfInBounds_toArray, List.set_cons_zero, List.set_cons_succ]
  refine wpAnyH_take (i := 1) (v := ?_) rfl (by kernel_rfl) (by kernel_rfl) (by kernel_rfl) (fun _ _ _ h => h) (Or.inl ⟨by rfl, ?_⟩) hS0 ?_
  rotate_left 1
  · intro W hW
    go_simp
    try with_reducible rfl
  simp only [Act.put, List.getElem_toArray, List.getElem_cons_zero, List.getElem_cons_succ, List.setIfInBounds_toArray, List.set_cons_zero, List.set_cons_succ]
  refine wpAnyH_take (i := 2) (v := ?_) rfl (by kernel_rfl) (by kernel_rfl) (by kernel_rfl) (fun _ _ _ h => h) (Or.inl ⟨by rfl, ?_⟩) hS0 ?_
  rotate_left 1
  · intro W hW
    go_simp
    try with_reducible rfl
  simp only [Act.put, List.getElem_toArray, List.getElem_cons_zero, List.getElem_cons_succ, List.setIfInBounds_toArray, List.set_cons_zero, List.set_cons_succ]
  refine wpAnyH_take (i := 3) (v := ?_) rfl (by kernel_rfl) (by kernel_rfl) (by kernel_rfl) (fun _ _ _ h => h) (Or.inl ⟨by rfl, ?_⟩) hS0 ?_
  rotate_left 1
  · intro W hW
    have c0 := hW.c0
    go_simp
    try with_reducible rfl
  simp only [Act.put, List.getElem_toArray, List.getElem_cons_zero, List.getElem_cons_succ, List.setIfInBounds_toArray, List.set_cons_zero, List.set_cons_succ]
  refine wpAnyH_take (i := 4) (v := ?_) rfl (by kernel_rfl) (by kernel_rfl) (by kernel_rfl) (fun _ _ _ h => h) (Or.inl ⟨by rfl, ?_⟩) hS0 ?_
  rotate_left 1
  · intro W hW
    go_simp
    try with_reducible rfl
  simp only [Act.put, List.getElem_toArray, List.getElem_cons_zero, List.getElem_cons_succ, List.setIfInBounds_toArray, List.set_cons_zero, List.set_cons_succ]
  refine wpAnyH_take (i := 5) (v := ?_) rfl (by kernel_rfl) (by kernel_rfl) (by kernel_rfl) (fun _ _ _ h => h) (Or.inl ⟨by rfl, ?_⟩) hS0 ?_
  rotate_left 1
  · intro W hW
    go_simp
    try with_reducible rfl
  simp only [Act.put, List.getElem_toArray, List.getElem_cons_zero, List.getElem_cons_succ, List.setIfInBounds_toArray, List.set_cons_zero, List.set_cons_succ]
  refine wpAnyH_take (i := 6) (v := ?_) rfl (by kernel_rfl) (by kernel_rfl) (by kernel_rfl) (fun _ _ _ h => h) (Or.inl ⟨by rfl, ?_⟩) hS0 ?_
  rotate_left 1
  · intro W hW
    go_simp
    try with_reducible rfl
  simp only [Act.put, List.getElem_toArray, List.getElem_cons_zero, List.getElem_cons_succ, List.setIfInBounds_toArray, List.set_cons_zero, List.set_cons_succ]
  refine wpAnyH_take (i := 7) (v := ?_) rfl (by kernel_rfl) (by kernel_rfl) (by kernel_rfl) (fun _ _ _ h => h) (Or.inl ⟨by rfl, ?_⟩) hS0 ?_
  rotate_left 1
  · intro W hW
    have c1 := hW.c1
    go_simp
    try with_reducible rfl
  simp only [Act.put, List.getElem_toArray, List.getElem_cons_zero, List.getElem_cons_succ, List.setIfInBounds_toArray, List.set_cons_zero, List.set_cons_succ]
  refine wpAnyH_take (i := 8) (v := ?_) rfl (by kernel_rfl) (by kernel_rfl) (by kernel_rfl) (fun _ _ _ h => h) (Or.inl ⟨by rfl, ?_⟩) hS0 ?_
  rotate_left 1
  · intro W hW
    go_simp
    try with_reducible rfl
  simp only [Act.put, List.getElem_toArray, List.getElem_cons_zero, List.getElem_cons_succ, List.setIfInBounds_toArray, List.set_cons_zero, List.set_cons_succ]
  refine wpAnyH_ready (rs := [9]) (by kernel_rfl) (by simp) (AllReadyH.cons rfl (fun KK hKK => ?_) AllReadyH.nil)
  go_simp
  refine (headof_any v ts h30 HT.out _ (HV.out.below (Below.refl _ _).drew)).mono ?_
  rintro e w1 ⟨rfl, hb1⟩
  have HB1 := Lib.hid ((Below.refl w.heap.size w).drew.trans hb1)
  clear hS0
  have hS0 : Lg w1 l d fi := HL.out.keep HB1.out
  refine hKK _ _ hS0 ?_
  intro _
  clear hKK KK hb1
  refine wpAnyH_ready (rs := [10]) (by kernel_rfl) (by simp) (AllReadyH.cons rfl (fun KK hKK => ?_) AllReadyH.nil)
  go_simp
  refine (HW.out w1 (HD.out.keep HB1.out)).mono ?_
  rintro e w2 ⟨rfl, hD2, hk2⟩
  have HD2 := Lib.hid hD2
  have HK2 := Lib.hid ((Kp.of_below HB1.out d g).trans hk2)
  clear hS0
  have hS0 : Lg w2 l d fi := (HL.out.keep HB1.out).kp hk2 hld hlg
  refine hKK _ _ hS0 ?_
  intro _
  clear hKK KK hD2 hk2
  refine wpAnyH_take (i := 11) (v := ?_) rfl (by kernel_rfl) (by kernel_rfl) (by kernel_rfl) (fun _ _ _ h => h) (Or.inl ⟨by rfl, ?_⟩) hS0 ?_
  rotate_left 1
  · intro W hW
    go_simp
    try with_reducible rfl
  simp only [Act.put, List.getElem_toArray, List.getElem_cons_zero, List.getElem_cons_succ, List.setIfInBounds_toArray, List.set_cons_zero, List.set_cons_succ]
  refine wpAnyH_done (by kernel_rfl) ?_ _
  clear hS0
  go_wp2
  go_ret
  exact ⟨rfl, HD2.out, HK2.out⟩

set_option maxHeartbeats 2000000 in
set_option maxRecDepth 100000 in
theorem format_any (l d g fi N k : Nat) (s : DS) (hf : fi + 31 ≤ N) (hN : N ≤ 65536) (hk : k < 900000) (hs : Sane s N k) (w : World) (hl : Lg w l d fi) (hd : Dk w d g s) (hld : l ≠ d) (hlg : l ≠ g) :
    Calls Try.prog 34 #[.pointer (some ⟨l, 0, none⟩)] w fun e w' => e = .returned (.int .i64 (s.write fi (headF [])).1) ∧ Dk w' d g (s.write fi (headF [])).2 ∧ Kp w w' d g := by
  have HP := Lib.hid (point_any l d g fi N k s (.slice none 0 0) [] (by decide) (by simp) hf hN hk hs w hl hd (Ns.nil w) hld hlg)
  clear hl hd hs
  obtain ⟨q, hq⟩ : ∃ q, (s.write fi (headF [])).1 = q := ⟨_, rfl⟩
  obtain ⟨s2, hs2⟩ : ∃ s2, (s.write fi (headF [])).2 = s2 := ⟨_, rfl⟩
  rw [hq, hs2] at HP ⊢
  clear hq hs2
  go_enter Try.func34, Try.ntmps34
  go_wp2_with fail
  refine HP.out.mono ?_
  rintro e w1 ⟨rfl, hD1, hk1⟩
  have HD := Lib.hid hD1
  have HK := Lib.hid hk1
  clear hD1 hk1 HP
  go_wp2
  go_ret
  exact ⟨rfl, HD.out, HK.out⟩
theorem format_nil (w : World) : Calls Try.prog 34 #[.pointer none] w fun e w' => e = .returned (.int .i64 1) ∧ w' = w := by
  go_enter Try.func34, Try.ntmps34
  go_wp2
  go_ret
  exact ⟨rfl, rfl⟩
end Go.Proofs.Ytdebkifnaiohcaa
