import Derived.Test.YtfackmiojbdjhaaDoorC12
import Derived.Deep.RegionHeld
/- What a configuration's calls answer: Trusted, Total, Slot, Group, Sum. -/
namespace Go.Proofs.YtfackmiojbdjhaaDoor
set_option linter.unusedSimpArgs false
set_option linter.unusedVariables false
open Go.RowKit Go.Maps

set_option maxHeartbeats 1000000 in
set_option maxRecDepth 100000 in
theorem trusted_any (n : Nat) (vr vm vg : Value) (rs : List Rg) (ms : List (Int × Int)) (lab num : Int) (h0 : 0 ≤ lab) (h1 : lab < 256) (h2 : 0 ≤ num) (h3 : num < 65536) (w : World) (h : CF n w vr vm vg rs ms) :
    Calls Tryd.prog 36 #[.pointer (some ⟨n + 3, 0, none⟩), .agg #[.int .u8 lab, .int .u16 num]] w fun e w' => e = .returned (.bool (Maps.has (tD ms) (labKey lab num))) ∧ Below w.heap.size w w' := by
  have hbA : Below w.heap.size w (w.alloc (.cells #[.int .u8 lab, .int .u16 num] 34)) := (Below.refl _ _).alloc (Nat.le_refl _) _
  have hA := Lib.hid (h.below hbA)
  have hlt : w.heap.size < (w.alloc (.cells #[.int .u8 lab, .int .u16 num] 34)).heap.size := by simp
  have p0 : (w.alloc (.cells #[.int .u8 lab, .int .u16 num] 34)).cell? ⟨w.heap.size, 0, none⟩ = some (.int .u8 lab) := by simp [World.cell?_alloc_new]
  have p1 : (w.alloc (.cells #[.int .u8 lab, .int .u16 num] 34)).cell? ⟨w.heap.size, 1, none⟩ = some (.int .u16 num) := by simp [World.cell?_alloc_new]
  have c5 := (hA.out.cb).c5
  have hlt4 := h.cb.lt
  clear h
  obtain ⟨tn, htn⟩ : ∃ x, Maps.has (tD ms) (labKey lab num) = x := ⟨_, rfl⟩
  rw [htn]
  have HTN := Lib.hid htn
  clear htn
  go_enter Tryd.func36, Tryd.ntmps36
  go_wp2
  generalize w.alloc (.cells #[.int .u8 lab, .int .u16 num] 34) = W1 at *
  have HbA := Lib.hid hbA
  clear hbA
  have L1 : ∀ W, Below W1.heap.size W1 W → (Instr.lookup 77 (.map (some (n + 2))) (.agg #[.int .u8 lab, .int .u16 num]) true).run Tryd.prog W = _ := fun W hW => look_unit (w := W) (hA.out.below hW).mt Tryd.lawMark Tryd.underlying77 (markKey_is lab num h0 h1 h2 h3)
  rw [HTN.out] at L1
  refine wp_region_held (S := fun w' => Below W1.heap.size W1 w') (by kernel_rfl) ?_
  change wpAnyH _ _ _ _ _ _ _ _ (World.drew _)
  have hS0 : Below W1.heap.size W1 W1.drew := (Below.refl _ W1).drew
  refine wpAnyH_take (i := 0) (v := ?_) rfl (by kernel_rfl) (by kernel_rfl) (by kernel_rfl) (fun _ _ _ h => h) (Or.inl ⟨by rfl, ?_⟩) hS0 ?_
  rotate_left 1
  · intro W hW
    go_simp
    try with_reducible rfl
  try simp only [Act.put, List.setIfInBounds_toArray, List.set_cons_zero, List.set_cons_succ]
  refine wpAnyH_take (i := 1) (v := ?_) rfl (by kernel_rfl) (by kernel_rfl) (by kernel_rfl) (fun _ _ _ h => h) (Or.inl ⟨by rfl, ?_⟩) hS0 ?_
  rotate_left 1
  · intro W hW
    go_simp
    try with_reducible rfl
  try simp only [Act.put, List.setIfInBounds_toArray, List.set_cons_zero, List.set_cons_succ]
  refine wpAnyH_take (i := 2) (v := ?_) rfl (by kernel_rfl) (by kernel_rfl) (by kernel_rfl) (fun _ _ _ h => h) (Or.inl ⟨by rfl, ?_⟩) hS0 ?_
  rotate_left 1
  · intro W hW
    go_simp
    try with_reducible rfl
  try simp only [Act.put, List.setIfInBounds_toArray, List.set_cons_zero, List.set_cons_succ]
  refine wpAnyH_take (i := 3) (v := ?_) rfl (by kernel_rfl) (by kernel_rfl) (by kernel_rfl) (fun _ _ _ h => h) (Or.inl ⟨by rfl, ?_⟩) hS0 ?_
  rotate_left 1
  · intro W hW
    have e5 := (hW.cell (p := ⟨n + 3, 5, none⟩) (by simp; omega)).trans c5
    go_simp
    try with_reducible rfl
  try simp only [Act.put, List.setIfInBounds_toArray, List.set_cons_zero, List.set_cons_succ]
  refine wpAnyH_take (i := 4) (v := ?_) rfl (by kernel_rfl) (by kernel_rfl) (by kernel_rfl) (fun _ _ _ h => h) (Or.inl ⟨by rfl, ?_⟩) hS0 ?_
  rotate_left 1
  · intro W hW
    have e0 := (hW.cell (p := ⟨w.heap.size, 0, none⟩) hlt).trans p0
    have e1 := (hW.cell (p := ⟨w.heap.size, 1, none⟩) hlt).trans p1
    go_simp
    try with_reducible rfl
  try simp only [Act.put, List.setIfInBounds_toArray, List.set_cons_zero, List.set_cons_succ]
  refine wpAnyH_take (i := 5) (v := ?_) rfl (by kernel_rfl) (by kernel_rfl) (by kernel_rfl) (fun _ _ _ h => h) (Or.inl ⟨by rfl, ?_⟩) hS0 ?_
  rotate_left 1
  · intro W hW
    have eL := L1 W hW
    go_simp
    try with_reducible rfl
  try simp only [Act.put, List.setIfInBounds_toArray, List.set_cons_zero, List.set_cons_succ]
  refine wpAnyH_take (i := 6) (v := ?_) rfl (by kernel_rfl) (by kernel_rfl) (by kernel_rfl) (fun _ _ _ h => h) (Or.inl ⟨by rfl, ?_⟩) hS0 ?_
  rotate_left 1
  · intro W hW
    go_simp
    try with_reducible rfl
  try simp only [Act.put, List.setIfInBounds_toArray, List.set_cons_zero, List.set_cons_succ]
  refine wpAnyH_take (i := 7) (v := ?_) rfl (by kernel_rfl) (by kernel_rfl) (by kernel_rfl) (fun _ _ _ h => h) (Or.inl ⟨by rfl, ?_⟩) hS0 ?_
  rotate_left 1
  · intro W hW
    go_simp
    try with_reducible rfl
  try simp only [Act.put, List.setIfInBounds_toArray, List.set_cons_zero, List.set_cons_succ]
  refine wpAnyH_take (i := 8) (v := ?_) rfl (by kernel_rfl) (by kernel_rfl) (by kernel_rfl) (fun _ _ _ h => h) (Or.inl ⟨by rfl, ?_⟩) hS0 ?_
  rotate_left 1
  · intro W hW
    go_simp
    try with_reducible rfl
  try simp only [Act.put, List.setIfInBounds_toArray, List.set_cons_zero, List.set_cons_succ]
  refine wpAnyH_ready (rs := [9]) (by kernel_rfl) (by simp) (AllReadyH.cons rfl (fun K hK => ?_) AllReadyH.nil)
  go_simp
  refine hK _ _ ?_ ?_
  · exact ((Below.refl _ W1).drew).alloc (Nat.le_refl _) _
  try intro _
  clear hK K
  refine wpAnyH_ready (rs := [10]) (by kernel_rfl) (by simp) (AllReadyH.cons rfl (fun K hK => ?_) AllReadyH.nil)
  go_simp
  refine hK _ _ ?_ ?_
  · exact ((Below.refl _ W1).drew).alloc (Nat.le_refl _) _
  try intro _
  clear hK K
  refine wpAnyH_ready (rs := [11]) (by kernel_rfl) (by simp) (AllReadyH.cons rfl (fun K hK => ?_) AllReadyH.nil)
  go_simp
  refine hK _ _ ?_ ?_
  · exact ((Below.refl _ W1).drew).alloc (Nat.le_refl _) _
  try intro _
  clear hK K
  refine wpAnyH_done (by kernel_rfl) ?_ _
  clear L1
  go_wp2
  go_ret
  exact ⟨rfl, by repeat (first | exact HbA.out | apply Below.drew | refine Below.alloc ?_ (by omega) _)⟩

theorem lay_nth (rs : List Rg) (i : Nat) (hi : i < rs.length) : (layF rs).1[i]'(by rw [lay_len]; exact hi) = geoAt (layF (rs.take i)).2 rs[i] := by
  have key : ∀ k, k ≤ rs.length → ∀ (hik : i < k), (layF (rs.take k)).1[i]? = some (geoAt (layF (rs.take i)).2 rs[i]) := by
    intro k
    induction k with
    | zero => intro _ h; omega
    | succ k ih =>
      intro hk hik
      rw [layF_take rs k (by omega), layStep]
      simp only
      by_cases e : i = k
      · subst e
        rw [List.getElem?_append_right (by rw [layF_len rs i (by omega)]; exact Nat.le_refl _), layF_len rs i (by omega)]
        simp
      · rw [List.getElem?_append_left (by rw [layF_len rs k (by omega)]; omega)]
        exact ih (by omega) (by omega)
  have h1 := key rs.length (Nat.le_refl _) hi
  rw [List.take_length] at h1
  rw [List.getElem?_eq_getElem (by rw [lay_len]; exact hi)] at h1
  exact Option.some.inj h1
theorem lay_fin (rs : List Rg) (i : Nat) (hi : i < rs.length) : ((layF rs).1[i]'(by rw [lay_len]; exact hi)).fin = (layF (rs.take (i + 1))).2 := by
  rw [lay_nth rs i hi, layF_take rs i hi, layStep]
theorem lay_range (rs : List Rg) (hs : ∀ r ∈ rs, Small r) (h64 : rs.length ≤ 64) (i : Nat) (hi : i < rs.length) :
    32 ≤ ((layF rs).1[i]'(by rw [lay_len]; exact hi)).base ∧ ((layF rs).1[i]'(by rw [lay_len]; exact hi)).base < ((layF rs).1[i]'(by rw [lay_len]; exact hi)).da ∧ ((layF rs).1[i]'(by rw [lay_len]; exact hi)).da < 100000 ∧ 4 ≤ ((layF rs).1[i]'(by rw [lay_len]; exact hi)).bl ∧ ((layF rs).1[i]'(by rw [lay_len]; exact hi)).bl ≤ 512 ∧ 4 ≤ ((layF rs).1[i]'(by rw [lay_len]; exact hi)).nd ∧ ((layF rs).1[i]'(by rw [lay_len]; exact hi)).nd ≤ 128 ∧ ((layF rs).1[i]'(by rw [lay_len]; exact hi)).base < 50000 := by
  rw [lay_nth rs i hi]
  obtain ⟨s1, s2, s3, s4⟩ := hs rs[i] (List.getElem_mem _)
  obtain ⟨r1, r2⟩ := layF_range rs hs i (by omega)
  simp only [geoAt]
  omega

theorem clen_any (n : Nat) (vr vm vg : Value) (rs : List Rg) (ms : List (Int × Int)) (w : World) (h : CF n w vr vm vg rs ms) (h64 : rs.length ≤ 64) :
    Calls Tryd.prog 20 #[.pointer (some ⟨n + 3, 0, none⟩)] w fun e w' => e = .returned (.int .i64 rs.length) ∧ w' = w := by
  obtain ⟨ra, rc, rfl⟩ := h.len
  exact len_any (n + 3) ra rs.length rc w h.cb.c0 (by unfold maxLen; omega)

set_option maxHeartbeats 1000000 in
theorem total_any (n : Nat) (vr vm vg : Value) (rs : List Rg) (ms : List (Int × Int)) (hs : ∀ r ∈ rs, Small r) (h0 : 0 < rs.length) (h64 : rs.length ≤ 64) (w : World) (h : CF n w vr vm vg rs ms) :
    Calls Tryd.prog 17 #[.pointer (some ⟨n + 3, 0, none⟩)] w fun e w' => e = .returned (.int .i64 (layF rs).2) ∧ Below w.heap.size w w' := by
  have hlen := clen_any n vr vm vg rs ms w h h64
  have hgeo := geo_in n vr vm vg rs ms (rs.length - 1) (by omega) w h
  have hfin := lay_fin rs (rs.length - 1) (by omega)
  rw [show rs.length - 1 + 1 = rs.length by omega, List.take_length] at hfin
  have hran := lay_range rs hs h64 (rs.length - 1) (by omega)
  generalize (layF rs).1[rs.length - 1]'(by rw [lay_len]; omega) = g at *
  obtain ⟨bs, bm, tb, da, bl, nd⟩ := g
  simp only [Ge.val, Ge.fin] at hgeo hfin hran
  rw [← hfin]
  have e : ((rs.length - 1 : Nat) : Int) = (rs.length : Int) - 1 := by omega
  rw [e] at hgeo
  have hend := fun W => end_any bs bm tb da bl nd W (by omega) (by omega) (by omega) (by omega)
  clear h hfin e hs
  go_enter Tryd.func17, Tryd.ntmps17
  go_wp2_with fail
  refine hlen.mono ?_
  rintro e w1 ⟨rfl, rfl⟩
  go_wp2_with fail
  refine hgeo.mono ?_
  rintro e w2 ⟨rfl, hb2⟩
  have HB := Lib.hid hb2
  clear hlen hgeo hb2
  go_wp2_with fail
  refine (hend _).mono ?_
  rintro e w3 ⟨rfl, hb3⟩
  have HB3 := Lib.hid ((HB.out.alloc HB.out.size _).trans (hb3.mono (by have := HB.out.size; simp; omega)))
  clear hb3 hend
  go_wp2
  go_ret
  exact ⟨rfl, HB3.out⟩

theorem slot_any (n : Nat) (vr vm vg : Value) (rs : List Rg) (ms : List (Int × Int)) (h0 : 0 < rs.length) (h64 : rs.length ≤ 64) (x : Int) (hx : 0 ≤ x) (hx2 : x < 18446744073709551616) (w : World) (h : CF n w vr vm vg rs ms) :
    Calls Tryd.prog 21 #[.pointer (some ⟨n + 3, 0, none⟩), .int .u64 x] w fun e w' => e = .returned (.int .i64 (x % rs.length)) ∧ Below w.heap.size w w' := by
  have hlen := clen_any n vr vm vg rs ms w h h64
  obtain ⟨N, hN⟩ : ∃ N, rs.length = N := ⟨_, rfl⟩
  rw [hN] at hlen h0 h64 ⊢
  have hz : ¬ ((N : Int) = 0) := by omega
  have hm1 : 0 ≤ x % (N : Int) := Int.emod_nonneg _ (by omega)
  have hm2 : x % (N : Int) < N := Int.emod_lt_of_pos _ (by omega)
  clear h hN
  go_enter Tryd.func21, Tryd.ntmps21
  go_wp2_with fail
  refine hlen.mono ?_
  rintro e w1 ⟨rfl, rfl⟩
  go_wp2_with fail
  refine hlen.mono ?_
  rintro e w1 ⟨rfl, rfl⟩
  go_wp2
  go_ret
  exact ⟨rfl, Below.refl _ _⟩

def inG (g : Ge) (x : Int) : Prop := g.base ≤ x ∧ x < g.fin
instance (g : Ge) (x : Int) : Decidable (inG g x) := inferInstanceAs (Decidable (_ ∧ _))
/-- what Group answers -/
def GroupPost (rs : List Rg) (x : Int) (w : World) (e : Ending) (w' : World) : Prop :=
  Below w.heap.size w w' ∧ ((∃ i, ∃ hi : i < rs.length, (∀ j (hj : j < i), ¬ inG ((layF rs).1[j]'(by rw [lay_len]; omega)) x) ∧ inG ((layF rs).1[i]'(by rw [lay_len]; exact hi)) x ∧
      e = .returned (.tuple #[.int .i64 i, .int .i64 (max 0 (x - ((layF rs).1[i]'(by rw [lay_len]; exact hi)).da + 1)), .bool true])) ∨
    ((∀ j (hj : j < rs.length), ¬ inG ((layF rs).1[j]'(by rw [lay_len]; omega)) x) ∧ e = .returned (.tuple #[.int .i64 0, .int .i64 0, .bool false])))
set_option maxHeartbeats 2000000 in
set_option maxRecDepth 100000 in
theorem group_any (n : Nat) (vr vm vg : Value) (rs : List Rg) (ms : List (Int × Int)) (hs : ∀ r ∈ rs, Small r) (h0 : 0 < rs.length) (h64 : rs.length ≤ 64) (x : Int) (hx : -9223372036854775808 ≤ x) (hx2 : x < 9223372036854775808) (w : World) (h : CF n w vr vm vg rs ms) :
    Calls Tryd.prog 18 #[.pointer (some ⟨n + 3, 0, none⟩), .int .i64 x] w (GroupPost rs x w) := by
  have hlen := clen_any n vr vm vg rs ms w h h64
  obtain ⟨g, gcap, rfl, hgl, hm, hcell⟩ := h.geo h0
  have HC := Lib.hid hcell
  have HH := Lib.hid h
  have HRan := Lib.hid (lay_range rs hs h64)
  obtain ⟨N, hN⟩ : ∃ N, rs.length = N := ⟨_, rfl⟩
  have HN := Lib.hid hN
  rw [hN] at hlen hm
  clear h hcell hN hs
  unfold maxLen at hm
  go_enter Tryd.func18, Tryd.ntmps18
  go_wp2_with fail
  refine hlen.mono ?_
  rintro e w1 ⟨rfl, rfl⟩
  obtain ⟨w0, rfl⟩ : ∃ x, x = w1 := ⟨w1, rfl⟩
  go_wp2
  go_loopw [11] (fun i wr => ∃ k : Nat, k ≤ N ∧ i = .int .i64 k ∧ Below w0.heap.size w0 wr ∧ ∀ j (hj : j < rs.length), j < k → ¬ inG ((layF rs).1[j]'(by rw [lay_len]; omega)) x) (fun i _ => N - (intOf i).toNat)
  case atStart => exact ⟨0, by omega, rfl, Below.refl _ _, fun j _ h => by omega⟩
  case round =>
    obtain ⟨k, hk, rfl, hb, hno⟩ := hrel
    have HNO := Lib.hid hno
    have HB := Lib.hid hb
    clear hno
    by_cases hlt : k < N
    · have hltr : k < rs.length := by rw [HN.out]; exact hlt
      have e0 := (hb.cell (p := ⟨g, k * 6 + 0, none⟩) hgl).trans (HC.out k hltr 0 (by omega))
      have e1 := (hb.cell (p := ⟨g, k * 6 + 1, none⟩) hgl).trans (HC.out k hltr 1 (by omega))
      have e2 := (hb.cell (p := ⟨g, k * 6 + 2, none⟩) hgl).trans (HC.out k hltr 2 (by omega))
      have e3 := (hb.cell (p := ⟨g, k * 6 + 3, none⟩) hgl).trans (HC.out k hltr 3 (by omega))
      have e4 := (hb.cell (p := ⟨g, k * 6 + 4, none⟩) hgl).trans (HC.out k hltr 4 (by omega))
      have e5 := (hb.cell (p := ⟨g, k * 6 + 5, none⟩) hgl).trans (HC.out k hltr 5 (by omega))
      obtain ⟨r1, r2, r3, r4, r5, r6, r7, r8⟩ := HRan.out k hltr
      obtain ⟨c0, c2, clt⟩ := (fun (q : CF n wr vr vm _ rs ms) => (⟨q.cb.c0, q.cb.c2, q.cb.lt⟩ : _ ∧ _ ∧ _)) (HH.out.below hb)
      clear hb
      have HGk : Hid (∀ q : Int, inG ((layF rs).1[k]'(by rw [lay_len]; exact hltr)) q ↔ ((layF rs).1[k]'(by rw [lay_len]; exact hltr)).base ≤ q ∧ q < ((layF rs).1[k]'(by rw [lay_len]; exact hltr)).da + ((layF rs).1[k]'(by rw [lay_len]; exact hltr)).bl) := fun q => Iff.rfl
      have HPo : Hid (inG ((layF rs).1[k]'(by rw [lay_len]; exact hltr)) x → ∀ w', Below w0.heap.size w0 w' → GroupPost rs x w0 (.returned (.tuple #[.int .i64 k, .int .i64 (max 0 (x - ((layF rs).1[k]'(by rw [lay_len]; exact hltr)).da + 1)), .bool true])) w') := by
        intro hi w' hb'
        exact ⟨hb', .inl ⟨k, hltr, fun j hj => HNO.out j (by omega) hj, hi, rfl⟩⟩
      have HNx : Hid (¬ inG ((layF rs).1[k]'(by rw [lay_len]; exact hltr)) x → ∀ j (hj : j < rs.length), j < k + 1 → ¬ inG ((layF rs).1[j]'(by rw [lay_len]; omega)) x) := by
        intro hi j hj hjk
        by_cases e : j = k
        · subst e; exact hi
        · exact HNO.out j hj (by omega)
      generalize (layF rs).1[k]'(by rw [lay_len]; exact hltr) = gg at *
      obtain ⟨bs, bm, tb, da, bl, nd⟩ := gg
      simp [Ge.cells] at e0 e1 e2 e3 e4 e5
      simp only at r1 r2 r3 r4 r5 r6 r7 r8
      have hend := fun W => end_any bs bm tb da bl nd W (by omega) (by omega) (by omega) (by omega)
      have hn3 : n + 3 < wr.heap.size := by omega
      have hgl2 : g < wr.heap.size := Nat.lt_of_lt_of_le hgl HB.out.size
      rw [HN.out] at c2
      have hlt' : (k : Int) < (N : Int) := by omega
      by_cases hlow : bs ≤ x
      · go_wp2_with fail
        refine (hend _).mono ?_
        rintro e w2 ⟨rfl, hb2⟩
        have hz2 := hb2.size
        simp at hz2
        have hlt2 : wr.heap.size < w2.heap.size := by omega
        have g3 : w2.cell? ⟨wr.heap.size, 3, none⟩ = some (.int .i64 da) := (hb2.cell (p := ⟨wr.heap.size, 3, none⟩) (by simp)).trans (by simp [World.cell?_alloc_new])
        have HB2 := Lib.hid (HB.out.trans ((((Below.refl _ wr).alloc (Nat.le_refl _) _).trans (hb2.mono (by simp))).mono HB.out.size))
        clear hb2 hend e0 e1 e2 e3 e4 e5 c0 c2
        by_cases hhi : x < da + bl
        · have hsub : -9223372036854775808 ≤ x - da ∧ x - da < 1000 := by omega
          have HIN : Hid (inG ⟨bs, bm, tb, da, bl, nd⟩ x) := (HGk.out x).2 ⟨hlow, hhi⟩
          go_wp2
          go_quiet (fail)
          go_wp2
          all_goals
            refine bodyPost_ret (v := .tuple #[.int .i64 k, .int .i64 (max 0 (x - da + 1)), .bool true]) (by simp [results, Tryd.results18, go_sem] <;> omega) rfl ?_
            exact HPo.out HIN.out _ (below_drewN' HB2.out _)
        · go_wp2
          go_roundw
          case rel => exact ⟨k + 1, by omega, by go_num, HB2.out, HNx.out (fun h => by have := (HGk.out x).1 h; (try simp only at this); omega)⟩
          case measure => simp [intOf]; omega
      · go_wp2
        go_roundw
        case rel => exact ⟨k + 1, by omega, by go_num, HB.out.alloc HB.out.size _, HNx.out (fun h => by have := (HGk.out x).1 h; (try simp only at this); omega)⟩
        case measure => simp [intOf]; omega
    · obtain rfl : k = N := by omega
      go_wp2
      refine bodyPost_ret (v := .tuple #[.int .i64 0, .int .i64 0, .bool false]) (by simp [results, Tryd.results18, go_sem]) rfl ⟨HB.out, .inr ⟨fun j hj => HNO.out j hj (by rw [← HN.out]; exact hj), rfl⟩⟩
end Go.Proofs.YtfackmiojbdjhaaDoor
