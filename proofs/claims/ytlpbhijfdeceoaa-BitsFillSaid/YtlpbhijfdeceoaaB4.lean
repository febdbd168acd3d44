import Derived.Test.YtlpbhijfdeceoaaB3
/- The map of bits: blockOf. -/
namespace Go.Proofs.Ytlpbhijfdeceoaa
set_option linter.unusedSimpArgs false
set_option linter.unusedVariables false
open Go.RowKit Go.Maps


theorem Mb.kp {w w' : World} {b p t fi n : Nat} (h : Mb w p t fi n) (hk : Kp w w' b b) (hne : p ≠ b) : Mb w' p t fi n :=
  ⟨Nat.lt_of_lt_of_le h.lt hk.size, (hk.cell (p := ⟨p, 0, none⟩) h.lt hne hne).trans h.c0, (hk.cell (p := ⟨p, 1, none⟩) h.lt hne hne).trans h.c1, (hk.cell (p := ⟨p, 2, none⟩) h.lt hne hne).trans h.c2⟩
theorem Kf.setNew {w w' : World} {L : List Nat} (h : Kf w w' L) (b : Nat) (hb : w.heap.size ≤ b) (vs : List Value) : Kf w (w'.setCells b 0 vs) L := by
  obtain ⟨h1, h2, h3, h4⟩ := setCells_rest b vs 0 w'
  exact ⟨h1.trans h.os, h2.trans h.tape, h3.trans h.output, by rw [h4]; exact h.size, fun k hk hn => (heap_setCells b vs 0 w' k (by omega)).trans (h.block k hk hn)⟩
theorem method_get (t : Nat) (w : World) : (method 207 26 (.pointer (some ⟨t, 0, none⟩)) "Get").run Try.prog w = .ok (17, .pointer (some ⟨t, 0, none⟩)) w := by kernel_rfl
theorem method_put (t : Nat) (w : World) : (method 207 26 (.pointer (some ⟨t, 0, none⟩)) "Put").run Try.prog w = .ok (20, .pointer (some ⟨t, 0, none⟩)) w := by kernel_rfl
set_option maxHeartbeats 8000000 in
set_option maxRecDepth 100000 in
theorem blockof_any (p t m d g fi n K i : Nat) (T : TS) (hf : fi ≤ 65536) (hn : n ≤ 65536) (hi : i < n) (hx : fi + i / 512 < 40) (hK : K < 700000) (w : World) (hm : Mb w p t fi n) (hr : Rd w t m d g T K) (hp : p ∉ [t, m, d, g]) :
    Calls Try.prog 25 #[.pointer (some ⟨p, 0, none⟩), .int .i64 i] w fun e w' => e = .returned (.tuple #[.agg (byts 64 (vw T (fi + i / 512))).toArray, .int .i64 0]) ∧ Rd w' t m d g T (K + 1) ∧ Kf w w' [t, m, d, g] := by
  have HP := Lib.hid (fun W h => place_any p t fi n i hf (by omega) W h)
  have HG := Lib.hid (fun W h => get5 t m d g K T (fi + i / 512) hx hK W h)
  obtain ⟨V, hV⟩ : ∃ V, vw T (fi + i / 512) = V := ⟨_, rfl⟩
  rw [hV] at HG ⊢
  obtain ⟨X, hX⟩ : ∃ X, fi + i / 512 = X := ⟨_, rfl⟩
  rw [hX] at HG HP hx
  clear hV hX
  have HM := Lib.hid hm
  have HR := Lib.hid hr
  have c2 := hm.c2
  have hpl := hm.lt
  have hlts := hr.lts
  clear hm hr
  have h0 : (0 : Int) ≤ i := by omega
  have h1 : (i : Int) < n := by omega
  go_enter Try.func25, Try.ntmps25
  go_wp2_with (refine wpList_alloc_byts rfl 49 64 rfl Try.zero36 ?_; intro w1 F1 hb1 hz1; have HF1 := F1; have HK1 := Lib.hid (Kf.of_below hb1 [t, m, d, g]); have HM1 := Lib.hid (HM.out.keep hb1); have HR1 := Lib.hid (HR.out.keep hb1); replace c2 := HM1.out.c2; clear hb1 hz1 F1)
  obtain ⟨b5, hb5⟩ : ∃ b, w.heap.size = b := ⟨_, rfl⟩
  have hb5' : w.heap.size ≤ b5 := by omega
  rw [hb5] at HF1 hpl hlts ⊢
  clear hb5
  refine wp_region_held (S := fun W => Mb W p t fi n) (by kernel_rfl) ?_
  change wpAnyH _ _ _ _ _ _ _ _ (World.drew _)
  have hS0 : Mb w1.drew p t fi n := HM1.out.keep (Below.refl _ _).drew
  have HR2 := Lib.hid (HR1.out.keep (Below.refl _ _).drew)
  have HF2 := Lib.hid (HF1.out.below (Below.refl _ _).drew HF1.out.lt)
  have HK2 := Lib.hid (HK1.out.trans (Kf.of_below (Below.refl w1.heap.size w1).drew _))
  obtain ⟨w2, hw2⟩ : ∃ x, World.drew w1 = x := ⟨_, rfl⟩
  rw [hw2] at hS0 HR2 HF2 HK2 ⊢
  clear hw2 HR1 HK1 HM1 HF1
  refine wpAnyH_take (i := 0) (v := ?_) rfl (by kernel_rfl) (by kernel_rfl) (by kernel_rfl) (fun _ _ _ h => h) (Or.inl ⟨by rfl, ?_⟩) hS0 ?_
  rotate_left 1
  · intro W hW
    go_simp
    try with_reducible rfl
  simp only [Act.put, List.getElem_toArray, List.getElem_cons_zero, List.getElem_cons_succ, List.setIfInBounds_toArray, List.set_cons_zero, List.set_cons_succ]
  refine wpAnyH_take (i := 1) (v := ?_) rfl (by kernel_rfl) (by kernel_rfl) (by kernel_rfl) (fun _ _ _ h => h) (Or.inl ⟨by rfl, ?_⟩) hS0 ?_
  rotate_left 1
  · intro W hW
    go_simp
    try with_reducible rfl
  simp only [Act.put, List.getElem_toArray, List.getElem_cons_zero, List.getElem_cons_succ, List.setIfInBounds_toArray, List.set_cons_zero, List.set_cons_succ]
  refine wpAnyH_take (i := 2) (v := ?_) rfl (by kernel_rfl) (by kernel_rfl) (by kernel_rfl) (fun _ _ _ h => h) (Or.inl ⟨by rfl, ?_⟩) hS0 ?_
  rotate_left 1
  · intro W hW
    go_simp
    try with_reducible rfl
  simp only [Act.put, List.getElem_toArray, List.getElem_cons_zero, List.getElem_cons_succ, List.setIfInBounds_toArray, List.set_cons_zero, List.set_cons_succ]
  refine wpAnyH_take (i := 3) (v := ?_) rfl (by kernel_rfl) (by kernel_rfl) (by kernel_rfl) (fun _ _ _ h => h) (Or.inl ⟨by rfl, ?_⟩) hS0 ?_
  rotate_left 1
  · intro W hW
    have c0 := hW.c0
    go_simp
    try with_reducible rfl
  simp only [Act.put, List.getElem_toArray, List.getElem_cons_zero, List.getElem_cons_succ, List.setIfInBounds_toArray, List.set_cons_zero, List.set_cons_succ]
  refine wpAnyH_take (i := 4) (v := ?_) rfl (by kernel_rfl) (by kernel_rfl) (by kernel_rfl) (fun _ _ _ h => h) (Or.inl ⟨by rfl, ?_⟩) hS0 ?_
  rotate_left 1
  · intro W hW
    go_simp
    try with_reducible rfl
  simp only [Act.put, List.getElem_toArray, List.getElem_cons_zero, List.getElem_cons_succ, List.setIfInBounds_toArray, List.set_cons_zero, List.set_cons_succ]
  refine wpAnyH_take (i := 5) (v := ?_) rfl (by kernel_rfl) (by kernel_rfl) (by kernel_rfl) (fun _ _ _ h => h) (Or.inl ⟨by rfl, ?_⟩) hS0 ?_
  rotate_left 1
  · intro W hW
    go_simp
    try with_reducible rfl
  simp only [Act.put, List.getElem_toArray, List.getElem_cons_zero, List.getElem_cons_succ, List.setIfInBounds_toArray, List.set_cons_zero, List.set_cons_succ]
  refine wpAnyH_take (i := 7) (v := ?_) rfl (by kernel_rfl) (by kernel_rfl) (by kernel_rfl) (fun _ _ _ h => h) (Or.inl ⟨by rfl, ?_⟩) hS0 ?_
  rotate_left 1
  · intro W hW
    go_simp
    try with_reducible rfl
  simp only [Act.put, List.getElem_toArray, List.getElem_cons_zero, List.getElem_cons_succ, List.setIfInBounds_toArray, List.set_cons_zero, List.set_cons_succ]
  refine wpAnyH_take (i := 8) (v := ?_) rfl (by kernel_rfl) (by kernel_rfl) (by kernel_rfl) (fun _ _ _ h => h) (Or.inl ⟨by rfl, ?_⟩) hS0 ?_
  rotate_left 1
  · intro W hW
    go_simp
    try with_reducible rfl
  simp only [Act.put, List.getElem_toArray, List.getElem_cons_zero, List.getElem_cons_succ, List.setIfInBounds_toArray, List.set_cons_zero, List.set_cons_succ]
  refine wpAnyH_ready (rs := [6]) (by kernel_rfl) (by simp) (AllReadyH.cons rfl (fun KK hKK => ?_) AllReadyH.nil)
  go_simp
  refine (HP.out w2 hS0).mono ?_
  rintro e wz ⟨rfl, hwz⟩
  rw [hwz]
  clear hwz
  refine hKK _ _ hS0 ?_
  intro _
  clear hKK KK
  try simp only [Act.put, List.getElem_toArray, List.getElem_cons_zero, List.getElem_cons_succ, List.setIfInBounds_toArray, List.set_cons_zero, List.set_cons_succ]
  refine wpAnyH_ready (rs := [9]) (by kernel_rfl) (by simp) (AllReadyH.cons rfl (fun KK hKK => ?_) AllReadyH.nil)
  have hmg := method_get t
  go_simp
  clear hmg
  refine (HG.out w2 HR2.out).mono ?_
  rintro e w3 ⟨rfl, hR3, hk3⟩
  have HR3 := Lib.hid hR3
  have HF3 := Lib.hid (HF2.out.kf hk3 (by have := HR2.out.lts; simp; omega))
  have HK3 := Lib.hid (HK2.out.trans hk3)
  replace hS0 : Mb w3 p t fi n := hS0.kf hk3 hp
  clear hR3 hk3 HR2 HK2 HF2
  refine hKK _ _ hS0 ?_
  intro _
  clear hKK KK
  try simp only [Act.put, List.getElem_toArray, List.getElem_cons_zero, List.getElem_cons_succ, List.setIfInBounds_toArray, List.set_cons_zero, List.set_cons_succ]
  refine wpAnyH_take (i := 10) (v := ?_) rfl (by kernel_rfl) (by kernel_rfl) (by kernel_rfl) (fun _ _ _ h => h) (Or.inl ⟨by rfl, ?_⟩) hS0 ?_
  rotate_left 1
  · intro W hW
    go_simp
    try with_reducible rfl
  simp only [Act.put, List.getElem_toArray, List.getElem_cons_zero, List.getElem_cons_succ, List.setIfInBounds_toArray, List.set_cons_zero, List.set_cons_succ]
  refine wpAnyH_take (i := 11) (v := ?_) rfl (by kernel_rfl) (by kernel_rfl) (by kernel_rfl) (fun _ _ _ h => h) (Or.inl ⟨by rfl, ?_⟩) hS0 ?_
  rotate_left 1
  · intro W hW
    go_simp
    try with_reducible rfl
  simp only [Act.put, List.getElem_toArray, List.getElem_cons_zero, List.getElem_cons_succ, List.setIfInBounds_toArray, List.set_cons_zero, List.set_cons_succ]
  refine wpAnyH_ready (rs := [12]) (by kernel_rfl) (by simp) (AllReadyH.cons rfl (fun KK hKK => ?_) AllReadyH.nil)
  refine step_store_mid rfl 49 _ _ rfl b5 0 (byts 64 V).toArray rfl rfl (by rw [byts_size]; exact HF3.out.there 0 64 (Nat.le_refl _)) (size36' _) (byts_all _ _) ?_
  rw [List.toList_toArray]
  have HF4 := Lib.hid (HF3.out.stored V)
  have hk4 : Kp w3 (w3.setCells b5 0 (byts 64 V)) b5 b5 := (Kp.refl _ _ _).setCells b5 0 (.inl rfl) _
  have HR4 := Lib.hid (HR3.out.kp hk4 (by simp; omega) (by simp; omega))
  have HM4 := Lib.hid (hS0.kp hk4 (by omega))
  have HK4 := Lib.hid (HK3.out.setNew b5 (by omega) (byts 64 V))
  obtain ⟨w4, hw4⟩ : ∃ x, w3.setCells b5 0 (byts 64 V) = x := ⟨_, rfl⟩
  rw [hw4] at HF4 HR4 HM4 HK4 ⊢
  clear hS0 hk4 hw4 HF3 HR3 HK3
  have hS0 : Mb w4 p t fi n := HM4.out
  refine hKK _ _ hS0 ?_
  intro _
  clear hKK KK
  try simp only [Act.put, List.getElem_toArray, List.getElem_cons_zero, List.getElem_cons_succ, List.setIfInBounds_toArray, List.set_cons_zero, List.set_cons_succ]
  refine wpAnyH_take (i := 13) (v := ?_) rfl (by kernel_rfl) (by kernel_rfl) (by kernel_rfl) (fun _ _ _ h => h) (Or.inl ⟨by rfl, ?_⟩) hS0 ?_
  rotate_left 1
  · intro W hW
    go_simp
    try with_reducible rfl
  simp only [Act.put, List.getElem_toArray, List.getElem_cons_zero, List.getElem_cons_succ, List.setIfInBounds_toArray, List.set_cons_zero, List.set_cons_succ]
  refine wpAnyH_done (by kernel_rfl) ?_ _
  clear hS0
  go_wp2_with fail
  exact bodyPost_ret_by (results_mid_tmp rfl _ _ b5 _ (.array 64 5) rfl HF4.out.range0 Try.arr36 rfl (size36 _)) rfl ⟨rfl, HR4.out, HK4.out⟩
set_option maxHeartbeats 2000000 in
theorem blockof_out (p t fi n : Nat) (x : Int) (hx : x < 0 ∨ (n : Int) ≤ x) (hn : n ≤ 65536) (w : World) (hm : Mb w p t fi n) :
    Calls Try.prog 25 #[.pointer (some ⟨p, 0, none⟩), .int .i64 x] w fun e w' => e = .returned (.tuple #[.agg (byts 64 fun _ => 0).toArray, .int .i64 27]) ∧ Below w.heap.size w w' := by
  have c2 := hm.c2
  have HM := Lib.hid hm
  clear hm
  by_cases h : x < 0
  · go_enter Try.func25, Try.ntmps25
    go_wp2_with (first | (refine wpList_alloc_byts rfl 49 64 rfl Try.zero36 ?_; intro w1 F1 hb1 hz1; have HB1 := Lib.hid hb1; have HM1 := Lib.hid (HM.out.keep hb1); replace c2 := HM1.out.c2; clear hb1 hz1) | (refine wpList_yields _ (yields_build0 rfl rfl) ?_) | (refine wpList_store_mid rfl 49 (.tmp 4) (.tmp 19) rfl w.heap.size 0 (byts 64 fun _ => 0).toArray rfl rfl (by rw [byts_size]; exact F1.out.there 0 64 (Nat.le_refl _)) (size36' _) (byts_all _ _) ?_))
    have F2 := F1.out.stored (fun _ => 0)
    exact bodyPost_ret_by (results_mid_tmp rfl _ _ w.heap.size _ (.array 64 5) rfl F2.range0 Try.arr36 rfl (size36 _)) rfl ⟨rfl, below_setCells HB1.out _ _ (Nat.le_refl _) _⟩
  · have h2 : (n : Int) ≤ x := by omega
    clear hx
    go_enter Try.func25, Try.ntmps25
    go_wp2_with (first | (refine wpList_alloc_byts rfl 49 64 rfl Try.zero36 ?_; intro w1 F1 hb1 hz1; have HB1 := Lib.hid hb1; have HM1 := Lib.hid (HM.out.keep hb1); replace c2 := HM1.out.c2; clear hb1 hz1) | (refine wpList_yields _ (yields_build0 rfl rfl) ?_) | (refine wpList_store_mid rfl 49 (.tmp 4) (.tmp 19) rfl w.heap.size 0 (byts 64 fun _ => 0).toArray rfl rfl (by rw [byts_size]; exact F1.out.there 0 64 (Nat.le_refl _)) (size36' _) (byts_all _ _) ?_))
    have F2 := F1.out.stored (fun _ => 0)
    exact bodyPost_ret_by (results_mid_tmp rfl _ _ w.heap.size _ (.array 64 5) rfl F2.range0 Try.arr36 rfl (size36 _)) rfl ⟨rfl, below_setCells HB1.out _ _ (Nat.le_refl _) _⟩
set_option maxHeartbeats 2000000 in
theorem blockof_nil (x : Int) (w : World) :
    Calls Try.prog 25 #[.pointer none, .int .i64 x] w fun e w' => e = .returned (.tuple #[.agg (byts 64 fun _ => 0).toArray, .int .i64 1]) ∧ Below w.heap.size w w' := by
  go_enter Try.func25, Try.ntmps25
  go_wp2_with (first | (refine wpList_alloc_byts rfl 49 64 rfl Try.zero36 ?_; intro w1 F1 hb1 hz1; have HB1 := Lib.hid hb1; clear hb1 hz1) | (refine wpList_yields _ (yields_build0 rfl rfl) ?_) | (refine wpList_store_mid rfl 49 (.tmp 4) (.tmp 8) rfl w.heap.size 0 (byts 64 fun _ => 0).toArray rfl rfl (by rw [byts_size]; exact F1.out.there 0 64 (Nat.le_refl _)) (size36' _) (byts_all _ _) ?_))
  have F2 := F1.out.stored (fun _ => 0)
  exact bodyPost_ret_by (results_mid_tmp rfl _ _ w.heap.size _ (.array 64 5) rfl F2.range0 Try.arr36 rfl (size36 _)) rfl ⟨rfl, below_setCells HB1.out _ _ (Nat.le_refl _) _⟩
end Go.Proofs.Ytlpbhijfdeceoaa
