import Derived.Test.YtlpbhijfdeceoaaB4
/- The map of bits: Has, Set. -/
namespace Go.Proofs.Ytlpbhijfdeceoaa
set_option linter.unusedSimpArgs false
set_option linter.unusedVariables false
open Go.RowKit Go.Maps


theorem Kf.kpNew {w w' w'' : World} {L : List Nat} {b : Nat} (h : Kf w w' L) (k : Kp w' w'' b b) (hb : w.heap.size ≤ b) : Kf w w'' L :=
  ⟨k.os.trans h.os, k.tape.trans h.tape, k.output.trans h.output, Nat.le_trans h.size k.size, fun i hi hn => (k.block i (by have := h.size; omega) (by omega) (by omega)).trans (h.block i hi hn)⟩
theorem flp_fun (f : Nat → Int) (i : Nat) : (fun j => if j = i / 8 % 64 then Go.bits .xor .u8 (f (i / 8 % 64)) (msk i) else f j) = flp f i := by
  funext j
  unfold flp upd
  by_cases h : j = i / 8 % 64
  · rw [if_pos h, if_pos (by omega)]
  · rw [if_neg h, if_neg (by omega)]
set_option maxHeartbeats 4000000 in
set_option maxRecDepth 100000 in
theorem has_any (p t m d g fi n K i : Nat) (T : TS) (hf : fi ≤ 65536) (hn : n ≤ 65536) (hi : i < n) (hx : fi + i / 512 < 40) (hK : K < 700000) (w : World) (hm : Mb w p t fi n) (hr : Rd w t m d g T K) (hp : p ∉ [t, m, d, g]) :
    Calls Try.prog 12 #[.pointer (some ⟨p, 0, none⟩), .int .i64 i] w fun e w' => e = .returned (.tuple #[.bool (bitOf (vw T (fi + i / 512)) i), .int .i64 0]) ∧ Rd w' t m d g T (K + 1) ∧ Kf w w' [t, m, d, g] := by
  have HO := Lib.hid (fun W h h2 => blockof_any p t m d g fi n K i T hf hn hi hx hK W h h2 hp)
  have HV : Byt (vw T (fi + i / 512)) := vw_byt hr.tb _
  obtain ⟨V, hV⟩ : ∃ V, vw T (fi + i / 512) = V := ⟨_, rfl⟩
  rw [hV] at HO HV ⊢
  have HI := Lib.hid (isset_any V HV i (by omega))
  clear hV HV
  obtain ⟨q, hq⟩ : ∃ q, bitOf V i = q := ⟨_, rfl⟩
  rw [hq] at HI ⊢
  have HM := Lib.hid hm
  have HR := Lib.hid hr
  clear hm hr hq
  go_enter Try.func12, Try.ntmps12
  go_wp2_with fail
  refine (HO.out w HM.out HR.out).mono ?_
  rintro e w1 ⟨rfl, hR, hK'⟩
  have HR1 := Lib.hid hR
  have HK1 := Lib.hid hK'
  have HM1 := Lib.hid (HM.out.kf hK' hp)
  clear hR hK' HO HR HM
  go_wp2_with (first | (refine wpList_alloc_byts rfl 49 64 rfl Try.zero36 ?_; intro w2 F2 hb2 hz2; have HF2 := Lib.hid F2.out; have HR2 := Lib.hid (HR1.out.keep hb2); have HK2 := Lib.hid (HK1.out.trans (Kf.of_below hb2 _)); have HM2 := Lib.hid (HM1.out.keep hb2); have hb2' : w.heap.size ≤ w1.heap.size := HK1.out.size; have hlt2 := HR1.out.lts; have hpl2 := HM1.out.lt; clear hb2 hz2 F2) | (refine wpList_store_blk rfl (.tmp 6) (.tmp 12) rfl w1.heap.size 0 64 (fun _ => 0) V HF2.out (by omega) rfl rfl ?_; intro w3 F3 HK3; have HF3 := Lib.hid (F3.out.congr (f' := V) (fun j hj => (by unfold upd; rw [if_pos (by omega), Nat.sub_zero]))); have HR3 := Lib.hid (HR2.out.kp HK3.out (by simp; omega) (by simp; omega)); have HM3 := Lib.hid (HM2.out.kp HK3.out (by omega)); have HK3' := Lib.hid (HK2.out.kpNew HK3.out (by omega)); clear F3 HK3) | (refine wpList_load_mid rfl 49 (.tmp 6) rfl w1.heap.size 0 rfl (byts 64 V) (.array 64 5) HF3.out.range0 Try.arr36 rfl (size36 _) ?_))
  refine (HI.out w3).mono ?_
  rintro e w4 ⟨rfl, hb4⟩
  have HR4 := Lib.hid (HR3.out.keep hb4)
  have HK4 := Lib.hid (HK3'.out.trans (Kf.of_below hb4 _))
  clear hb4 HI HR3 HK3' HM3
  go_wp2_with fail
  refine bodyPost_ret (v := .tuple #[.bool q, .int .i64 0]) (by simp [results, Try.results12, go_sem]) rfl ⟨rfl, HR4.out, HK4.out⟩
set_option maxHeartbeats 2000000 in
theorem has_err (x : Int) (c : Int) (hc : c ≠ 0) (q : Value) (w : World) (HO : Calls Try.prog 25 #[q, .int .i64 x] w fun e w' => e = .returned (.tuple #[.agg (byts 64 fun _ => 0).toArray, .int .i64 c]) ∧ Below w.heap.size w w') :
    Calls Try.prog 12 #[q, .int .i64 x] w fun e w' => e = .returned (.tuple #[.bool false, .int .i64 c]) ∧ Below w.heap.size w w' := by
  have H := Lib.hid HO
  clear HO
  go_enter Try.func12, Try.ntmps12
  go_wp2_with fail
  refine H.out.mono ?_
  rintro e w1 ⟨rfl, hb⟩
  have HB1 := Lib.hid hb
  clear hb H
  go_wp2_with (first | (refine wpList_alloc_byts rfl 49 64 rfl Try.zero36 ?_; intro w2 F2 hb2 hz2; have HF2 := Lib.hid F2.out; have HB2 := Lib.hid (HB1.out.trans (hb2.mono HB1.out.size)); have hb2' : w.heap.size ≤ w1.heap.size := HB1.out.size; clear hb2 hz2 F2) | (refine wpList_store_blk rfl (.tmp 6) (.tmp 12) rfl w1.heap.size 0 64 (fun _ => 0) (fun _ => 0) HF2.out (by omega) rfl rfl ?_; intro w3 F3 HK3; have HB3 := Lib.hid (HB2.out.trans (HK3.out.below (B := w.heap.size) (by omega) (by omega) HB2.out.size))))
  refine bodyPost_ret (v := .tuple #[.bool false, .int .i64 c]) (by simp [results, Try.results12, go_sem]) rfl ⟨rfl, HB3.out⟩
set_option maxHeartbeats 2000000 in
theorem set_err (x : Int) (on : Bool) (c : Int) (hc : c ≠ 0) (q : Value) (w : World) (HO : Calls Try.prog 25 #[q, .int .i64 x] w fun e w' => e = .returned (.tuple #[.agg (byts 64 fun _ => 0).toArray, .int .i64 c]) ∧ Below w.heap.size w w') :
    Calls Try.prog 11 #[q, .int .i64 x, .bool on] w fun e w' => e = .returned (.int .i64 c) ∧ Below w.heap.size w w' := by
  have H := Lib.hid HO
  clear HO
  go_enter Try.func11, Try.ntmps11
  go_wp2_with fail
  refine H.out.mono ?_
  rintro e w1 ⟨rfl, hb⟩
  have HB1 := Lib.hid hb
  clear hb H
  go_wp2_with (first | (refine wpList_alloc_byts rfl 49 64 rfl Try.zero36 ?_; intro w2 F2 hb2 hz2; have HF2 := Lib.hid F2.out; have HB2 := Lib.hid (HB1.out.trans (hb2.mono HB1.out.size)); have hb2' : w.heap.size ≤ w1.heap.size := HB1.out.size; clear hb2 hz2 F2) | (refine wpList_store_blk rfl (.tmp 7) (.tmp 15) rfl w1.heap.size 0 64 (fun _ => 0) (fun _ => 0) HF2.out (by omega) rfl rfl ?_; intro w3 F3 HK3; have HB3 := Lib.hid (HB2.out.trans (HK3.out.below (B := w.heap.size) (by omega) (by omega) HB2.out.size))))
  go_ret
  exact ⟨rfl, HB3.out⟩
/-- what is to be written behind a Set -/
def setT (T : TS) (X i : Nat) (on : Bool) : TS := if bitOf (vw T X) i = on then T else put X (flp (vw T X) i) T
set_option maxHeartbeats 8000000 in
set_option maxRecDepth 100000 in
theorem set_same (p t m d g fi n K i : Nat) (T : TS) (on : Bool) (hf : fi ≤ 65536) (hn : n ≤ 65536) (hi : i < n) (hx : fi + i / 512 < 40) (hx0 : 31 ≤ fi + i / 512) (hK : K < 700000) (w : World) (hm : Mb w p t fi n) (hr : Rd w t m d g T K) (hp : p ∉ [t, m, d, g])
    (hbit : bitOf (vw T (fi + i / 512)) i = on) :
    Calls Try.prog 11 #[.pointer (some ⟨p, 0, none⟩), .int .i64 i, .bool on] w fun e w' => e = .returned (.int .i64 0) ∧ Rd w' t m d g T (K + 1) ∧ Kf w w' [t, m, d, g] := by
  have hi16 : i ≤ 65536 := by omega
  have HO := Lib.hid (fun W h h2 => blockof_any p t m d g fi n K i T hf hn hi hx hK W h h2 hp)
  have HX0 := Lib.hid hx0
  have HX := Lib.hid hx
  have HV : Byt (vw T (fi + i / 512)) := vw_byt hr.tb _
  have HPl := Lib.hid (fun W h => place_any p t fi n i hf (by omega) W h)
  obtain ⟨V, hV⟩ : ∃ V, vw T (fi + i / 512) = V := ⟨_, rfl⟩
  rw [hV] at HO HV hbit
  clear hV
  have HVb := Lib.hid HV
  clear HV HPl HX HX0 hx0
  have HM := Lib.hid hm
  have HR := Lib.hid hr
  clear hm hr hx
  have HI := Lib.hid (isset_any V HVb.out i hi16)
  go_enter Try.func11, Try.ntmps11
  go_wp2_with fail
  refine (HO.out w HM.out HR.out).mono ?_
  rintro e w1 ⟨rfl, hR, hK'⟩
  have HR1 := Lib.hid hR
  have HK1 := Lib.hid hK'
  have HM1 := Lib.hid (HM.out.kf hK' hp)
  clear hR hK' HO HR HM
  go_wp2_with (first | (refine wpList_alloc_byts rfl 49 64 rfl Try.zero36 ?_; intro w2 F2 hb2 hz2; have HF2 := Lib.hid F2.out; have HR2 := Lib.hid (HR1.out.keep hb2); have HK2 := Lib.hid (HK1.out.trans (Kf.of_below hb2 _)); have HM2 := Lib.hid (HM1.out.keep hb2); have hb2' : w.heap.size ≤ w1.heap.size := HK1.out.size; have hlt2 := HR1.out.lts; have hpl2 := HM1.out.lt; clear hb2 hz2 F2) | (refine wpList_store_blk rfl (.tmp 7) (.tmp 15) rfl w1.heap.size 0 64 (fun _ => 0) V HF2.out (by omega) rfl rfl ?_; intro w3 F3 HK3; have HF3 := Lib.hid (F3.out.congr (f' := V) (fun j hj => (by unfold upd; rw [if_pos (by omega), Nat.sub_zero]))); have HR3 := Lib.hid (HR2.out.kp HK3.out (by simp; omega) (by simp; omega)); have HM3 := Lib.hid (HM2.out.kp HK3.out (by omega)); have HK3' := Lib.hid (HK2.out.kpNew HK3.out (by omega)); clear F3 HK3) | (refine wpList_load_mid rfl 49 (.tmp 7) rfl w1.heap.size 0 rfl (byts 64 V) (.array 64 5) HF3.out.range0 Try.arr36 rfl (size36 _) ?_))
  obtain ⟨b7, hb7⟩ : ∃ b, w1.heap.size = b := ⟨_, rfl⟩
  rw [hb7] at HF3 hb2' hlt2 hpl2 ⊢
  clear hb7 HR1 HK1 HM1 HF2 HR2 HK2 HM2
  refine (HI.out w3).mono ?_
  rintro e w4 ⟨rfl, hb4⟩
  have HF4 := Lib.hid (HF3.out.below hb4 HF3.out.lt)
  have HR4 := Lib.hid (HR3.out.keep hb4)
  have HM4 := Lib.hid (HM3.out.keep hb4)
  have HK4 := Lib.hid (HK3'.out.trans (Kf.of_below hb4 _))
  clear hb4 HF3 HR3 HM3 HK3' HI
  rw [hbit]
  go_wp2_with fail
  go_ret
  exact ⟨rfl, HR4.out, HK4.out⟩

set_option maxHeartbeats 20000000 in
set_option maxRecDepth 100000 in
theorem set_flip (p t m d g fi n K i : Nat) (T : TS) (on : Bool) (hf : fi ≤ 65536) (hn : n ≤ 65536) (hi : i < n) (hx : fi + i / 512 < 40) (hx0 : 31 ≤ fi + i / 512) (hT : T.length < 30) (hK : K < 700000) (w : World) (hm : Mb w p t fi n) (hr : Rd w t m d g T K) (hp : p ∉ [t, m, d, g])
    (hbit : bitOf (vw T (fi + i / 512)) i ≠ on) :
    Calls Try.prog 11 #[.pointer (some ⟨p, 0, none⟩), .int .i64 i, .bool on] w fun e w' => e = .returned (.int .i64 0) ∧ Rd w' t m d g (put (fi + i / 512) (flp (vw T (fi + i / 512)) i) T) (K + 1) ∧ Kf w w' [t, m, d, g] := by
  have hi16 : i ≤ 65536 := by omega
  have HO := Lib.hid (fun W h h2 => blockof_any p t m d g fi n K i T hf hn hi hx hK W h h2 hp)
  have HX0 := Lib.hid hx0
  have HX := Lib.hid hx
  have HV : Byt (vw T (fi + i / 512)) := vw_byt hr.tb _
  have HPl := Lib.hid (fun W h => place_any p t fi n i hf (by omega) W h)
  obtain ⟨V, hV⟩ : ∃ V, vw T (fi + i / 512) = V := ⟨_, rfl⟩
  obtain ⟨X, hX⟩ : ∃ X, fi + i / 512 = X := ⟨_, rfl⟩
  rw [hX] at HPl HX HX0
  rw [hV] at HO HV hbit ⊢
  clear hV
  rw [hX]
  have HVb := Lib.hid HV
  have HS := Lib.hid (spot_any i hi16)
  have HU := Lib.hid (flp_fun V i)
  have hUb := flp_byt HV i
  obtain ⟨U, hU⟩ : ∃ U, flp V i = U := ⟨_, rfl⟩
  rw [hU] at HU hUb ⊢
  have HPut := Lib.hid (fun W h => put5 t m d g (K + 1) T X U hUb HX0.out HX.out hT (by omega) W h)
  obtain ⟨a, ha, ha1⟩ : ∃ a, i / 8 % 64 = a ∧ a < 64 := ⟨_, rfl, at_lt i⟩
  obtain ⟨hv0, hv1⟩ := HV a ha1
  rw [ha] at HS HU
  have ha2 : (a : Int) < 64 := by omega
  have ha3 : (0 : Int) ≤ a := by omega
  obtain ⟨M, hM⟩ : ∃ M, msk i = M := ⟨_, rfl⟩
  rw [hM] at HS HU
  clear HV hU hUb ha hM hX hx0
  have HM := Lib.hid hm
  have HR := Lib.hid hr
  clear hm hr hx
  have HI := Lib.hid (isset_any V HVb.out i hi16)
  go_enter Try.func11, Try.ntmps11
  go_wp2_with fail
  refine (HO.out w HM.out HR.out).mono ?_
  rintro e w1 ⟨rfl, hR, hK'⟩
  have HR1 := Lib.hid hR
  have HK1 := Lib.hid hK'
  have HM1 := Lib.hid (HM.out.kf hK' hp)
  clear hR hK' HO HR HM
  go_wp2_with (first | (refine wpList_alloc_byts rfl 49 64 rfl Try.zero36 ?_; intro w2 F2 hb2 hz2; have HF2 := Lib.hid F2.out; have HR2 := Lib.hid (HR1.out.keep hb2); have HK2 := Lib.hid (HK1.out.trans (Kf.of_below hb2 _)); have HM2 := Lib.hid (HM1.out.keep hb2); have hb2' : w.heap.size ≤ w1.heap.size := HK1.out.size; have hlt2 := HR1.out.lts; have hpl2 := HM1.out.lt; clear hb2 hz2 F2) | (refine wpList_store_blk rfl (.tmp 7) (.tmp 15) rfl w1.heap.size 0 64 (fun _ => 0) V HF2.out (by omega) rfl rfl ?_; intro w3 F3 HK3; have HF3 := Lib.hid (F3.out.congr (f' := V) (fun j hj => (by unfold upd; rw [if_pos (by omega), Nat.sub_zero]))); have HR3 := Lib.hid (HR2.out.kp HK3.out (by simp; omega) (by simp; omega)); have HM3 := Lib.hid (HM2.out.kp HK3.out (by omega)); have HK3' := Lib.hid (HK2.out.kpNew HK3.out (by omega)); clear F3 HK3) | (refine wpList_load_mid rfl 49 (.tmp 7) rfl w1.heap.size 0 rfl (byts 64 V) (.array 64 5) HF3.out.range0 Try.arr36 rfl (size36 _) ?_))
  obtain ⟨b7, hb7⟩ : ∃ b, w1.heap.size = b := ⟨_, rfl⟩
  rw [hb7] at HF3 hb2' hlt2 hpl2 ⊢
  clear hb7 HR1 HK1 HM1 HF2 HR2 HK2 HM2
  refine (HI.out w3).mono ?_
  rintro e w4 ⟨rfl, hb4⟩
  have HF4 := Lib.hid (HF3.out.below hb4 HF3.out.lt)
  have HR4 := Lib.hid (HR3.out.keep hb4)
  have HM4 := Lib.hid (HM3.out.keep hb4)
  have HK4 := Lib.hid (HK3'.out.trans (Kf.of_below hb4 _))
  clear hb4 HF3 HR3 HM3 HK3' HI
  have hne : (bitOf V i == on) = false := by simpa using hbit
  obtain ⟨c, hc⟩ : ∃ c, bitOf V i = c := ⟨_, rfl⟩
  rw [hc] at hne ⊢
  clear hbit hc
  go_wp2_with fail
  refine (HS.out w4).mono ?_
  rintro e w5 ⟨he, hb5⟩
  subst he
  have HF5 := Lib.hid (HF4.out.below hb5 HF4.out.lt)
  have HR5 := Lib.hid (HR4.out.keep hb5)
  have HM5 := Lib.hid (HM4.out.keep hb5)
  have HK5 := Lib.hid (HK4.out.trans (Kf.of_below hb5 _))
  have hc5 := HF5.out.c a ha1
  have hz5 := HF5.out.z a ha1
  clear hb5 HF4 HR4 HM4 HK4 HS hne
  go_wp2_with fail
  clear hc5 hz5
  have HF6 := Lib.hid (HF5.out.set a ha1 (Go.bits .xor .u8 (V a) M))
  have hk6 : Kp w5 (w5.setCell ⟨b7, a, none⟩ (.int .u8 (Go.bits .xor .u8 (V a) M))) b7 b7 := (Kp.refl _ _ _).setCell ⟨b7, a, none⟩ (.inl rfl) _
  have HR6 := Lib.hid (HR5.out.kp hk6 (by simp; omega) (by simp; omega))
  have HM6 := Lib.hid (HM5.out.kp hk6 (by omega))
  have HK6 := Lib.hid (HK5.out.kpNew hk6 (by omega))
  obtain ⟨w6, hw6⟩ : ∃ x, w5.setCell ⟨b7, a, none⟩ (.int .u8 (Go.bits .xor .u8 (V a) M)) = x := ⟨_, rfl⟩
  rw [hw6] at HF6 HR6 HM6 HK6 ⊢
  rw [HU.out] at HF6
  clear hw6 hk6 HF5 HR5 HM5 HK5 HU
  refine wp_region_held (S := fun W => Mb W p t fi n ∧ Fl W b7 64 U) (by kernel_rfl) ?_
  change wpAnyH _ _ _ _ _ _ _ _ (World.drew _)
  have hS0 : Mb w6.drew p t fi n ∧ Fl w6.drew b7 64 U := ⟨HM6.out.keep (Below.refl _ _).drew, HF6.out.below (Below.refl _ _).drew HF6.out.lt⟩
  have HR7 := Lib.hid (HR6.out.keep (Below.refl _ _).drew)
  have HK7 := Lib.hid (HK6.out.trans (Kf.of_below (Below.refl w6.heap.size w6).drew _))
  obtain ⟨w7, hw7⟩ : ∃ x, World.drew w6 = x := ⟨_, rfl⟩
  rw [hw7] at hS0 HR7 HK7 ⊢
  clear hw7 HR6 HK6 HM6 HF6
  refine wpAnyH_take (i := 0) (v := ?_) rfl (by kernel_rfl) (by kernel_rfl) (by kernel_rfl) (fun _ _ _ h => h) (Or.inl ⟨by rfl, ?_⟩) hS0 ?_
  rotate_left 1
  · intro W hW
    go_simp
    try with_reducible rfl
  simp only [Act.put, List.getElem_toArray, List.getElem_cons_zero, List.getElem_cons_succ, List.setIfInBounds_toArray, List.set_cons_zero, List.set_cons_succ]
  refine wpAnyH_take (i := 1) (v := ?_) rfl (by kernel_rfl) (by kernel_rfl) (by kernel_rfl) (fun _ _ _ h => h) (Or.inl ⟨by rfl, ?_⟩) hS0 ?_
  rotate_left 1
  · intro W hW
    go_simp
    try with_reducible rfl
  simp only [Act.put, List.getElem_toArray, List.getElem_cons_zero, List.getElem_cons_succ, List.setIfInBounds_toArray, List.set_cons_zero, List.set_cons_succ]
  refine wpAnyH_take (i := 2) (v := ?_) rfl (by kernel_rfl) (by kernel_rfl) (by kernel_rfl) (fun _ _ _ h => h) (Or.inl ⟨by rfl, ?_⟩) hS0 ?_
  rotate_left 1
  · intro W hW
    go_simp
    try with_reducible rfl
  simp only [Act.put, List.getElem_toArray, List.getElem_cons_zero, List.getElem_cons_succ, List.setIfInBounds_toArray, List.set_cons_zero, List.set_cons_succ]
  refine wpAnyH_take (i := 3) (v := ?_) rfl (by kernel_rfl) (by kernel_rfl) (by kernel_rfl) (fun _ _ _ h => h) (Or.inl ⟨by rfl, ?_⟩) hS0 ?_
  rotate_left 1
  · intro W hW
    have c0 := hW.1.c0
    go_simp
    try with_reducible rfl
  simp only [Act.put, List.getElem_toArray, List.getElem_cons_zero, List.getElem_cons_succ, List.setIfInBounds_toArray, List.set_cons_zero, List.set_cons_succ]
  refine wpAnyH_take (i := 4) (v := ?_) rfl (by kernel_rfl) (by kernel_rfl) (by kernel_rfl) (fun _ _ _ h => h) (Or.inl ⟨by rfl, ?_⟩) hS0 ?_
  rotate_left 1
  · intro W hW
    go_simp
    try with_reducible rfl
  simp only [Act.put, List.getElem_toArray, List.getElem_cons_zero, List.getElem_cons_succ, List.setIfInBounds_toArray, List.set_cons_zero, List.set_cons_succ]
  refine wpAnyH_take (i := 5) (v := ?_) rfl (by kernel_rfl) (by kernel_rfl) (by kernel_rfl) (fun _ _ _ h => h) (Or.inl ⟨by rfl, ?_⟩) hS0 ?_
  rotate_left 1
  · intro W hW
    go_simp
    try with_reducible rfl
  simp only [Act.put, List.getElem_toArray, List.getElem_cons_zero, List.getElem_cons_succ, List.setIfInBounds_toArray, List.set_cons_zero, List.set_cons_succ]
  refine wpAnyH_take (i := 7) (v := .agg (byts 64 U).toArray) rfl (by kernel_rfl) (by kernel_rfl) (by kernel_rfl) (fun _ _ _ h => h) ?_ hS0 ?_
  · exact yieldsIf_load_mid (by rfl) 49 _ rfl b7 0 rfl (byts 64 U) (.array 64 5) (fun _ h => h.2.range0) Try.arr36 rfl (size36 _)
  simp only [Act.put, List.getElem_toArray, List.getElem_cons_zero, List.getElem_cons_succ, List.setIfInBounds_toArray, List.set_cons_zero, List.set_cons_succ]
  refine wpAnyH_take (i := 8) (v := ?_) rfl (by kernel_rfl) (by kernel_rfl) (by kernel_rfl) (fun _ _ _ h => h) (Or.inl ⟨by rfl, ?_⟩) hS0 ?_
  rotate_left 1
  · intro W hW
    go_simp
    try with_reducible rfl
  simp only [Act.put, List.getElem_toArray, List.getElem_cons_zero, List.getElem_cons_succ, List.setIfInBounds_toArray, List.set_cons_zero, List.set_cons_succ]
  refine wpAnyH_take (i := 9) (v := ?_) rfl (by kernel_rfl) (by kernel_rfl) (by kernel_rfl) (fun _ _ _ h => h) (Or.inl ⟨by rfl, ?_⟩) hS0 ?_
  rotate_left 1
  · intro W hW
    go_simp
    try with_reducible rfl
  simp only [Act.put, List.getElem_toArray, List.getElem_cons_zero, List.getElem_cons_succ, List.setIfInBounds_toArray, List.set_cons_zero, List.set_cons_succ]
  refine wpAnyH_ready (rs := [6]) (by kernel_rfl) (by simp) (AllReadyH.cons rfl (fun KK hKK => ?_) AllReadyH.nil)
  go_simp
  refine (HPl.out w7 hS0.1).mono ?_
  rintro e wz ⟨rfl, hwz⟩
  rw [hwz]
  clear hwz
  refine hKK _ _ hS0 ?_
  intro _
  clear hKK KK
  try simp only [Act.put, List.getElem_toArray, List.getElem_cons_zero, List.getElem_cons_succ, List.setIfInBounds_toArray, List.set_cons_zero, List.set_cons_succ]
  refine wpAnyH_ready (rs := [10]) (by kernel_rfl) (by simp) (AllReadyH.cons rfl (fun KK hKK => ?_) AllReadyH.nil)
  have hmg := method_put t
  go_simp
  clear hmg
  refine (HPut.out w7 HR7.out).mono ?_
  rintro e w8 ⟨rfl, hR8, hk8⟩
  have HR8 := Lib.hid hR8
  have HK8 := Lib.hid (HK7.out.trans hk8)
  have hS1 : Mb w8 p t fi n ∧ Fl w8 b7 64 U := ⟨hS0.1.kf hk8 hp, hS0.2.kf hk8 (by simp; omega)⟩
  clear hR8 hk8 HR7 HK7 hS0
  have hS0 := hS1
  clear hS1
  refine hKK _ _ hS0 ?_
  intro _
  clear hKK KK
  try simp only [Act.put, List.getElem_toArray, List.getElem_cons_zero, List.getElem_cons_succ, List.setIfInBounds_toArray, List.set_cons_zero, List.set_cons_succ]
  refine wpAnyH_take (i := 11) (v := ?_) rfl (by kernel_rfl) (by kernel_rfl) (by kernel_rfl) (fun _ _ _ h => h) (Or.inl ⟨by rfl, ?_⟩) hS0 ?_
  rotate_left 1
  · intro W hW
    go_simp
    try with_reducible rfl
  simp only [Act.put, List.getElem_toArray, List.getElem_cons_zero, List.getElem_cons_succ, List.setIfInBounds_toArray, List.set_cons_zero, List.set_cons_succ]
  refine wpAnyH_done (by kernel_rfl) ?_ _
  clear hS0
  go_wp2_with fail
  go_ret
  exact ⟨rfl, HR8.out, HK8.out⟩

theorem set_any (p t m d g fi n K i : Nat) (T : TS) (on : Bool) (hf : fi ≤ 65536) (hn : n ≤ 65536) (hi : i < n) (hx : fi + i / 512 < 40) (hx0 : 31 ≤ fi + i / 512) (hT : T.length < 30) (hK : K < 700000) (w : World) (hm : Mb w p t fi n) (hr : Rd w t m d g T K) (hp : p ∉ [t, m, d, g]) :
    Calls Try.prog 11 #[.pointer (some ⟨p, 0, none⟩), .int .i64 i, .bool on] w fun e w' => e = .returned (.int .i64 0) ∧ Rd w' t m d g (setT T (fi + i / 512) i on) (K + 1) ∧ Kf w w' [t, m, d, g] := by
  unfold setT
  by_cases h : bitOf (vw T (fi + i / 512)) i = on
  · rw [if_pos h]
    exact set_same p t m d g fi n K i T on hf hn hi hx hx0 hK w hm hr hp h
  · rw [if_neg h]
    exact set_flip p t m d g fi n K i T on hf hn hi hx hx0 hT hK w hm hr hp h
end Go.Proofs.Ytlpbhijfdeceoaa
