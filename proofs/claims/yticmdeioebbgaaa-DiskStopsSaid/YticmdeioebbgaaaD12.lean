import Derived.Test.YticmdeioebbgaaaD11
import Derived.Test.YticmdeioebbgaaaD10
/- DiskStops: the walk. -/
namespace Go.Proofs.Yticmdeioebbgaaa
set_option linter.unusedSimpArgs false
set_option linter.unusedVariables false
open Go.RowKit

theorem yields_index52 {ops : Array Oper} {S : World → Prop} {op : Oper} {a : Act} (hw : Region.wanted op (yielded ops a.tmps) = true) (x y : Operand) (ho : op.op = .index 52 x y) (f : Nat → Int) (p : Nat) (hp : p < 256) (hx : a.eval x = .agg (byts 256 f).toArray) (hy : a.eval y = .int .i64 (p : Int)) :
    YieldsIf Try.prog ops S op (.int .u8 (f p)) a :=
  .inl ⟨hw, fun w _ => by
    have hag : (isAgg 5).run Try.prog w = .ok false w := by
      unfold isAgg
      rw [Sem.run_bind, run_underlying Try.int5 w]
      rfl
    have hs5 : (sizeOf 5).run Try.prog w = .ok 1 w := by
      have := Try.info5
      cases hq : Try.prog.info? 5 with
      | none => simp [hq] at this
      | some j => simp [hq] at this; simp [sizeOf, typeInfo, hq, this]
    have hr : (Instr.index 52 (.agg (byts 256 f).toArray) (.int .i64 (p : Int))).run Try.prog w = .ok (.int .u8 (f p)) w := by
      have h1 : (0 : Int) ≤ (p : Int) ∧ (p : Int) < ((256 : Nat) : Int) := by omega
      simp only [Instr.index, asIntOf, Sem.run_bind, Sem.run_pure, Result.andThen_ok, run_underlying Try.arr52, if_pos h1, hs5, Int.toNat_natCast, Nat.mul_one, part, hag, Bool.false_eq_true, if_false, List.getElem?_toArray, byts_get f hp]
    unfold execOp
    simp [ho, hx, hy, hr, Result.andThen]⟩
/-- the disk when k of the places have been tried, of which the first A are let through -/
def stS (ts : List Int) (A k : Nat) : DS := ⟨256, contF ts (min k A), true, ((A - min k A : Nat) : Int), decide (A < k), 0, (min k A : Nat)⟩

theorem stS_lt (ts : List Int) (A k X : Nat) (h : k < A) : (stS ts A k).write X (blk ((k : Int) + 1)) = (0, { stS ts A (k + 1) with f := upd (contF ts k) (X * 64) 64 (blk ((k + 1 : Nat) : Int)) }) := by
  have e1 : min k A = k := Nat.min_eq_left (by omega)
  have e2 : min (k + 1) A = k + 1 := Nat.min_eq_left (by omega)
  unfold DS.write stS
  simp only [e1, e2]
  rw [if_neg (by
    rintro (⟨_, h2⟩ | h2)
    · omega
    · have := of_decide_eq_true h2; omega)]
  have e3 : decide (A < k) = false := decide_eq_false (by omega)
  have e4 : decide (A < k + 1) = false := decide_eq_false (by omega)
  have e5 : (((A - k : Nat) : Int) - 1) = ((A - (k + 1) : Nat) : Int) := by omega
  have e6 : ((k : Nat) : Int) + 1 = ((k + 1 : Nat) : Int) := by omega
  simp only [e3, e4, e5, e6, if_true]
theorem stS_ge (ts : List Int) (A k X : Nat) (h : A ≤ k) (b : Nat → Int) : (stS ts A k).write X b = (24, stS ts A (k + 1)) := by
  have e1 : min k A = A := Nat.min_eq_right (by omega)
  have e2 : min (k + 1) A = A := Nat.min_eq_right (by omega)
  unfold DS.write stS
  simp only [e1, e2]
  rw [if_pos (by left; exact ⟨by simp, by omega⟩)]
  have e4 : decide (A < k + 1) = true := decide_eq_true (by omega)
  simp only [e4]

set_option maxHeartbeats 40000000 in
set_option maxRecDepth 100000 in
theorem stops_walk (A : Nat) (hA : A < 256) (v : Value) (ts : List Int) (hts : ∀ x ∈ ts, 0 ≤ x ∧ x < 256) (w : World) (hv : U8s w v ts) :
    Calls Try.prog 4 #[.int .u8 A, v] w fun e w' => e = .returned (.bool true) ∧ Below w.heap.size w w' := by
  obtain ⟨a, cap, rfl, hm⟩ := hv.form
  have HV := Lib.hid hv
  have HX := Lib.hid hts
  have HA := Lib.hid (awake_any w)
  have HN := Lib.hid (fun W => new_any 256 (by decide) W)
  unfold maxLen at hm
  have hA0 : (0 : Int) ≤ A := by omega
  have hA1 : (A : Int) < 256 := by omega
  clear hv hts
  by_cases hL : 100 < ts.length
  · have hL' : (100 : Int) < ts.length := by omega
    go_enter Try.func4, Try.ntmps4
    go_wp2_with fail
    refine HA.out.mono ?_
    rintro e w1 ⟨rfl, hb1⟩
    have HB1 := Lib.hid hb1
    clear HA hb1
    go_wp2
    go_ret
    exact ⟨rfl, HB1.out⟩
  have hL' : ¬ ((100 : Int) < ts.length) := by omega
  go_enter Try.func4, Try.ntmps4
  go_wp2_with fail
  refine HA.out.mono ?_
  rintro e w1 ⟨rfl, hb1⟩
  have HB1 := Lib.hid hb1
  clear HA hb1
  go_wp2_with fail
  refine (HN.out w1).mono ?_
  rintro e w2 ⟨d, g, rfl, hd, hg, hD, hb2⟩
  have HD2 := Lib.hid hD
  have HB2 := Lib.hid hb2
  clear hD hb2 HN
  go_wp2_with fail
  refine (arm_any d g _ (A : Int) w2 HD2.out).mono ?_
  rintro e w3 ⟨rfl, hD3, hk3⟩
  have HB3 := Lib.hid (HB2.out.trans (hk3.below hd hg HB2.out.size))
  have HD3 : Hid (Dk w3 d g (stS ts A 0)) := by
    have h : Dk w3 d g ⟨256, fun _ => 0, true, (A : Int), false, 0, 0⟩ := by
      have := hD3
      rwa [show decide (0 ≤ (A : Int)) = true by simp] at this
    have h2 := h.congr (contF ts 0) (fun j => by simp [contF, wantF, cell0])
    have e : stS ts A 0 = ⟨256, contF ts 0, true, (A : Int), false, 0, 0⟩ := by simp [stS]
    show Dk w3 d g (stS ts A 0)
    rw [e]; exact h2
  clear hD3 hk3 HD2 HB2
  go_wp2_with (refine wpList_alloc_byts rfl 52 256 rfl Try.zero52 ?_; intro w4 F4 hb4 hz4; have HD4 := Lib.hid (HD3.out.keep hb4); have HB4 := Lib.hid (HB3.out.trans (hb4.mono HB3.out.size)); clear hb4)
  have hdl := HD3.out.lt
  have hgl := HD3.out.fl.lt
  have h13 := HB3.out.size
  clear HD3 HB3
  go_loopw [8, 9, 10, 11, 31] (fun _ _ _ _ i wr => ∃ k : Nat, k ≤ ts.length ∧ i = .int .i64 k ∧ Dk wr d g (stS ts A k) ∧ Fl wr w3.heap.size 256 (wantF ts (min k A)) ∧ Below w1.heap.size w1 wr) (fun _ _ _ _ i _ => ts.length - (intOf i).toNat)
  case atStart => exact ⟨0, by omega, rfl, HD4.out, by simpa [wantF] using F4.out, HB4.out⟩
  case round =>
    obtain ⟨k, hk, rfl, hD, hF, hbr⟩ := hrel
    have HD := Lib.hid hD
    have HF := Lib.hid hF
    have HB := Lib.hid hbr
    have hzr := hbr.size
    have hdr := hD.lt
    have hgr := hD.fl.lt
    have hwr := hF.lt
    clear hD hF hbr HD4 F4 HB4
    by_cases hlt : k < ts.length
    · have hk0 : (0 : Int) ≤ k := by omega
      have hkk : (k : Int) < ts.length := by omega
      obtain ⟨b, off, rfl, hbl, hbc⟩ := HV.out.at k hlt
      have ec := ((HB1.out.trans (HB.out.mono HB1.out.size)).cell (p := ⟨b, off + k, none⟩) hbl).trans hbc
      have hx := HX.out ts[k] (List.getElem_mem hlt)
      have HTK : Hid ((ts[k]?.getD 0) = ts[k]) := by show _ = _; rw [List.getElem?_eq_getElem hlt]; rfl
      clear hbc
      generalize ts[k] = x at *
      obtain ⟨X, rfl⟩ := Int.eq_ofNat_of_zero_le hx.1
      have hX : X < 256 := by omega
      go_wp2_with fail
      refine (block_any ((k : Int) + 1) (by omega) (by omega) wr).mono ?_
      rintro e w5 ⟨rfl, hb5⟩
      have HD5 := Lib.hid (HD.out.keep hb5)
      have HF5 := Lib.hid (HF.out.below hb5 HF.out.lt)
      have HB5 := Lib.hid (HB.out.trans (hb5.mono hzr))
      have h5z := hb5.size
      clear hb5 HD HF HB
      have HWR := Lib.hid (write_in d g (stS ts A k) (blk ((k : Int) + 1)) X (by show X < 256; exact hX) (by show 256 ≤ 65536; decide) (by show (0 : Int) ≤ (min k A : Nat); omega) (by show ((min k A : Nat) : Int) < 1000000; omega) (fun _ => by show (0 : Int) ≤ (A - min k A : Nat); omega) (by show ((A - min k A : Nat) : Int) < 9223372036854775808; omega) w5 HD5.out)
      by_cases hkA : k < A
      · have hkA' : (k : Int) < A := by omega
        have HS := Lib.hid (stS_lt ts A k X hkA)
        go_wp2_with fail
        refine HWR.out.mono ?_
        rintro e w6 ⟨rfl, hD6, hk6⟩
        rw [HS.out] at hD6 ⊢
        have HE : Hid (min (k + 1) A = k + 1 ∧ min k A = k) := ⟨Nat.min_eq_left (by omega), Nat.min_eq_left (by omega)⟩
        have HD6 : Hid (Dk w6 d g (stS ts A (k + 1))) := by
          have h := hD6.congr (contF ts (k + 1)) (fun j => contF_succ ts k X (by rw [HTK.out]; rfl) j)
          have e : ({ ({ stS ts A (k + 1) with f := upd (contF ts k) (X * 64) 64 (blk ((k + 1 : Nat) : Int)) } : DS) with f := contF ts (k + 1) } : DS) = stS ts A (k + 1) := by
            unfold stS
            rw [HE.out.1]
          rw [e] at h
          exact h
        have HF6 := Lib.hid (HF5.out.kp hk6 (by omega) (by omega))
        have HB6 := Lib.hid (HB5.out.trans (hk6.below hd hg (by omega)))
        have h6z := hk6.size
        have ec6 := HF6.out.c X hX
        have ez6 := HF6.out.z X hX
        clear hD6 hk6 HWR HD5 HF5 HB5 HS
        simp only
        go_wp2
        go_roundw
        case rel =>
          refine ⟨k + 1, by omega, by go_num, ?_, ?_, ?_⟩
          · exact HD6.out.kp ((Kp.refl w6 w3.heap.size w3.heap.size).setCell ⟨w3.heap.size, X, none⟩ (.inl rfl) _) (by omega) (by omega) (by omega) (by omega)
          · have h := HF6.out
            rw [HE.out.2] at h
            rw [HE.out.1]
            exact (h.set X hX ((k : Int) + 1)).congr fun j _ => by
              rw [show ((k : Int) + 1) = ((k + 1 : Nat) : Int) by omega]
              exact wantF_succ ts k X (by rw [HTK.out]; rfl) j
          · exact HB6.out.setCell (by show w1.heap.size ≤ w3.heap.size; omega) _
        case measure => simp [intOf]; omega
      · have hkA' : ¬ ((k : Int) < A) := by omega
        have HS := Lib.hid (stS_ge ts A k X (by omega) (blk ((k : Int) + 1)))
        go_wp2_with fail
        refine HWR.out.mono ?_
        rintro e w6 ⟨rfl, hD6, hk6⟩
        rw [HS.out] at hD6 ⊢
        have HE : Hid (min (k + 1) A = A ∧ min k A = A) := ⟨Nat.min_eq_right (by omega), Nat.min_eq_right (by omega)⟩
        have HD6 := Lib.hid hD6
        have HF6 := Lib.hid (HF5.out.kp hk6 (by omega) (by omega))
        have HB6 := Lib.hid (HB5.out.trans (hk6.below hd hg (by omega)))
        clear hD6 hk6 HWR HD5 HF5 HB5 HS
        simp only
        go_wp2
        go_roundw
        case rel =>
          refine ⟨k + 1, by omega, by go_num, HD6.out, ?_, HB6.out⟩
          have h := HF6.out
          rw [HE.out.2] at h
          rw [HE.out.1]
          exact h
        case measure => simp [intOf]; omega
    · obtain rfl : k = ts.length := by omega
      obtain ⟨wX, rfl⟩ : ∃ x, x = wr := ⟨wr, rfl⟩
      obtain ⟨K, hK⟩ : ∃ K, min ts.length A = K := ⟨_, rfl⟩
      have HFK : Hid (Fl wX w3.heap.size 256 (wantF ts K)) := by rw [← hK]; exact HF.out
      have HDK : Hid (Dk wX d g ⟨256, contF ts K, true, ((A - K : Nat) : Int), decide (A < ts.length), ((0 : Nat) : Int), (K : Int)⟩) := by
        have h := HD.out
        unfold stS at h
        rw [hK] at h
        exact h
      have hK100 : K ≤ 100 := by omega
      clear HD HF hK
      go_wp2_with (refine wpList_load_mid rfl 52 (.tmp 7) rfl w3.heap.size 0 rfl (byts 256 (wantF ts K)) (.array 256 5) HFK.out.range0 Try.arr52 rfl (size52 _) ?_)
      go_loopw [12, 13, 14, 15, 69] (fun _ _ _ _ i wr => ∃ p : Nat, p ≤ 256 ∧ i = .int .i64 p ∧ Dk wr d g ⟨256, contF ts K, true, ((A - K : Nat) : Int), decide (A < ts.length), (p : Int), (K : Int)⟩ ∧ Below w1.heap.size w1 wr) (fun _ _ _ _ i _ => 256 - (intOf i).toNat)
      case atStart => exact ⟨0, by omega, rfl, HDK.out, HB.out⟩
      case round =>
        obtain ⟨p, hp, rfl, hD, hbr⟩ := hrel
        have HD := Lib.hid hD
        have HBr := Lib.hid hbr
        have hzq := hbr.size
        have hdq := hD.lt
        have hgq := hD.fl.lt
        clear hD hbr HDK HFK HB
        by_cases hlt : p < 256
        · have hp0 : (0 : Int) ≤ p := by omega
          have hpp : (p : Int) < 256 := by omega
          have hxr := wantF_range ts K p
          obtain ⟨x, hxe⟩ : ∃ x, wantF ts K p = x := ⟨_, rfl⟩
          have HXE := Lib.hid hxe
          rw [hxe] at hxr
          clear hxe
          have hx256 : x < 256 := by omega
          have HRD := Lib.hid (read_in d g _ p hlt (by show 256 ≤ 65536; decide) (by show (0 : Int) ≤ (p : Int); omega) (by show (p : Int) < 1000000; omega) wr HD.out)
          have HCE : Hid (byts 64 (fun i => contF ts K (p * 64 + i)) = byts 64 (cell0 x)) := byts_congr fun i hi => by rw [contF_at ts K p i hi, HXE.out]
          go_wp2_with (refine wpList_yields _ (yields_index52 rfl (.tmp 68) (.tmp 69) rfl (wantF ts K) p hlt rfl rfl) ?_; rw [HXE.out])
          refine HRD.out.mono ?_
          rintro e w7 ⟨rfl, hD7, hk7⟩
          have HD7 : Hid (Dk w7 d g ⟨256, contF ts K, true, ((A - K : Nat) : Int), decide (A < ts.length), ((p + 1 : Nat) : Int), (K : Int)⟩) := by
            have : ((p : Int) + 1) = ((p + 1 : Nat) : Int) := by omega
            rw [← this]
            exact hD7
          have HB7 := Lib.hid (HBr.out.trans (hk7.below hd hg (by omega)))
          have h7z := hk7.size
          simp only
          rw [HCE.out]
          clear hD7 hk7 HRD HD HBr HCE
          go_wp2_with (first | (refine wpList_alloc_byts (w := w7) rfl 36 64 rfl Try.zero36 ?_; intro w8 F8 hb8 hz8; have HD8 := Lib.hid (HD7.out.keep hb8); have HB8 := Lib.hid (HB7.out.trans (hb8.mono (by omega))); clear hb8) | (refine wpList_store_blk rfl (.tmp 14) (.tmp 77) rfl w7.heap.size 0 64 (fun _ => 0) (cell0 x) F8.out (by omega) rfl rfl ?_; intro w9 F9 HK9))
          have hd7 := HD7.out.lt
          have hg7 := HD7.out.fl.lt
          have HR9 : Hid (Fl w9 w7.heap.size 64 (cell0 x)) := F9.out.congr fun j hj => by unfold upd; rw [if_pos (by omega), Nat.sub_zero]
          have HD9 := Lib.hid (HD8.out.kp HK9.out (by omega) (by omega) (by omega) (by omega))
          have HB9 := Lib.hid (HB8.out.trans (HK9.out.below (by omega) (by omega) (by omega)))
          have h9z : w7.heap.size < w9.heap.size := HR9.out.lt
          clear F8 F9 HK9 HD8 HB8 HD7 HB7
          refine wp_region_held (S := fun w' => Below w9.heap.size w9 w') (by kernel_rfl) ?_
          change wpAnyH _ _ _ _ _ _ _ _ (World.drew _)
          have hS0 : Below w9.heap.size w9 (World.drew w9) := (Below.refl _ _).drew
          have HLD : Hid (∀ W, Below w9.heap.size w9 W → W.rangeAt w7.heap.size 0 (byts 64 (cell0 x))) := fun W h => (HR9.out.below h h9z).range0
          by_cases hx0 : x = 0
          · subst hx0
            have HE36 : Hid (∀ W, (Op.equalIn 10000 36 (.agg (byts 64 (cell0 0)).toArray) (.agg (byts 64 fun _ => 0).toArray)).run Try.prog W = .ok true W) := fun W => by rw [eq36, eqb_same fun i _ => by simp [cell0]]
            refine wpAnyH_take (i := 0) (v := ?_) rfl (by kernel_rfl) (by kernel_rfl) (by kernel_rfl) (fun _ _ _ h => h) (Or.inl ⟨by rfl, ?_⟩) hS0 ?_
            rotate_left 1
            · intro W hW
              go_simp
              try with_reducible rfl
            simp only [Act.put, List.getElem_toArray, List.getElem_cons_zero, List.getElem_cons_succ, List.setIfInBounds_toArray, List.set_cons_zero, List.set_cons_succ]
            refine wpAnyH_take (i := 1) (v := ?_) rfl (by kernel_rfl) (by kernel_rfl) (by kernel_rfl) (fun _ _ _ h => h) (Or.inl ⟨by rfl, ?_⟩) hS0 ?_
            rotate_left 1
            · intro W hW
              go_simp
              try with_reducible rfl
            simp only [Act.put, List.getElem_toArray, List.getElem_cons_zero, List.getElem_cons_succ, List.setIfInBounds_toArray, List.set_cons_zero, List.set_cons_succ]
            refine wpAnyH_take (i := 2) (v := ?_) rfl (by kernel_rfl) (by kernel_rfl) (by kernel_rfl) (fun _ _ _ h => h) (Or.inl ⟨by rfl, ?_⟩) hS0 ?_
            rotate_left 1
            · intro W hW
              go_simp
              try with_reducible rfl
            simp only [Act.put, List.getElem_toArray, List.getElem_cons_zero, List.getElem_cons_succ, List.setIfInBounds_toArray, List.set_cons_zero, List.set_cons_succ]
            refine wpAnyH_take (i := 3) (v := .agg (byts 64 (cell0 0)).toArray) rfl (by kernel_rfl) (by kernel_rfl) (by kernel_rfl) (fun _ _ _ h => h) ?_ hS0 ?_
            · exact yieldsIf_load_mid (by rfl) 36 _ rfl w7.heap.size 0 rfl (byts 64 (cell0 0)) (.array 64 5) (fun W h => HLD.out W h) Try.arr36 rfl (size36 _)
            simp only [Act.put, List.getElem_toArray, List.getElem_cons_zero, List.getElem_cons_succ, List.setIfInBounds_toArray, List.set_cons_zero, List.set_cons_succ]
            refine wpAnyH_take (i := 4) (v := .agg (byts 64 fun _ => 0).toArray) rfl (by kernel_rfl) (by kernel_rfl) (by kernel_rfl) (fun _ _ _ h => h) ?_ hS0 ?_
            · exact yields_build0 (by rfl) rfl
            simp only [Act.put, List.getElem_toArray, List.getElem_cons_zero, List.getElem_cons_succ, List.setIfInBounds_toArray, List.set_cons_zero, List.set_cons_succ]
            refine wpAnyH_take (i := 5) (v := ?_) rfl (by kernel_rfl) (by kernel_rfl) (by kernel_rfl) (fun _ _ _ h => h) (Or.inl ⟨by rfl, ?_⟩) hS0 ?_
            rotate_left 1
            · intro W hW
              have e36 := HE36.out W
              go_simp
              try with_reducible rfl
            simp only [Act.put, List.getElem_toArray, List.getElem_cons_zero, List.getElem_cons_succ, List.setIfInBounds_toArray, List.set_cons_zero, List.set_cons_succ]
            refine wpAnyH_take (i := 6) (v := ?_) rfl (by kernel_rfl) (by kernel_rfl) (by kernel_rfl) (fun _ _ _ h => h) (Or.inl ⟨by rfl, ?_⟩) hS0 ?_
            rotate_left 1
            · intro W hW
              go_simp
              try with_reducible rfl
            simp only [Act.put, List.getElem_toArray, List.getElem_cons_zero, List.getElem_cons_succ, List.setIfInBounds_toArray, List.set_cons_zero, List.set_cons_succ]
            refine wpAnyH_take (i := 7) (v := ?_) rfl (by kernel_rfl) (by kernel_rfl) (by kernel_rfl) (fun _ _ _ h => h) (Or.inl ⟨by rfl, ?_⟩) hS0 ?_
            rotate_left 1
            · intro W hW
              go_simp
              try with_reducible rfl
            simp only [Act.put, List.getElem_toArray, List.getElem_cons_zero, List.getElem_cons_succ, List.setIfInBounds_toArray, List.set_cons_zero, List.set_cons_succ]
            refine wpAnyH_take (i := 8) (v := ?_) rfl (by kernel_rfl) (by kernel_rfl) (by kernel_rfl) (fun _ _ _ h => h) (Or.inl ⟨by rfl, ?_⟩) hS0 ?_
            rotate_left 1
            · intro W hW
              go_simp
              try with_reducible rfl
            simp only [Act.put, List.getElem_toArray, List.getElem_cons_zero, List.getElem_cons_succ, List.setIfInBounds_toArray, List.set_cons_zero, List.set_cons_succ]
            refine wpAnyH_take (i := 9) (v := ?_) rfl (by kernel_rfl) (by kernel_rfl) (by kernel_rfl) (fun _ _ _ h => h) (Or.inl ⟨by rfl, ?_⟩) hS0 ?_
            rotate_left 1
            · intro W hW
              go_simp
              try with_reducible rfl
            simp only [Act.put, List.getElem_toArray, List.getElem_cons_zero, List.getElem_cons_succ, List.setIfInBounds_toArray, List.set_cons_zero, List.set_cons_succ]
            refine wpAnyH_take (i := 10) (v := ?_) rfl (by kernel_rfl) (by kernel_rfl) (by kernel_rfl) (fun _ _ _ h => h) (Or.inl ⟨by rfl, ?_⟩) hS0 ?_
            rotate_left 1
            · intro W hW
              go_simp
              try with_reducible rfl
            simp only [Act.put, List.getElem_toArray, List.getElem_cons_zero, List.getElem_cons_succ, List.setIfInBounds_toArray, List.set_cons_zero, List.set_cons_succ]
            refine wpAnyH_take (i := 11) (v := undef) rfl (by kernel_rfl) (by kernel_rfl) (by kernel_rfl) (fun _ _ _ h => h) (Or.inr ⟨by rfl, rfl⟩) hS0 ?_
            simp only [Act.put, List.getElem_toArray, List.getElem_cons_zero, List.getElem_cons_succ, List.setIfInBounds_toArray, List.set_cons_zero, List.set_cons_succ]
            refine wpAnyH_take (i := 12) (v := undef) rfl (by kernel_rfl) (by kernel_rfl) (by kernel_rfl) (fun _ _ _ h => h) (Or.inr ⟨by rfl, rfl⟩) hS0 ?_
            simp only [Act.put, List.getElem_toArray, List.getElem_cons_zero, List.getElem_cons_succ, List.setIfInBounds_toArray, List.set_cons_zero, List.set_cons_succ]
            refine wpAnyH_take (i := 13) (v := undef) rfl (by kernel_rfl) (by kernel_rfl) (by kernel_rfl) (fun _ _ _ h => h) (Or.inr ⟨by rfl, rfl⟩) hS0 ?_
            simp only [Act.put, List.getElem_toArray, List.getElem_cons_zero, List.getElem_cons_succ, List.setIfInBounds_toArray, List.set_cons_zero, List.set_cons_succ]
            refine wpAnyH_take (i := 14) (v := undef) rfl (by kernel_rfl) (by kernel_rfl) (by kernel_rfl) (fun _ _ _ h => h) (Or.inr ⟨by rfl, rfl⟩) hS0 ?_
            simp only [Act.put, List.getElem_toArray, List.getElem_cons_zero, List.getElem_cons_succ, List.setIfInBounds_toArray, List.set_cons_zero, List.set_cons_succ]
            refine wpAnyH_take (i := 15) (v := ?_) rfl (by kernel_rfl) (by kernel_rfl) (by kernel_rfl) (fun _ _ _ h => h) (Or.inl ⟨by rfl, ?_⟩) hS0 ?_
            rotate_left 1
            · intro W hW
              go_simp
              try with_reducible rfl
            simp only [Act.put, List.getElem_toArray, List.getElem_cons_zero, List.getElem_cons_succ, List.setIfInBounds_toArray, List.set_cons_zero, List.set_cons_succ]
            refine wpAnyH_take (i := 16) (v := ?_) rfl (by kernel_rfl) (by kernel_rfl) (by kernel_rfl) (fun _ _ _ h => h) (Or.inl ⟨by rfl, ?_⟩) hS0 ?_
            rotate_left 1
            · intro W hW
              go_simp
              try with_reducible rfl
            simp only [Act.put, List.getElem_toArray, List.getElem_cons_zero, List.getElem_cons_succ, List.setIfInBounds_toArray, List.set_cons_zero, List.set_cons_succ]
            refine wpAnyH_done (by kernel_rfl) ?_ _
            clear hS0
            go_wp2
            go_roundw
            case rel => exact ⟨p + 1, by omega, by go_num, HD9.out.keep (Below.refl _ _).drew, HB9.out.drew⟩
            case measure => simp [intOf]; omega
          · have hxp : 0 < x := by omega
            have hxn : ¬ (x = 0) := hx0
            have hxb : (x == 0) = false := by simpa using hx0
            have HE36 : Hid (∀ W, (Op.equalIn 10000 36 (.agg (byts 64 (cell0 x)).toArray) (.agg (byts 64 (blk x)).toArray)).run Try.prog W = .ok true W) := fun W => by rw [eq36, eqb_same fun i _ => by simp [cell0, hx0]]
            refine wpAnyH_take (i := 0) (v := ?_) rfl (by kernel_rfl) (by kernel_rfl) (by kernel_rfl) (fun _ _ _ h => h) (Or.inl ⟨by rfl, ?_⟩) hS0 ?_
            rotate_left 1
            · intro W hW
              go_simp
              try with_reducible rfl
            simp only [Act.put, List.getElem_toArray, List.getElem_cons_zero, List.getElem_cons_succ, List.setIfInBounds_toArray, List.set_cons_zero, List.set_cons_succ]
            refine wpAnyH_take (i := 1) (v := ?_) rfl (by kernel_rfl) (by kernel_rfl) (by kernel_rfl) (fun _ _ _ h => h) (Or.inl ⟨by rfl, ?_⟩) hS0 ?_
            rotate_left 1
            · intro W hW
              go_simp
              try with_reducible rfl
            simp only [Act.put, List.getElem_toArray, List.getElem_cons_zero, List.getElem_cons_succ, List.setIfInBounds_toArray, List.set_cons_zero, List.set_cons_succ]
            refine wpAnyH_take (i := 2) (v := ?_) rfl (by kernel_rfl) (by kernel_rfl) (by kernel_rfl) (fun _ _ _ h => h) (Or.inl ⟨by rfl, ?_⟩) hS0 ?_
            rotate_left 1
            · intro W hW
              go_simp
              try with_reducible rfl
            simp only [Act.put, List.getElem_toArray, List.getElem_cons_zero, List.getElem_cons_succ, List.setIfInBounds_toArray, List.set_cons_zero, List.set_cons_succ]
            refine wpAnyH_take (i := 3) (v := undef) rfl (by kernel_rfl) (by kernel_rfl) (by kernel_rfl) (fun _ _ _ h => h) (Or.inr ⟨by rfl, rfl⟩) hS0 ?_
            simp only [Act.put, List.getElem_toArray, List.getElem_cons_zero, List.getElem_cons_succ, List.setIfInBounds_toArray, List.set_cons_zero, List.set_cons_succ]
            refine wpAnyH_take (i := 4) (v := undef) rfl (by kernel_rfl) (by kernel_rfl) (by kernel_rfl) (fun _ _ _ h => h) (Or.inr ⟨by rfl, rfl⟩) hS0 ?_
            simp only [Act.put, List.getElem_toArray, List.getElem_cons_zero, List.getElem_cons_succ, List.setIfInBounds_toArray, List.set_cons_zero, List.set_cons_succ]
            refine wpAnyH_take (i := 5) (v := undef) rfl (by kernel_rfl) (by kernel_rfl) (by kernel_rfl) (fun _ _ _ h => h) (Or.inr ⟨by rfl, rfl⟩) hS0 ?_
            simp only [Act.put, List.getElem_toArray, List.getElem_cons_zero, List.getElem_cons_succ, List.setIfInBounds_toArray, List.set_cons_zero, List.set_cons_succ]
            refine wpAnyH_take (i := 6) (v := ?_) rfl (by kernel_rfl) (by kernel_rfl) (by kernel_rfl) (fun _ _ _ h => h) (Or.inl ⟨by rfl, ?_⟩) hS0 ?_
            rotate_left 1
            · intro W hW
              go_simp
              try with_reducible rfl
            simp only [Act.put, List.getElem_toArray, List.getElem_cons_zero, List.getElem_cons_succ, List.setIfInBounds_toArray, List.set_cons_zero, List.set_cons_succ]
            refine wpAnyH_take (i := 7) (v := ?_) rfl (by kernel_rfl) (by kernel_rfl) (by kernel_rfl) (fun _ _ _ h => h) (Or.inl ⟨by rfl, ?_⟩) hS0 ?_
            rotate_left 1
            · intro W hW
              go_simp
              try with_reducible rfl
            simp only [Act.put, List.getElem_toArray, List.getElem_cons_zero, List.getElem_cons_succ, List.setIfInBounds_toArray, List.set_cons_zero, List.set_cons_succ]
            refine wpAnyH_take (i := 8) (v := ?_) rfl (by kernel_rfl) (by kernel_rfl) (by kernel_rfl) (fun _ _ _ h => h) (Or.inl ⟨by rfl, ?_⟩) hS0 ?_
            rotate_left 1
            · intro W hW
              go_simp
              try with_reducible rfl
            simp only [Act.put, List.getElem_toArray, List.getElem_cons_zero, List.getElem_cons_succ, List.setIfInBounds_toArray, List.set_cons_zero, List.set_cons_succ]
            refine wpAnyH_take (i := 9) (v := ?_) rfl (by kernel_rfl) (by kernel_rfl) (by kernel_rfl) (fun _ _ _ h => h) (Or.inl ⟨by rfl, ?_⟩) hS0 ?_
            rotate_left 1
            · intro W hW
              go_simp
              try with_reducible rfl
            simp only [Act.put, List.getElem_toArray, List.getElem_cons_zero, List.getElem_cons_succ, List.setIfInBounds_toArray, List.set_cons_zero, List.set_cons_succ]
            refine wpAnyH_take (i := 10) (v := ?_) rfl (by kernel_rfl) (by kernel_rfl) (by kernel_rfl) (fun _ _ _ h => h) (Or.inl ⟨by rfl, ?_⟩) hS0 ?_
            rotate_left 1
            · intro W hW
              go_simp
              try with_reducible rfl
            simp only [Act.put, List.getElem_toArray, List.getElem_cons_zero, List.getElem_cons_succ, List.setIfInBounds_toArray, List.set_cons_zero, List.set_cons_succ]
            refine wpAnyH_take (i := 11) (v := .agg (byts 64 (cell0 x)).toArray) rfl (by kernel_rfl) (by kernel_rfl) (by kernel_rfl) (fun _ _ _ h => h) ?_ hS0 ?_
            · exact yieldsIf_load_mid (by rfl) 36 _ rfl w7.heap.size 0 rfl (byts 64 (cell0 x)) (.array 64 5) (fun W h => HLD.out W h) Try.arr36 rfl (size36 _)
            simp only [Act.put, List.getElem_toArray, List.getElem_cons_zero, List.getElem_cons_succ, List.setIfInBounds_toArray, List.set_cons_zero, List.set_cons_succ]
            refine wpAnyH_take (i := 12) (v := ?_) rfl (by kernel_rfl) (by kernel_rfl) (by kernel_rfl) (fun _ _ _ h => h) (Or.inl ⟨by rfl, ?_⟩) hS0 ?_
            rotate_left 1
            · intro W hW
              go_simp
              try with_reducible rfl
            simp only [Act.put, List.getElem_toArray, List.getElem_cons_zero, List.getElem_cons_succ, List.setIfInBounds_toArray, List.set_cons_zero, List.set_cons_succ]
            clear hS0
            refine wpAnyH_ready (rs := [13]) (by kernel_rfl) (by simp) (AllReadyH.cons rfl (fun KK hKK => ?_) AllReadyH.nil)
            go_simp
            refine (block_any x (by omega) hx256 _).mono ?_
            rintro e w10 ⟨rfl, hb10⟩
            have hS0 : Below w9.heap.size w9 w10 := ((Below.refl w9.heap.size w9).drew).trans hb10
            refine hKK _ _ hS0 ?_
            intro _
            clear hKK KK hb10
            refine wpAnyH_take (i := 14) (v := ?_) rfl (by kernel_rfl) (by kernel_rfl) (by kernel_rfl) (fun _ _ _ h => h) (Or.inl ⟨by rfl, ?_⟩) hS0 ?_
            rotate_left 1
            · intro W hW
              have e36 := HE36.out W
              go_simp
              try with_reducible rfl
            simp only [Act.put, List.getElem_toArray, List.getElem_cons_zero, List.getElem_cons_succ, List.setIfInBounds_toArray, List.set_cons_zero, List.set_cons_succ]
            refine wpAnyH_take (i := 15) (v := ?_) rfl (by kernel_rfl) (by kernel_rfl) (by kernel_rfl) (fun _ _ _ h => h) (Or.inl ⟨by rfl, ?_⟩) hS0 ?_
            rotate_left 1
            · intro W hW
              go_simp
              try with_reducible rfl
            simp only [Act.put, List.getElem_toArray, List.getElem_cons_zero, List.getElem_cons_succ, List.setIfInBounds_toArray, List.set_cons_zero, List.set_cons_succ]
            refine wpAnyH_take (i := 16) (v := ?_) rfl (by kernel_rfl) (by kernel_rfl) (by kernel_rfl) (fun _ _ _ h => h) (Or.inl ⟨by rfl, ?_⟩) hS0 ?_
            rotate_left 1
            · intro W hW
              go_simp
              try with_reducible rfl
            simp only [Act.put, List.getElem_toArray, List.getElem_cons_zero, List.getElem_cons_succ, List.setIfInBounds_toArray, List.set_cons_zero, List.set_cons_succ]
            refine wpAnyH_done (by kernel_rfl) ?_ _
            have HS1 := Lib.hid hS0
            clear hS0
            go_wp2
            go_roundw
            case rel => exact ⟨p + 1, by omega, by go_num, HD9.out.keep HS1.out, HB9.out.trans (HS1.out.mono (by omega))⟩
            case measure => simp [intOf]; omega
        · obtain rfl : p = 256 := by omega
          go_wp2_with fail
          refine (dead_any d g _ wr HD.out).mono ?_
          rintro e w7 ⟨rfl, rfl⟩
          simp only
          go_wp2
          go_ret
          exact ⟨rfl, HB1.out.trans (HBr.out.mono HB1.out.size)⟩
end Go.Proofs.Yticmdeioebbgaaa
