import Derived.Test.YtlpbhijfdeceoaaM1
import Derived.Test.YtlpbhijfdeceoaaZs
import Derived.Deep.CutBlock
import Derived.Deep.DeepCutAuto
/- BitsFill: the walk. -/
namespace Go.Proofs.Ytlpbhijfdeceoaa
set_option linter.unusedSimpArgs false
set_option linter.unusedVariables false
open Go.RowKit Go.Maps


theorem yields_look_sp' {ops : Array Oper} {o : Oper} {a : Act} {S : World → Prop} (hw : Region.wanted o (yielded ops a.tmps) = true) (x y : Operand) (ho : o.op = .lookup 46 x y false) (m : Nat) (T : TS) (hS : ∀ W, S W → Sp W m T) (hx : a.eval x = .map (some m)) (k : Int) (hy : a.eval y = .int .i64 k) (h0 : -9223372036854775808 ≤ k) (h1 : k < 9223372036854775808) (c : Bool) (hc : (find T k).isSome = c) : YieldsIf Try.prog ops S o (.bool c) a :=
  .inl ⟨hw, fun w h => by
    have hrun := (hS w h).look1 k h0 h1
    rw [hc] at hrun
    unfold execOp
    simp [ho, hx, hy, hrun, Result.andThen]⟩
theorem yields_len_sp {ops : Array Oper} {o : Oper} {a : Act} {S : World → Prop} (hw : Region.wanted o (yielded ops a.tmps) = true) (x : Operand) (ho : o.op = .call { callee := .builtin .len, args := #[x], argTypes := #[46] }) (m : Nat) (T : TS) (hS : ∀ W, S W → Sp W m T) (hx : a.eval x = .map (some m)) (n : Nat) (hn : T.length = n) : YieldsIf Try.prog ops S o (.int .i64 n) a :=
  .inl ⟨hw, fun w h => by
    have hrun := (hS w h).len o.type
    rw [hn] at hrun
    unfold execOp
    simp [ho, resolve, invoke, builtin, hx, hrun, Result.andThen]⟩
theorem all_len : ∀ {S : TS} {lo c : Nat}, Rise S → In S lo c → (∀ j, lo ≤ j → j < lo + c → mem S j = true) → S.length = c
  | [], lo, c, _, _, ha => by
    cases c with
    | zero => rfl
    | succ c => have := ha lo (Nat.le_refl _) (by omega); cases this
  | p :: r, lo, c, hr, hi, ha => by
    obtain ⟨h1, h2⟩ := List.pairwise_cons.1 hr
    obtain ⟨h3, h4⟩ := hi p (by simp)
    have hp : p.1 = lo := by
      have h5 := ha lo (Nat.le_refl _) (by omega)
      unfold mem at h5
      rw [find_cons] at h5
      by_cases e : (p.1 : Int) = lo
      · omega
      · rw [if_neg e] at h5
        obtain ⟨f, hf⟩ := Option.isSome_iff_exists.1 h5
        obtain ⟨q, hq, hqe, _⟩ := find_mem hf
        have := h1 q hq
        omega
    have := all_len (S := r) (lo := lo + 1) (c := c - 1) h2 (fun q hq => by
      have := h1 q hq
      have := (hi q (by simp [hq])).2
      omega) (fun j hj1 hj2 => by
      have h5 := ha j (by omega) (by omega)
      unfold mem at h5 ⊢
      rw [find_cons, if_neg (by omega)] at h5
      exact h5)
    rw [List.length_cons, this]
    omega
theorem setL_all {b : Nat → Bool} {n : Nat} (h : ∀ j, j < n → b j = true) : (setL b n).length = n := by
  rw [setL_congr (b' := fun _ => true) h]
  unfold setL
  rw [List.filter_eq_self.2 (fun _ _ => rfl), List.length_range]
set_option maxHeartbeats 80000000 in
set_option maxRecDepth 200000 in
theorem fill_walk (n : Int) (h0 : 0 ≤ n) (h1 : n < 65536) (va : Value) (xs : List Int) (hxr : ∀ z ∈ xs, 0 ≤ z ∧ z < 65536) (w : World) (hxs : Zs w .u16 va xs) :
    Calls Try.prog 5 #[.int .u16 n, va] w fun e w' => e = .returned (.bool true) ∧ Below w.heap.size w w' := by
  have HA := Lib.hid (awake_any w)
  obtain ⟨N, hN⟩ := Int.eq_ofNat_of_zero_le (show 0 ≤ n % 600 by omega)
  have hN7 : N < 600 := by omega
  have hN2 : (0 : Int) ≤ N := by omega
  have hN3 : (N : Int) < 600 := by omega
  have HNN : Hid (n % 600 = (N : Int)) := hN
  have HV := Lib.hid hxs
  have HXR := Lib.hid hxr
  obtain ⟨ax, cx, rfl, hxm⟩ := hxs.form
  unfold maxLen at hxm
  clear hN hxs hxr
  go_enter Try.func5, Try.ntmps5
  go_wp2_with fail
  refine HA.out.mono ?_
  rintro e w0 ⟨rfl, hb⟩
  have HB0 := Lib.hid hb
  clear HA hb
  have hNN := HNN.out
  go_wp2_with fail
  clear hNN
  refine (begun_any w0).mono ?_
  rintro e w1 ⟨t, m, d, g, rfl, hFr, hR, hb⟩
  have HR1 := Lib.hid hR
  have HB1 := Lib.hid (HB0.out.trans (hb.mono HB0.out.size))
  have HFr := Lib.hid (show From w.heap.size t m d g from ⟨Nat.le_trans HB0.out.size hFr.1, Nat.le_trans HB0.out.size hFr.2.1, Nat.le_trans HB0.out.size hFr.2.2.1, Nat.le_trans HB0.out.size hFr.2.2.2⟩)
  clear hR hb hFr HB0
  go_wp2_with fail
  refine (new5 t 33 N (by decide) (by omega) w1).mono ?_
  rintro e w2 ⟨p, rfl, hp, hM, hb⟩
  have HM2 := Lib.hid hM
  have HPn := Lib.hid (HR1.out.notin hp)
  have HR2 := Lib.hid (HR1.out.keep hb)
  have HB2 := Lib.hid (HB1.out.trans (hb.mono HB1.out.size))
  clear hM hb HR1 HB1 hp
  have hmk := @run_makeMap Try.prog
  go_wp2_with fail
  clear hmk
  have hb3 : Below w2.heap.size w2 (w2.alloc (.map #[] 0)) := (Below.refl _ _).alloc (Nat.le_refl _) _
  have HS3 := Lib.hid (Sp.new w2)
  have HM3 := Lib.hid (HM2.out.keep hb3)
  have HR3 := Lib.hid (HR2.out.keep hb3)
  have HB3 := Lib.hid (HB2.out.trans (hb3.mono HB2.out.size))
  have HMn := Lib.hid (HR2.out.notin (p := w2.heap.size) (Nat.le_refl _))
  have hmm : w.heap.size ≤ w2.heap.size := HB2.out.size
  have hpm := HM2.out.lt
  obtain ⟨w3, hw3⟩ : ∃ x, w2.alloc (.map #[] 0) = x := ⟨_, rfl⟩
  obtain ⟨mm, hmq⟩ : ∃ b, w2.heap.size = b := ⟨_, rfl⟩
  rw [hw3] at HS3 HM3 HR3 HB3 ⊢
  rw [hmq] at HS3 HMn hmm hpm ⊢
  clear hw3 hb3 hmq HR2 HB2 HM2
  go_loopw [11, 12, 37] (fun _ _ i wr => ∃ k : Nat, k ≤ xs.length ∧ i = .int .i64 k ∧ Mb wr p t 33 N ∧ (∃ T S, Rd wr t m d g T (min k 20) ∧ In T 33 2 ∧ Sp wr mm S ∧ In S 0 N ∧ ∀ j, j < N → bt T 33 j = mem S j) ∧ Below w.heap.size w wr) (fun _ _ i _ => xs.length - (Go.RowKit.intOf i).toNat)
  case atStart => exact ⟨0, by omega, rfl, HM3.out, ⟨[], [], HR3.out, (fun p hp => by cases hp), HS3.out, (fun p hp => by cases hp), fun j hj => bt_nil 33 j (by omega)⟩, HB3.out⟩
  case round =>
    obtain ⟨k, hk, rfl, hM, ⟨T, S, hR, hIn, hS, hSi, hBt⟩, hB⟩ := hrel
    have HM := Lib.hid hM
    have HR := Lib.hid hR
    have HIn := Lib.hid hIn
    have HSi := Lib.hid hSi
    have HBt := Lib.hid hBt
    have HS := Lib.hid hS
    have HB := Lib.hid hB
    clear hM hR hIn hSi hBt hS hB HM3 HR3 HS3 HB3
    have hk0 : (0 : Int) ≤ k := by omega
    obtain ⟨wX, rfl⟩ : ∃ x, x = wr := ⟨wr, rfl⟩
    by_cases hlt : k < xs.length
    · have hlti : (k : Int) < xs.length := by omega
      obtain ⟨b1, o1, hax, hb1, hc1⟩ := (HV.out.below HB.out).at k hlt
      subst hax
      obtain ⟨hx0, hx1⟩ := HXR.out xs[k] (List.getElem_mem hlt)
      generalize xs[k] = x at hc1 hx0 hx1
      obtain ⟨A, rfl⟩ := Int.eq_ofNat_of_zero_le hx0
      by_cases h20 : k < 20
      · have h20i : (k : Int) < 20 := by omega
        by_cases hAN : A < N
        · have hANi : (A : Int) < N := by omega
          have hT29 : T.length < 30 := by have := In.len HR.out.tx.mp.2 HIn.out; omega
          have hS6 : S.length ≤ N := In.len HS.out.2 HSi.out
          have HSet : Hid (∀ W, Mb W p t 33 N → Rd W t m d g T (min k 20) → Calls Try.prog 11 #[.pointer (some ⟨p, 0, none⟩), .int .i64 A, .bool true] W fun e w' => e = .returned (.int .i64 0) ∧ Rd w' t m d g (setT T (33 + A / 512) A true) (min k 20 + 1) ∧ Kf W w' [t, m, d, g]) := fun W h1 h2 =>
            set_any p t m d g 33 N (min k 20) A T true (by omega) (by omega) hAN (by omega) (by omega) hT29 (by omega) W h1 h2 HPn.out
          have HIn2 := Lib.hid (HIn.out.set (33 + A / 512) A true (by omega) (by omega))
          have HSi2 : Hid (In (put A (fun _ => 0) S) 0 N) := fun q hq => by
            rcases mem_put _ _ _ _ hq with rfl | hq
            · exact ⟨Nat.zero_le _, by show A < 0 + N; omega⟩
            · exact HSi.out q hq
          have HBt2 : Hid (∀ j, j < N → bt (setT T (33 + A / 512) A true) 33 j = mem (put A (fun _ => 0) S) j) := fun j hj => by
            rw [bt_set HR.out.tb 33 A j true, mem_put']
            by_cases e : A = j
            · rw [if_pos e, decide_eq_true e]; rfl
            · rw [if_neg e, decide_eq_false e, HBt.out j hj]; rfl
          obtain ⟨T2, hT2⟩ : ∃ T2, setT T (33 + A / 512) A true = T2 := ⟨_, rfl⟩
          rw [hT2] at HSet HIn2 HBt2
          clear hT2 HIn HBt HSi
          go_wp2_with fail
          refine (HSet.out wX HM.out HR.out).mono ?_
          rintro e w5 ⟨rfl, hR, hk5⟩
          have HR5 := Lib.hid hR
          have HM5 := Lib.hid (HM.out.kf hk5 HPn.out)
          have HS5 := Lib.hid (HS.out.kf hk5 HMn.out)
          have HB5 := Lib.hid (hk5.after HB.out HFr.out)
          clear hR hk5 HSet HR HM HS HB
          go_wp2_with (at_mapUpdate; refine wpList_put_sp rfl _ _ _ rfl mm S HS5.out rfl A rfl rfl (by omega) (by omega) ?_; intro w6 HS6 HK6)
          have HR6 := Lib.hid (HR5.out.kp HK6.out HMn.out HMn.out)
          have HM6 := Lib.hid (HM5.out.kp HK6.out (by omega))
          have HB6 := Lib.hid (HB5.out.trans (HK6.out.below hmm hmm HB5.out.size))
          clear HR5 HM5 HS5 HB5 HK6
          go_roundw
          case rel => exact ⟨k + 1, by omega, by go_num, HM6.out, ⟨_, _, HR6.out.mono (by omega), HIn2.out, HS6.out, HSi2.out, HBt2.out⟩, HB6.out⟩
          case measure => simp [Go.RowKit.intOf]; omega
        · have hANi : ¬ ((A : Int) < N) := by omega
          go_wp2_with fail
          go_roundw
          case rel => exact ⟨k + 1, by omega, by go_num, HM.out, ⟨_, _, HR.out.mono (by omega), HIn.out, HS.out, HSi.out, HBt.out⟩, HB.out⟩
          case measure => simp [Go.RowKit.intOf]; omega
      · have h20i : ¬ ((k : Int) < 20) := by omega
        go_wp2_with fail
        go_roundw
        case rel => exact ⟨k + 1, by omega, by go_num, HM.out, ⟨_, _, HR.out.mono (by omega), HIn.out, HS.out, HSi.out, HBt.out⟩, HB.out⟩
        case measure => simp [Go.RowKit.intOf]; omega
    · have hlti : ¬ ((k : Int) < xs.length) := by omega
      have HR0 := Lib.hid (HR.out.mono (show min k 20 ≤ 20 by omega))
      clear HR
      go_wp2_with fail
      go_loopw [13, 14, 15, 16] (fun v _ _ _ wr => ∃ (la : Int) (c : Nat), v = .int .i64 la ∧ -1 ≤ la ∧ la < N ∧ (c : Int) ≤ la + 1 ∧ Mb wr p t 33 N ∧ (∃ T S, Rd wr t m d g T (20 + 201 * c) ∧ In T 33 2 ∧ Sp wr mm S ∧ In S 0 N ∧ (∀ j, j < N → bt T 33 j = mem S j) ∧ ∀ j : Nat, (j : Int) ≤ la → mem S j = true) ∧ Below w.heap.size w wr) (fun v _ _ _ _ => ((N : Int) - Go.RowKit.intOf v).toNat)
      case atStart => exact ⟨-1, 0, rfl, by decide, by omega, by decide, HM.out, ⟨T, S, HR0.out, HIn.out, HS.out, HSi.out, HBt.out, fun j hj => by omega⟩, HB.out⟩
      case round =>
        obtain ⟨la, c, rfl, hla0, hla1, hcla, hM, ⟨T, S, hR, hIn, hS, hSi, hBt, hAll⟩, hB⟩ := hrel
        have HMX := Lib.hid hM
        have HRX := Lib.hid hR
        have HInX := Lib.hid hIn
        have HSiX := Lib.hid hSi
        have HBtX := Lib.hid hBt
        have HSX := Lib.hid hS
        have HBX := Lib.hid hB
        have HAll := Lib.hid hAll
        clear hM hR hIn hSi hBt hS hB hAll HM HR0 HIn HSi HBt HS HB
        obtain ⟨wY, rfl⟩ : ∃ x, x = wr := ⟨wr, rfl⟩
        have hc600 : c ≤ 600 := by omega
        have HFe := Lib.hid (free_any p t m d g 33 N (20 + 201 * c) T (by decide) (by omega) (fun i hi => by omega) (by omega) wY HMX.out HRX.out HPn.out)
        go_wp2_with fail
        refine HFe.out.mono ?_
        rintro e w5 ⟨v, rfl, hF, hR, hk5⟩
        have HR5 := Lib.hid hR
        have HM5 := Lib.hid (HMX.out.kf hk5 HPn.out)
        have HS5 := Lib.hid (HSX.out.kf hk5 HMn.out)
        have HB5 := Lib.hid (hk5.after HBX.out HFr.out)
        have HF := Lib.hid hF
        clear hR hk5 hF HFe HRX HMX HSX HBX
        rcases HF.out with ⟨hv, hall⟩ | ⟨i, hi, hv, hbi, hpre⟩
        · subst hv
          have HLen : Hid (S.length = N) := all_len HS5.out.2 HSiX.out (fun j _ hj => by rw [← HBtX.out j (by omega)]; exact hall j (by omega))
          have HCo : Hid (Calls Try.prog 15 #[.pointer (some ⟨p, 0, none⟩)] w5 fun e w' => e = .returned (.tuple #[.int .i64 N, .int .i64 0]) ∧ Kf w5 w' [t, m, d, g]) := by
            have h := count_any p t m d g 33 N (20 + 201 * c + 200) T (by decide) (by omega) (fun i hi => by omega) (by omega) w5 HM5.out HR5.out HPn.out
            rw [setL_all hall] at h
            exact h.mono fun e w' ⟨h1, h2, h3⟩ => ⟨h1, h3⟩
          clear hall HF
          go_wp2_with fail
          refine HCo.out.mono ?_
          rintro e w6 ⟨rfl, hk6⟩
          have HS6 := Lib.hid (HS5.out.kf hk6 HMn.out)
          have HB6 := Lib.hid (hk6.after HB5.out HFr.out)
          clear hk6 HCo HS5 HB5
          go_wp2_with (at_len; refine wpList_yields _ (yields_len_sp (S := fun W => W = w6) (by rfl) (.tmp 112) rfl mm S (fun W hW => (by rw [hW]; exact HS6.out)) rfl N HLen.out) ?_)
          go_ret
          exact ⟨rfl, HB6.out⟩
        · subst hv
          have hi0 : (0 : Int) ≤ i := by omega
          have hiN : (i : Int) < N := by omega
          have hmi : mem S i = false := by rw [← HBtX.out i hi]; exact hbi
          have hlai : la < i := Int.lt_of_not_ge fun hh => by
            have := HAll.out i hh
            rw [hmi] at this
            cases this
          have HMi : Hid ((find S (i : Int)).isSome = false) := hmi
          have HPre : Hid (∀ j : Nat, j < i → mem S j = true) := fun j hj => by rw [← HBtX.out j (by omega)]; exact hpre j hj
          have hT29 : T.length < 30 := by have := In.len HR5.out.tx.mp.2 HInX.out; omega
          have hS6 : S.length ≤ N := In.len HS5.out.2 HSiX.out
          have HSet : Hid (∀ W, Mb W p t 33 N → Rd W t m d g T (20 + 201 * c + 200) → Calls Try.prog 11 #[.pointer (some ⟨p, 0, none⟩), .int .i64 i, .bool true] W fun e w' => e = .returned (.int .i64 0) ∧ Rd w' t m d g (setT T (33 + i / 512) i true) (20 + 201 * c + 200 + 1) ∧ Kf W w' [t, m, d, g]) := fun W h1 h2 =>
            set_any p t m d g 33 N (20 + 201 * c + 200) i T true (by omega) (by omega) hi (by omega) (by omega) hT29 (by omega) W h1 h2 HPn.out
          have HIn2 := Lib.hid (HInX.out.set (33 + i / 512) i true (by omega) (by omega))
          have HSi2 : Hid (In (put i (fun _ => 0) S) 0 N) := fun q hq => by
            rcases mem_put _ _ _ _ hq with rfl | hq
            · exact ⟨Nat.zero_le _, by show i < 0 + N; omega⟩
            · exact HSiX.out q hq
          have HBt2 : Hid (∀ j, j < N → bt (setT T (33 + i / 512) i true) 33 j = mem (put i (fun _ => 0) S) j) := fun j hj => by
            rw [bt_set HR5.out.tb 33 i j true, mem_put']
            by_cases e : i = j
            · rw [if_pos e, decide_eq_true e]; rfl
            · rw [if_neg e, decide_eq_false e, HBtX.out j hj]; rfl
          have HAll2 : Hid (∀ j : Nat, (j : Int) ≤ (i : Int) → mem (put i (fun _ => 0) S) j = true) := fun j hj => by
            rw [mem_put']
            by_cases e : i = j
            · rw [decide_eq_true e]; rfl
            · rw [HPre.out j (by omega)]; simp
          obtain ⟨T2, hT2⟩ : ∃ T2, setT T (33 + i / 512) i true = T2 := ⟨_, rfl⟩
          rw [hT2] at HSet HIn2 HBt2
          clear hT2 HInX HBtX HSiX HF hbi hpre hmi HAll
          have hnle : ¬ ((i : Int) ≤ la) := by omega
          have hnle2 : decide ((i : Int) ≤ la) = false := decide_eq_false hnle
          go_wp2_with (at_lookup; refine wpList_yields _ (yields_look_sp' (S := fun W => W = w5) (by rfl) (.tmp 71) (.tmp 72) rfl mm S (fun W hW => (by rw [hW]; exact HS5.out)) rfl i rfl (by omega) (by omega) false HMi.out) ?_)
          refine (HSet.out w5 HM5.out HR5.out).mono ?_
          rintro e w6 ⟨rfl, hR, hk6⟩
          have HR6 := Lib.hid hR
          have HM6 := Lib.hid (HM5.out.kf hk6 HPn.out)
          have HS6 := Lib.hid (HS5.out.kf hk6 HMn.out)
          have HB6 := Lib.hid (hk6.after HB5.out HFr.out)
          clear hR hk6 HSet HR5 HM5 HS5 HB5
          go_wp2_with fail
          go_loopw [16] (fun v wr => ∃ kk : Int, v = .int .i64 kk ∧ la + 1 ≤ kk ∧ kk ≤ i ∧ wr = w6) (fun v _ => ((i : Int) - Go.RowKit.intOf v).toNat)
          case atStart => exact ⟨la + 1, rfl, by omega, by omega, rfl⟩
          case round =>
            obtain ⟨kk, rfl, hkk0, hkk1, hwr⟩ := hrel
            subst hwr
            by_cases hki : kk < i
            · obtain ⟨j, rfl⟩ := Int.eq_ofNat_of_zero_le (show 0 ≤ kk by omega)
              have HMj : Hid ((find S (j : Int)).isSome = true) := HPre.out j (by omega)
              go_wp2_with (at_lookup; refine wpList_yields _ (yields_look_sp' (S := fun W => W = wr) (by rfl) (.tmp 88) (.tmp 89) rfl mm S (fun W hW => (by rw [hW]; exact HS6.out)) rfl j rfl (by omega) (by omega) true HMj.out) ?_)
              go_roundw
              case rel => exact ⟨(j : Int) + 1, by go_num, by omega, by omega, trivial⟩
              case measure => simp [Go.RowKit.intOf]; omega
            · have hki' : ¬ (kk < (i : Int)) := hki
              go_wp2_with (at_mapUpdate; refine wpList_put_sp rfl _ _ _ rfl mm S HS6.out rfl i rfl rfl (by omega) (by omega) ?_; intro w7 HS7 HK7)
              have HR7 := Lib.hid (HR6.out.kp HK7.out HMn.out HMn.out)
              have HM7 := Lib.hid (HM6.out.kp HK7.out (by omega))
              have HB7 := Lib.hid (HB6.out.trans (HK7.out.below hmm hmm HB6.out.size))
              clear HR6 HM6 HS6 HB6 HK7
              go_roundw
              case rel => exact ⟨(i : Int), c + 1, rfl, by omega, by omega, by omega, HM7.out, ⟨_, _, HR7.out.mono (by omega), HIn2.out, HS7.out, HSi2.out, HBt2.out, HAll2.out⟩, HB7.out⟩
              case measure => simp [Go.RowKit.intOf]; omega
end Go.Proofs.Ytlpbhijfdeceoaa
