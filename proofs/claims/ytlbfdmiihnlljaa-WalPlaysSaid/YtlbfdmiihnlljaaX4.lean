import Derived.Test.YtlbfdmiihnlljaaX1
import Derived.Test.YtlbfdmiihnlljaaE11
/- The answer's Commit. -/
namespace Go.Proofs.Ytlbfdmiihnlljaa
set_option linter.unusedSimpArgs false
set_option linter.unusedVariables false
open Go.RowKit Go.Maps

set_option maxHeartbeats 40000000 in
set_option maxRecDepth 2000000 in
theorem rcommit_any (x l d g fi N K : Nat) (va vb : Value) (T : TS) (co : Int) (s : DS) (h30 : T.length ≤ 30) (hts : ∀ p ∈ T, p.1 < N ∧ Byt p.2) (hf : fi + 31 ≤ N) (hN : N ≤ 65536) (hK : K < 700000) (hs : Sane s N K) (w : World) (h : Rx w x l va vb T co) (hl : Lg w l d fi) (hd : Rk w d g s)
    (hxd : x ≠ d) (hxg : x ≠ g) (hld : l ≠ d) (hlg : l ≠ g) (hlx : l ≠ x) (hva : Ns.off va d g) (hvb : Ns.off vb d g) (hvx : Ns.off va x x) :
    Calls Try.prog 17 #[.pointer (some ⟨x, 0, none⟩)] w fun e w' => e = .returned (.int .i64 (commit fi T co s).1) ∧ (∃ va' vb', ((va' = va ∧ vb' = vb) ∨ (va' = .slice none 0 0 ∧ vb' = .slice none 0 0)) ∧ Rx w' x l va' vb' (commit fi T co s).2.1 co) ∧ Rk w' d g (commit fi T co s).2.2 ∧ Kc w w' d g x := by
  obtain ⟨a, cap, rfl, hm⟩ := h.ns.form
  obtain ⟨a2, cap2, rfl⟩ := h.bv.form
  unfold maxLen at hm
  have HKL : Hid ((keys T).length = T.length) := keys_len T
  rw [HKL.out] at hm hva hvx h ⊢
  have HX := Lib.hid h
  have HL := Lib.hid hl
  have HD := Lib.hid hd
  have HS := Lib.hid hs
  have HTS := Lib.hid hts
  have HVA := Lib.hid hva
  have HVB := Lib.hid hvb
  have HVX := Lib.hid hvx
  have c1 := h.c1
  have c3 := h.c3
  have hxl := h.lt
  have hll := hl.lt
  have hdl := hd.lt
  have hgl := hd.fl.lt
  clear h hl hd hs hts hva hvb hvx
  by_cases hco : co = 0
  · subst hco
    by_cases hT : T = []
    · subst hT
      have hcm : commit fi [] 0 s = (0, [], s) := rfl
      rw [hcm]
      go_enter Try.func17, Try.ntmps17
      go_wp2
      go_ret
      exact ⟨rfl, ⟨_, _, .inl ⟨rfl, rfl⟩, HX.out⟩, HD.out, Kc.of_kp (Kp.refl _ _ _) _⟩
    · have HCM : Hid (commit fi T 0 s = if (writeLog fi T s).1 = 0 then ((install fi (keys T) (writeLog fi T s).2).1, [], (install fi (keys T) (writeLog fi T s).2).2) else ((writeLog fi T s).1, T, (writeLog fi T s).2)) := by
        show commit fi T 0 s = _
        unfold commit
        rw [if_neg (by decide), if_neg hT]
      have hTl : (T.length : Int) ≠ 0 := by
        cases T with
        | nil => exact absurd rfl hT
        | cons _ _ => simp; omega
      obtain ⟨C, hC⟩ : ∃ C, commit fi T 0 s = C := ⟨_, rfl⟩
      rw [hC] at HCM ⊢
      have HIN : Hid (writeLog fi T s = if (wlog fi 0 (T.map (·.2)) s).1 = 0 then (wlog fi 0 (T.map (·.2)) s).2.write fi (headF (keys T)) else wlog fi 0 (T.map (·.2)) s) := rfl
      obtain ⟨R, hR⟩ : ∃ R, writeLog fi T s = R := ⟨_, rfl⟩
      rw [hR] at HIN HCM
      obtain ⟨I, hI⟩ : ∃ I, wlog fi 0 (T.map (·.2)) s = I := ⟨_, rfl⟩
      have HI := Lib.hid hI
      rw [hI] at HIN
      clear hR hI hC hT
      have h30' : (T.length : Int) ≤ 30 := by omega
      go_enter Try.func17, Try.ntmps17
      go_wp2
      clear c1 c3
      go_loopw [3, 4] (fun i _ wr => ∃ (k : Nat) (s1 : DS), k ≤ T.length ∧ i = .int .i64 k ∧ wlog fi k ((T.drop k).map (·.2)) s1 = I ∧ Sane s1 N (K + k) ∧ Rk wr d g s1 ∧ Kp w wr d g) (fun i _ _ => T.length - (Go.RowKit.intOf i).toNat)
      case atStart => exact ⟨0, s, by omega, rfl, by rw [List.drop_zero]; exact HI.out, HS.out, HD.out, Kp.refl _ _ _⟩
      case round =>
        obtain ⟨k, s1, hk, rfl, hIk, hSk, hDk, hKk⟩ := hrel
        have HIk := Lib.hid hIk
        have HSk := Lib.hid hSk
        have HDk := Lib.hid hDk
        have HKk := Lib.hid hKk
        have hk0 : (0 : Int) ≤ k := by omega
        have hzr := hKk.size
        clear hIk hSk hDk hKk
        obtain ⟨wX, rfl⟩ : ∃ x, x = wr := ⟨wr, rfl⟩
        have HXX := Lib.hid (HX.out.kp HKk.out hxd hxg HVA.out HVB.out)
        have HLX := Lib.hid (HL.out.kp HKk.out hld hlg)
        have c0 := HXX.out.c0
        have c1 := HXX.out.c1
        have c3 := HXX.out.c3
        by_cases hlt : k < T.length
        · have hkk : (k : Int) < T.length := by omega
          have HSt : Hid (wlog fi k ((T.drop k).map (·.2)) s1 = if (s1.write (fi + 1 + k) T[k].2).1 = 0 then wlog fi (k + 1) ((T.drop (k + 1)).map (·.2)) (s1.write (fi + 1 + k) T[k].2).2 else s1.write (fi + 1 + k) T[k].2) := by
            show wlog fi k _ s1 = _
            rw [List.drop_eq_getElem_cons hlt]
            rfl
          obtain ⟨b2, hb2, hbl, _⟩ := HXX.out.bv.at k hlt
          subst hb2
          have HRA : Hid (∀ W, Rx W x l (.slice a T.length cap) (.slice (some ⟨b2, 0, none⟩) T.length cap2) T 0 → W.rangeAt b2 (k * 64) (byts 64 T[k].2)) := fun W hW i v hi => by
            obtain ⟨h1, rfl⟩ := byts_of hi
            obtain ⟨b3, hb3, _, h4⟩ := hW.bv.at k hlt
            injection hb3 with hb3
            injection hb3 with hb3
            subst hb3
            exact h4 i h1
          have HTk := Lib.hid (HTS.out T[k] (List.getElem_mem hlt))
          obtain ⟨V, hV⟩ : ∃ V, T[k].2 = V := ⟨_, rfl⟩
          rw [hV] at HSt HRA HTk
          clear hV
          have hwa : IntKind.i64.wrap ((fi : Int) + 1) = (fi : Int) + 1 := IntWalk.i64_in _ (by omega)
          have hwb : IntKind.i64.wrap ((fi : Int) + 1 + (k : Int)) = (fi : Int) + 1 + (k : Int) := IntWalk.i64_in _ (by omega)
          go_upto_region 8 with fail
          have hKb : K + k < 900000 := by omega
          have hfk : fi + 1 + k < N := by omega
          have HW : Hid (∀ W, Rk W d g s1 → Calls Try.prog 42 #[.pointer (some ⟨d, 0, none⟩), .int .i64 ((fi : Int) + 1 + (k : Int)), .agg (byts 64 V).toArray] W fun e w' => e = .returned (.int .i64 (s1.write (fi + 1 + k) V).1) ∧ Rk w' d g (s1.write (fi + 1 + k) V).2 ∧ Kp W w' d g) := fun W h => by
            have := rwrite_any d g s1 V (fi + 1 + k) N (K + k) hfk hN hKb HSk.out W h
            rwa [show ((fi + 1 + k : Nat) : Int) = (fi : Int) + 1 + (k : Int) by omega] at this
          have HSq := Lib.hid (HSk.out.write (fi + 1 + k) V HTk.out.2)
          have hqc := DS.write_code s1 (fi + 1 + k) V
          obtain ⟨q, hq⟩ : ∃ q, s1.write (fi + 1 + k) V = q := ⟨_, rfl⟩
          rw [hq] at HW HSq HSt hqc
          clear hq
          obtain ⟨q1, q2⟩ := q
          simp only at hqc HW HSq
          refine wp_region_held (S := fun W => Rx W x l (.slice a T.length cap) (.slice (some ⟨b2, 0, none⟩) T.length cap2) T 0 ∧ Lg W l d fi) (by kernel_rfl) ?_
          change wpAnyH _ _ _ _ _ _ _ _ (World.drew _)
          have hS0 : Rx wX.drew x l (.slice a T.length cap) (.slice (some ⟨b2, 0, none⟩) T.length cap2) T 0 ∧ Lg wX.drew l d fi := ⟨HXX.out.below (Below.refl _ _).drew, HLX.out.keep (Below.refl _ _).drew⟩
          clear c0 c1 c3
          refine wpAnyH_take (i := 0) (v := ?_) rfl (by kernel_rfl) (by kernel_rfl) (by kernel_rfl) (fun _ _ _ h => h) (Or.inl ⟨by rfl, ?_⟩) hS0 ?_
          rotate_left 1
          · intro W hW
            go_simp
            try with_reducible rfl
          simp only [Act.put, List.getElem_toArray, List.getElem_cons_zero, List.getElem_cons_succ, List.setIfInBounds_toArray, List.set_cons_zero, List.set_cons_succ]
          refine wpAnyH_take (i := 1) (v := ?_) rfl (by kernel_rfl) (by kernel_rfl) (by kernel_rfl) (fun _ _ _ h => h) (Or.inl ⟨by rfl, ?_⟩) hS0 ?_
          rotate_left 1
          · intro W hW
            go_simp
            try with_reducible rfl
          simp only [Act.put, List.getElem_toArray, List.getElem_cons_zero, List.getElem_cons_succ, List.setIfInBounds_toArray, List.set_cons_zero, List.set_cons_succ]
          refine wpAnyH_take (i := 2) (v := ?_) rfl (by kernel_rfl) (by kernel_rfl) (by kernel_rfl) (fun _ _ _ h => h) (Or.inl ⟨by rfl, ?_⟩) hS0 ?_
          rotate_left 1
          · intro W hW
            go_simp
            try with_reducible rfl
          simp only [Act.put, List.getElem_toArray, List.getElem_cons_zero, List.getElem_cons_succ, List.setIfInBounds_toArray, List.set_cons_zero, List.set_cons_succ]
          refine wpAnyH_take (i := 3) (v := ?_) rfl (by kernel_rfl) (by kernel_rfl) (by kernel_rfl) (fun _ _ _ h => h) (Or.inl ⟨by rfl, ?_⟩) hS0 ?_
          rotate_left 1
          · intro W hW
            have c0 := hW.1.c0
            go_simp
            try with_reducible rfl
          simp only [Act.put, List.getElem_toArray, List.getElem_cons_zero, List.getElem_cons_succ, List.setIfInBounds_toArray, List.set_cons_zero, List.set_cons_succ]
          refine wpAnyH_take (i := 4) (v := ?_) rfl (by kernel_rfl) (by kernel_rfl) (by kernel_rfl) (fun _ _ _ h => h) (Or.inl ⟨by rfl, ?_⟩) hS0 ?_
          rotate_left 1
          · intro W hW
            go_simp
            try with_reducible rfl
          simp only [Act.put, List.getElem_toArray, List.getElem_cons_zero, List.getElem_cons_succ, List.setIfInBounds_toArray, List.set_cons_zero, List.set_cons_succ]
          refine wpAnyH_take (i := 5) (v := ?_) rfl (by kernel_rfl) (by kernel_rfl) (by kernel_rfl) (fun _ _ _ h => h) (Or.inl ⟨by rfl, ?_⟩) hS0 ?_
          rotate_left 1
          · intro W hW
            go_simp
            try with_reducible rfl
          simp only [Act.put, List.getElem_toArray, List.getElem_cons_zero, List.getElem_cons_succ, List.setIfInBounds_toArray, List.set_cons_zero, List.set_cons_succ]
          refine wpAnyH_take (i := 6) (v := ?_) rfl (by kernel_rfl) (by kernel_rfl) (by kernel_rfl) (fun _ _ _ h => h) (Or.inl ⟨by rfl, ?_⟩) hS0 ?_
          rotate_left 1
          · intro W hW
            have c0 := hW.2.c0
            go_simp
            try with_reducible rfl
          simp only [Act.put, List.getElem_toArray, List.getElem_cons_zero, List.getElem_cons_succ, List.setIfInBounds_toArray, List.set_cons_zero, List.set_cons_succ]
          refine wpAnyH_take (i := 7) (v := ?_) rfl (by kernel_rfl) (by kernel_rfl) (by kernel_rfl) (fun _ _ _ h => h) (Or.inl ⟨by rfl, ?_⟩) hS0 ?_
          rotate_left 1
          · intro W hW
            go_simp
            try with_reducible rfl
          simp only [Act.put, List.getElem_toArray, List.getElem_cons_zero, List.getElem_cons_succ, List.setIfInBounds_toArray, List.set_cons_zero, List.set_cons_succ]
          refine wpAnyH_take (i := 8) (v := ?_) rfl (by kernel_rfl) (by kernel_rfl) (by kernel_rfl) (fun _ _ _ h => h) (Or.inl ⟨by rfl, ?_⟩) hS0 ?_
          rotate_left 1
          · intro W hW
            go_simp
            try with_reducible rfl
          simp only [Act.put, List.getElem_toArray, List.getElem_cons_zero, List.getElem_cons_succ, List.setIfInBounds_toArray, List.set_cons_zero, List.set_cons_succ]
          refine wpAnyH_take (i := 9) (v := ?_) rfl (by kernel_rfl) (by kernel_rfl) (by kernel_rfl) (fun _ _ _ h => h) (Or.inl ⟨by rfl, ?_⟩) hS0 ?_
          rotate_left 1
          · intro W hW
            go_simp
            try with_reducible rfl
          simp only [Act.put, List.getElem_toArray, List.getElem_cons_zero, List.getElem_cons_succ, List.setIfInBounds_toArray, List.set_cons_zero, List.set_cons_succ]
          refine wpAnyH_take (i := 10) (v := ?_) rfl (by kernel_rfl) (by kernel_rfl) (by kernel_rfl) (fun _ _ _ h => h) (Or.inl ⟨by rfl, ?_⟩) hS0 ?_
          rotate_left 1
          · intro W hW
            have c0 := hW.1.c0
            go_simp
            try with_reducible rfl
          simp only [Act.put, List.getElem_toArray, List.getElem_cons_zero, List.getElem_cons_succ, List.setIfInBounds_toArray, List.set_cons_zero, List.set_cons_succ]
          refine wpAnyH_take (i := 11) (v := ?_) rfl (by kernel_rfl) (by kernel_rfl) (by kernel_rfl) (fun _ _ _ h => h) (Or.inl ⟨by rfl, ?_⟩) hS0 ?_
          rotate_left 1
          · intro W hW
            go_simp
            try with_reducible rfl
          simp only [Act.put, List.getElem_toArray, List.getElem_cons_zero, List.getElem_cons_succ, List.setIfInBounds_toArray, List.set_cons_zero, List.set_cons_succ]
          refine wpAnyH_take (i := 12) (v := ?_) rfl (by kernel_rfl) (by kernel_rfl) (by kernel_rfl) (fun _ _ _ h => h) (Or.inl ⟨by rfl, ?_⟩) hS0 ?_
          rotate_left 1
          · intro W hW
            go_simp
            try with_reducible rfl
          simp only [Act.put, List.getElem_toArray, List.getElem_cons_zero, List.getElem_cons_succ, List.setIfInBounds_toArray, List.set_cons_zero, List.set_cons_succ]
          refine wpAnyH_take (i := 13) (v := ?_) rfl (by kernel_rfl) (by kernel_rfl) (by kernel_rfl) (fun _ _ _ h => h) (Or.inl ⟨by rfl, ?_⟩) hS0 ?_
          rotate_left 1
          · intro W hW
            have c0 := hW.2.c1
            go_simp
            try with_reducible rfl
          simp only [Act.put, List.getElem_toArray, List.getElem_cons_zero, List.getElem_cons_succ, List.setIfInBounds_toArray, List.set_cons_zero, List.set_cons_succ]
          refine wpAnyH_take (i := 14) (v := ?_) rfl (by kernel_rfl) (by kernel_rfl) (by kernel_rfl) (fun _ _ _ h => h) (Or.inl ⟨by rfl, ?_⟩) hS0 ?_
          rotate_left 1
          · intro W hW
            go_simp
            try with_reducible rfl
          simp only [Act.put, List.getElem_toArray, List.getElem_cons_zero, List.getElem_cons_succ, List.setIfInBounds_toArray, List.set_cons_zero, List.set_cons_succ]
          refine wpAnyH_take (i := 15) (v := ?_) rfl (by kernel_rfl) (by kernel_rfl) (by kernel_rfl) (fun _ _ _ h => h) (Or.inl ⟨by rfl, ?_⟩) hS0 ?_
          rotate_left 1
          · intro W hW
            go_simp
            try with_reducible rfl
          simp only [Act.put, List.getElem_toArray, List.getElem_cons_zero, List.getElem_cons_succ, List.setIfInBounds_toArray, List.set_cons_zero, List.set_cons_succ]
          refine wpAnyH_take (i := 16) (v := ?_) rfl (by kernel_rfl) (by kernel_rfl) (by kernel_rfl) (fun _ _ _ h => h) (Or.inl ⟨by rfl, ?_⟩) hS0 ?_
          rotate_left 1
          · intro W hW
            go_simp
            try with_reducible rfl
          simp only [Act.put, List.getElem_toArray, List.getElem_cons_zero, List.getElem_cons_succ, List.setIfInBounds_toArray, List.set_cons_zero, List.set_cons_succ]
          refine wpAnyH_take (i := 17) (v := ?_) rfl (by kernel_rfl) (by kernel_rfl) (by kernel_rfl) (fun _ _ _ h => h) (Or.inl ⟨by rfl, ?_⟩) hS0 ?_
          rotate_left 1
          · intro W hW
            go_simp
            try with_reducible rfl
          simp only [Act.put, List.getElem_toArray, List.getElem_cons_zero, List.getElem_cons_succ, List.setIfInBounds_toArray, List.set_cons_zero, List.set_cons_succ]
          refine wpAnyH_take (i := 18) (v := ?_) rfl (by kernel_rfl) (by kernel_rfl) (by kernel_rfl) (fun _ _ _ h => h) (Or.inl ⟨by rfl, ?_⟩) hS0 ?_
          rotate_left 1
          · intro W hW
            go_simp
            try with_reducible rfl
          simp only [Act.put, List.getElem_toArray, List.getElem_cons_zero, List.getElem_cons_succ, List.setIfInBounds_toArray, List.set_cons_zero, List.set_cons_succ]
          refine wpAnyH_take (i := 19) (v := ?_) rfl (by kernel_rfl) (by kernel_rfl) (by kernel_rfl) (fun _ _ _ h => h) (Or.inl ⟨by rfl, ?_⟩) hS0 ?_
          rotate_left 1
          · intro W hW
            go_simp
            try with_reducible rfl
          simp only [Act.put, List.getElem_toArray, List.getElem_cons_zero, List.getElem_cons_succ, List.setIfInBounds_toArray, List.set_cons_zero, List.set_cons_succ]
          refine wpAnyH_take (i := 20) (v := ?_) rfl (by kernel_rfl) (by kernel_rfl) (by kernel_rfl) (fun _ _ _ h => h) (Or.inl ⟨by rfl, ?_⟩) hS0 ?_
          rotate_left 1
          · intro W hW
            have c0 := hW.1.c2
            go_simp
            try with_reducible rfl
          simp only [Act.put, List.getElem_toArray, List.getElem_cons_zero, List.getElem_cons_succ, List.setIfInBounds_toArray, List.set_cons_zero, List.set_cons_succ]
          refine wpAnyH_take (i := 21) (v := ?_) rfl (by kernel_rfl) (by kernel_rfl) (by kernel_rfl) (fun _ _ _ h => h) (Or.inl ⟨by rfl, ?_⟩) hS0 ?_
          rotate_left 1
          · intro W hW
            go_simp
            try with_reducible rfl
          simp only [Act.put, List.getElem_toArray, List.getElem_cons_zero, List.getElem_cons_succ, List.setIfInBounds_toArray, List.set_cons_zero, List.set_cons_succ]
          refine wpAnyH_take (i := 22) (v := ?_) rfl (by kernel_rfl) (by kernel_rfl) (by kernel_rfl) (fun _ _ _ h => h) (Or.inl ⟨by rfl, ?_⟩) hS0 ?_
          rotate_left 1
          · intro W hW
            go_simp
            try with_reducible rfl
          simp only [Act.put, List.getElem_toArray, List.getElem_cons_zero, List.getElem_cons_succ, List.setIfInBounds_toArray, List.set_cons_zero, List.set_cons_succ]
          refine wpAnyH_take (i := 23) (v := .agg (byts 64 V).toArray) rfl (by kernel_rfl) (by kernel_rfl) (by kernel_rfl) (fun _ _ _ h => h) ?_ hS0 ?_
          · exact yieldsIf_load_mid (by rfl) 50 _ rfl b2 (k * 64) rfl (byts 64 V) (.array 64 5) (fun W h => HRA.out W h.1) Try.arr36 rfl (size36 _)
          simp only [Act.put, List.getElem_toArray, List.getElem_cons_zero, List.getElem_cons_succ, List.setIfInBounds_toArray, List.set_cons_zero, List.set_cons_succ]
          refine wpAnyH_ready (rs := [24]) (by kernel_rfl) (by simp) (AllReadyH.cons rfl (fun KK hKK => ?_) AllReadyH.nil)
          go_simp
          refine (HW.out _ (HDk.out.keep (Below.refl _ _).drew)).mono ?_
          rintro e wZ ⟨rfl, hDZ, hkZ⟩
          have HDZ := Lib.hid hDZ
          have HKZ := Lib.hid ((Kp.refl wX d g).drew.trans hkZ)
          have hS1 := hS0
          clear hS0
          have hS0 : Rx wZ x l (.slice a T.length cap) (.slice (some ⟨b2, 0, none⟩) T.length cap2) T 0 ∧ Lg wZ l d fi := ⟨hS1.1.kp hkZ hxd hxg HVA.out HVB.out, hS1.2.kp hkZ hld hlg⟩
          refine hKK _ _ hS0 ?_
          intro _
          clear hKK KK hDZ hkZ hS1
          refine wpAnyH_take (i := 25) (v := ?_) rfl (by kernel_rfl) (by kernel_rfl) (by kernel_rfl) (fun _ _ _ h => h) (Or.inl ⟨by rfl, ?_⟩) hS0 ?_
          rotate_left 1
          · intro W hW
            go_simp
            try with_reducible rfl
          simp only [Act.put, List.getElem_toArray, List.getElem_cons_zero, List.getElem_cons_succ, List.setIfInBounds_toArray, List.set_cons_zero, List.set_cons_succ]
          refine wpAnyH_done (by kernel_rfl) ?_ _
          have HSZ := Lib.hid hS0
          clear hS0
          rcases hqc with rfl | rfl
          · go_wp2_with fail
            go_roundw
            case rel =>
              refine ⟨k + 1, by omega, by omega, q2, ?_, HSq.out, HDZ.out, HKk.out.trans HKZ.out⟩
              rw [← HIk.out, HSt.out, ← List.map_drop]
              simp
            case measure => simp [Go.RowKit.intOf]; omega
          · go_wp2_with fail
            go_ret
            have hI : I = (24, q2) := by rw [← HIk.out, HSt.out, if_neg (by decide)]
            have hR : R = (24, q2) := by rw [HIN.out, hI]; rfl
            have hC : C = (24, T, q2) := by rw [HCM.out, hR]; rfl
            rw [hC]
            exact ⟨rfl, ⟨_, _, .inl ⟨rfl, rfl⟩, HSZ.out.1⟩, HDZ.out, Kc.of_kp (HKk.out.trans HKZ.out) _⟩
        · obtain rfl : k = T.length := by omega
          have hI : I = (0, s1) := by rw [← HIk.out, List.drop_length]; rfl
          have hRw : R = s1.write fi (headF (keys T)) := by rw [HIN.out, hI]; rfl
          have HRw := Lib.hid hRw
          clear hI hRw HIk HIN
          have hfN : fi < N := by omega
          have hKb : K + T.length < 900000 := by omega
          have HW := Lib.hid (fun (W : World) (h : Rk W d g s1) => rwrite_any d g s1 (headF (keys T)) fi N (K + T.length) hfN hN hKb HSk.out W h)
          have hqc := DS.write_code s1 fi (headF (keys T))
          have HSq := Lib.hid (HSk.out.write fi (headF (keys T)) (headF_byt _))
          have HH := Lib.hid (fun (W : World) (h : Ns W (.slice a T.length cap) (keys T)) => rhead_any (.slice a T.length cap) (keys T) (by rw [HKL.out]; exact h30) (fun t ht => by obtain ⟨p, hp, rfl⟩ := List.mem_map.1 ht; have := (HTS.out p hp).1; omega) W h)
          rw [← HRw.out] at HW hqc HSq
          obtain ⟨q1, q2⟩ := R
          simp only at hqc HSq HW
          go_upto_region 11 with fail
          refine wp_region_held (S := fun W => Rx W x l (.slice a T.length cap) (.slice a2 T.length cap2) T 0 ∧ Lg W l d fi) (by kernel_rfl) ?_
          change wpAnyH _ _ _ _ _ _ _ _ (World.drew _)
          have hS0 : Rx wX.drew x l (.slice a T.length cap) (.slice a2 T.length cap2) T 0 ∧ Lg wX.drew l d fi := ⟨HXX.out.below (Below.refl _ _).drew, HLX.out.keep (Below.refl _ _).drew⟩
          clear c0 c1 c3
          refine wpAnyH_take (i := 0) (v := ?_) rfl (by kernel_rfl) (by kernel_rfl) (by kernel_rfl) (fun _ _ _ h => h) (Or.inl ⟨by rfl, ?_⟩) hS0 ?_
          rotate_left 1
          · intro W hW
            go_simp
            try with_reducible rfl
          simp only [Act.put, List.getElem_toArray, List.getElem_cons_zero, List.getElem_cons_succ, List.setIfInBounds_toArray, List.set_cons_zero, List.set_cons_succ]
          refine wpAnyH_take (i := 1) (v := ?_) rfl (by kernel_rfl) (by kernel_rfl) (by kernel_rfl) (fun _ _ _ h => h) (Or.inl ⟨by rfl, ?_⟩) hS0 ?_
          rotate_left 1
          · intro W hW
            go_simp
            try with_reducible rfl
          simp only [Act.put, List.getElem_toArray, List.getElem_cons_zero, List.getElem_cons_succ, List.setIfInBounds_toArray, List.set_cons_zero, List.set_cons_succ]
          refine wpAnyH_take (i := 2) (v := ?_) rfl (by kernel_rfl) (by kernel_rfl) (by kernel_rfl) (fun _ _ _ h => h) (Or.inl ⟨by rfl, ?_⟩) hS0 ?_
          rotate_left 1
          · intro W hW
            go_simp
            try with_reducible rfl
          simp only [Act.put, List.getElem_toArray, List.getElem_cons_zero, List.getElem_cons_succ, List.setIfInBounds_toArray, List.set_cons_zero, List.set_cons_succ]
          refine wpAnyH_take (i := 3) (v := ?_) rfl (by kernel_rfl) (by kernel_rfl) (by kernel_rfl) (fun _ _ _ h => h) (Or.inl ⟨by rfl, ?_⟩) hS0 ?_
          rotate_left 1
          · intro W hW
            have c0 := hW.1.c0
            go_simp
            try with_reducible rfl
          simp only [Act.put, List.getElem_toArray, List.getElem_cons_zero, List.getElem_cons_succ, List.setIfInBounds_toArray, List.set_cons_zero, List.set_cons_succ]
          refine wpAnyH_take (i := 4) (v := ?_) rfl (by kernel_rfl) (by kernel_rfl) (by kernel_rfl) (fun _ _ _ h => h) (Or.inl ⟨by rfl, ?_⟩) hS0 ?_
          rotate_left 1
          · intro W hW
            go_simp
            try with_reducible rfl
          simp only [Act.put, List.getElem_toArray, List.getElem_cons_zero, List.getElem_cons_succ, List.setIfInBounds_toArray, List.set_cons_zero, List.set_cons_succ]
          refine wpAnyH_take (i := 5) (v := ?_) rfl (by kernel_rfl) (by kernel_rfl) (by kernel_rfl) (fun _ _ _ h => h) (Or.inl ⟨by rfl, ?_⟩) hS0 ?_
          rotate_left 1
          · intro W hW
            go_simp
            try with_reducible rfl
          simp only [Act.put, List.getElem_toArray, List.getElem_cons_zero, List.getElem_cons_succ, List.setIfInBounds_toArray, List.set_cons_zero, List.set_cons_succ]
          refine wpAnyH_take (i := 6) (v := ?_) rfl (by kernel_rfl) (by kernel_rfl) (by kernel_rfl) (fun _ _ _ h => h) (Or.inl ⟨by rfl, ?_⟩) hS0 ?_
          rotate_left 1
          · intro W hW
            have c0 := hW.2.c0
            go_simp
            try with_reducible rfl
          simp only [Act.put, List.getElem_toArray, List.getElem_cons_zero, List.getElem_cons_succ, List.setIfInBounds_toArray, List.set_cons_zero, List.set_cons_succ]
          refine wpAnyH_take (i := 7) (v := ?_) rfl (by kernel_rfl) (by kernel_rfl) (by kernel_rfl) (fun _ _ _ h => h) (Or.inl ⟨by rfl, ?_⟩) hS0 ?_
          rotate_left 1
          · intro W hW
            go_simp
            try with_reducible rfl
          simp only [Act.put, List.getElem_toArray, List.getElem_cons_zero, List.getElem_cons_succ, List.setIfInBounds_toArray, List.set_cons_zero, List.set_cons_succ]
          refine wpAnyH_take (i := 8) (v := ?_) rfl (by kernel_rfl) (by kernel_rfl) (by kernel_rfl) (fun _ _ _ h => h) (Or.inl ⟨by rfl, ?_⟩) hS0 ?_
          rotate_left 1
          · intro W hW
            go_simp
            try with_reducible rfl
          simp only [Act.put, List.getElem_toArray, List.getElem_cons_zero, List.getElem_cons_succ, List.setIfInBounds_toArray, List.set_cons_zero, List.set_cons_succ]
          refine wpAnyH_take (i := 9) (v := ?_) rfl (by kernel_rfl) (by kernel_rfl) (by kernel_rfl) (fun _ _ _ h => h) (Or.inl ⟨by rfl, ?_⟩) hS0 ?_
          rotate_left 1
          · intro W hW
            go_simp
            try with_reducible rfl
          simp only [Act.put, List.getElem_toArray, List.getElem_cons_zero, List.getElem_cons_succ, List.setIfInBounds_toArray, List.set_cons_zero, List.set_cons_succ]
          refine wpAnyH_take (i := 10) (v := ?_) rfl (by kernel_rfl) (by kernel_rfl) (by kernel_rfl) (fun _ _ _ h => h) (Or.inl ⟨by rfl, ?_⟩) hS0 ?_
          rotate_left 1
          · intro W hW
            have c0 := hW.1.c0
            go_simp
            try with_reducible rfl
          simp only [Act.put, List.getElem_toArray, List.getElem_cons_zero, List.getElem_cons_succ, List.setIfInBounds_toArray, List.set_cons_zero, List.set_cons_succ]
          refine wpAnyH_take (i := 11) (v := ?_) rfl (by kernel_rfl) (by kernel_rfl) (by kernel_rfl) (fun _ _ _ h => h) (Or.inl ⟨by rfl, ?_⟩) hS0 ?_
          rotate_left 1
          · intro W hW
            go_simp
            try with_reducible rfl
          simp only [Act.put, List.getElem_toArray, List.getElem_cons_zero, List.getElem_cons_succ, List.setIfInBounds_toArray, List.set_cons_zero, List.set_cons_succ]
          refine wpAnyH_take (i := 12) (v := ?_) rfl (by kernel_rfl) (by kernel_rfl) (by kernel_rfl) (fun _ _ _ h => h) (Or.inl ⟨by rfl, ?_⟩) hS0 ?_
          rotate_left 1
          · intro W hW
            go_simp
            try with_reducible rfl
          simp only [Act.put, List.getElem_toArray, List.getElem_cons_zero, List.getElem_cons_succ, List.setIfInBounds_toArray, List.set_cons_zero, List.set_cons_succ]
          refine wpAnyH_take (i := 13) (v := ?_) rfl (by kernel_rfl) (by kernel_rfl) (by kernel_rfl) (fun _ _ _ h => h) (Or.inl ⟨by rfl, ?_⟩) hS0 ?_
          rotate_left 1
          · intro W hW
            have c0 := hW.2.c1
            go_simp
            try with_reducible rfl
          simp only [Act.put, List.getElem_toArray, List.getElem_cons_zero, List.getElem_cons_succ, List.setIfInBounds_toArray, List.set_cons_zero, List.set_cons_succ]
          refine wpAnyH_take (i := 14) (v := ?_) rfl (by kernel_rfl) (by kernel_rfl) (by kernel_rfl) (fun _ _ _ h => h) (Or.inl ⟨by rfl, ?_⟩) hS0 ?_
          rotate_left 1
          · intro W hW
            go_simp
            try with_reducible rfl
          simp only [Act.put, List.getElem_toArray, List.getElem_cons_zero, List.getElem_cons_succ, List.setIfInBounds_toArray, List.set_cons_zero, List.set_cons_succ]
          refine wpAnyH_take (i := 15) (v := ?_) rfl (by kernel_rfl) (by kernel_rfl) (by kernel_rfl) (fun _ _ _ h => h) (Or.inl ⟨by rfl, ?_⟩) hS0 ?_
          rotate_left 1
          · intro W hW
            go_simp
            try with_reducible rfl
          simp only [Act.put, List.getElem_toArray, List.getElem_cons_zero, List.getElem_cons_succ, List.setIfInBounds_toArray, List.set_cons_zero, List.set_cons_succ]
          refine wpAnyH_take (i := 16) (v := ?_) rfl (by kernel_rfl) (by kernel_rfl) (by kernel_rfl) (fun _ _ _ h => h) (Or.inl ⟨by rfl, ?_⟩) hS0 ?_
          rotate_left 1
          · intro W hW
            go_simp
            try with_reducible rfl
          simp only [Act.put, List.getElem_toArray, List.getElem_cons_zero, List.getElem_cons_succ, List.setIfInBounds_toArray, List.set_cons_zero, List.set_cons_succ]
          refine wpAnyH_take (i := 17) (v := ?_) rfl (by kernel_rfl) (by kernel_rfl) (by kernel_rfl) (fun _ _ _ h => h) (Or.inl ⟨by rfl, ?_⟩) hS0 ?_
          rotate_left 1
          · intro W hW
            have c0 := hW.1.c1
            go_simp
            try with_reducible rfl
          simp only [Act.put, List.getElem_toArray, List.getElem_cons_zero, List.getElem_cons_succ, List.setIfInBounds_toArray, List.set_cons_zero, List.set_cons_succ]
          refine wpAnyH_ready (rs := [18]) (by kernel_rfl) (by simp) (AllReadyH.cons rfl (fun KK hKK => ?_) AllReadyH.nil)
          go_simp
          refine (HH.out _ hS0.1.ns).mono ?_
          rintro e wY ⟨rfl, hbY⟩
          have HDY := Lib.hid ((HDk.out.keep (Below.refl _ _).drew).keep hbY)
          have HKY := Lib.hid ((Kp.refl wX d g).drew.trans (Kp.of_below hbY d g))
          have hS1 := hS0
          clear hS0
          have hS0 : Rx wY x l (.slice a T.length cap) (.slice a2 T.length cap2) T 0 ∧ Lg wY l d fi := ⟨hS1.1.below hbY, hS1.2.keep hbY⟩
          refine hKK _ _ hS0 ?_
          intro _
          clear hKK KK hbY hS1
          try simp only [Act.put, List.getElem_toArray, List.getElem_cons_zero, List.getElem_cons_succ, List.setIfInBounds_toArray, List.set_cons_zero, List.set_cons_succ]
          refine wpAnyH_ready (rs := [19]) (by kernel_rfl) (by simp) (AllReadyH.cons rfl (fun KK hKK => ?_) AllReadyH.nil)
          go_simp
          refine (HW.out _ HDY.out).mono ?_
          rintro e wZ ⟨rfl, hDZ, hkZ⟩
          have HDZ := Lib.hid hDZ
          have HKZ := Lib.hid (HKY.out.trans hkZ)
          have hS1 := hS0
          clear hS0
          have hS0 : Rx wZ x l (.slice a T.length cap) (.slice a2 T.length cap2) T 0 ∧ Lg wZ l d fi := ⟨hS1.1.kp hkZ hxd hxg HVA.out HVB.out, hS1.2.kp hkZ hld hlg⟩
          refine hKK _ _ hS0 ?_
          intro _
          clear hKK KK hDZ hkZ hS1
          try simp only [Act.put, List.getElem_toArray, List.getElem_cons_zero, List.getElem_cons_succ, List.setIfInBounds_toArray, List.set_cons_zero, List.set_cons_succ]
          refine wpAnyH_take (i := 20) (v := ?_) rfl (by kernel_rfl) (by kernel_rfl) (by kernel_rfl) (fun _ _ _ h => h) (Or.inl ⟨by rfl, ?_⟩) hS0 ?_
          rotate_left 1
          · intro W hW
            go_simp
            try with_reducible rfl
          simp only [Act.put, List.getElem_toArray, List.getElem_cons_zero, List.getElem_cons_succ, List.setIfInBounds_toArray, List.set_cons_zero, List.set_cons_succ]
          refine wpAnyH_done (by kernel_rfl) ?_ _
          have HSZ := Lib.hid hS0
          have c0 := hS0.1.c0
          have c1 := hS0.1.c1
          clear hS0
          rcases hqc with rfl | rfl
          · have HXD := Lib.hid (fun (W : World) (h : Rx W x l (.slice a T.length cap) (.slice a2 T.length cap2) T 0) => rdrop_any x l _ _ T 0 W h)
            have hKi : K + T.length + 1 < 800000 := by omega
            have HII := Lib.hid (fun (W : World) (hl : Lg W l d fi) (hd : Rk W d g q2) (hv : Ns W (.slice a T.length cap) (keys T)) => rinstall_any l d g fi N (K + T.length + 1) q2 (.slice a T.length cap) (keys T) (by rw [HKL.out]; exact h30) (fun t ht => by obtain ⟨p, hp, rfl⟩ := List.mem_map.1 ht; exact (HTS.out p hp).1) hf hN hKi HSq.out W hl hd hv hld hlg HVA.out)
            go_wp2_with (first | (go_at_call 19; refine (HXD.out wZ HSZ.out.1).mono ?_; rintro e wD ⟨rfl, hXD, hkD⟩; have HXD' := Lib.hid hXD; have HKD := Lib.hid hkD; have HLD := Lib.hid (HSZ.out.2.kp hkD hlx hlx); have HDD := Lib.hid (HDZ.out.kp hkD hxd.symm hxd.symm hxg.symm hxg.symm); have HND := Lib.hid (HSZ.out.1.ns.kp hkD HVX.out); replace c0 := hXD.c0; clear hXD hkD c1) | (go_at_call 43; refine (HII.out wD HLD.out HDD.out HND.out).mono ?_; rintro e wE ⟨rfl, hDE, hkE⟩; have HDE := Lib.hid hDE; have HKE := Lib.hid hkE; clear hDE hkE))
            go_ret
            rw [HCM.out]
            exact ⟨rfl, ⟨_, _, .inr ⟨rfl, rfl⟩, HXD'.out.kp HKE.out hxd hxg (Ns.off_nil _ _) (Ns.off_nil _ _)⟩, HDE.out, ⟨_, _, HKk.out.trans HKZ.out, HKD.out, HKE.out⟩⟩
          · go_wp2_with fail
            go_ret
            rw [HCM.out]
            exact ⟨rfl, ⟨_, _, .inl ⟨rfl, rfl⟩, HSZ.out.1⟩, HDZ.out, Kc.of_kp (HKk.out.trans HKZ.out) _⟩
  · have hcm : commit fi T co s = (co, T, s) := by unfold commit; rw [if_pos hco]
    rw [hcm]
    clear hcm
    go_enter Try.func17, Try.ntmps17
    go_wp2
    go_ret
    exact ⟨rfl, ⟨_, _, .inl ⟨rfl, rfl⟩, HX.out⟩, HD.out, Kc.of_kp (Kp.refl _ _ _) _⟩
end Go.Proofs.Ytlbfdmiihnlljaa
