import Derived.Test.YtlbfdmiihnlljaaE10
/- writeLog, Commit. -/
namespace Go.Proofs.Ytlbfdmiihnlljaa
set_option linter.unusedSimpArgs false
set_option linter.unusedVariables false
open Go.RowKit Go.Maps

theorem yields_look_some {ops : Array Oper} {o : Oper} {a : Act} {S : World → Prop} (hw : Region.wanted o (yielded ops a.tmps) = true) (x y : Operand) (ho : o.op = .lookup 79 x y false) (m : Nat) (T : TS) (hS : ∀ W, S W → Mp W m T) (hx : a.eval x = .map (some m)) (k : Int) (hy : a.eval y = .int .i64 k) (h0 : -9223372036854775808 ≤ k) (h1 : k < 9223372036854775808)
    (V : Nat → Int) (hf : find T k = some V) : YieldsIf Try.prog ops S o (.agg (byts 64 V).toArray) a := by
  have h := yields_look_mp hw x y ho m T hS hx k hy h0 h1
  rw [hf] at h
  exact h
/-- blocks into the log, from its i-th place on -/
def wlog (fi : Nat) : Nat → List (Nat → Int) → DS → Int × DS
  | _, [], s => (0, s)
  | i, b :: r, s => if (s.write (fi + 1 + i) b).1 = 0 then wlog fi (i + 1) r (s.write (fi + 1 + i) b).2 else s.write (fi + 1 + i) b
def writeLog (fi : Nat) (T : TS) (s : DS) : Int × DS :=
  if (wlog fi 0 (T.map (·.2)) s).1 = 0 then (wlog fi 0 (T.map (·.2)) s).2.write fi (headF (keys T)) else wlog fi 0 (T.map (·.2)) s
theorem Sane.wlog {N fi : Nat} : ∀ (bs : List (Nat → Int)) (i k : Nat) (s : DS), (∀ b ∈ bs, Byt b) → Sane s N k → Sane (wlog fi i bs s).2 N (k + bs.length)
  | [], i, k, s, _, h => h
  | b :: r, i, k, s, hb, h => by
    have h1 : Sane (s.write (fi + 1 + i) b).2 N (k + 1) := h.write _ _ (hb b (by simp))
    unfold Ytlbfdmiihnlljaa.wlog
    split
    · have := Sane.wlog (fi := fi) r (i + 1) (k + 1) _ (fun b' h' => hb b' (by simp [h'])) h1
      rw [List.length_cons, show k + (r.length + 1) = k + 1 + r.length by omega]
      exact this
    · exact h1.mono (by rw [List.length_cons]; omega)
theorem Sane.writeLog {N fi : Nat} (T : TS) (k : Nat) (s : DS) (hT : ∀ p ∈ T, Byt p.2) (h : Sane s N k) : Sane (writeLog fi T s).2 N (k + T.length + 1) := by
  have h1 := Sane.wlog (fi := fi) (T.map (·.2)) 0 k s (fun b hb => by obtain ⟨p, hp, rfl⟩ := List.mem_map.1 hb; exact hT p hp) h
  rw [List.length_map] at h1
  unfold Ytlbfdmiihnlljaa.writeLog
  split
  · exact h1.write fi _ (headF_byt _)
  · exact h1.mono (by omega)
theorem keys_len (T : TS) : (keys T).length = T.length := by simp [keys]

set_option maxHeartbeats 40000000 in
set_option maxRecDepth 100000 in
theorem writelog_any (t m d g fi N K : Nat) (T : TS) (fa : Int) (s : DS) (v : Value) (h30 : T.length ≤ 30) (hts : ∀ p ∈ T, p.1 < N ∧ Byt p.2) (hf : fi + 31 ≤ N) (hN : N ≤ 65536) (hK : K < 800000) (hs : Sane s N K) (w : World) (ht : Tx w t m d fi T fa) (hd : Dk w d g s) (hv : Ns w v (keys T)) (htd : t ≠ d) (htg : t ≠ g) (hmd : m ≠ d) (hmg : m ≠ g) (hvo : Ns.off v d g) :
    Calls Try.prog 40 #[.pointer (some ⟨t, 0, none⟩), v] w fun e w' => e = .returned (.int .i64 (writeLog fi T s).1) ∧ Dk w' d g (writeLog fi T s).2 ∧ Kp w w' d g := by
  obtain ⟨a, cap, rfl, hm⟩ := hv.form
  unfold maxLen at hm
  have HV := Lib.hid hv
  have HT := Lib.hid ht
  have HD := Lib.hid hd
  have HS := Lib.hid hs
  have HTS := Lib.hid hts
  have hg0 := hd.fl.lt
  have hd0 := hd.lt
  have ht0 := ht.lg.lt
  have HKL : Hid ((keys T).length = T.length) := keys_len T
  rw [HKL.out] at hm HV hvo ⊢
  clear hv ht hd hs hts
  have HIN : Hid (writeLog fi T s = if (wlog fi 0 (T.map (·.2)) s).1 = 0 then (wlog fi 0 (T.map (·.2)) s).2.write fi (headF (keys T)) else wlog fi 0 (T.map (·.2)) s) := rfl
  obtain ⟨R, hR⟩ : ∃ R, writeLog fi T s = R := ⟨_, rfl⟩
  rw [hR] at HIN ⊢
  obtain ⟨I, hI⟩ : ∃ I, wlog fi 0 (T.map (·.2)) s = I := ⟨_, rfl⟩
  have HI := Lib.hid hI
  rw [hI] at HIN
  clear hR hI
  go_enter Try.func40, Try.ntmps40
  go_wp2
  go_loopw [5, 6, 7, 10] (fun _ _ _ i wr => ∃ (k : Nat) (s1 : DS), k ≤ T.length ∧ i = .int .i64 k ∧ wlog fi k ((T.drop k).map (·.2)) s1 = I ∧ Sane s1 N (K + k) ∧ Dk wr d g s1 ∧ Kp w wr d g) (fun _ _ _ i _ => T.length - (Go.RowKit.intOf i).toNat)
  case atStart => exact ⟨0, s, by omega, rfl, by rw [List.drop_zero]; exact HI.out, HS.out, HD.out, Kp.refl _ _ _⟩
  case round =>
    obtain ⟨k, s1, hk, rfl, hIk, hSk, hDk, hKk⟩ := hrel
    have HIk := Lib.hid hIk
    have HSk := Lib.hid hSk
    have HDk := Lib.hid hDk
    have HKk := Lib.hid hKk
    have hk0 : (0 : Int) ≤ k := by omega
    have hzr := hKk.size
    clear hIk hSk hDk hKk
    obtain ⟨wX, rfl⟩ : ∃ x, x = wr := ⟨wr, rfl⟩
    have HTX := Lib.hid (HT.out.kp HKk.out htd htg hmd hmg)
    by_cases hlt : k < T.length
    · have hkk : (k : Int) < T.length := by omega
      have HSt : Hid (wlog fi k ((T.drop k).map (·.2)) s1 = if (s1.write (fi + 1 + k) T[k].2).1 = 0 then wlog fi (k + 1) ((T.drop (k + 1)).map (·.2)) (s1.write (fi + 1 + k) T[k].2).2 else s1.write (fi + 1 + k) T[k].2) := by
        show wlog fi k _ s1 = _
        rw [List.drop_eq_getElem_cons hlt]
        rfl
      obtain ⟨b, off, rfl, hbl, hbc⟩ := HV.out.at k (by rw [HKL.out]; exact hlt)
      obtain ⟨hob1, hob2⟩ := hvo b rfl
      have ec := (HKk.out.cell (p := ⟨b, off + k, none⟩) hbl hob1 hob2).trans hbc
      have hkey : (keys T)[k]'(by rw [HKL.out]; exact hlt) = T[k].1 := by simp [keys]
      rw [hkey] at ec
      have HTk := Lib.hid (HTS.out T[k] (List.getElem_mem hlt))
      have HFk := Lib.hid (find_at HT.out.mp.2 hlt)
      have HVl := Lib.hid hvo
      clear hbc hvo hkey
      obtain ⟨p, hp⟩ : ∃ p, T[k] = p := ⟨_, rfl⟩
      rw [hp] at HSt ec HTk HFk
      clear hp
      obtain ⟨x, V⟩ := p
      simp only at HSt ec HTk HFk
      have hx : x < N := HTk.out.1
      have hx0 : (0 : Int) ≤ x := by omega
      go_upto_region 4 with fail
      have hdX := HDk.out.lt
      have hgX := HDk.out.fl.lt
      have hKb : K + k < 900000 := by omega
      have HW : Hid (∀ W, Dk W d g s1 → Calls Try.prog 32 #[.pointer (some ⟨d, 0, none⟩), .int .i64 ((fi : Int) + 1 + (k : Int)), .agg (byts 64 V).toArray] W fun e w' => e = .returned (.int .i64 (s1.write (fi + 1 + k) V).1) ∧ Dk w' d g (s1.write (fi + 1 + k) V).2 ∧ Kp W w' d g) := fun W h => by
        have := write_any d g s1 V (fi + 1 + k) N (K + k) (by omega) hN hKb HSk.out W h
        rwa [show ((fi + 1 + k : Nat) : Int) = (fi : Int) + 1 + (k : Int) by omega] at this
      have HSq := Lib.hid (HSk.out.write (fi + 1 + k) V HTk.out.2)
      have hqc := DS.write_code s1 (fi + 1 + k) V
      obtain ⟨q, hq⟩ : ∃ q, s1.write (fi + 1 + k) V = q := ⟨_, rfl⟩
      rw [hq] at HW HSq HSt hqc
      clear hq
      obtain ⟨q1, q2⟩ := q
      simp only at hqc HW HSq
      refine wp_region_held (S := fun W => Tx W t m d fi T fa) (by kernel_rfl) ?_
      change wpAnyH _ _ _ _ _ _ _ _ (World.drew _)
      have hS0 : Tx wX.drew t m d fi T fa := HTX.out.keep (Below.refl _ _).drew
      refine wpAnyH_take (i := 0) (v := ?_) rfl (by kernel_rfl) (by kernel_rfl) (by kernel_rfl) (fun _ _ _ h => h) (Or.inl ⟨by rfl, ?_⟩) hS0 ?_
      rotate_left 1
      · intro W hW
        go_simp
        try with_reducible rfl
      simp only [Act.put, List.getElem_toArray, List.getElem_cons_zero, List.getElem_cons_succ, List.setIfInBounds_toArray, List.set_cons_zero, List.set_cons_succ]
      refine wpAnyH_take (i := 1) (v := ?_) rfl (by kernel_rfl) (by kernel_rfl) (by kernel_rfl) (fun _ _ _ h => h) (Or.inl ⟨by rfl, ?_⟩) hS0 ?_
      rotate_left 1
      · intro W hW
        go_simp
        try with_reducible rfl
      simp only [Act.put, List.getElem_toArray, List.getElem_cons_zero, List.getElem_cons_succ, List.setIfInBounds_toArray, List.set_cons_zero, List.set_cons_succ]
      refine wpAnyH_take (i := 2) (v := ?_) rfl (by kernel_rfl) (by kernel_rfl) (by kernel_rfl) (fun _ _ _ h => h) (Or.inl ⟨by rfl, ?_⟩) hS0 ?_
      rotate_left 1
      · intro W hW
        go_simp
        try with_reducible rfl
      simp only [Act.put, List.getElem_toArray, List.getElem_cons_zero, List.getElem_cons_succ, List.setIfInBounds_toArray, List.set_cons_zero, List.set_cons_succ]
      refine wpAnyH_take (i := 3) (v := ?_) rfl (by kernel_rfl) (by kernel_rfl) (by kernel_rfl) (fun _ _ _ h => h) (Or.inl ⟨by rfl, ?_⟩) hS0 ?_
      rotate_left 1
      · intro W hW
        go_simp
        try with_reducible rfl
      simp only [Act.put, List.getElem_toArray, List.getElem_cons_zero, List.getElem_cons_succ, List.setIfInBounds_toArray, List.set_cons_zero, List.set_cons_succ]
      refine wpAnyH_take (i := 4) (v := ?_) rfl (by kernel_rfl) (by kernel_rfl) (by kernel_rfl) (fun _ _ _ h => h) (Or.inl ⟨by rfl, ?_⟩) hS0 ?_
      rotate_left 1
      · intro W hW
        have c0 := hW.lg.c0
        go_simp
        try with_reducible rfl
      simp only [Act.put, List.getElem_toArray, List.getElem_cons_zero, List.getElem_cons_succ, List.setIfInBounds_toArray, List.set_cons_zero, List.set_cons_succ]
      refine wpAnyH_take (i := 5) (v := ?_) rfl (by kernel_rfl) (by kernel_rfl) (by kernel_rfl) (fun _ _ _ h => h) (Or.inl ⟨by rfl, ?_⟩) hS0 ?_
      rotate_left 1
      · intro W hW
        go_simp
        try with_reducible rfl
      simp only [Act.put, List.getElem_toArray, List.getElem_cons_zero, List.getElem_cons_succ, List.setIfInBounds_toArray, List.set_cons_zero, List.set_cons_succ]
      refine wpAnyH_take (i := 6) (v := ?_) rfl (by kernel_rfl) (by kernel_rfl) (by kernel_rfl) (fun _ _ _ h => h) (Or.inl ⟨by rfl, ?_⟩) hS0 ?_
      rotate_left 1
      · intro W hW
        go_simp
        try with_reducible rfl
      simp only [Act.put, List.getElem_toArray, List.getElem_cons_zero, List.getElem_cons_succ, List.setIfInBounds_toArray, List.set_cons_zero, List.set_cons_succ]
      refine wpAnyH_take (i := 7) (v := ?_) rfl (by kernel_rfl) (by kernel_rfl) (by kernel_rfl) (fun _ _ _ h => h) (Or.inl ⟨by rfl, ?_⟩) hS0 ?_
      rotate_left 1
      · intro W hW
        go_simp
        try with_reducible rfl
      simp only [Act.put, List.getElem_toArray, List.getElem_cons_zero, List.getElem_cons_succ, List.setIfInBounds_toArray, List.set_cons_zero, List.set_cons_succ]
      refine wpAnyH_take (i := 8) (v := ?_) rfl (by kernel_rfl) (by kernel_rfl) (by kernel_rfl) (fun _ _ _ h => h) (Or.inl ⟨by rfl, ?_⟩) hS0 ?_
      rotate_left 1
      · intro W hW
        go_simp
        try with_reducible rfl
      simp only [Act.put, List.getElem_toArray, List.getElem_cons_zero, List.getElem_cons_succ, List.setIfInBounds_toArray, List.set_cons_zero, List.set_cons_succ]
      refine wpAnyH_take (i := 10) (v := ?_) rfl (by kernel_rfl) (by kernel_rfl) (by kernel_rfl) (fun _ _ _ h => h) (Or.inl ⟨by rfl, ?_⟩) hS0 ?_
      rotate_left 1
      · intro W hW
        go_simp
        try with_reducible rfl
      simp only [Act.put, List.getElem_toArray, List.getElem_cons_zero, List.getElem_cons_succ, List.setIfInBounds_toArray, List.set_cons_zero, List.set_cons_succ]
      refine wpAnyH_take (i := 11) (v := ?_) rfl (by kernel_rfl) (by kernel_rfl) (by kernel_rfl) (fun _ _ _ h => h) (Or.inl ⟨by rfl, ?_⟩) hS0 ?_
      rotate_left 1
      · intro W hW
        go_simp
        try with_reducible rfl
      simp only [Act.put, List.getElem_toArray, List.getElem_cons_zero, List.getElem_cons_succ, List.setIfInBounds_toArray, List.set_cons_zero, List.set_cons_succ]
      refine wpAnyH_take (i := 12) (v := ?_) rfl (by kernel_rfl) (by kernel_rfl) (by kernel_rfl) (fun _ _ _ h => h) (Or.inl ⟨by rfl, ?_⟩) hS0 ?_
      rotate_left 1
      · intro W hW
        go_simp
        try with_reducible rfl
      simp only [Act.put, List.getElem_toArray, List.getElem_cons_zero, List.getElem_cons_succ, List.setIfInBounds_toArray, List.set_cons_zero, List.set_cons_succ]
      refine wpAnyH_take (i := 13) (v := ?_) rfl (by kernel_rfl) (by kernel_rfl) (by kernel_rfl) (fun _ _ _ h => h) (Or.inl ⟨by rfl, ?_⟩) hS0 ?_
      rotate_left 1
      · intro W hW
        have c2 := hW.c2
        go_simp
        try with_reducible rfl
      simp only [Act.put, List.getElem_toArray, List.getElem_cons_zero, List.getElem_cons_succ, List.setIfInBounds_toArray, List.set_cons_zero, List.set_cons_succ]
      refine wpAnyH_take (i := 14) (v := ?_) rfl (by kernel_rfl) (by kernel_rfl) (by kernel_rfl) (fun _ _ _ h => h) (Or.inl ⟨by rfl, ?_⟩) hS0 ?_
      rotate_left 1
      · intro W hW
        go_simp
        try with_reducible rfl
      simp only [Act.put, List.getElem_toArray, List.getElem_cons_zero, List.getElem_cons_succ, List.setIfInBounds_toArray, List.set_cons_zero, List.set_cons_succ]
      refine wpAnyH_take (i := 15) (v := .agg (byts 64 V).toArray) rfl (by kernel_rfl) (by kernel_rfl) (by kernel_rfl) (fun _ _ _ h => h) ?_ hS0 ?_
      · exact yields_look_some (by rfl) (.tmp 28) (.tmp 29) rfl m T (fun W hW => hW.mp) rfl (x : Int) rfl (by omega) (by omega) V HFk.out
      simp only [Act.put, List.getElem_toArray, List.getElem_cons_zero, List.getElem_cons_succ, List.setIfInBounds_toArray, List.set_cons_zero, List.set_cons_succ]
      refine wpAnyH_ready (rs := [9]) (by kernel_rfl) (by simp) (AllReadyH.cons rfl (fun KK hKK => ?_) AllReadyH.nil)
      go_simp
      refine (slot_any t d fi k (by omega) (by omega) _ hS0.lg).mono ?_
      rintro e wz ⟨rfl, hwz⟩
      rw [hwz]
      clear hwz
      refine hKK _ _ hS0 ?_
      intro _
      clear hKK KK
      refine wpAnyH_ready (rs := [16]) (by kernel_rfl) (by simp) (AllReadyH.cons rfl (fun KK hKK => ?_) AllReadyH.nil)
      go_simp
      refine (HW.out _ (HDk.out.keep (Below.refl _ _).drew)).mono ?_
      rintro e wZ ⟨rfl, hDZ, hkZ⟩
      have HDZ := Lib.hid hDZ
      have HKZ := Lib.hid ((Kp.refl wX d g).drew.trans hkZ)
      have hS1 := hS0
      clear hS0
      have hS0 : Tx wZ t m d fi T fa := hS1.kp hkZ htd htg hmd hmg
      refine hKK _ _ hS0 ?_
      intro _
      clear hKK KK hDZ hkZ hS1
      refine wpAnyH_take (i := 17) (v := ?_) rfl (by kernel_rfl) (by kernel_rfl) (by kernel_rfl) (fun _ _ _ h => h) (Or.inl ⟨by rfl, ?_⟩) hS0 ?_
      rotate_left 1
      · intro W hW
        go_simp
        try with_reducible rfl
      simp only [Act.put, List.getElem_toArray, List.getElem_cons_zero, List.getElem_cons_succ, List.setIfInBounds_toArray, List.set_cons_zero, List.set_cons_succ]
      refine wpAnyH_done (by kernel_rfl) ?_ _
      clear hS0
      rcases hqc with rfl | rfl
      · go_wp2_with fail
        go_roundw
        case rel => exact ⟨k + 1, q2, by omega, by go_num, by rw [← HIk.out, HSt.out, if_pos rfl], HSq.out, HDZ.out, HKk.out.trans HKZ.out⟩
        case measure => simp [Go.RowKit.intOf]; omega
      · go_wp2_with fail
        go_ret
        have hI : I = (24, q2) := by rw [← HIk.out, HSt.out, if_neg (by decide)]
        have hR : R = (24, q2) := by rw [HIN.out, hI]; rfl
        rw [hR]
        exact ⟨rfl, HDZ.out, HKk.out.trans HKZ.out⟩
    · obtain rfl : k = T.length := by omega
      have hI : I = (0, s1) := by rw [← HIk.out, List.drop_length]; rfl
      have hR : Hid (R = s1.write fi (headF (keys T))) := by show R = _; rw [HIN.out, hI]; rfl
      have hKb : K + T.length < 900000 := by omega
      have HP := Lib.hid (point_any t d g fi N (K + T.length) s1 (.slice a T.length cap) (keys T) (by rw [HKL.out]; exact h30) (fun y hy => by obtain ⟨p, hp, rfl⟩ := List.mem_map.1 hy; have := (HTS.out p hp).1; omega) hf hN hKb HSk.out wX HTX.out.lg HDk.out (HV.out.kp HKk.out hvo) htd htg)
      rw [← hR.out] at HP
      clear HIk HSk HDk HIN HI hR hI HV hvo
      go_wp2_with fail
      refine HP.out.mono ?_
      rintro e wz ⟨rfl, hDz, hkz⟩
      have HDz := Lib.hid hDz
      have HKz := Lib.hid (HKk.out.trans hkz)
      clear hDz hkz HP
      go_wp2
      go_ret
      exact ⟨rfl, HDz.out, HKz.out⟩

/-- Commit: the error's number; what is still to be written; the disk -/
def commit (fi : Nat) (T : TS) (fa : Int) (s : DS) : Int × TS × DS :=
  if fa ≠ 0 then (fa, T, s) else if T = [] then (0, T, s) else if (writeLog fi T s).1 = 0 then ((install fi (keys T) (writeLog fi T s).2).1, [], (install fi (keys T) (writeLog fi T s).2).2) else ((writeLog fi T s).1, T, (writeLog fi T s).2)
theorem Sane.commit {N fi : Nat} (T : TS) (fa : Int) (k : Nat) (s : DS) (h30 : T.length ≤ 30) (hT : ∀ p ∈ T, Byt p.2) (h : Sane s N k) : Sane (commit fi T fa s).2.2 N (k + 92) := by
  unfold Ytlbfdmiihnlljaa.commit
  have h1 := Sane.writeLog (fi := fi) T k s hT h
  split
  · exact h.mono (by omega)
  · split
    · exact h.mono (by omega)
    · split
      · have h2 := h1.install (fi := fi) (keys T)
        rw [keys_len] at h2
        exact h2.mono (by omega)
      · exact h1.mono (by omega)
/-- the disk's blocks, then the map, then the disk's -/
def Kc (w w' : World) (d g m : Nat) : Prop := ∃ w1 w2, Kp w w1 d g ∧ Kp w1 w2 m m ∧ Kp w2 w' d g
theorem Kc.of_kp {w w' : World} {d g : Nat} (h : Kp w w' d g) (m : Nat) : Kc w w' d g m := ⟨w', w', h, Kp.refl _ _ _, Kp.refl _ _ _⟩
theorem Kc.below {w w' : World} {d g m B : Nat} (h : Kc w w' d g m) (h1 : B ≤ d) (h2 : B ≤ g) (h3 : B ≤ m) (hB : B ≤ w.heap.size) : Below B w w' := by
  obtain ⟨w1, w2, k1, k2, k3⟩ := h
  exact ((k1.below h1 h2 hB).trans (k2.below h3 h3 (Nat.le_trans hB k1.size))).trans (k3.below h1 h2 (Nat.le_trans hB (Nat.le_trans k1.size k2.size)))

set_option maxHeartbeats 40000000 in
set_option maxRecDepth 100000 in
theorem commit_any (t m d g fi N K : Nat) (T : TS) (fa : Int) (s : DS) (h30 : T.length ≤ 30) (hts : ∀ p ∈ T, p.1 < N ∧ Byt p.2) (hf : fi + 31 ≤ N) (hN : N ≤ 65536) (hK : K < 700000) (hfa : 0 ≤ fa ∧ fa < 100) (hs : Sane s N K) (w : World) (ht : Tx w t m d fi T fa) (hd : Dk w d g s) (htd : t ≠ d) (htg : t ≠ g) (hmd : m ≠ d) (hmg : m ≠ g) :
    Calls Try.prog 16 #[.pointer (some ⟨t, 0, none⟩)] w fun e w' => e = .returned (.int .i64 (commit fi T fa s).1) ∧ Tx w' t m d fi (commit fi T fa s).2.1 fa ∧ Dk w' d g (commit fi T fa s).2.2 ∧ Kc w w' d g m := by
  have HT := Lib.hid ht
  have HD := Lib.hid hd
  have HS := Lib.hid hs
  have HTS := Lib.hid hts
  have c3 := ht.c3
  have hg0 := hd.fl.lt
  have hd0 := hd.lt
  have ht0 := ht.lg.lt
  clear ht hd hs hts
  obtain ⟨hfa0, hfa1⟩ := hfa
  by_cases hfz : fa = 0
  · subst hfz
    have HBl := Lib.hid (blocks_any t m d fi T 0 (by omega) w HT.out)
    by_cases hTz : T.length = 0
    · obtain rfl := List.eq_nil_of_length_eq_zero hTz
      have hr : commit fi [] 0 s = (0, [], s) := by unfold commit; rw [if_neg (by decide), if_pos rfl]
      rw [hr]
      go_enter Try.func16, Try.ntmps16
      go_wp2_with fail
      refine HBl.out.mono ?_
      rintro e w1 ⟨v1, rfl, hN1, ho1, hb1⟩
      have HB1 := Lib.hid hb1
      obtain ⟨a1, cp1, hv1, -⟩ := hN1.form
      subst hv1
      clear HBl hN1 ho1 hb1
      simp only [keys, List.map_nil, List.length_nil]
      go_wp2_with fail
      go_ret
      exact ⟨rfl, HT.out.keep HB1.out, HD.out.keep HB1.out, Kc.of_kp (Kp.of_below HB1.out _ _) _⟩
    · have hTz' : ¬ ((T.length : Int) = 0) := by omega
      have HIN : Hid (commit fi T 0 s = if (writeLog fi T s).1 = 0 then ((install fi (keys T) (writeLog fi T s).2).1, [], (install fi (keys T) (writeLog fi T s).2).2) else ((writeLog fi T s).1, T, (writeLog fi T s).2)) := by
        show commit fi T 0 s = _
        unfold commit
        rw [if_neg (by decide), if_neg (fun h => hTz (by rw [h]; rfl))]
      obtain ⟨R, hR⟩ : ∃ R, commit fi T 0 s = R := ⟨_, rfl⟩
      rw [hR] at HIN ⊢
      clear hR
      go_enter Try.func16, Try.ntmps16
      go_wp2_with fail
      refine HBl.out.mono ?_
      rintro e w1 ⟨v1, rfl, hN1, ho1, hb1⟩
      have HB1 := Lib.hid hb1
      have HO1 : Hid (Ns.off v1 d g) := fun k hk => by have := ho1 k hk; omega
      have HO1m : Hid (Ns.off v1 m m) := fun k hk => by have := ho1 k hk; have := HT.out.mp.lt; omega
      have HN1 := Lib.hid hN1
      have HT1 := Lib.hid (HT.out.keep hb1)
      have HD1 := Lib.hid (HD.out.keep hb1)
      have HWL := Lib.hid (writelog_any t m d g fi N K T 0 s v1 h30 HTS.out hf hN (by omega) HS.out w1 HT1.out HD1.out hN1 htd htg hmd hmg HO1.out)
      obtain ⟨a1, cp1, hv1, -⟩ := HN1.out.form
      rw [keys_len] at hv1
      subst hv1
      have HSw := Lib.hid (Sane.writeLog (fi := fi) T K s (fun p hp => (HTS.out p hp).2) HS.out)
      obtain ⟨q, hq⟩ : ∃ q, writeLog fi T s = q := ⟨_, rfl⟩
      rw [hq] at HIN HWL HSw
      clear HBl hN1 ho1 hb1 hq
      obtain ⟨q1, q2⟩ := q
      simp only at HIN HWL HSw
      go_wp2_with fail
      refine HWL.out.mono ?_
      rintro e w2 ⟨rfl, hD2, hk2⟩
      have HD2 := Lib.hid hD2
      have HK2 := Lib.hid ((Kp.of_below HB1.out d g).trans hk2)
      have HT2 := Lib.hid (HT1.out.kp hk2 htd htg hmd hmg)
      have HN2 := Lib.hid (HN1.out.kp hk2 HO1.out)
      have c2 := HT2.out.c2
      clear hD2 hk2 HWL HN1 HT1 HD1
      by_cases hq0 : q1 = 0
      · subst hq0
        have hR : R = ((install fi (keys T) q2).1, [], (install fi (keys T) q2).2) := by rw [HIN.out, if_pos rfl]
        subst hR
        go_wp2_with (refine wpList_clear_mp rfl (.tmp 30) rfl m T HT2.out.mp rfl ?_; intro w3 HM3 HK3; have HT3 := Lib.hid (HT2.out.remap HK3.out HM3.out); have HD3 := Lib.hid (HD2.out.kp HK3.out hmd.symm hmd.symm hmg.symm hmg.symm); have HN3 := Lib.hid (HN2.out.kp HK3.out HO1m.out))
        refine (install_any t d g fi N (K + T.length + 1) q2 (.slice a1 T.length cp1) (keys T) (by rw [keys_len]; exact h30) (fun y hy => by obtain ⟨p, hp, rfl⟩ := List.mem_map.1 hy; exact (HTS.out p hp).1) hf hN (by omega) HSw.out w3 HT3.out.lg HD3.out HN3.out htd htg HO1.out).mono ?_
        rintro e w4 ⟨rfl, hD4, hk4⟩
        have HD4 := Lib.hid hD4
        have HK4 := Lib.hid hk4
        clear hD4 hk4
        go_wp2_with fail
        go_ret
        exact ⟨rfl, HT3.out.kp HK4.out htd htg hmd hmg, HD4.out, w2, w3, HK2.out, HK3.out, HK4.out⟩
      · have hR : R = (q1, T, q2) := by rw [HIN.out, if_neg hq0]
        subst hR
        have hq0' : (q1 == 0) = false := by simpa using hq0
        go_wp2_with fail
        go_ret
        exact ⟨rfl, HT2.out, HD2.out, Kc.of_kp HK2.out _⟩
  · have hr : commit fi T fa s = (fa, T, s) := by unfold commit; rw [if_pos hfz]
    rw [hr]
    go_enter Try.func16, Try.ntmps16
    go_wp2_with fail
    go_ret
    exact ⟨rfl, HT.out, HD.out, Kc.of_kp (Kp.refl _ _ _) _⟩
theorem commit_nil (w : World) : Calls Try.prog 16 #[.pointer none] w fun e w' => e = .returned (.int .i64 1) ∧ w' = w := by
  go_enter Try.func16, Try.ntmps16
  go_wp2
  go_ret
  exact ⟨rfl, rfl⟩
end Go.Proofs.Ytlbfdmiihnlljaa
