import Derived.Test.YtlbfdmiihnlljaaE5
import Derived.Deep.CutBlock
import Derived.Deep.DeepCutAuto
/- install. -/
namespace Go.Proofs.Ytlbfdmiihnlljaa
set_option linter.unusedSimpArgs false
set_option linter.unusedVariables false
open Go.RowKit Go.Maps

theorem step_alloc_byts {P : Program} {ops : Array Oper} {o : Oper} {a : Act} {w : World} {K : Act → World → Prop} {Q : Exit → Act → World → Prop} {E : Prop} (hgd : o.guard = none) (ty : TypeId) (n : Nat) (ho : o.op = .alloc ty)
    (hz : (P.info? ty).map (fun i => i.zero) = some (some (.agg (byts n fun _ => 0).toArray)))
    (h : ∀ w', Hid (Fl w' w.heap.size n fun _ => 0) → Below w.heap.size w w' → w'.heap.size = w.heap.size + 1 → K (a.put o.dst (.pointer (some ⟨w.heap.size, 0, none⟩))) w') : if Region.wanted o (yielded ops a.tmps) = true then Oper.wp P o a w K Q else E := by
  have hw : Region.wanted o (yielded ops a.tmps) = true := by simp [Region.wanted, hgd]
  rw [if_pos hw]
  have hr : (Instr.alloc ty true (.tuple #[])).run P w = .ok (.pointer (some ⟨w.heap.size, 0, none⟩)) (w.alloc (.cells (byts n fun _ => 0).toArray ty)) := by
    cases hq : P.info? ty with
    | none => simp [hq] at hz
    | some i =>
      simp [hq] at hz
      simp [Instr.alloc, zeroValue, typeInfo, hq, hz, newVar, newRow, Value.cells]
  unfold Oper.wp
  simp [execOp, ho, hr, Result.andThen]
  exact h _ (Fl.new w n _ ty) ((Below.refl _ _).alloc (Nat.le_refl _) _) (by simp)

/-- the blocks of a log, from its i-th on, to their places -/
def inst (fi : Nat) : Nat → List Nat → DS → Int × DS
  | _, [], s => (0, s)
  | i, p :: r, s => if (s.rdd.write p (s.blk (fi + 1 + i))).1 = 0 then inst fi (i + 1) r (s.rdd.write p (s.blk (fi + 1 + i))).2 else s.rdd.write p (s.blk (fi + 1 + i))
def install (fi : Nat) (ts : List Nat) (s : DS) : Int × DS :=
  if ts = [] then (0, s) else if (inst fi 0 ts s).1 = 0 then (inst fi 0 ts s).2.write fi (headF []) else inst fi 0 ts s
theorem Sane.inst {N fi : Nat} : ∀ (ts : List Nat) (i k : Nat) (s : DS), Sane s N k → Sane (inst fi i ts s).2 N (k + 2 * ts.length)
  | [], i, k, s, h => h
  | p :: r, i, k, s, h => by
    have h1 : Sane (s.rdd.write p (s.blk (fi + 1 + i))).2 N (k + 1 + 1) := h.rdd.write p _ (h.blk _)
    unfold Ytlbfdmiihnlljaa.inst
    split
    · have := Sane.inst (fi := fi) r (i + 1) (k + 1 + 1) _ h1
      rw [List.length_cons, show k + 2 * (r.length + 1) = k + 1 + 1 + 2 * r.length by omega]
      exact this
    · exact h1.mono (by rw [List.length_cons]; omega)
theorem Sane.install {N fi : Nat} (ts : List Nat) (k : Nat) (s : DS) (h : Sane s N k) : Sane (install fi ts s).2 N (k + 2 * ts.length + 1) := by
  unfold Ytlbfdmiihnlljaa.install
  split
  · exact h.mono (by omega)
  · split
    · exact (h.inst ts 0).write fi _ (headF_byt _)
    · exact (h.inst ts 0).mono (by omega)
theorem ne_nil_of_pos {α : Type} {l : List α} (h : 0 < l.length) : l ≠ [] := fun e => by rw [e] at h; cases h

set_option maxHeartbeats 40000000 in
set_option maxRecDepth 100000 in
theorem install_any (l d g fi N K : Nat) (s : DS) (v : Value) (ts : List Nat) (h30 : ts.length ≤ 30) (hts : ∀ t ∈ ts, t < N) (hf : fi + 31 ≤ N) (hN : N ≤ 65536) (hK : K < 800000) (hs : Sane s N K) (w : World) (hl : Lg w l d fi) (hd : Dk w d g s) (hv : Ns w v ts) (hld : l ≠ d) (hlg : l ≠ g) (hvo : Ns.off v d g) :
    Calls Try.prog 41 #[.pointer (some ⟨l, 0, none⟩), v] w fun e w' => e = .returned (.int .i64 (install fi ts s).1) ∧ Dk w' d g (install fi ts s).2 ∧ Kp w w' d g := by
  obtain ⟨a, cap, rfl, hm⟩ := hv.form
  unfold maxLen at hm
  have HV := Lib.hid hv
  have HL := Lib.hid hl
  have HD := Lib.hid hd
  have HS := Lib.hid hs
  have HT := Lib.hid hts
  have hg0 := hd.fl.lt
  have hd0 := hd.lt
  have hl0 := hl.lt
  clear hv hl hd hs hts
  by_cases hz : ts.length = 0
  · obtain rfl := List.eq_nil_of_length_eq_zero hz
    go_enter Try.func41, Try.ntmps41
    go_wp2
    go_ret
    exact ⟨rfl, HD.out, Kp.refl _ _ _⟩
  · have hpos : 0 < ts.length := by omega
    have hpos' : ¬ ((ts.length : Int) = 0) := by omega
    have hpb : ((ts.length : Int) == 0) = false := by simpa using hpos'
    have HIN : Hid (install fi ts s = if (inst fi 0 ts s).1 = 0 then (inst fi 0 ts s).2.write fi (headF []) else inst fi 0 ts s) := by
      show install fi ts s = _
      unfold install
      rw [if_neg (ne_nil_of_pos hpos)]
    obtain ⟨R, hR⟩ : ∃ R, install fi ts s = R := ⟨_, rfl⟩
    rw [hR] at HIN ⊢
    obtain ⟨I, hI⟩ : ∃ I, inst fi 0 ts s = I := ⟨_, rfl⟩
    have HI := Lib.hid hI
    rw [hI] at HIN
    clear hR hI hz
    go_enter Try.func41, Try.ntmps41
    go_wp2
    go_loopw [5, 6, 7, 8, 9, 15] (fun _ _ _ _ _ i wr => ∃ (k : Nat) (s1 : DS), k ≤ ts.length ∧ i = .int .i64 k ∧ inst fi k (ts.drop k) s1 = I ∧ Sane s1 N (K + 2 * k) ∧ Dk wr d g s1 ∧ Kp w wr d g) (fun _ _ _ _ _ i _ => ts.length - (Go.RowKit.intOf i).toNat)
    case atStart => exact ⟨0, s, by omega, rfl, by rw [List.drop_zero]; exact HI.out, HS.out, HD.out, Kp.refl _ _ _⟩
    case round =>
      obtain ⟨k, s1, hk, rfl, hIk, hSk, hDk, hKk⟩ := hrel
      have HIk := Lib.hid hIk
      have HSk := Lib.hid hSk
      have HDk := Lib.hid hDk
      have HKk := Lib.hid hKk
      have hk0 : (0 : Int) ≤ k := by omega
      have hzr := hKk.size
      clear hIk hSk hDk hKk
      by_cases hlt : k < ts.length
      · have hkk : (k : Int) < ts.length := by omega
        have HSt : Hid (inst fi k (ts.drop k) s1 = if (s1.rdd.write ts[k] (s1.blk (fi + 1 + k))).1 = 0 then inst fi (k + 1) (ts.drop (k + 1)) (s1.rdd.write ts[k] (s1.blk (fi + 1 + k))).2 else s1.rdd.write ts[k] (s1.blk (fi + 1 + k))) := by
          show inst fi k (ts.drop k) s1 = _
          rw [List.drop_eq_getElem_cons hlt]
          rfl
        obtain ⟨b, off, rfl, hbl, hbc⟩ := HV.out.at k hlt
        obtain ⟨hob1, hob2⟩ := hvo b rfl
        have ec := (HKk.out.cell (p := ⟨b, off + k, none⟩) hbl hob1 hob2).trans hbc
        have HTk := Lib.hid (HT.out ts[k] (List.getElem_mem hlt))
        have HVl := Lib.hid hvo
        clear hbc hvo
        generalize ts[k] = t at *
        go_upto_region 6 with fail
        obtain ⟨wX, rfl⟩ : ∃ x, x = wr := ⟨wr, rfl⟩
        have hfk : fi + 1 + k < N := by omega
        have hKb : K + 2 * k < 900000 := by omega
        have hdX := HDk.out.lt
        have hgX := HDk.out.fl.lt
        have hlX : l < wX.heap.size := by omega
        have HLX := Lib.hid (HL.out.kp HKk.out hld hlg)
        obtain ⟨V, hV⟩ : ∃ V, s1.blk (fi + 1 + k) = V := ⟨_, rfl⟩
        have HR : Hid (∀ W, Dk W d g s1 → Calls Try.prog 35 #[.pointer (some ⟨d, 0, none⟩), .int .i64 ((fi : Int) + 1 + (k : Int))] W fun e w' => e = .returned (.tuple #[.agg (byts 64 V).toArray, .int .i64 0]) ∧ Dk w' d g s1.rdd ∧ Kp W w' d g) := fun W h => by
          have := read_any d g s1 (fi + 1 + k) N (K + 2 * k) hfk hN hKb HSk.out W h
          rwa [hV, show ((fi + 1 + k : Nat) : Int) = (fi : Int) + 1 + (k : Int) by omega] at this
        have hVb : Byt V := by rw [← hV]; exact HSk.out.blk _
        have HVb := Lib.hid hVb
        rw [hV] at HSt
        clear hV hVb
        go_cut [7, 8] (fun x y wc => ∃ b, x = .pointer (some ⟨b, 0, none⟩) ∧ y = .int .i64 0 ∧ wX.heap.size ≤ b ∧ Fl wc b 64 V ∧ Dk wc d g s1.rdd ∧ Kp wX wc d g)
        case first =>
          refine wp_region_held (S := fun W => Lg W l d fi) (by kernel_rfl) ?_
          change wpAnyH _ _ _ _ _ _ _ _ (World.drew _)
          have hS0 : Lg wX.drew l d fi := HLX.out.keep (Below.refl _ _).drew
          have HL0 := Lib.hid hS0
          have HD0 := Lib.hid (HDk.out.keep (Below.refl _ _).drew)
          have HK0 := Lib.hid (Kp.refl wX d g).drew
          have hz0 : wX.heap.size ≤ wX.drew.heap.size := Nat.le_refl _
          obtain ⟨w0, hw0⟩ : ∃ x, World.drew wX = x := ⟨_, rfl⟩
          rw [hw0] at hS0 HL0 HD0 HK0 hz0 ⊢
          clear hw0
          refine wpAnyH_take (i := 0) (v := ?_) rfl (by kernel_rfl) (by kernel_rfl) (by kernel_rfl) (fun _ _ _ h => h) (Or.inl ⟨by rfl, ?_⟩) hS0 ?_
          rotate_left 1
          · intro W hW
            go_simp
            try with_reducible rfl
          simp only [Act.put, List.getElem_toArray, List.getElem_cons_zero, List.getElem_cons_succ, List.setIfInBounds_toArray, List.set_cons_zero, List.set_cons_succ]
          refine wpAnyH_take (i := 1) (v := ?_) rfl (by kernel_rfl) (by kernel_rfl) (by kernel_rfl) (fun _ _ _ h => h) (Or.inl ⟨by rfl, ?_⟩) hS0 ?_
          rotate_left 1
          · intro W hW
            go_simp
            try with_reducible rfl
          simp only [Act.put, List.getElem_toArray, List.getElem_cons_zero, List.getElem_cons_succ, List.setIfInBounds_toArray, List.set_cons_zero, List.set_cons_succ]
          refine wpAnyH_take (i := 2) (v := ?_) rfl (by kernel_rfl) (by kernel_rfl) (by kernel_rfl) (fun _ _ _ h => h) (Or.inl ⟨by rfl, ?_⟩) hS0 ?_
          rotate_left 1
          · intro W hW
            go_simp
            try with_reducible rfl
          simp only [Act.put, List.getElem_toArray, List.getElem_cons_zero, List.getElem_cons_succ, List.setIfInBounds_toArray, List.set_cons_zero, List.set_cons_succ]
          refine wpAnyH_take (i := 3) (v := ?_) rfl (by kernel_rfl) (by kernel_rfl) (by kernel_rfl) (fun _ _ _ h => h) (Or.inl ⟨by rfl, ?_⟩) hS0 ?_
          rotate_left 1
          · intro W hW
            have c0 := hW.c0
            go_simp
            try with_reducible rfl
          simp only [Act.put, List.getElem_toArray, List.getElem_cons_zero, List.getElem_cons_succ, List.setIfInBounds_toArray, List.set_cons_zero, List.set_cons_succ]
          refine wpAnyH_take (i := 4) (v := ?_) rfl (by kernel_rfl) (by kernel_rfl) (by kernel_rfl) (fun _ _ _ h => h) (Or.inl ⟨by rfl, ?_⟩) hS0 ?_
          rotate_left 1
          · intro W hW
            go_simp
            try with_reducible rfl
          simp only [Act.put, List.getElem_toArray, List.getElem_cons_zero, List.getElem_cons_succ, List.setIfInBounds_toArray, List.set_cons_zero, List.set_cons_succ]
          refine wpAnyH_take (i := 5) (v := ?_) rfl (by kernel_rfl) (by kernel_rfl) (by kernel_rfl) (fun _ _ _ h => h) (Or.inl ⟨by rfl, ?_⟩) hS0 ?_
          rotate_left 1
          · intro W hW
            go_simp
            try with_reducible rfl
          simp only [Act.put, List.getElem_toArray, List.getElem_cons_zero, List.getElem_cons_succ, List.setIfInBounds_toArray, List.set_cons_zero, List.set_cons_succ]
          refine wpAnyH_ready (rs := [6, 11]) (by kernel_rfl) (by simp) (AllReadyH.cons rfl (fun KK hKK => ?_) (AllReadyH.cons rfl (fun KK hKK => ?_) AllReadyH.nil))
          · skip
            go_simp
            refine (slot_any l d fi k (by omega) (by omega) w0 HL0.out).mono ?_
            rintro e wz ⟨rfl, hwz⟩
            rw [hwz]
            clear hwz
            refine hKK _ _ HL0.out ?_
            intro _
            clear hKK KK
            try simp only [Act.put, List.getElem_toArray, List.getElem_cons_zero, List.getElem_cons_succ, List.setIfInBounds_toArray, List.set_cons_zero, List.set_cons_succ]
            refine wpAnyH_ready (rs := [7, 11]) (by kernel_rfl) (by simp) (AllReadyH.cons rfl (fun KK hKK => ?_) (AllReadyH.cons rfl (fun KK hKK => ?_) AllReadyH.nil))
            · skip
              go_simp
              refine (HR.out w0 HD0.out).mono ?_
              rintro e w2 ⟨rfl, hD2, hk2⟩
              have HD2 := Lib.hid hD2
              have HL2 := Lib.hid (HL0.out.kp hk2 hld hlg)
              have HK2 := Lib.hid (HK0.out.trans hk2)
              have hz2 : wX.heap.size ≤ w2.heap.size := HK2.out.size
              clear hS0
              have hS0 : Lg w2 l d fi := HL2.out
              refine hKK _ _ hS0 ?_
              intro _
              clear hKK KK hD2 hk2
              try simp only [Act.put, List.getElem_toArray, List.getElem_cons_zero, List.getElem_cons_succ, List.setIfInBounds_toArray, List.set_cons_zero, List.set_cons_succ]
              refine wpAnyH_take (i := 8) (v := ?_) rfl (by kernel_rfl) (by kernel_rfl) (by kernel_rfl) (fun _ _ _ h => h) (Or.inl ⟨by rfl, ?_⟩) hS0 ?_
              rotate_left 1
              · intro W hW
                go_simp
                try with_reducible rfl
              simp only [Act.put, List.getElem_toArray, List.getElem_cons_zero, List.getElem_cons_succ, List.setIfInBounds_toArray, List.set_cons_zero, List.set_cons_succ]
              refine wpAnyH_take (i := 9) (v := ?_) rfl (by kernel_rfl) (by kernel_rfl) (by kernel_rfl) (fun _ _ _ h => h) (Or.inl ⟨by rfl, ?_⟩) hS0 ?_
              rotate_left 1
              · intro W hW
                go_simp
                try with_reducible rfl
              simp only [Act.put, List.getElem_toArray, List.getElem_cons_zero, List.getElem_cons_succ, List.setIfInBounds_toArray, List.set_cons_zero, List.set_cons_succ]
              refine wpAnyH_take (i := 10) (v := ?_) rfl (by kernel_rfl) (by kernel_rfl) (by kernel_rfl) (fun _ _ _ h => h) (Or.inl ⟨by rfl, ?_⟩) hS0 ?_
              rotate_left 1
              · intro W hW
                go_simp
                try with_reducible rfl
              simp only [Act.put, List.getElem_toArray, List.getElem_cons_zero, List.getElem_cons_succ, List.setIfInBounds_toArray, List.set_cons_zero, List.set_cons_succ]
              refine wpAnyH_ready (rs := [11]) (by kernel_rfl) (by simp) (AllReadyH.cons rfl (fun KK hKK => ?_) AllReadyH.nil)
              refine step_alloc_byts rfl 50 64 rfl Try.zero36 ?_
              intro w3 HF3 hb3 hq3
              obtain ⟨b9, hb9⟩ : ∃ b9, w2.heap.size = b9 := ⟨_, rfl⟩
              have HD3 := Lib.hid (HD2.out.keep hb3)
              have HL3 := Lib.hid (HL2.out.keep hb3)
              have HK3 := Lib.hid (HK2.out.trans (Kp.of_below hb3 d g))
              have hz3 : wX.heap.size ≤ w3.heap.size := HK3.out.size
              rw [hb9] at HF3 hq3 hz2 ⊢
              clear hS0
              have hS0 : Lg w3 l d fi := HL3.out
              refine hKK _ _ hS0 ?_
              intro _
              clear hKK KK hb3 hb9 hq3
              try simp only [Act.put, List.getElem_toArray, List.getElem_cons_zero, List.getElem_cons_succ, List.setIfInBounds_toArray, List.set_cons_zero, List.set_cons_succ]
              refine wpAnyH_ready (rs := [12]) (by kernel_rfl) (by simp) (AllReadyH.cons rfl (fun KK hKK => ?_) AllReadyH.nil)
              refine step_store_mid rfl 50 _ _ rfl b9 0 (byts 64 V).toArray rfl rfl (by rw [byts_size]; exact HF3.out.there 0 64 (Nat.le_refl _)) (size36' _) (byts_all _ _) ?_
              rw [List.toList_toArray]
              have HF4 := Lib.hid (HF3.out.stored V)
              have hk4 : Kp w3 (w3.setCells b9 0 (byts 64 V)) b9 b9 := (Kp.refl _ b9 b9).setCells b9 0 (.inl rfl) _
              have HD4 := Lib.hid (HD3.out.kp hk4 (by omega) (by omega) (by omega) (by omega))
              have HL4 := Lib.hid (HL3.out.kp hk4 (by omega) (by omega))
              have HK4 := Lib.hid (HK3.out.setCellsNew b9 0 (by omega) (byts 64 V))
              obtain ⟨w4, hw4⟩ : ∃ x, w3.setCells b9 0 (byts 64 V) = x := ⟨_, rfl⟩
              rw [hw4] at HF4 HD4 HL4 HK4 ⊢
              clear hS0 hk4 hw4
              have hS0 : Lg w4 l d fi := HL4.out
              refine hKK _ _ hS0 ?_
              intro _
              clear hKK KK
              try simp only [Act.put, List.getElem_toArray, List.getElem_cons_zero, List.getElem_cons_succ, List.setIfInBounds_toArray, List.set_cons_zero, List.set_cons_succ]
              refine wpAnyH_take (i := 13) (v := ?_) rfl (by kernel_rfl) (by kernel_rfl) (by kernel_rfl) (fun _ _ _ h => h) (Or.inl ⟨by rfl, ?_⟩) hS0 ?_
              rotate_left 1
              · intro W hW
                go_simp
                try with_reducible rfl
              simp only [Act.put, List.getElem_toArray, List.getElem_cons_zero, List.getElem_cons_succ, List.setIfInBounds_toArray, List.set_cons_zero, List.set_cons_succ]
              refine wpAnyH_done (by kernel_rfl) ?_ _
              clear hS0
              go_wp2_with fail
              go_meet
              case rel => exact ⟨b9, rfl, rfl, by omega, HF4.out, HD4.out, HK4.out⟩
            · skip
              refine step_alloc_byts rfl 50 64 rfl Try.zero36 ?_
              intro w2 HF2 hb2 hq2
              obtain ⟨b9, hb9⟩ : ∃ b9, w0.heap.size = b9 := ⟨_, rfl⟩
              have HD2 := Lib.hid (HD0.out.keep hb2)
              have HL2 := Lib.hid (HL0.out.keep hb2)
              have HK2 := Lib.hid (HK0.out.trans (Kp.of_below hb2 d g))
              have hz2 : wX.heap.size ≤ w2.heap.size := HK2.out.size
              rw [hb9] at HF2 hq2 hz0 ⊢
              clear hS0
              have hS0 : Lg w2 l d fi := HL2.out
              refine hKK _ _ hS0 ?_
              intro _
              clear hKK KK hb2 hb9 hq2
              try simp only [Act.put, List.getElem_toArray, List.getElem_cons_zero, List.getElem_cons_succ, List.setIfInBounds_toArray, List.set_cons_zero, List.set_cons_succ]
              refine wpAnyH_ready (rs := [7]) (by kernel_rfl) (by simp) (AllReadyH.cons rfl (fun KK hKK => ?_) AllReadyH.nil)
              go_simp
              refine (HR.out w2 HD2.out).mono ?_
              rintro e w3 ⟨rfl, hD3, hk3⟩
              have HD3 := Lib.hid hD3
              have HL3 := Lib.hid (HL2.out.kp hk3 hld hlg)
              have HK3 := Lib.hid (HK2.out.trans hk3)
              have HF3 := Lib.hid (HF2.out.kp hk3 (by omega) (by omega))
              have hz3 : wX.heap.size ≤ w3.heap.size := HK3.out.size
              clear hS0
              have hS0 : Lg w3 l d fi := HL3.out
              refine hKK _ _ hS0 ?_
              intro _
              clear hKK KK hD3 hk3
              try simp only [Act.put, List.getElem_toArray, List.getElem_cons_zero, List.getElem_cons_succ, List.setIfInBounds_toArray, List.set_cons_zero, List.set_cons_succ]
              refine wpAnyH_take (i := 8) (v := ?_) rfl (by kernel_rfl) (by kernel_rfl) (by kernel_rfl) (fun _ _ _ h => h) (Or.inl ⟨by rfl, ?_⟩) hS0 ?_
              rotate_left 1
              · intro W hW
                go_simp
                try with_reducible rfl
              simp only [Act.put, List.getElem_toArray, List.getElem_cons_zero, List.getElem_cons_succ, List.setIfInBounds_toArray, List.set_cons_zero, List.set_cons_succ]
              refine wpAnyH_take (i := 9) (v := ?_) rfl (by kernel_rfl) (by kernel_rfl) (by kernel_rfl) (fun _ _ _ h => h) (Or.inl ⟨by rfl, ?_⟩) hS0 ?_
              rotate_left 1
              · intro W hW
                go_simp
                try with_reducible rfl
              simp only [Act.put, List.getElem_toArray, List.getElem_cons_zero, List.getElem_cons_succ, List.setIfInBounds_toArray, List.set_cons_zero, List.set_cons_succ]
              refine wpAnyH_take (i := 10) (v := ?_) rfl (by kernel_rfl) (by kernel_rfl) (by kernel_rfl) (fun _ _ _ h => h) (Or.inl ⟨by rfl, ?_⟩) hS0 ?_
              rotate_left 1
              · intro W hW
                go_simp
                try with_reducible rfl
              simp only [Act.put, List.getElem_toArray, List.getElem_cons_zero, List.getElem_cons_succ, List.setIfInBounds_toArray, List.set_cons_zero, List.set_cons_succ]
              refine wpAnyH_ready (rs := [12]) (by kernel_rfl) (by simp) (AllReadyH.cons rfl (fun KK hKK => ?_) AllReadyH.nil)
              refine step_store_mid rfl 50 _ _ rfl b9 0 (byts 64 V).toArray rfl rfl (by rw [byts_size]; exact HF3.out.there 0 64 (Nat.le_refl _)) (size36' _) (byts_all _ _) ?_
              rw [List.toList_toArray]
              have HF4 := Lib.hid (HF3.out.stored V)
              have hk4 : Kp w3 (w3.setCells b9 0 (byts 64 V)) b9 b9 := (Kp.refl _ b9 b9).setCells b9 0 (.inl rfl) _
              have HD4 := Lib.hid (HD3.out.kp hk4 (by omega) (by omega) (by omega) (by omega))
              have HL4 := Lib.hid (HL3.out.kp hk4 (by omega) (by omega))
              have HK4 := Lib.hid (HK3.out.setCellsNew b9 0 (by omega) (byts 64 V))
              obtain ⟨w4, hw4⟩ : ∃ x, w3.setCells b9 0 (byts 64 V) = x := ⟨_, rfl⟩
              rw [hw4] at HF4 HD4 HL4 HK4 ⊢
              clear hS0 hk4 hw4
              have hS0 : Lg w4 l d fi := HL4.out
              refine hKK _ _ hS0 ?_
              intro _
              clear hKK KK
              try simp only [Act.put, List.getElem_toArray, List.getElem_cons_zero, List.getElem_cons_succ, List.setIfInBounds_toArray, List.set_cons_zero, List.set_cons_succ]
              refine wpAnyH_take (i := 13) (v := ?_) rfl (by kernel_rfl) (by kernel_rfl) (by kernel_rfl) (fun _ _ _ h => h) (Or.inl ⟨by rfl, ?_⟩) hS0 ?_
              rotate_left 1
              · intro W hW
                go_simp
                try with_reducible rfl
              simp only [Act.put, List.getElem_toArray, List.getElem_cons_zero, List.getElem_cons_succ, List.setIfInBounds_toArray, List.set_cons_zero, List.set_cons_succ]
              refine wpAnyH_done (by kernel_rfl) ?_ _
              clear hS0
              go_wp2_with fail
              go_meet
              case rel => exact ⟨b9, rfl, rfl, by omega, HF4.out, HD4.out, HK4.out⟩
          · skip
            refine step_alloc_byts rfl 50 64 rfl Try.zero36 ?_
            intro w1 HF1 hb1 hq1
            obtain ⟨b9, hb9⟩ : ∃ b9, w0.heap.size = b9 := ⟨_, rfl⟩
            have HD1 := Lib.hid (HD0.out.keep hb1)
            have HL1 := Lib.hid (HL0.out.keep hb1)
            have HK1 := Lib.hid (HK0.out.trans (Kp.of_below hb1 d g))
            have hz1 : wX.heap.size ≤ w1.heap.size := HK1.out.size
            rw [hb9] at HF1 hq1 hz0 ⊢
            clear hS0
            have hS0 : Lg w1 l d fi := HL1.out
            refine hKK _ _ hS0 ?_
            intro _
            clear hKK KK hb1 hb9 hq1
            try simp only [Act.put, List.getElem_toArray, List.getElem_cons_zero, List.getElem_cons_succ, List.setIfInBounds_toArray, List.set_cons_zero, List.set_cons_succ]
            refine wpAnyH_ready (rs := [6]) (by kernel_rfl) (by simp) (AllReadyH.cons rfl (fun KK hKK => ?_) AllReadyH.nil)
            go_simp
            refine (slot_any l d fi k (by omega) (by omega) w1 HL1.out).mono ?_
            rintro e wz ⟨rfl, hwz⟩
            rw [hwz]
            clear hwz
            refine hKK _ _ HL1.out ?_
            intro _
            clear hKK KK
            try simp only [Act.put, List.getElem_toArray, List.getElem_cons_zero, List.getElem_cons_succ, List.setIfInBounds_toArray, List.set_cons_zero, List.set_cons_succ]
            refine wpAnyH_ready (rs := [7]) (by kernel_rfl) (by simp) (AllReadyH.cons rfl (fun KK hKK => ?_) AllReadyH.nil)
            go_simp
            refine (HR.out w1 HD1.out).mono ?_
            rintro e w3 ⟨rfl, hD3, hk3⟩
            have HD3 := Lib.hid hD3
            have HL3 := Lib.hid (HL1.out.kp hk3 hld hlg)
            have HK3 := Lib.hid (HK1.out.trans hk3)
            have HF3 := Lib.hid (HF1.out.kp hk3 (by omega) (by omega))
            have hz3 : wX.heap.size ≤ w3.heap.size := HK3.out.size
            clear hS0
            have hS0 : Lg w3 l d fi := HL3.out
            refine hKK _ _ hS0 ?_
            intro _
            clear hKK KK hD3 hk3
            try simp only [Act.put, List.getElem_toArray, List.getElem_cons_zero, List.getElem_cons_succ, List.setIfInBounds_toArray, List.set_cons_zero, List.set_cons_succ]
            refine wpAnyH_take (i := 8) (v := ?_) rfl (by kernel_rfl) (by kernel_rfl) (by kernel_rfl) (fun _ _ _ h => h) (Or.inl ⟨by rfl, ?_⟩) hS0 ?_
            rotate_left 1
            · intro W hW
              go_simp
              try with_reducible rfl
            simp only [Act.put, List.getElem_toArray, List.getElem_cons_zero, List.getElem_cons_succ, List.setIfInBounds_toArray, List.set_cons_zero, List.set_cons_succ]
            refine wpAnyH_take (i := 9) (v := ?_) rfl (by kernel_rfl) (by kernel_rfl) (by kernel_rfl) (fun _ _ _ h => h) (Or.inl ⟨by rfl, ?_⟩) hS0 ?_
            rotate_left 1
            · intro W hW
              go_simp
              try with_reducible rfl
            simp only [Act.put, List.getElem_toArray, List.getElem_cons_zero, List.getElem_cons_succ, List.setIfInBounds_toArray, List.set_cons_zero, List.set_cons_succ]
            refine wpAnyH_take (i := 10) (v := ?_) rfl (by kernel_rfl) (by kernel_rfl) (by kernel_rfl) (fun _ _ _ h => h) (Or.inl ⟨by rfl, ?_⟩) hS0 ?_
            rotate_left 1
            · intro W hW
              go_simp
              try with_reducible rfl
            simp only [Act.put, List.getElem_toArray, List.getElem_cons_zero, List.getElem_cons_succ, List.setIfInBounds_toArray, List.set_cons_zero, List.set_cons_succ]
            refine wpAnyH_ready (rs := [12]) (by kernel_rfl) (by simp) (AllReadyH.cons rfl (fun KK hKK => ?_) AllReadyH.nil)
            refine step_store_mid rfl 50 _ _ rfl b9 0 (byts 64 V).toArray rfl rfl (by rw [byts_size]; exact HF3.out.there 0 64 (Nat.le_refl _)) (size36' _) (byts_all _ _) ?_
            rw [List.toList_toArray]
            have HF4 := Lib.hid (HF3.out.stored V)
            have hk4 : Kp w3 (w3.setCells b9 0 (byts 64 V)) b9 b9 := (Kp.refl _ b9 b9).setCells b9 0 (.inl rfl) _
            have HD4 := Lib.hid (HD3.out.kp hk4 (by omega) (by omega) (by omega) (by omega))
            have HL4 := Lib.hid (HL3.out.kp hk4 (by omega) (by omega))
            have HK4 := Lib.hid (HK3.out.setCellsNew b9 0 (by omega) (byts 64 V))
            obtain ⟨w4, hw4⟩ : ∃ x, w3.setCells b9 0 (byts 64 V) = x := ⟨_, rfl⟩
            rw [hw4] at HF4 HD4 HL4 HK4 ⊢
            clear hS0 hk4 hw4
            have hS0 : Lg w4 l d fi := HL4.out
            refine hKK _ _ hS0 ?_
            intro _
            clear hKK KK
            try simp only [Act.put, List.getElem_toArray, List.getElem_cons_zero, List.getElem_cons_succ, List.setIfInBounds_toArray, List.set_cons_zero, List.set_cons_succ]
            refine wpAnyH_take (i := 13) (v := ?_) rfl (by kernel_rfl) (by kernel_rfl) (by kernel_rfl) (fun _ _ _ h => h) (Or.inl ⟨by rfl, ?_⟩) hS0 ?_
            rotate_left 1
            · intro W hW
              go_simp
              try with_reducible rfl
            simp only [Act.put, List.getElem_toArray, List.getElem_cons_zero, List.getElem_cons_succ, List.setIfInBounds_toArray, List.set_cons_zero, List.set_cons_succ]
            refine wpAnyH_done (by kernel_rfl) ?_ _
            clear hS0
            go_wp2_with fail
            go_meet
            case rel => exact ⟨b9, rfl, rfl, by omega, HF4.out, HD4.out, HK4.out⟩
        case rest =>
          obtain ⟨b9, rfl, rfl, hb9, hF9, hD9, hK9⟩ := hcut
          obtain ⟨wY, rfl⟩ : ∃ x, x = wc := ⟨wc, rfl⟩
          have HF9 := Lib.hid hF9
          have HD9 := Lib.hid hD9
          have HK9 := Lib.hid hK9
          clear hF9 hD9 hK9 HR
          go_upto_region 9 with fail
          refine wp_region_held (S := fun W => Lg W l d fi ∧ Fl W b9 64 V) (by kernel_rfl) ?_
          change wpAnyH _ _ _ _ _ _ _ _ (World.drew _)
          have hS0 : Lg wY.drew l d fi ∧ Fl wY.drew b9 64 V := ⟨(HLX.out.kp HK9.out hld hlg).keep (Below.refl _ _).drew, HF9.out.below (Below.refl _ _).drew HF9.out.lt⟩
          have hWk : K + 2 * k + 1 < 900000 := by omega
          refine wpAnyH_take (i := 0) (v := ?_) rfl (by kernel_rfl) (by kernel_rfl) (by kernel_rfl) (fun _ _ _ h => h) (Or.inl ⟨by rfl, ?_⟩) hS0 ?_
          rotate_left 1
          · intro W hW
            go_simp
            try with_reducible rfl
          simp only [Act.put, List.getElem_toArray, List.getElem_cons_zero, List.getElem_cons_succ, List.setIfInBounds_toArray, List.set_cons_zero, List.set_cons_succ]
          refine wpAnyH_take (i := 1) (v := ?_) rfl (by kernel_rfl) (by kernel_rfl) (by kernel_rfl) (fun _ _ _ h => h) (Or.inl ⟨by rfl, ?_⟩) hS0 ?_
          rotate_left 1
          · intro W hW
            go_simp
            try with_reducible rfl
          simp only [Act.put, List.getElem_toArray, List.getElem_cons_zero, List.getElem_cons_succ, List.setIfInBounds_toArray, List.set_cons_zero, List.set_cons_succ]
          refine wpAnyH_take (i := 2) (v := ?_) rfl (by kernel_rfl) (by kernel_rfl) (by kernel_rfl) (fun _ _ _ h => h) (Or.inl ⟨by rfl, ?_⟩) hS0 ?_
          rotate_left 1
          · intro W hW
            go_simp
            try with_reducible rfl
          simp only [Act.put, List.getElem_toArray, List.getElem_cons_zero, List.getElem_cons_succ, List.setIfInBounds_toArray, List.set_cons_zero, List.set_cons_succ]
          refine wpAnyH_take (i := 3) (v := ?_) rfl (by kernel_rfl) (by kernel_rfl) (by kernel_rfl) (fun _ _ _ h => h) (Or.inl ⟨by rfl, ?_⟩) hS0 ?_
          rotate_left 1
          · intro W hW
            have c0 := hW.1.c0
            go_simp
            try with_reducible rfl
          simp only [Act.put, List.getElem_toArray, List.getElem_cons_zero, List.getElem_cons_succ, List.setIfInBounds_toArray, List.set_cons_zero, List.set_cons_succ]
          refine wpAnyH_take (i := 4) (v := ?_) rfl (by kernel_rfl) (by kernel_rfl) (by kernel_rfl) (fun _ _ _ h => h) (Or.inl ⟨by rfl, ?_⟩) hS0 ?_
          rotate_left 1
          · intro W hW
            go_simp
            try with_reducible rfl
          simp only [Act.put, List.getElem_toArray, List.getElem_cons_zero, List.getElem_cons_succ, List.setIfInBounds_toArray, List.set_cons_zero, List.set_cons_succ]
          refine wpAnyH_take (i := 5) (v := .agg (byts 64 V).toArray) rfl (by kernel_rfl) (by kernel_rfl) (by kernel_rfl) (fun _ _ _ h => h) ?_ hS0 ?_
          · exact yieldsIf_load_mid (by rfl) 50 _ rfl b9 0 rfl (byts 64 V) (.array 64 5) (fun _ h => h.2.range0) Try.arr36 rfl (size36 _)
          simp only [Act.put, List.getElem_toArray, List.getElem_cons_zero, List.getElem_cons_succ, List.setIfInBounds_toArray, List.set_cons_zero, List.set_cons_succ]
          refine wpAnyH_ready (rs := [6]) (by kernel_rfl) (by simp) (AllReadyH.cons rfl (fun KK hKK => ?_) AllReadyH.nil)
          go_simp
          refine (write_any d g s1.rdd V t N (K + 2 * k + 1) HTk.out hN hWk HSk.out.rdd _ (HD9.out.keep (Below.refl _ _).drew)).mono ?_
          obtain ⟨q, hq⟩ : ∃ q, s1.rdd.write t V = q := ⟨_, rfl⟩
          have HQ := Lib.hid hq
          have HSq := Lib.hid (HSk.out.rdd.write t V HVb.out)
          rw [hq] at HSq HSt ⊢
          clear hq
          have hS1 := hS0
          clear hS0
          rintro e wZ ⟨rfl, hDZ, hkZ⟩
          have HDZ := Lib.hid hDZ
          have HKZ := Lib.hid ((HK9.out.drew).trans hkZ)
          have hS0 : Lg wZ l d fi ∧ Fl wZ b9 64 V := ⟨hS1.1.kp hkZ hld hlg, hS1.2.kp hkZ (by omega) (by omega)⟩
          refine hKK _ _ hS0 ?_
          intro _
          clear hKK KK hDZ hkZ hS1
          have hqc : q.1 = 0 ∨ q.1 = 24 := by rw [← HQ.out]; exact DS.write_code _ _ _
          obtain ⟨q1, q2⟩ := q
          simp only at hqc
          refine wpAnyH_take (i := 7) (v := ?_) rfl (by kernel_rfl) (by kernel_rfl) (by kernel_rfl) (fun _ _ _ h => h) (Or.inl ⟨by rfl, ?_⟩) hS0 ?_
          rotate_left 1
          · intro W hW
            go_simp
            try with_reducible rfl
          simp only [Act.put, List.getElem_toArray, List.getElem_cons_zero, List.getElem_cons_succ, List.setIfInBounds_toArray, List.set_cons_zero, List.set_cons_succ]
          refine wpAnyH_done (by kernel_rfl) ?_ _
          clear hS0
          rcases hqc with rfl | rfl
          · go_wp2_with fail
            go_roundw
            case rel =>
              exact ⟨k + 1, q2, by omega, by go_num, by rw [← HIk.out, HSt.out, if_pos rfl], (by rw [show K + 2 * (k + 1) = K + 2 * k + 1 + 1 by omega]; exact HSq.out), HDZ.out, HKk.out.trans HKZ.out⟩
            case measure => simp [Go.RowKit.intOf]; omega
          · go_wp2_with fail
            go_ret
            have hI : I = (24, q2) := by rw [← HIk.out, HSt.out, if_neg (by decide)]
            have hR : R = (24, q2) := by rw [HIN.out, hI]; rfl
            rw [hR]
            exact ⟨rfl, HDZ.out, HKk.out.trans HKZ.out⟩
      · obtain rfl : k = ts.length := by omega
        have hI : I = (0, s1) := by rw [← HIk.out, List.drop_length]; rfl
        have hR : Hid (R = s1.write fi (headF [])) := by show R = _; rw [HIN.out, hI]; rfl
        have hKb : K + 2 * ts.length < 900000 := by omega
        have HP := Lib.hid (point_any l d g fi N (K + 2 * ts.length) s1 (.slice none 0 0) [] (by decide) (by simp) hf hN hKb HSk.out wr (HL.out.kp HKk.out hld hlg) HDk.out (Ns.nil wr) hld hlg)
        rw [← hR.out] at HP
        clear HIk HSk HDk HIN HI hR hI HV hvo
        go_wp2_with fail
        refine HP.out.mono ?_
        rintro e wz ⟨rfl, hDz, hkz⟩
        have HDz := Lib.hid hDz
        have HKz := Lib.hid (HKk.out.trans hkz)
        clear hDz hkz HP
        go_wp2
        go_ret
        exact ⟨rfl, HDz.out, HKz.out⟩
end Go.Proofs.Ytlbfdmiihnlljaa
