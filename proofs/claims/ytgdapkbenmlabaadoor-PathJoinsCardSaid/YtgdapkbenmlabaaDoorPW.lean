import Derived.Test.YtgdapkbenmlabaaDoorPL
import Derived.Test.YtgdapkbenmlabaaDoorPR
/- The law PathJoins. -/
namespace Go.Proofs.YtgdapkbenmlabaaDoor.Pt
set_option linter.unusedSimpArgs false
set_option linter.unusedVariables false
open Go.RowKit Go.Maps

theorem share7 {α β γ δ ε ζ η : Type} {F P : α → β → γ → δ → ε → ζ → η → Prop} {G : Prop} (h1 : Hid (∀ a b c d e f g, F a b c d e f g → P a b c d e f g) → G) (h2 : ∀ a b c d e f g, F a b c d e f g → P a b c d e f g) : G := h1 (Lib.hid h2)
theorem wp_append_any {P : Program} (w : World) {o : Oper} {a : Act} {K : Act → World → Prop} {Q : Exit → Act → World → Prop} (s x : Operand) (t : TypeId)
    (ho : o.op = .call { callee := .builtin .append, args := #[s, x], argTypes := #[t, t] })
    (base : Nat) (e : TypeId) (i : TypeInfo) (z : Value) (size bytes : Nat) (ht : P.underlying t = some (.slice e)) (hi : P.info? e = some i) (hz : i.zero = some z)
    (hsize : i.size = size) (hby : i.bytes = bytes) (hzs : z.cells.size = size) (hsz : 0 < size) (v : Value) (n : Nat) (xs : List Value) (hs : a.eval s = v) (hown : w.ownsRow base e size v n xs)
    (v2 : Value) (m : Nat) (news : List Value) (hx : a.eval x = v2) (hA : Ag w v2 m news) (hl : news.length = m * size) (h1 : ∀ u ∈ news, u.oneCell' = true) (h63 : n + m ≤ maxLen) (hbytes : (n + m) * bytes ≤ 140737488355328) (hbase : base ≤ w.heap.size)
    (h : ∀ v' w', w'.ownsRow base e size v' (n + m) (xs ++ news) → w.grownBy w' v.ownBlock → K (a.put o.dst v') w') : o.wp P a w K Q := by
  obtain ⟨v', w', hr, h2, h3⟩ := run_append_any (P := P) w base t o.type e i z size bytes ht hi hz hsize hby hzs hsz v n xs hown v2 m news hA hl h1 h63 hbytes hbase
  unfold Oper.wp execOp
  simp only [ho, resolve, invoke, builtin, Sem.run_bind, Sem.run_pure, Result.andThen_ok, List.map_toArray, List.map_cons, List.map_nil, hs, hx, hr]
  exact h v' w' h2 h3
theorem wp_slice1 (w : World) {o : Oper} {a : Act} {K : Act → World → Prop} {Q : Exit → Act → World → Prop} (x : Operand) (ho : o.op = .buildSlice 22 1 #[(0, x)]) (e : Pr) (hx : a.eval x = .agg (pc e).toArray)
    (h : K (a.put o.dst (.slice (some ⟨w.heap.size, 0, none⟩) 1 1)) (w.alloc (.cells (pc e).toArray 28))) : o.wp Tryd.prog a w K Q := by
  obtain ⟨i, hi, hz, hs, hb⟩ := Tryd.infoPr
  have hr : (Instr.buildSlice 22 1 #[(0, .agg (pc e).toArray)]).run Tryd.prog w = .ok (.slice (some ⟨w.heap.size, 0, none⟩) 1 1) (w.alloc (.cells (pc e).toArray 28)) := by
    simp [Instr.buildSlice, zeroValue, sizeOf, typeInfo, hi, hz, hs, Value.cells, run_underlying Tryd.underlying22, newRow, Instr.fill, pc, zP, show Array.range 2 = #[0, 1] from (by first | rfl | decide | kernel_rfl)]
  unfold Oper.wp
  simp [execOp, ho, hx, hr, Result.andThen]
  exact h
theorem yields_bld1 {P : Program} {ops : Array Oper} {S : World → Prop} {op : Oper} {a : Act} (hw : Region.wanted op (yielded ops a.tmps) = true) (ty : TypeId) (i : Nat) (x : Operand) (ho : op.op = .build ty #[(i, x)]) (vx : Value) (hx : a.eval x = vx) (v : Value)
    (hr : ∀ w, (Instr.build ty #[(i, vx)]).run P w = .ok v w) : YieldsIf P ops S op v a :=
  .inl ⟨hw, fun w _ => by
    have hr := hr w
    unfold execOp
    simp [ho, hx, hr, Result.andThen]⟩
theorem buildPa1 (pa : Option Addr) (n c : Nat) (w : World) : (Instr.build 24 #[(1, .slice pa n c)]).run Tryd.prog w = .ok (.agg #[.bool false, .slice pa n c]) w := by kernel_rfl
theorem own_ne_ty {w : World} {base n size bT : Nat} {v : Value} {xs : List Value} {c : Array Value} {fz : Nat × Nat} (h : w.ownsRow base 28 size v n xs) (hT : w.heap[bT]? = some (.cells c 24 fz)) : ∀ k, v.ownBlock = some k → k ≠ bT := by
  intro k hk he
  subst he
  rcases h.2 with ⟨hv, -⟩ | ⟨g, cap, cur, hv, -, hg, -⟩
  · rw [hv] at hk; cases hk
  · rw [hv] at hk
    obtain rfl := Option.some.inj hk
    rw [hT] at hg
    injection hg with hg
    injection hg with h1 h2
    exact absurd h2 (by decide)
theorem Vl.of_heap {w : World} {b : Nat} {c : Array Value} {t : TypeId} (h : w.heap[b]? = some (.cells c t (0, 0))) : Vl w b c.toList := by
  refine ⟨(Array.getElem?_eq_some_iff.1 h).1, fun j v hj => ?_, fun j _ => Lib.frozen_of_heap h j⟩
  rw [Lib.cell_of_heap h]
  simpa using hj
set_option maxHeartbeats 40000000 in
set_option maxRecDepth 100000 in
theorem pathjoins_walk (a0 a1 : Bool) (sv0 sv1 : Value) (L0 L1 : List Pr) (hs0 : smP L0) (hs1 : smP L1) (hl0 : L0.length ≤ maxLen) (hl1 : L1.length ≤ maxLen) (m : Int) (w : World) (hP0 : Ps w sv0 L0) (hP1 : Ps w sv1 L1) (hm : w.cell? ⟨0, 0, none⟩ = some (.int .i64 m)) :
    Calls Tryd.prog 3 #[.agg #[.bool a0, sv0], .agg #[.bool a1, sv1]] w fun e w' => e = .returned (.bool true) ∧ Below w.heap.size w w' := by
  obtain ⟨d, hu, hd⟩ := Tryd.descPa
  have HUd := Lib.hid hu
  have HDd := Lib.hid hd
  obtain ⟨dp, hup, hdp⟩ := Tryd.descPr
  have HUp := Lib.hid hup
  have HDp := Lib.hid hdp
  obtain ⟨iP, hi, hiz, hsz, hby⟩ := Tryd.infoPr
  have HI := Lib.hid hi
  have HZi := Lib.hid hiz
  have HSZ := Lib.hid hsz
  have HBY := Lib.hid hby
  have h00 := World.block_lt_of_cell? w _ hm
  have HM := Lib.hid hm
  have H0 := Lib.hid hP0
  have H1 := Lib.hid hP1
  have HS0 := Lib.hid hs0
  have HS1 := Lib.hid hs1
  obtain ⟨p0, c0, e0⟩ := hP0.slice
  obtain ⟨q1, d1, e1⟩ := hP1.slice
  subst e0 e1
  obtain ⟨n0, hn0⟩ : ∃ x, L0.length = x := ⟨_, rfl⟩
  obtain ⟨n1, hn1⟩ : ∃ x, L1.length = x := ⟨_, rfl⟩
  rw [hn0] at H0 hl0
  rw [hn1] at H1 hl1
  try rw [hn0]
  try rw [hn1]
  have HN0 := Lib.hid hn0
  have HN1 := Lib.hid hn1
  have hb0 : (n0 : Int) ≤ 9223372036854775807 := by unfold maxLen at hl0; omega
  have hb1 : (n1 : Int) ≤ 9223372036854775807 := by unfold maxLen at hl1; omega
  clear hu hd hup hdp hi hiz hsz hby hm hP0 hP1 hs0 hs1 hn0 hn1 hl0 hl1
  go_enter Tryd.func3, Tryd.ntmps3
  go_upto_region 1 with (first | (refine wpList_box_list (w := w) rfl 24 _ rfl (pa2 a0 (.slice p0 n0 c0)) rfl ?_; intro w1 F1 hb1 hz1; have HB1 := Lib.hid hb1; have Hz1 := Lib.hid hz1; clear hb1 hz1) | (refine wpList_box_list (w := w1) rfl 24 _ rfl (pa2 a1 (.slice q1 n1 d1)) rfl ?_; intro w2 F2 hb2 hz2; have HB2 := Lib.hid (HB1.out.trans (hb2.mono HB1.out.size)); have G1 := Lib.hid (F1.out.keep hb2); have Hz2 := Lib.hid hz2; clear hb2 hz2 F1 HB1))
  obtain ⟨x2, hx2⟩ : ∃ x, w.heap.size = x := ⟨_, rfl⟩
  obtain ⟨x3, hx3⟩ : ∃ x, w1.heap.size = x := ⟨_, rfl⟩
  rw [hx2] at G1
  rw [hx3] at F2
  try rw [hx2]
  try rw [hx3]
  clear hx2 hx3 Hz1 Hz2
  go_wp2_with fail
  refine (awake_any m w2 ((HB2.out.cell (p := ⟨0, 0, none⟩) h00).trans HM.out)).mono ?_
  rintro r w3 ⟨rfl, hb3⟩
  have HB3 := Lib.hid (HB2.out.trans (hb3.mono HB2.out.size))
  have VA := Lib.hid (G1.out.keep hb3)
  have VB := Lib.hid (F2.out.keep hb3)
  have Q0 := Lib.hid (H0.out.keep HB3.out)
  have Q1 := Lib.hid (H1.out.keep HB3.out)
  clear hb3 G1 F2 HB2 H0 H1 HM
  have f0 := VA.out.c 0 _ rfl
  have f1 := VA.out.c 1 _ rfl
  have g0 := VB.out.c 0 _ rfl
  have g1 := VB.out.c 1 _ rfl
  by_cases h50 : 50 < n0
  · have hh : (50 : Int) < n0 := by omega
    go_wp2_with fail
    go_ret
    exact ⟨rfl, HB3.out⟩
  · have hh : ¬ ((50 : Int) < n0) := by omega
    by_cases h51 : 50 < n1
    · have hh1 : (50 : Int) < n1 := by omega
      go_wp2_with fail
      go_ret
      exact ⟨rfl, HB3.out⟩
    · have hh1 : ¬ ((50 : Int) < n1) := by omega
      have HN50 : Hid (n0 ≤ 50 ∧ n1 ≤ 50) := Lib.hid ⟨by omega, by omega⟩
      go_wp2_with fail
      refine (join_any a0 a1 _ _ L0 L1 (by rw [HN0.out]; omega) (by rw [HN1.out]; omega) w3 Q0.out Q1.out).mono ?_
      rintro r w4 ⟨vj, rfl, hOj, hb4⟩
      obtain ⟨pj, cj, rfl⟩ := ownsRow_form hOj
      obtain ⟨J, hJ⟩ : ∃ x, (if a1 = true then L1 else L0 ++ L1) = x := ⟨_, rfl⟩
      simp only [hJ] at hOj ⊢
      have HJ := Lib.hid hJ
      obtain ⟨fj, hfj⟩ : ∃ x, (a1 || a0) = x := ⟨_, rfl⟩
      have HFj := Lib.hid hfj
      obtain ⟨nj, hnj⟩ : ∃ x, J.length = x := ⟨_, rfl⟩
      have PJ := Ps.own hOj
      rw [hnj] at PJ
      try rw [hnj]
      rw [hfj]
      have HNj := Lib.hid hnj
      have PJ4 := Lib.hid PJ
      have VA4 := Lib.hid (VA.out.keep hb4)
      have VB4 := Lib.hid (VB.out.keep hb4)
      have Q04 := Lib.hid (Q0.out.keep hb4)
      have Q14 := Lib.hid (Q1.out.keep hb4)
      have HB4 := Lib.hid (HB3.out.trans (hb4.mono HB3.out.size))
      rw [show (pa2 fj (.slice pj nj cj)).toArray = #[.bool fj, .slice pj nj cj] from rfl]
      clear f0 f1 g0 g1 hOj hJ hfj hnj PJ hb4 VA VB Q0 Q1 HB3
      go_upto_region 6 with fail
      have hbq : Below w4.heap.size w4 (w4.alloc (.cells #[.bool fj, .slice pj nj cj] 24)) := below_alloc0 w4 _ _
      have VJ := Lib.hid (Vl.new w4 [.bool fj, .slice pj nj cj] 24)
      change Hid (Vl (w4.alloc (.cells #[.bool fj, .slice pj nj cj] 24)) w4.heap.size [.bool fj, .slice pj nj cj]) at VJ
      have PJq := Lib.hid (PJ4.out.keep hbq)
      have VAq := Lib.hid (VA4.out.keep hbq)
      have VBq := Lib.hid (VB4.out.keep hbq)
      have A0q := Lib.hid (Q04.out.keep hbq)
      have A1q := Lib.hid (Q14.out.keep hbq)
      have HBq := Lib.hid (HB4.out.trans (hbq.mono HB4.out.size))
      obtain ⟨b5, h5⟩ : ∃ x, w4.heap.size = x := ⟨_, rfl⟩
      obtain ⟨wq, hwq⟩ : ∃ x, w4.alloc (.cells #[.bool fj, .slice pj nj cj] 24) = x := ⟨_, rfl⟩
      rw [hwq] at VJ PJq VAq VBq A0q A1q HBq
      rw [h5] at VJ
      try rw [hwq]
      try rw [h5]
      clear hbq h5 hwq PJ4 VA4 VB4 Q04 Q14 HB4
      have A0 := Lib.hid A0q.out.ag
      have A1 := Lib.hid A1q.out.ag
      rw [HN0.out] at A0
      rw [HN1.out] at A1
      apply share7 (F := fun (bg : Nat) (p1 : Option Addr) (c1 : Nat) (pv : Option Addr) (cv bT : Nat) (wz : World) => Vl wz bT (pa2 a0 (.slice pv (n0 + n1) cv)) ∧ wz.ownsRow wq.heap.size 28 2 (.slice pv (n0 + n1) cv) (n0 + n1) (flP L0 ++ flP L1) ∧ Below wq.heap.size wq wz ∧ wq.heap.size ≤ bT)
      · intro tail
        refine wp_region_held (S := fun W => Below wq.heap.size wq W) (by kernel_rfl) ?_
        change wpAnyH _ _ _ _ _ _ _ _ (World.drew _)
        have hS0 : (fun W => Below wq.heap.size wq W) wq.drew := (Below.refl _ wq).drew
        obtain ⟨x0, hx0⟩ : ∃ x, World.drew wq = x := ⟨_, rfl⟩
        rw [hx0] at hS0 ⊢
        clear hx0
        refine wpAnyH_take (i := 0) (v := ?_) rfl (by kernel_rfl) (by kernel_rfl) (by kernel_rfl) (fun _ _ _ h => h) (Or.inl ⟨by rfl, ?_⟩) hS0 ?_
        rotate_left 1
        · intro W hW
          go_simp
          try with_reducible rfl
        simp only [Act.put, List.getElem_toArray, List.getElem_cons_zero, List.getElem_cons_succ, List.setIfInBounds_toArray, List.set_cons_zero, List.set_cons_succ]
        refine wpAnyH_take (i := 1) (v := ?_) rfl (by kernel_rfl) (by kernel_rfl) (by kernel_rfl) (fun _ _ _ h => h) (Or.inl ⟨by rfl, ?_⟩) hS0 ?_
        rotate_left 1
        · intro W hW
          have q_ := (VAq.out.keep hW).c 0 _ rfl
          go_simp
          try with_reducible rfl
        simp only [Act.put, List.getElem_toArray, List.getElem_cons_zero, List.getElem_cons_succ, List.setIfInBounds_toArray, List.set_cons_zero, List.set_cons_succ]
        refine wpAnyH_take (i := 3) (v := ?_) rfl (by kernel_rfl) (by kernel_rfl) (by kernel_rfl) (fun _ _ _ h => h) (Or.inl ⟨by rfl, ?_⟩) hS0 ?_
        rotate_left 1
        · intro W hW
          go_simp
          try with_reducible rfl
        simp only [Act.put, List.getElem_toArray, List.getElem_cons_zero, List.getElem_cons_succ, List.setIfInBounds_toArray, List.set_cons_zero, List.set_cons_succ]
        refine wpAnyH_take (i := 4) (v := ?_) rfl (by kernel_rfl) (by kernel_rfl) (by kernel_rfl) (fun _ _ _ h => h) (Or.inl ⟨by rfl, ?_⟩) hS0 ?_
        rotate_left 1
        · intro W hW
          have q_ := (VAq.out.keep hW).c 1 _ rfl
          go_simp
          try with_reducible rfl
        simp only [Act.put, List.getElem_toArray, List.getElem_cons_zero, List.getElem_cons_succ, List.setIfInBounds_toArray, List.set_cons_zero, List.set_cons_succ]
        refine wpAnyH_take (i := 6) (v := ?_) rfl (by kernel_rfl) (by kernel_rfl) (by kernel_rfl) (fun _ _ _ h => h) (Or.inl ⟨by rfl, ?_⟩) hS0 ?_
        rotate_left 1
        · intro W hW
          go_simp
          try with_reducible rfl
        simp only [Act.put, List.getElem_toArray, List.getElem_cons_zero, List.getElem_cons_succ, List.setIfInBounds_toArray, List.set_cons_zero, List.set_cons_succ]
        refine wpAnyH_take (i := 7) (v := ?_) rfl (by kernel_rfl) (by kernel_rfl) (by kernel_rfl) (fun _ _ _ h => h) (Or.inl ⟨by rfl, ?_⟩) hS0 ?_
        rotate_left 1
        · intro W hW
          have q_ := (VBq.out.keep hW).c 1 _ rfl
          go_simp
          try with_reducible rfl
        simp only [Act.put, List.getElem_toArray, List.getElem_cons_zero, List.getElem_cons_succ, List.setIfInBounds_toArray, List.set_cons_zero, List.set_cons_succ]
        refine wpAnyH_ready (rs := [2, 10]) (by kernel_rfl) (by simp) (AllReadyH.cons rfl (fun KK hKK => ?_) (AllReadyH.cons rfl (fun KK hKK => ?_) AllReadyH.nil))
        · skip
          go_simp
          refine hKK _ _ (Below.alloc hS0 (Below.size hS0) _) ?_
          intro _
          clear hKK KK
          try simp only [Act.put, List.getElem_toArray, List.getElem_cons_zero, List.getElem_cons_succ, List.setIfInBounds_toArray, List.set_cons_zero, List.set_cons_succ]
          have hR : (x0.alloc (.cells #[] 28)).ownsRow wq.heap.size 28 2 (.slice (some ⟨x0.heap.size, 0, none⟩) 0 0) 0 [] := World.ownsRow_made x0 #[] 0 (Below.size hS0) (Nat.zero_le _) rfl
          have hS1 : Below wq.heap.size wq (x0.alloc (.cells #[] 28)) := Below.alloc hS0 (Below.size hS0) _
          obtain ⟨bg, hbg⟩ : ∃ x, x0.heap.size = x := ⟨_, rfl⟩
          rw [hbg] at hR ⊢
          obtain ⟨x1, hY⟩ : ∃ x, x0.alloc (.cells #[] 28) = x := ⟨_, rfl⟩
          rw [hY] at hR hS1 ⊢
          have HR := Lib.hid hR
          clear hY hbg hR hS0
          replace hS0 : (fun W => Below wq.heap.size wq W) x1 := hS1
          clear hS1
          refine wpAnyH_ready (rs := [5, 10]) (by kernel_rfl) (by simp) (AllReadyH.cons rfl (fun KK hKK => ?_) (AllReadyH.cons rfl (fun KK hKK => ?_) AllReadyH.nil))
          · skip
            rw [if_pos (by rfl)]
            refine wp_append_any x1 _ _ 22 rfl wq.heap.size 28 iP _ 2 32 Tryd.underlying22 HI.out HZi.out HSZ.out HBY.out rfl (by decide) (.slice (some ⟨bg, 0, none⟩) 0 0) 0 [] rfl HR.out _ n0 (flP L0) rfl (A0.out.keep hS0) (by rw [flP_len, HN0.out]) (flP_one _) (by have := HN50.out; unfold maxLen; omega) (by have := HN50.out; omega) (Below.size hS0) ?_
            intro vv x2 hown hgrow
            rw [Nat.zero_add, List.nil_append] at hown
            obtain ⟨p1, c1, rfl⟩ := ownsRow_form hown
            try rw [Nat.zero_add]
            have hS1 : Below wq.heap.size wq x2 := Below.grown hS0 hgrow (Below.size hS0) (fun k hk => (HR.out.lt k hk).1)
            refine hKK _ _ hS1 ?_
            intro _
            clear hKK KK
            try simp only [Act.put, List.getElem_toArray, List.getElem_cons_zero, List.getElem_cons_succ, List.setIfInBounds_toArray, List.set_cons_zero, List.set_cons_succ]
            have O1 := Lib.hid hown
            clear hown hgrow hS0 HR
            replace hS0 : (fun W => Below wq.heap.size wq W) x2 := hS1
            clear hS1
            refine wpAnyH_ready (rs := [8, 10]) (by kernel_rfl) (by simp) (AllReadyH.cons rfl (fun KK hKK => ?_) (AllReadyH.cons rfl (fun KK hKK => ?_) AllReadyH.nil))
            · skip
              rw [if_pos (by rfl)]
              refine wp_append_any x2 _ _ 22 rfl wq.heap.size 28 iP _ 2 32 Tryd.underlying22 HI.out HZi.out HSZ.out HBY.out rfl (by decide) (.slice p1 n0 c1) n0 (flP L0) rfl O1.out _ n1 (flP L1) rfl (A1.out.keep hS0) (by rw [flP_len, HN1.out]) (flP_one _) (by have := HN50.out; unfold maxLen; omega) (by have := HN50.out; omega) (Below.size hS0) ?_
              intro vv x3 hown hgrow
              obtain ⟨pv, cv, rfl⟩ := ownsRow_form hown
              have hS1 : Below wq.heap.size wq x3 := Below.grown hS0 hgrow (Below.size hS0) (fun k hk => (O1.out.lt k hk).1)
              refine hKK _ _ hS1 ?_
              intro _
              clear hKK KK
              try simp only [Act.put, List.getElem_toArray, List.getElem_cons_zero, List.getElem_cons_succ, List.setIfInBounds_toArray, List.set_cons_zero, List.set_cons_succ]
              have O2 := Lib.hid hown
              clear hown hgrow hS0 O1
              replace hS0 : (fun W => Below wq.heap.size wq W) x3 := hS1
              clear hS1
              refine wpAnyH_take (i := 9) (v := (.agg #[.bool a0, .slice pv (n0 + n1) cv])) rfl (by kernel_rfl) (by kernel_rfl) (by kernel_rfl) (fun _ _ _ h => h) ?_ hS0 ?_
              · exact yields_bld2 (by rfl) 24 0 1 _ _ rfl _ _ rfl rfl _ (fun W => Tryd.buildPa2 a0 pv (n0 + n1) cv W)
              simp only [Act.put, List.getElem_toArray, List.getElem_cons_zero, List.getElem_cons_succ, List.setIfInBounds_toArray, List.set_cons_zero, List.set_cons_succ]
              refine wpAnyH_ready (rs := [10]) (by kernel_rfl) (by simp) (AllReadyH.cons rfl (fun KK hKK => ?_) AllReadyH.nil)
              · skip
                go_simp
                refine hKK _ _ (Below.alloc hS0 (Below.size hS0) _) ?_
                intro _
                clear hKK KK
                try simp only [Act.put, List.getElem_toArray, List.getElem_cons_zero, List.getElem_cons_succ, List.setIfInBounds_toArray, List.set_cons_zero, List.set_cons_succ]
                have hT : (x3.alloc (.cells #[.bool false, .slice none 0 0] 24)).heap[x3.heap.size]? = some (.cells #[.bool false, .slice none 0 0] 24) := heap_alloc_new x3 _
                have hS1 : Below wq.heap.size wq (x3.alloc (.cells #[.bool false, .slice none 0 0] 24)) := Below.alloc hS0 (Below.size hS0) _
                have hO := O2.out.alloc (.cells #[.bool false, .slice none 0 0] 24)
                have hbq : wq.heap.size ≤ x3.heap.size := Below.size hS0
                obtain ⟨bT, hbT⟩ : ∃ x, x3.heap.size = x := ⟨_, rfl⟩
                rw [hbT] at hT hbq ⊢
                obtain ⟨x4, hY⟩ : ∃ x, x3.alloc (.cells #[.bool false, .slice none 0 0] 24) = x := ⟨_, rfl⟩
                rw [hY] at hT hS1 hO ⊢
                clear O2
                have O2 := Lib.hid hO
                clear hO
                have HT := Lib.hid hT
                have HbT := Lib.hid hbq
                clear hY hbT hT hbq hS0
                replace hS0 : (fun W => Below wq.heap.size wq W) x4 := hS1
                clear hS1
                refine wpAnyH_ready (rs := [11]) (by kernel_rfl) (by simp) (AllReadyH.cons rfl (fun KK hKK => ?_) AllReadyH.nil)
                rw [if_pos (by rfl)]
                refine wp_store_mid 24 _ _ rfl bT 0 (pa2 a0 (.slice pv (n0 + n1) cv)).toArray rfl rfl ((Vl.of_heap HT.out).there0 2 rfl) (sizePa' _ _) (all_oneCell_toArray (pa2_one _ _ _ _)) ?_
                have hk : Kp x4 (x4.setCells bT 0 (pa2 a0 (.slice pv (n0 + n1) cv))) bT bT := (Kp.refl x4 bT bT).setCells bT 0 (.inl rfl) _
                have hV := (Vl.of_heap HT.out).stored (pa2 a0 (.slice pv (n0 + n1) cv)) rfl
                have hO := ownsRow_kpo O2.out hk (own_ne_ty O2.out HT.out)
                have hS1 : Below wq.heap.size wq (x4.setCells bT 0 (pa2 a0 (.slice pv (n0 + n1) cv))) := Below.trans hS0 (hk.below HbT.out HbT.out (Below.size hS0))
                have hbq := HbT.out
                change KK _ (x4.setCells bT 0 (pa2 a0 (.slice pv (n0 + n1) cv)))
                refine hKK _ _ hS1 ?_
                intro _
                clear hKK KK
                try simp only [Act.put, List.getElem_toArray, List.getElem_cons_zero, List.getElem_cons_succ, List.setIfInBounds_toArray, List.set_cons_zero, List.set_cons_succ]
                obtain ⟨wz, hz⟩ : ∃ x, x4.setCells bT 0 (pa2 a0 (.slice pv (n0 + n1) cv)) = x := ⟨_, rfl⟩
                rw [hz] at hS1 hV hO ⊢
                clear hz hk
                refine wpAnyH_done (by kernel_rfl) ?_ _
                exact tail.out bg p1 c1 pv cv bT wz ⟨hV, hO, hS1, hbq⟩
            · skip
              go_simp
              refine hKK _ _ (Below.alloc hS0 (Below.size hS0) _) ?_
              intro _
              clear hKK KK
              try simp only [Act.put, List.getElem_toArray, List.getElem_cons_zero, List.getElem_cons_succ, List.setIfInBounds_toArray, List.set_cons_zero, List.set_cons_succ]
              have hT : (x2.alloc (.cells #[.bool false, .slice none 0 0] 24)).heap[x2.heap.size]? = some (.cells #[.bool false, .slice none 0 0] 24) := heap_alloc_new x2 _
              have hS1 : Below wq.heap.size wq (x2.alloc (.cells #[.bool false, .slice none 0 0] 24)) := Below.alloc hS0 (Below.size hS0) _
              have hO := O1.out.alloc (.cells #[.bool false, .slice none 0 0] 24)
              have hbq : wq.heap.size ≤ x2.heap.size := Below.size hS0
              obtain ⟨bT, hbT⟩ : ∃ x, x2.heap.size = x := ⟨_, rfl⟩
              rw [hbT] at hT hbq ⊢
              obtain ⟨x3, hY⟩ : ∃ x, x2.alloc (.cells #[.bool false, .slice none 0 0] 24) = x := ⟨_, rfl⟩
              rw [hY] at hT hS1 hO ⊢
              clear O1
              have O1 := Lib.hid hO
              clear hO
              have HT := Lib.hid hT
              have HbT := Lib.hid hbq
              clear hY hbT hT hbq hS0
              replace hS0 : (fun W => Below wq.heap.size wq W) x3 := hS1
              clear hS1
              refine wpAnyH_ready (rs := [8]) (by kernel_rfl) (by simp) (AllReadyH.cons rfl (fun KK hKK => ?_) AllReadyH.nil)
              · skip
                rw [if_pos (by rfl)]
                refine wp_append_any x3 _ _ 22 rfl wq.heap.size 28 iP _ 2 32 Tryd.underlying22 HI.out HZi.out HSZ.out HBY.out rfl (by decide) (.slice p1 n0 c1) n0 (flP L0) rfl O1.out _ n1 (flP L1) rfl (A1.out.keep hS0) (by rw [flP_len, HN1.out]) (flP_one _) (by have := HN50.out; unfold maxLen; omega) (by have := HN50.out; omega) (Below.size hS0) ?_
                intro vv x4 hown hgrow
                obtain ⟨pv, cv, rfl⟩ := ownsRow_form hown
                have hS1 : Below wq.heap.size wq x4 := Below.grown hS0 hgrow (Below.size hS0) (fun k hk => (O1.out.lt k hk).1)
                have hT2 : x4.heap[bT]? = some (.cells #[.bool false, .slice none 0 0] 24) := (hgrow.block bT (Array.getElem?_eq_some_iff.1 HT.out).1 (fun he => own_ne_ty O1.out HT.out bT he.symm rfl)).trans HT.out
                refine hKK _ _ hS1 ?_
                intro _
                clear hKK KK
                try simp only [Act.put, List.getElem_toArray, List.getElem_cons_zero, List.getElem_cons_succ, List.setIfInBounds_toArray, List.set_cons_zero, List.set_cons_succ]
                have O2 := Lib.hid hown
                clear HT
                have HT := Lib.hid hT2
                clear hT2
                clear hown hgrow hS0 O1
                replace hS0 : (fun W => Below wq.heap.size wq W) x4 := hS1
                clear hS1
                refine wpAnyH_take (i := 9) (v := (.agg #[.bool a0, .slice pv (n0 + n1) cv])) rfl (by kernel_rfl) (by kernel_rfl) (by kernel_rfl) (fun _ _ _ h => h) ?_ hS0 ?_
                · exact yields_bld2 (by rfl) 24 0 1 _ _ rfl _ _ rfl rfl _ (fun W => Tryd.buildPa2 a0 pv (n0 + n1) cv W)
                simp only [Act.put, List.getElem_toArray, List.getElem_cons_zero, List.getElem_cons_succ, List.setIfInBounds_toArray, List.set_cons_zero, List.set_cons_succ]
                refine wpAnyH_ready (rs := [11]) (by kernel_rfl) (by simp) (AllReadyH.cons rfl (fun KK hKK => ?_) AllReadyH.nil)
                rw [if_pos (by rfl)]
                refine wp_store_mid 24 _ _ rfl bT 0 (pa2 a0 (.slice pv (n0 + n1) cv)).toArray rfl rfl ((Vl.of_heap HT.out).there0 2 rfl) (sizePa' _ _) (all_oneCell_toArray (pa2_one _ _ _ _)) ?_
                have hk : Kp x4 (x4.setCells bT 0 (pa2 a0 (.slice pv (n0 + n1) cv))) bT bT := (Kp.refl x4 bT bT).setCells bT 0 (.inl rfl) _
                have hV := (Vl.of_heap HT.out).stored (pa2 a0 (.slice pv (n0 + n1) cv)) rfl
                have hO := ownsRow_kpo O2.out hk (own_ne_ty O2.out HT.out)
                have hS1 : Below wq.heap.size wq (x4.setCells bT 0 (pa2 a0 (.slice pv (n0 + n1) cv))) := Below.trans hS0 (hk.below HbT.out HbT.out (Below.size hS0))
                have hbq := HbT.out
                change KK _ (x4.setCells bT 0 (pa2 a0 (.slice pv (n0 + n1) cv)))
                refine hKK _ _ hS1 ?_
                intro _
                clear hKK KK
                try simp only [Act.put, List.getElem_toArray, List.getElem_cons_zero, List.getElem_cons_succ, List.setIfInBounds_toArray, List.set_cons_zero, List.set_cons_succ]
                obtain ⟨wz, hz⟩ : ∃ x, x4.setCells bT 0 (pa2 a0 (.slice pv (n0 + n1) cv)) = x := ⟨_, rfl⟩
                rw [hz] at hS1 hV hO ⊢
                clear hz hk
                refine wpAnyH_done (by kernel_rfl) ?_ _
                exact tail.out bg p1 c1 pv cv bT wz ⟨hV, hO, hS1, hbq⟩
          · skip
            go_simp
            refine hKK _ _ (Below.alloc hS0 (Below.size hS0) _) ?_
            intro _
            clear hKK KK
            try simp only [Act.put, List.getElem_toArray, List.getElem_cons_zero, List.getElem_cons_succ, List.setIfInBounds_toArray, List.set_cons_zero, List.set_cons_succ]
            have hT : (x1.alloc (.cells #[.bool false, .slice none 0 0] 24)).heap[x1.heap.size]? = some (.cells #[.bool false, .slice none 0 0] 24) := heap_alloc_new x1 _
            have hS1 : Below wq.heap.size wq (x1.alloc (.cells #[.bool false, .slice none 0 0] 24)) := Below.alloc hS0 (Below.size hS0) _
            have hO := HR.out.alloc (.cells #[.bool false, .slice none 0 0] 24)
            have hbq : wq.heap.size ≤ x1.heap.size := Below.size hS0
            obtain ⟨bT, hbT⟩ : ∃ x, x1.heap.size = x := ⟨_, rfl⟩
            rw [hbT] at hT hbq ⊢
            obtain ⟨x2, hY⟩ : ∃ x, x1.alloc (.cells #[.bool false, .slice none 0 0] 24) = x := ⟨_, rfl⟩
            rw [hY] at hT hS1 hO ⊢
            clear HR
            have HR := Lib.hid hO
            clear hO
            have HT := Lib.hid hT
            have HbT := Lib.hid hbq
            clear hY hbT hT hbq hS0
            replace hS0 : (fun W => Below wq.heap.size wq W) x2 := hS1
            clear hS1
            refine wpAnyH_ready (rs := [5]) (by kernel_rfl) (by simp) (AllReadyH.cons rfl (fun KK hKK => ?_) AllReadyH.nil)
            · skip
              rw [if_pos (by rfl)]
              refine wp_append_any x2 _ _ 22 rfl wq.heap.size 28 iP _ 2 32 Tryd.underlying22 HI.out HZi.out HSZ.out HBY.out rfl (by decide) (.slice (some ⟨bg, 0, none⟩) 0 0) 0 [] rfl HR.out _ n0 (flP L0) rfl (A0.out.keep hS0) (by rw [flP_len, HN0.out]) (flP_one _) (by have := HN50.out; unfold maxLen; omega) (by have := HN50.out; omega) (Below.size hS0) ?_
              intro vv x3 hown hgrow
              rw [Nat.zero_add, List.nil_append] at hown
              obtain ⟨p1, c1, rfl⟩ := ownsRow_form hown
              try rw [Nat.zero_add]
              have hS1 : Below wq.heap.size wq x3 := Below.grown hS0 hgrow (Below.size hS0) (fun k hk => (HR.out.lt k hk).1)
              have hT2 : x3.heap[bT]? = some (.cells #[.bool false, .slice none 0 0] 24) := (hgrow.block bT (Array.getElem?_eq_some_iff.1 HT.out).1 (fun he => own_ne_ty HR.out HT.out bT he.symm rfl)).trans HT.out
              refine hKK _ _ hS1 ?_
              intro _
              clear hKK KK
              try simp only [Act.put, List.getElem_toArray, List.getElem_cons_zero, List.getElem_cons_succ, List.setIfInBounds_toArray, List.set_cons_zero, List.set_cons_succ]
              have O1 := Lib.hid hown
              clear HT
              have HT := Lib.hid hT2
              clear hT2
              clear hown hgrow hS0 HR
              replace hS0 : (fun W => Below wq.heap.size wq W) x3 := hS1
              clear hS1
              refine wpAnyH_ready (rs := [8]) (by kernel_rfl) (by simp) (AllReadyH.cons rfl (fun KK hKK => ?_) AllReadyH.nil)
              · skip
                rw [if_pos (by rfl)]
                refine wp_append_any x3 _ _ 22 rfl wq.heap.size 28 iP _ 2 32 Tryd.underlying22 HI.out HZi.out HSZ.out HBY.out rfl (by decide) (.slice p1 n0 c1) n0 (flP L0) rfl O1.out _ n1 (flP L1) rfl (A1.out.keep hS0) (by rw [flP_len, HN1.out]) (flP_one _) (by have := HN50.out; unfold maxLen; omega) (by have := HN50.out; omega) (Below.size hS0) ?_
                intro vv x4 hown hgrow
                obtain ⟨pv, cv, rfl⟩ := ownsRow_form hown
                have hS1 : Below wq.heap.size wq x4 := Below.grown hS0 hgrow (Below.size hS0) (fun k hk => (O1.out.lt k hk).1)
                have hT2 : x4.heap[bT]? = some (.cells #[.bool false, .slice none 0 0] 24) := (hgrow.block bT (Array.getElem?_eq_some_iff.1 HT.out).1 (fun he => own_ne_ty O1.out HT.out bT he.symm rfl)).trans HT.out
                refine hKK _ _ hS1 ?_
                intro _
                clear hKK KK
                try simp only [Act.put, List.getElem_toArray, List.getElem_cons_zero, List.getElem_cons_succ, List.setIfInBounds_toArray, List.set_cons_zero, List.set_cons_succ]
                have O2 := Lib.hid hown
                clear HT
                have HT := Lib.hid hT2
                clear hT2
                clear hown hgrow hS0 O1
                replace hS0 : (fun W => Below wq.heap.size wq W) x4 := hS1
                clear hS1
                refine wpAnyH_take (i := 9) (v := (.agg #[.bool a0, .slice pv (n0 + n1) cv])) rfl (by kernel_rfl) (by kernel_rfl) (by kernel_rfl) (fun _ _ _ h => h) ?_ hS0 ?_
                · exact yields_bld2 (by rfl) 24 0 1 _ _ rfl _ _ rfl rfl _ (fun W => Tryd.buildPa2 a0 pv (n0 + n1) cv W)
                simp only [Act.put, List.getElem_toArray, List.getElem_cons_zero, List.getElem_cons_succ, List.setIfInBounds_toArray, List.set_cons_zero, List.set_cons_succ]
                refine wpAnyH_ready (rs := [11]) (by kernel_rfl) (by simp) (AllReadyH.cons rfl (fun KK hKK => ?_) AllReadyH.nil)
                rw [if_pos (by rfl)]
                refine wp_store_mid 24 _ _ rfl bT 0 (pa2 a0 (.slice pv (n0 + n1) cv)).toArray rfl rfl ((Vl.of_heap HT.out).there0 2 rfl) (sizePa' _ _) (all_oneCell_toArray (pa2_one _ _ _ _)) ?_
                have hk : Kp x4 (x4.setCells bT 0 (pa2 a0 (.slice pv (n0 + n1) cv))) bT bT := (Kp.refl x4 bT bT).setCells bT 0 (.inl rfl) _
                have hV := (Vl.of_heap HT.out).stored (pa2 a0 (.slice pv (n0 + n1) cv)) rfl
                have hO := ownsRow_kpo O2.out hk (own_ne_ty O2.out HT.out)
                have hS1 : Below wq.heap.size wq (x4.setCells bT 0 (pa2 a0 (.slice pv (n0 + n1) cv))) := Below.trans hS0 (hk.below HbT.out HbT.out (Below.size hS0))
                have hbq := HbT.out
                change KK _ (x4.setCells bT 0 (pa2 a0 (.slice pv (n0 + n1) cv)))
                refine hKK _ _ hS1 ?_
                intro _
                clear hKK KK
                try simp only [Act.put, List.getElem_toArray, List.getElem_cons_zero, List.getElem_cons_succ, List.setIfInBounds_toArray, List.set_cons_zero, List.set_cons_succ]
                obtain ⟨wz, hz⟩ : ∃ x, x4.setCells bT 0 (pa2 a0 (.slice pv (n0 + n1) cv)) = x := ⟨_, rfl⟩
                rw [hz] at hS1 hV hO ⊢
                clear hz hk
                refine wpAnyH_done (by kernel_rfl) ?_ _
                exact tail.out bg p1 c1 pv cv bT wz ⟨hV, hO, hS1, hbq⟩
        · skip
          go_simp
          refine hKK _ _ (Below.alloc hS0 (Below.size hS0) _) ?_
          intro _
          clear hKK KK
          try simp only [Act.put, List.getElem_toArray, List.getElem_cons_zero, List.getElem_cons_succ, List.setIfInBounds_toArray, List.set_cons_zero, List.set_cons_succ]
          have hT : (x0.alloc (.cells #[.bool false, .slice none 0 0] 24)).heap[x0.heap.size]? = some (.cells #[.bool false, .slice none 0 0] 24) := heap_alloc_new x0 _
          have hS1 : Below wq.heap.size wq (x0.alloc (.cells #[.bool false, .slice none 0 0] 24)) := Below.alloc hS0 (Below.size hS0) _
          have hbq : wq.heap.size ≤ x0.heap.size := Below.size hS0
          obtain ⟨bT, hbT⟩ : ∃ x, x0.heap.size = x := ⟨_, rfl⟩
          rw [hbT] at hT hbq ⊢
          obtain ⟨x1, hY⟩ : ∃ x, x0.alloc (.cells #[.bool false, .slice none 0 0] 24) = x := ⟨_, rfl⟩
          rw [hY] at hT hS1 ⊢
          have HT := Lib.hid hT
          have HbT := Lib.hid hbq
          clear hY hbT hT hbq hS0
          replace hS0 : (fun W => Below wq.heap.size wq W) x1 := hS1
          clear hS1
          refine wpAnyH_ready (rs := [2]) (by kernel_rfl) (by simp) (AllReadyH.cons rfl (fun KK hKK => ?_) AllReadyH.nil)
          · skip
            go_simp
            refine hKK _ _ (Below.alloc hS0 (Below.size hS0) _) ?_
            intro _
            clear hKK KK
            try simp only [Act.put, List.getElem_toArray, List.getElem_cons_zero, List.getElem_cons_succ, List.setIfInBounds_toArray, List.set_cons_zero, List.set_cons_succ]
            have hR : (x1.alloc (.cells #[] 28)).ownsRow wq.heap.size 28 2 (.slice (some ⟨x1.heap.size, 0, none⟩) 0 0) 0 [] := World.ownsRow_made x1 #[] 0 (Below.size hS0) (Nat.zero_le _) rfl
            have hS1 : Below wq.heap.size wq (x1.alloc (.cells #[] 28)) := Below.alloc hS0 (Below.size hS0) _
            have hT2 := (heap_alloc_old x1 (.cells #[] 28) (Array.getElem?_eq_some_iff.1 HT.out).1).trans HT.out
            obtain ⟨bg, hbg⟩ : ∃ x, x1.heap.size = x := ⟨_, rfl⟩
            rw [hbg] at hR ⊢
            obtain ⟨x2, hY⟩ : ∃ x, x1.alloc (.cells #[] 28) = x := ⟨_, rfl⟩
            rw [hY] at hR hS1 hT2 ⊢
            have HR := Lib.hid hR
            clear HT
            have HT := Lib.hid hT2
            clear hT2
            clear hY hbg hR hS0
            replace hS0 : (fun W => Below wq.heap.size wq W) x2 := hS1
            clear hS1
            refine wpAnyH_ready (rs := [5]) (by kernel_rfl) (by simp) (AllReadyH.cons rfl (fun KK hKK => ?_) AllReadyH.nil)
            · skip
              rw [if_pos (by rfl)]
              refine wp_append_any x2 _ _ 22 rfl wq.heap.size 28 iP _ 2 32 Tryd.underlying22 HI.out HZi.out HSZ.out HBY.out rfl (by decide) (.slice (some ⟨bg, 0, none⟩) 0 0) 0 [] rfl HR.out _ n0 (flP L0) rfl (A0.out.keep hS0) (by rw [flP_len, HN0.out]) (flP_one _) (by have := HN50.out; unfold maxLen; omega) (by have := HN50.out; omega) (Below.size hS0) ?_
              intro vv x3 hown hgrow
              rw [Nat.zero_add, List.nil_append] at hown
              obtain ⟨p1, c1, rfl⟩ := ownsRow_form hown
              try rw [Nat.zero_add]
              have hS1 : Below wq.heap.size wq x3 := Below.grown hS0 hgrow (Below.size hS0) (fun k hk => (HR.out.lt k hk).1)
              have hT2 : x3.heap[bT]? = some (.cells #[.bool false, .slice none 0 0] 24) := (hgrow.block bT (Array.getElem?_eq_some_iff.1 HT.out).1 (fun he => own_ne_ty HR.out HT.out bT he.symm rfl)).trans HT.out
              refine hKK _ _ hS1 ?_
              intro _
              clear hKK KK
              try simp only [Act.put, List.getElem_toArray, List.getElem_cons_zero, List.getElem_cons_succ, List.setIfInBounds_toArray, List.set_cons_zero, List.set_cons_succ]
              have O1 := Lib.hid hown
              clear HT
              have HT := Lib.hid hT2
              clear hT2
              clear hown hgrow hS0 HR
              replace hS0 : (fun W => Below wq.heap.size wq W) x3 := hS1
              clear hS1
              refine wpAnyH_ready (rs := [8]) (by kernel_rfl) (by simp) (AllReadyH.cons rfl (fun KK hKK => ?_) AllReadyH.nil)
              · skip
                rw [if_pos (by rfl)]
                refine wp_append_any x3 _ _ 22 rfl wq.heap.size 28 iP _ 2 32 Tryd.underlying22 HI.out HZi.out HSZ.out HBY.out rfl (by decide) (.slice p1 n0 c1) n0 (flP L0) rfl O1.out _ n1 (flP L1) rfl (A1.out.keep hS0) (by rw [flP_len, HN1.out]) (flP_one _) (by have := HN50.out; unfold maxLen; omega) (by have := HN50.out; omega) (Below.size hS0) ?_
                intro vv x4 hown hgrow
                obtain ⟨pv, cv, rfl⟩ := ownsRow_form hown
                have hS1 : Below wq.heap.size wq x4 := Below.grown hS0 hgrow (Below.size hS0) (fun k hk => (O1.out.lt k hk).1)
                have hT2 : x4.heap[bT]? = some (.cells #[.bool false, .slice none 0 0] 24) := (hgrow.block bT (Array.getElem?_eq_some_iff.1 HT.out).1 (fun he => own_ne_ty O1.out HT.out bT he.symm rfl)).trans HT.out
                refine hKK _ _ hS1 ?_
                intro _
                clear hKK KK
                try simp only [Act.put, List.getElem_toArray, List.getElem_cons_zero, List.getElem_cons_succ, List.setIfInBounds_toArray, List.set_cons_zero, List.set_cons_succ]
                have O2 := Lib.hid hown
                clear HT
                have HT := Lib.hid hT2
                clear hT2
                clear hown hgrow hS0 O1
                replace hS0 : (fun W => Below wq.heap.size wq W) x4 := hS1
                clear hS1
                refine wpAnyH_take (i := 9) (v := (.agg #[.bool a0, .slice pv (n0 + n1) cv])) rfl (by kernel_rfl) (by kernel_rfl) (by kernel_rfl) (fun _ _ _ h => h) ?_ hS0 ?_
                · exact yields_bld2 (by rfl) 24 0 1 _ _ rfl _ _ rfl rfl _ (fun W => Tryd.buildPa2 a0 pv (n0 + n1) cv W)
                simp only [Act.put, List.getElem_toArray, List.getElem_cons_zero, List.getElem_cons_succ, List.setIfInBounds_toArray, List.set_cons_zero, List.set_cons_succ]
                refine wpAnyH_ready (rs := [11]) (by kernel_rfl) (by simp) (AllReadyH.cons rfl (fun KK hKK => ?_) AllReadyH.nil)
                rw [if_pos (by rfl)]
                refine wp_store_mid 24 _ _ rfl bT 0 (pa2 a0 (.slice pv (n0 + n1) cv)).toArray rfl rfl ((Vl.of_heap HT.out).there0 2 rfl) (sizePa' _ _) (all_oneCell_toArray (pa2_one _ _ _ _)) ?_
                have hk : Kp x4 (x4.setCells bT 0 (pa2 a0 (.slice pv (n0 + n1) cv))) bT bT := (Kp.refl x4 bT bT).setCells bT 0 (.inl rfl) _
                have hV := (Vl.of_heap HT.out).stored (pa2 a0 (.slice pv (n0 + n1) cv)) rfl
                have hO := ownsRow_kpo O2.out hk (own_ne_ty O2.out HT.out)
                have hS1 : Below wq.heap.size wq (x4.setCells bT 0 (pa2 a0 (.slice pv (n0 + n1) cv))) := Below.trans hS0 (hk.below HbT.out HbT.out (Below.size hS0))
                have hbq := HbT.out
                change KK _ (x4.setCells bT 0 (pa2 a0 (.slice pv (n0 + n1) cv)))
                refine hKK _ _ hS1 ?_
                intro _
                clear hKK KK
                try simp only [Act.put, List.getElem_toArray, List.getElem_cons_zero, List.getElem_cons_succ, List.setIfInBounds_toArray, List.set_cons_zero, List.set_cons_succ]
                obtain ⟨wz, hz⟩ : ∃ x, x4.setCells bT 0 (pa2 a0 (.slice pv (n0 + n1) cv)) = x := ⟨_, rfl⟩
                rw [hz] at hS1 hV hO ⊢
                clear hz hk
                refine wpAnyH_done (by kernel_rfl) ?_ _
                exact tail.out bg p1 c1 pv cv bT wz ⟨hV, hO, hS1, hbq⟩
      intro bg p1 c1 pv cv bT w5 ⟨hV, hO, hb, hbT⟩
      have hJl : J.length ≤ 2000 ∧ smP J := by
        have h5 := HN50.out
        have h6 := HN0.out
        have h7 := HN1.out
        rw [← HJ.out]
        split
        · exact ⟨by omega, HS1.out⟩
        · refine ⟨by rw [List.length_append]; omega, fun e he => ?_⟩
          rcases List.mem_append.1 he with he | he
          · exact HS0.out e he
          · exact HS1.out e he
      have HSame := Lib.hid (fun v1 v2 W h1 h2 => samep_any fj fj v1 v2 J J hJl.2 hJl.2 hJl.1 W h1 h2)
      have HEz : Hid (∀ W, (Op.equalIn 10000 28 (.agg #[.string ⟨#[]⟩, .string ⟨#[]⟩]) (.agg #[.string ⟨#[]⟩, .string ⟨#[]⟩])).run Tryd.prog W = .ok true W) := Lib.hid (fun W => by
        have h9 := eqPr zP zP ⟨Nat.zero_le _, Nat.zero_le _⟩ ⟨Nat.zero_le _, Nat.zero_le _⟩ W
        rw [decide_eq_true rfl] at h9
        exact h9)
      have g0 := (VBq.out.keep hb).c 0 _ rfl
      have g1 := (VBq.out.keep hb).c 1 _ rfl
      have HVT := Lib.hid hV
      have HOT := Lib.hid hO
      have HbT := Lib.hid hbT
      have Hb := Lib.hid hb
      clear hV hO hb hbT A0 A1 hJl
      cases a1
      · have hJ2 : L0 ++ L1 = J := HJ.out
        have hf2 : a0 = fj := HFj.out
        subst hf2
        have VT6 : Hid (Vl w5 bT [.bool a0, .slice pv (n0 + n1) cv]) := HVT
        have PW6 : Hid (Ps w5 (.slice pv (n0 + n1) cv) J) := Lib.hid (by
          rw [← hJ2]
          have h9 := HOT.out
          have hl : n0 + n1 = (L0 ++ L1).length := by rw [List.length_append, HN0.out, HN1.out]
          rw [← flP_app, hl] at h9
          rw [hl]
          exact Ps.own h9)
        obtain ⟨w6, rfl⟩ : ∃ x, x = w5 := ⟨w5, rfl⟩
        have VA6 := Lib.hid (VAq.out.keep Hb.out)
        have VJ6 := Lib.hid (VJ.out.keep Hb.out)
        have PJ6 := Lib.hid (PJq.out.keep Hb.out)
        have A06 := Lib.hid (A0q.out.keep Hb.out)
        have HB6 := Lib.hid (HBq.out.trans (Hb.out.mono HBq.out.size))
        clear VAq VBq VJ PJq A0q A1q HBq HVT HOT hJ2 Hb
        go_upto_region 9 with fail
        clear g0 g1
        have f0 := VA6.out.c 0 _ rfl
        have f1 := VA6.out.c 1 _ rfl
        have QW := Lib.hid (PW6.out)
        rcases List.eq_nil_or_concat L0 with hL | ⟨MM, ⟨e1, e2⟩, hL⟩
        · subst hL
          have hn00 : n0 = 0 := by rw [← HN0.out]; rfl
          subst hn00
          go_wp2_with fail
          refine (base_none a0 _ w6 A06.out).mono ?_
          rintro r w7 ⟨vx, rfl, hOx, hb7⟩
          obtain ⟨px, cx, rfl⟩ := ownsRow_form hOx
          have VA7 := Lib.hid (VA6.out.keep hb7)
          have VT7 := Lib.hid (VT6.out.keep hb7)
          have VJ7 := Lib.hid (VJ6.out.keep hb7)
          have PJ7 := Lib.hid (PJ6.out.keep hb7)
          have PW7 := Lib.hid (PW6.out.keep hb7)
          have HB7 := Lib.hid (HB6.out.trans (hb7.mono HB6.out.size))
          rw [show (pa2 a0 (.slice px 0 cx)).toArray = #[.bool a0, .slice px 0 cx] from rfl]
          rw [show (pc zP).toArray = #[.string ⟨#[]⟩, .string ⟨#[]⟩] from rfl]
          clear f0 f1 hOx hb7 VA6 VT6 VJ6 PJ6 PW6 HB6 QW A06
          go_upto_region 10 with fail
          have hb8 : Below w7.heap.size w7 (w7.alloc (.cells #[.bool a0, .slice px 0 cx] 24)) := below_alloc0 w7 _ _
          have hb9 : Below (w7.alloc (.cells #[.bool a0, .slice px 0 cx] 24)).heap.size (w7.alloc (.cells #[.bool a0, .slice px 0 cx] 24)) ((w7.alloc (.cells #[.bool a0, .slice px 0 cx] 24)).alloc (.cells #[.string ⟨#[]⟩, .string ⟨#[]⟩] 28)) := below_alloc0 _ _ _
          have VX := Lib.hid ((Vl.new w7 [.bool a0, .slice px 0 cx] 24).keep hb9)
          change Hid (Vl ((w7.alloc (.cells #[.bool a0, .slice px 0 cx] 24)).alloc (.cells #[.string ⟨#[]⟩, .string ⟨#[]⟩] 28)) w7.heap.size [.bool a0, .slice px 0 cx]) at VX
          have VE := Lib.hid (Vl.new (w7.alloc (.cells #[.bool a0, .slice px 0 cx] 24)) [.string ⟨#[]⟩, .string ⟨#[]⟩] 28)
          rw [show (w7.alloc (.cells #[.bool a0, .slice px 0 cx] 24)).heap.size = w7.heap.size + 1 from by simp] at VE
          change Hid (Vl ((w7.alloc (.cells #[.bool a0, .slice px 0 cx] 24)).alloc (.cells #[.string ⟨#[]⟩, .string ⟨#[]⟩] 28)) (w7.heap.size + 1) [.string ⟨#[]⟩, .string ⟨#[]⟩]) at VE
          have VA8 := Lib.hid ((VA7.out.keep hb8).keep hb9)
          have VT8 := Lib.hid ((VT7.out.keep hb8).keep hb9)
          have VJ8 := Lib.hid ((VJ7.out.keep hb8).keep hb9)
          have PJ8 := Lib.hid ((PJ7.out.keep hb8).keep hb9)
          have PW8 := Lib.hid ((PW7.out.keep hb8).keep hb9)
          have HB8 := Lib.hid ((HB7.out.trans (hb8.mono HB7.out.size)).trans (hb9.mono (by have := HB7.out.size; have := hb8.size; omega)))
          obtain ⟨b7, h7⟩ : ∃ x, w7.heap.size = x := ⟨_, rfl⟩
          rw [h7] at VX VE
          try rw [h7]
          obtain ⟨b8, h8⟩ : ∃ x, b7 + 1 = x := ⟨_, rfl⟩
          rw [h8] at VE
          try rw [h8]
          obtain ⟨w8, hw8⟩ : ∃ x, (w7.alloc (.cells #[.bool a0, .slice px 0 cx] 24)).alloc (.cells #[.string ⟨#[]⟩, .string ⟨#[]⟩] 28) = x := ⟨_, rfl⟩
          rw [hw8] at VX VE VA8 VT8 VJ8 PJ8 PW8 HB8
          try rw [hw8]
          clear hb8 hb9 h7 h8 hw8 VA7 VT7 VJ7 PJ7 PW7 HB7
          have j0 := VJ8.out.c 0 _ rfl
          have j1 := VJ8.out.c 1 _ rfl
          have k0 := VT8.out.c 0 _ rfl
          have k1 := VT8.out.c 1 _ rfl
          go_wp2_with fail
          try rw [Nat.zero_add] at PW8
          refine (HSame.out _ _ w8 PJ8.out PW8.out).mono ?_
          rintro r w9 ⟨rfl, hb9⟩
          simp only [decide_true, Bool.and_self]
          clear j0 j1 k0 k1
          have VA9 := VA8.out.keep hb9
          have VX9 := VX.out.keep hb9
          have VE9 := VE.out.keep hb9
          have HB9 := Lib.hid (HB8.out.trans (hb9.mono HB8.out.size))
          have f0 := VA9.c 0 _ rfl
          have f1 := VA9.c 1 _ rfl
          have x0 := VX9.c 0 _ rfl
          have x1 := VX9.c 1 _ rfl
          have y0 := VE9.c 0 _ rfl
          have y1 := VE9.c 1 _ rfl
          have hez := HEz.out
          clear VA9 VX9 VE9 hb9 VA8 VT8 VJ8 PJ8 PW8 HB8 VX VE
          have hz0 : ((0 : Nat) : Int) = 0 := rfl
          have hz1 : decide ((0 : Int) < ((0 : Nat) : Int)) = false := rfl
          have hz2 : (a0 != a0) = false := by cases a0 <;> rfl
          clear hez
          go_upto_region 12 with fail
          go_upto_region 13 with fail
          go_wp2_with fail
          go_ret
          exact ⟨rfl, HB9.out⟩
        · rw [List.concat_eq_append] at hL
          subst hL
          have hlen : n0 = MM.length + 1 := by rw [← HN0.out, List.length_append]; rfl
          have hMM : MM.length ≤ 400 := by have := HN50.out.1; omega
          obtain ⟨g, o, e0⟩ : ∃ g o, p0 = some ⟨g, o, none⟩ := by
            rcases A06.out with ⟨h1, h2⟩ | ⟨g, o, cap, h1, -, -⟩
            · simp at h2
            · injection h1 with h1; exact ⟨g, o, h1⟩
          subst e0
          have A06' := A06.out
          obtain ⟨-, hnc, hre⟩ := A06'.cut hlen
          have HRe6 := Lib.hid hre
          have hnz : (0 : Int) < n0 := by omega
          have hz1 : decide ((0 : Int) < (n0 : Int)) = true := decide_eq_true hnz
          have HL := Lib.hid (⟨hlen, hnc⟩ : n0 = MM.length + 1 ∧ n0 ≤ c0)
          have HMM := Lib.hid hMM
          clear A06' hre hlen hnc hMM
          go_wp2_with fail
          refine (base_some a0 _ MM (e1, e2) HMM.out w6 A06.out).mono ?_
          rintro r w7 ⟨vx, rfl, hOx, hb7⟩
          obtain ⟨px, cx, rfl⟩ := ownsRow_form hOx
          have PX7 : Hid (Ps w7 (.slice px MM.length cx) MM) := Lib.hid (Ps.own hOx)
          have VA7 := Lib.hid (VA6.out.keep hb7)
          have VT7 := Lib.hid (VT6.out.keep hb7)
          have VJ7 := Lib.hid (VJ6.out.keep hb7)
          have PJ7 := Lib.hid (PJ6.out.keep hb7)
          have PW7 := Lib.hid (PW6.out.keep hb7)
          have A07 := Lib.hid (A06.out.keep hb7)
          have HRe7 := Lib.hid (ra_keep HRe6.out hb7)
          have HB7 := Lib.hid (HB6.out.trans (hb7.mono HB6.out.size))
          obtain ⟨nx, hnx⟩ : ∃ x, MM.length = x := ⟨_, rfl⟩
          rw [hnx] at PX7 HL HRe7
          try rw [hnx]
          have HNX := Lib.hid hnx
          rw [show (pa2 a0 (.slice px nx cx)).toArray = #[.bool a0, .slice px nx cx] from rfl]
          rw [show (pc (e1, e2)).toArray = #[.string e1, .string e2] from rfl]
          clear f0 f1 hOx hb7 VA6 VT6 VJ6 PJ6 PW6 HB6 QW A06 HRe6 hnx
          go_upto_region 10 with fail
          have hb8 : Below w7.heap.size w7 (w7.alloc (.cells #[.bool a0, .slice px nx cx] 24)) := below_alloc0 w7 _ _
          have hb9 : Below (w7.alloc (.cells #[.bool a0, .slice px nx cx] 24)).heap.size (w7.alloc (.cells #[.bool a0, .slice px nx cx] 24)) ((w7.alloc (.cells #[.bool a0, .slice px nx cx] 24)).alloc (.cells #[.string e1, .string e2] 28)) := below_alloc0 _ _ _
          have VX := Lib.hid ((Vl.new w7 [.bool a0, .slice px nx cx] 24).keep hb9)
          change Hid (Vl ((w7.alloc (.cells #[.bool a0, .slice px nx cx] 24)).alloc (.cells #[.string e1, .string e2] 28)) w7.heap.size [.bool a0, .slice px nx cx]) at VX
          have VE := Lib.hid (Vl.new (w7.alloc (.cells #[.bool a0, .slice px nx cx] 24)) [.string e1, .string e2] 28)
          rw [show (w7.alloc (.cells #[.bool a0, .slice px nx cx] 24)).heap.size = w7.heap.size + 1 from by simp] at VE
          change Hid (Vl ((w7.alloc (.cells #[.bool a0, .slice px nx cx] 24)).alloc (.cells #[.string e1, .string e2] 28)) (w7.heap.size + 1) [.string e1, .string e2]) at VE
          have VA8 := Lib.hid ((VA7.out.keep hb8).keep hb9)
          have VT8 := Lib.hid ((VT7.out.keep hb8).keep hb9)
          have VJ8 := Lib.hid ((VJ7.out.keep hb8).keep hb9)
          have PJ8 := Lib.hid ((PJ7.out.keep hb8).keep hb9)
          have PW8 := Lib.hid ((PW7.out.keep hb8).keep hb9)
          have PX8 := Lib.hid ((PX7.out.keep hb8).keep hb9)
          have A08 := Lib.hid ((A07.out.keep hb8).keep hb9)
          have HRe8 := Lib.hid (ra_keep (ra_keep HRe7.out hb8) hb9)
          have HB8 := Lib.hid ((HB7.out.trans (hb8.mono HB7.out.size)).trans (hb9.mono (by have := HB7.out.size; have := hb8.size; omega)))
          obtain ⟨b7, h7⟩ : ∃ x, w7.heap.size = x := ⟨_, rfl⟩
          rw [h7] at VX VE
          try rw [h7]
          obtain ⟨b8, h8⟩ : ∃ x, b7 + 1 = x := ⟨_, rfl⟩
          rw [h8] at VE
          try rw [h8]
          obtain ⟨w8, hw8⟩ : ∃ x, (w7.alloc (.cells #[.bool a0, .slice px nx cx] 24)).alloc (.cells #[.string e1, .string e2] 28) = x := ⟨_, rfl⟩
          rw [hw8] at VX VE VA8 VT8 VJ8 PJ8 PW8 PX8 A08 HRe8 HB8
          try rw [hw8]
          clear hb8 hb9 h7 h8 hw8 VA7 VT7 VJ7 PJ7 PW7 PX7 A07 HRe7 HB7
          have j0 := VJ8.out.c 0 _ rfl
          have j1 := VJ8.out.c 1 _ rfl
          have k0 := VT8.out.c 0 _ rfl
          have k1 := VT8.out.c 1 _ rfl
          go_wp2_with fail
          refine (HSame.out _ _ w8 PJ8.out PW8.out).mono ?_
          rintro r w9 ⟨rfl, hb9⟩
          simp only [decide_true, Bool.and_self]
          clear j0 j1 k0 k1
          have VA9 := Lib.hid (VA8.out.keep hb9)
          have VX9 := Lib.hid (VX.out.keep hb9)
          have VE9 := Lib.hid (VE.out.keep hb9)
          have PX9 := Lib.hid (PX8.out.keep hb9)
          have A09 := Lib.hid (A08.out.keep hb9)
          have HRe9 := Lib.hid (ra_keep HRe8.out hb9)
          have HB9 := Lib.hid (HB8.out.trans (hb9.mono HB8.out.size))
          have f0 := VA9.out.c 0 _ rfl
          have f1 := VA9.out.c 1 _ rfl
          have x0 := VX9.out.c 0 _ rfl
          have x1 := VX9.out.c 1 _ rfl
          have hz2 : (a0 != a0) = false := by cases a0 <;> rfl
          clear hb9 VA8 VT8 VJ8 PJ8 PW8 PX8 A08 HRe8 HB8 VX VE
          go_upto_region 12 with fail
          clear hz1 hz2 f0 f1 x0 x1
          go_upto_region 14 with fail
          have hok : okP (e1, e2) := HS0.out (e1, e2) (by simp)
          have HEe : Hid (∀ W, (Op.equalIn 10000 28 (.agg #[.string e1, .string e2]) (.agg #[.string e1, .string e2])).run Tryd.prog W = .ok true W) := Lib.hid (fun W => by
            have h9 := eqPr (e1, e2) (e1, e2) hok hok W
            rw [decide_eq_true rfl] at h9
            exact h9)
          have hw1 : IntKind.i64.wrap ((n0 : Int) - 1) = (nx : Int) := by have := HL.out.1; have := HN50.out.1; rw [IntKind.wrap_i64]; omega
          have hm0 : (0 : Int) ≤ nx := by omega
          have hm1 : (nx : Int) < n0 := by have := HL.out.1; omega
          have hm2 : (nx : Int) ≤ c0 := by have := HL.out; omega
          have hm3 : (nx : Int) ≤ n0 := by omega
          clear hok
          refine wp_region_held (S := fun W => Below w9.heap.size w9 W) (by kernel_rfl) ?_
          change wpAnyH _ _ _ _ _ _ _ _ (World.drew _)
          have hS0 : (fun W => Below w9.heap.size w9 W) w9.drew := (Below.refl _ w9).drew
          obtain ⟨y0, hy0⟩ : ∃ x, World.drew w9 = x := ⟨_, rfl⟩
          rw [hy0] at hS0 ⊢
          clear hy0
          refine wpAnyH_take (i := 0) (v := (.agg #[.string e1, .string e2])) rfl (by kernel_rfl) (by kernel_rfl) (by kernel_rfl) (fun _ _ _ h => h) ?_ hS0 ?_
          · exact yieldsIf_load_mid (by rfl) 28 _ rfl b8 0 rfl [.string e1, .string e2] dp (fun W h j u hu => by rw [Nat.zero_add]; exact (VE9.out.keep h).c j u hu) HUp.out HDp.out Tryd.isizePr
          simp only [Act.put, List.getElem_toArray, List.getElem_cons_zero, List.getElem_cons_succ, List.setIfInBounds_toArray, List.set_cons_zero, List.set_cons_succ]
          refine wpAnyH_take (i := 1) (v := ?_) rfl (by kernel_rfl) (by kernel_rfl) (by kernel_rfl) (fun _ _ _ h => h) (Or.inl ⟨by rfl, ?_⟩) hS0 ?_
          rotate_left 1
          · intro W hW
            go_simp
            try with_reducible rfl
          simp only [Act.put, List.getElem_toArray, List.getElem_cons_zero, List.getElem_cons_succ, List.setIfInBounds_toArray, List.set_cons_zero, List.set_cons_succ]
          refine wpAnyH_take (i := 2) (v := ?_) rfl (by kernel_rfl) (by kernel_rfl) (by kernel_rfl) (fun _ _ _ h => h) (Or.inl ⟨by rfl, ?_⟩) hS0 ?_
          rotate_left 1
          · intro W hW
            have q_ := (VA9.out.keep hW).c 1 _ rfl
            go_simp
            try with_reducible rfl
          simp only [Act.put, List.getElem_toArray, List.getElem_cons_zero, List.getElem_cons_succ, List.setIfInBounds_toArray, List.set_cons_zero, List.set_cons_succ]
          refine wpAnyH_take (i := 3) (v := ?_) rfl (by kernel_rfl) (by kernel_rfl) (by kernel_rfl) (fun _ _ _ h => h) (Or.inl ⟨by rfl, ?_⟩) hS0 ?_
          rotate_left 1
          · intro W hW
            go_simp
            try with_reducible rfl
          simp only [Act.put, List.getElem_toArray, List.getElem_cons_zero, List.getElem_cons_succ, List.setIfInBounds_toArray, List.set_cons_zero, List.set_cons_succ]
          refine wpAnyH_take (i := 4) (v := ?_) rfl (by kernel_rfl) (by kernel_rfl) (by kernel_rfl) (fun _ _ _ h => h) (Or.inl ⟨by rfl, ?_⟩) hS0 ?_
          rotate_left 1
          · intro W hW
            have q_ := (VA9.out.keep hW).c 1 _ rfl
            go_simp
            try with_reducible rfl
          simp only [Act.put, List.getElem_toArray, List.getElem_cons_zero, List.getElem_cons_succ, List.setIfInBounds_toArray, List.set_cons_zero, List.set_cons_succ]
          refine wpAnyH_take (i := 5) (v := ?_) rfl (by kernel_rfl) (by kernel_rfl) (by kernel_rfl) (fun _ _ _ h => h) (Or.inl ⟨by rfl, ?_⟩) hS0 ?_
          rotate_left 1
          · intro W hW
            go_simp
            try with_reducible rfl
          simp only [Act.put, List.getElem_toArray, List.getElem_cons_zero, List.getElem_cons_succ, List.setIfInBounds_toArray, List.set_cons_zero, List.set_cons_succ]
          refine wpAnyH_take (i := 6) (v := ?_) rfl (by kernel_rfl) (by kernel_rfl) (by kernel_rfl) (fun _ _ _ h => h) (Or.inl ⟨by rfl, ?_⟩) hS0 ?_
          rotate_left 1
          · intro W hW
            go_simp
            try with_reducible rfl
          simp only [Act.put, List.getElem_toArray, List.getElem_cons_zero, List.getElem_cons_succ, List.setIfInBounds_toArray, List.set_cons_zero, List.set_cons_succ]
          refine wpAnyH_take (i := 7) (v := (.pointer (some ⟨g, o + nx * 2, none⟩))) rfl (by kernel_rfl) (by kernel_rfl) (by kernel_rfl) (fun _ _ _ h => h) (Or.inl ⟨by rfl, ?_⟩) hS0 ?_
          · intro W hW
            go_simp
            try with_reducible rfl
          simp only [Act.put, List.getElem_toArray, List.getElem_cons_zero, List.getElem_cons_succ, List.setIfInBounds_toArray, List.set_cons_zero, List.set_cons_succ]
          refine wpAnyH_take (i := 8) (v := (.agg #[.string e1, .string e2])) rfl (by kernel_rfl) (by kernel_rfl) (by kernel_rfl) (fun _ _ _ h => h) ?_ hS0 ?_
          · exact yieldsIf_load_mid (by rfl) 28 _ rfl g (o + nx * 2) rfl [.string e1, .string e2] dp (fun W h => ra_keep HRe9.out h) HUp.out HDp.out Tryd.isizePr
          simp only [Act.put, List.getElem_toArray, List.getElem_cons_zero, List.getElem_cons_succ, List.setIfInBounds_toArray, List.set_cons_zero, List.set_cons_succ]
          refine wpAnyH_take (i := 9) (v := (.bool true)) rfl (by kernel_rfl) (by kernel_rfl) (by kernel_rfl) (fun _ _ _ h => h) ?_ hS0 ?_
          · exact yields_eql (by rfl) 28 28 _ _ rfl #[.string e1, .string e2] #[.string e1, .string e2] rfl rfl true Tryd.guardPr (fun W _ => HEe.out W)
          simp only [Act.put, List.getElem_toArray, List.getElem_cons_zero, List.getElem_cons_succ, List.setIfInBounds_toArray, List.set_cons_zero, List.set_cons_succ]
          refine wpAnyH_take (i := 10) (v := ?_) rfl (by kernel_rfl) (by kernel_rfl) (by kernel_rfl) (fun _ _ _ h => h) (Or.inl ⟨by rfl, ?_⟩) hS0 ?_
          rotate_left 1
          · intro W hW
            go_simp
            try with_reducible rfl
          simp only [Act.put, List.getElem_toArray, List.getElem_cons_zero, List.getElem_cons_succ, List.setIfInBounds_toArray, List.set_cons_zero, List.set_cons_succ]
          refine wpAnyH_take (i := 11) (v := (.agg (pa2 a0 (.slice px nx cx)).toArray)) rfl (by kernel_rfl) (by kernel_rfl) (by kernel_rfl) (fun _ _ _ h => h) ?_ hS0 ?_
          · exact yieldsIf_load_mid (by rfl) 24 _ rfl b7 0 rfl (pa2 a0 (.slice px nx cx)) d (fun W h j u hu => by rw [Nat.zero_add]; exact (VX9.out.keep h).c j u hu) HUd.out HDd.out Tryd.isizePa
          simp only [Act.put, List.getElem_toArray, List.getElem_cons_zero, List.getElem_cons_succ, List.setIfInBounds_toArray, List.set_cons_zero, List.set_cons_succ]
          refine wpAnyH_take (i := 12) (v := (.agg #[.string e1, .string e2])) rfl (by kernel_rfl) (by kernel_rfl) (by kernel_rfl) (fun _ _ _ h => h) ?_ hS0 ?_
          · exact yieldsIf_load_mid (by rfl) 28 _ rfl b8 0 rfl [.string e1, .string e2] dp (fun W h j u hu => by rw [Nat.zero_add]; exact (VE9.out.keep h).c j u hu) HUp.out HDp.out Tryd.isizePr
          simp only [Act.put, List.getElem_toArray, List.getElem_cons_zero, List.getElem_cons_succ, List.setIfInBounds_toArray, List.set_cons_zero, List.set_cons_succ]
          refine wpAnyH_take (i := 16) (v := (.agg (pa2 a0 (.slice (some ⟨g, o, none⟩) n0 c0)).toArray)) rfl (by kernel_rfl) (by kernel_rfl) (by kernel_rfl) (fun _ _ _ h => h) ?_ hS0 ?_
          · exact yieldsIf_load_mid (by rfl) 24 _ rfl x2 0 rfl (pa2 a0 (.slice (some ⟨g, o, none⟩) n0 c0)) d (fun W h j u hu => by rw [Nat.zero_add]; exact (VA9.out.keep h).c j u hu) HUd.out HDd.out Tryd.isizePa
          simp only [Act.put, List.getElem_toArray, List.getElem_cons_zero, List.getElem_cons_succ, List.setIfInBounds_toArray, List.set_cons_zero, List.set_cons_succ]
          refine wpAnyH_ready (rs := [13]) (by kernel_rfl) (by simp) (AllReadyH.cons rfl (fun KK hKK => ?_) AllReadyH.nil)
          · skip
            go_simp
            refine hKK _ _ (Below.alloc hS0 (Below.size hS0) _) ?_
            intro _
            clear hKK KK
            try simp only [Act.put, List.getElem_toArray, List.getElem_cons_zero, List.getElem_cons_succ, List.setIfInBounds_toArray, List.set_cons_zero, List.set_cons_succ]
            have hP1 : Ps (y0.alloc (.cells #[.string e1, .string e2] 28)) (.slice (some ⟨y0.heap.size, 0, none⟩) 1 1) [(e1, e2)] := .inr ⟨_, 0, 1, rfl, Nat.le_refl _, fun j u hu => by rw [Nat.zero_add]; exact (Vl.new y0 [.string e1, .string e2] 28).c j u (by simpa [flP, pc] using hu)⟩
            have hS1 : Below w9.heap.size w9 (y0.alloc (.cells #[.string e1, .string e2] 28)) := Below.alloc hS0 (Below.size hS0) _
            obtain ⟨b9, h9⟩ : ∃ x, y0.heap.size = x := ⟨_, rfl⟩
            rw [h9] at hP1
            try rw [h9]
            obtain ⟨y1, hy1⟩ : ∃ x, y0.alloc (.cells #[.string e1, .string e2] 28) = x := ⟨_, rfl⟩
            rw [hy1] at hP1 hS1 ⊢
            have HP1 := Lib.hid hP1
            clear hP1 h9 hy1 hS0
            replace hS0 : (fun W => Below w9.heap.size w9 W) y1 := hS1
            clear hS1
            refine wpAnyH_take (i := 14) (v := (.agg #[.bool false, .slice (some ⟨b9, 0, none⟩) 1 1])) rfl (by kernel_rfl) (by kernel_rfl) (by kernel_rfl) (fun _ _ _ h => h) ?_ hS0 ?_
            · exact yields_bld1 (by kernel_rfl) 24 1 (.tmp 87) rfl (.slice (some ⟨b9, 0, none⟩) 1 1) rfl (.agg #[.bool false, .slice (some ⟨b9, 0, none⟩) 1 1]) (fun W => buildPa1 (some ⟨b9, 0, none⟩) 1 1 W)
            simp only [Act.put, List.getElem_toArray, List.getElem_cons_zero, List.getElem_cons_succ, List.setIfInBounds_toArray, List.set_cons_zero, List.set_cons_succ]
            refine wpAnyH_ready (rs := [15]) (by kernel_rfl) (by simp) (AllReadyH.cons rfl (fun KK hKK => ?_) AllReadyH.nil)
            · skip
              go_simp
              refine (join_any a0 false _ _ MM [(e1, e2)] HMM.out (by simp) y1 (PX9.out.keep hS0) HP1.out).mono ?_
              rintro r y2 ⟨v, rfl, hO, hb⟩
              rw [if_neg (by decide : ¬ (false = true)), HN0.out] at hO
              obtain ⟨pz, cz, rfl⟩ := ownsRow_form hO
              rw [Bool.false_or]
              have HZ : Hid (Ps y2 (.slice pz n0 cz) (MM ++ [(e1, e2)])) := Lib.hid (by
                have h9 := hO
                rw [← HN0.out] at h9 ⊢
                exact Ps.own h9)
              have hS1 : Below w9.heap.size w9 y2 := Below.trans hS0 (Below.mono hb (Below.size hS0))
              refine hKK _ _ hS1 ?_
              intro _
              clear hKK KK hO hb hS0 HP1
              try simp only [Act.put, List.getElem_toArray, List.getElem_cons_zero, List.getElem_cons_succ, List.setIfInBounds_toArray, List.set_cons_zero, List.set_cons_succ]
              replace hS1 : (fun W => Below w9.heap.size w9 W) y2 := hS1
              have hS0 := hS1
              clear hS1
              refine wpAnyH_ready (rs := [17]) (by kernel_rfl) (by simp) (AllReadyH.cons rfl (fun KK hKK => ?_) AllReadyH.nil)
              · skip
                go_simp
                refine (samep_any a0 a0 _ _ (MM ++ [(e1, e2)]) (MM ++ [(e1, e2)]) HS0.out HS0.out (by rw [HN0.out]; have := HN50.out.1; omega) y2 HZ.out (A09.out.keep hS0)).mono ?_
                rintro r y3 ⟨rfl, hb⟩
                simp only [decide_true, Bool.and_self]
                have hS1 : Below w9.heap.size w9 y3 := Below.trans hS0 (Below.mono hb (Below.size hS0))
                refine hKK _ _ hS1 ?_
                intro _
                clear hKK KK hb hS0 HZ
                try simp only [Act.put, List.getElem_toArray, List.getElem_cons_zero, List.getElem_cons_succ, List.setIfInBounds_toArray, List.set_cons_zero, List.set_cons_succ]
                replace hS1 : (fun W => Below w9.heap.size w9 W) y3 := hS1
                have hS0 := hS1
                clear hS1
                refine wpAnyH_take (i := 18) (v := ?_) rfl (by kernel_rfl) (by kernel_rfl) (by kernel_rfl) (fun _ _ _ h => h) (Or.inl ⟨by rfl, ?_⟩) hS0 ?_
                rotate_left 1
                · intro W hW
                  go_simp
                  try with_reducible rfl
                simp only [Act.put, List.getElem_toArray, List.getElem_cons_zero, List.getElem_cons_succ, List.setIfInBounds_toArray, List.set_cons_zero, List.set_cons_succ]
                refine wpAnyH_take (i := 19) (v := ?_) rfl (by kernel_rfl) (by kernel_rfl) (by kernel_rfl) (fun _ _ _ h => h) (Or.inl ⟨by rfl, ?_⟩) hS0 ?_
                rotate_left 1
                · intro W hW
                  go_simp
                  try with_reducible rfl
                simp only [Act.put, List.getElem_toArray, List.getElem_cons_zero, List.getElem_cons_succ, List.setIfInBounds_toArray, List.set_cons_zero, List.set_cons_succ]
                refine wpAnyH_done (by kernel_rfl) ?_ _
                clear hw1 hm0 hm1 hm2 hm3 hnz hb0 hb1 hh hh1
                go_wp2_with fail
                go_ret
                exact ⟨rfl, Below.trans HB9.out (Below.mono hS0 (Below.size HB9.out))⟩
      · have hJ2 : L1 = J := HJ.out
        have hf2 : true = fj := HFj.out
        subst hf2
        subst hJ2
        go_upto_region 9 with (refine wpList_store_list rfl 24 _ _ rfl bT (pa2 a0 (.slice pv (n0 + n1) cv)) (pa2 true (.slice q1 n1 d1)) rfl rfl HVT.out rfl (sizePa _ _) (pa2_one _ _ _ _) ?_; intro w6 VT6 HK6)
        clear g0 g1
        have hb6 : Below wq.heap.size wq w6 := Hb.out.trans (HK6.out.below HbT.out HbT.out Hb.out.size)
        have VA6 := Lib.hid (VAq.out.keep hb6)
        have VJ6 := Lib.hid (VJ.out.keep hb6)
        have PJ6 := Lib.hid (PJq.out.keep hb6)
        have A06 := Lib.hid (A0q.out.keep hb6)
        have PW6 := Lib.hid (A1q.out.keep hb6)
        have HB6 := Lib.hid (HBq.out.trans (hb6.mono HBq.out.size))
        change Hid (Vl w6 bT [.bool true, .slice q1 n1 d1]) at VT6
        clear VAq VBq VJ PJq A0q A1q HBq HVT HOT Hb HK6 hb6
        have f0 := VA6.out.c 0 _ rfl
        have f1 := VA6.out.c 1 _ rfl
        have QW := Lib.hid (PW6.out)
        rcases List.eq_nil_or_concat L0 with hL | ⟨MM, ⟨e1, e2⟩, hL⟩
        · subst hL
          have hn00 : n0 = 0 := by rw [← HN0.out]; rfl
          subst hn00
          go_wp2_with fail
          refine (base_none a0 _ w6 A06.out).mono ?_
          rintro r w7 ⟨vx, rfl, hOx, hb7⟩
          obtain ⟨px, cx, rfl⟩ := ownsRow_form hOx
          have VA7 := Lib.hid (VA6.out.keep hb7)
          have VT7 := Lib.hid (VT6.out.keep hb7)
          have VJ7 := Lib.hid (VJ6.out.keep hb7)
          have PJ7 := Lib.hid (PJ6.out.keep hb7)
          have PW7 := Lib.hid (PW6.out.keep hb7)
          have HB7 := Lib.hid (HB6.out.trans (hb7.mono HB6.out.size))
          rw [show (pa2 a0 (.slice px 0 cx)).toArray = #[.bool a0, .slice px 0 cx] from rfl]
          rw [show (pc zP).toArray = #[.string ⟨#[]⟩, .string ⟨#[]⟩] from rfl]
          clear f0 f1 hOx hb7 VA6 VT6 VJ6 PJ6 PW6 HB6 QW A06
          go_upto_region 10 with fail
          have hb8 : Below w7.heap.size w7 (w7.alloc (.cells #[.bool a0, .slice px 0 cx] 24)) := below_alloc0 w7 _ _
          have hb9 : Below (w7.alloc (.cells #[.bool a0, .slice px 0 cx] 24)).heap.size (w7.alloc (.cells #[.bool a0, .slice px 0 cx] 24)) ((w7.alloc (.cells #[.bool a0, .slice px 0 cx] 24)).alloc (.cells #[.string ⟨#[]⟩, .string ⟨#[]⟩] 28)) := below_alloc0 _ _ _
          have VX := Lib.hid ((Vl.new w7 [.bool a0, .slice px 0 cx] 24).keep hb9)
          change Hid (Vl ((w7.alloc (.cells #[.bool a0, .slice px 0 cx] 24)).alloc (.cells #[.string ⟨#[]⟩, .string ⟨#[]⟩] 28)) w7.heap.size [.bool a0, .slice px 0 cx]) at VX
          have VE := Lib.hid (Vl.new (w7.alloc (.cells #[.bool a0, .slice px 0 cx] 24)) [.string ⟨#[]⟩, .string ⟨#[]⟩] 28)
          rw [show (w7.alloc (.cells #[.bool a0, .slice px 0 cx] 24)).heap.size = w7.heap.size + 1 from by simp] at VE
          change Hid (Vl ((w7.alloc (.cells #[.bool a0, .slice px 0 cx] 24)).alloc (.cells #[.string ⟨#[]⟩, .string ⟨#[]⟩] 28)) (w7.heap.size + 1) [.string ⟨#[]⟩, .string ⟨#[]⟩]) at VE
          have VA8 := Lib.hid ((VA7.out.keep hb8).keep hb9)
          have VT8 := Lib.hid ((VT7.out.keep hb8).keep hb9)
          have VJ8 := Lib.hid ((VJ7.out.keep hb8).keep hb9)
          have PJ8 := Lib.hid ((PJ7.out.keep hb8).keep hb9)
          have PW8 := Lib.hid ((PW7.out.keep hb8).keep hb9)
          have HB8 := Lib.hid ((HB7.out.trans (hb8.mono HB7.out.size)).trans (hb9.mono (by have := HB7.out.size; have := hb8.size; omega)))
          obtain ⟨b7, h7⟩ : ∃ x, w7.heap.size = x := ⟨_, rfl⟩
          rw [h7] at VX VE
          try rw [h7]
          obtain ⟨b8, h8⟩ : ∃ x, b7 + 1 = x := ⟨_, rfl⟩
          rw [h8] at VE
          try rw [h8]
          obtain ⟨w8, hw8⟩ : ∃ x, (w7.alloc (.cells #[.bool a0, .slice px 0 cx] 24)).alloc (.cells #[.string ⟨#[]⟩, .string ⟨#[]⟩] 28) = x := ⟨_, rfl⟩
          rw [hw8] at VX VE VA8 VT8 VJ8 PJ8 PW8 HB8
          try rw [hw8]
          clear hb8 hb9 h7 h8 hw8 VA7 VT7 VJ7 PJ7 PW7 HB7
          have j0 := VJ8.out.c 0 _ rfl
          have j1 := VJ8.out.c 1 _ rfl
          have k0 := VT8.out.c 0 _ rfl
          have k1 := VT8.out.c 1 _ rfl
          go_wp2_with fail
          try rw [Nat.zero_add] at PW8
          refine (HSame.out _ _ w8 PJ8.out PW8.out).mono ?_
          rintro r w9 ⟨rfl, hb9⟩
          simp only [decide_true, Bool.and_self]
          clear j0 j1 k0 k1
          have VA9 := VA8.out.keep hb9
          have VX9 := VX.out.keep hb9
          have VE9 := VE.out.keep hb9
          have HB9 := Lib.hid (HB8.out.trans (hb9.mono HB8.out.size))
          have f0 := VA9.c 0 _ rfl
          have f1 := VA9.c 1 _ rfl
          have x0 := VX9.c 0 _ rfl
          have x1 := VX9.c 1 _ rfl
          have y0 := VE9.c 0 _ rfl
          have y1 := VE9.c 1 _ rfl
          have hez := HEz.out
          clear VA9 VX9 VE9 hb9 VA8 VT8 VJ8 PJ8 PW8 HB8 VX VE
          have hz0 : ((0 : Nat) : Int) = 0 := rfl
          have hz1 : decide ((0 : Int) < ((0 : Nat) : Int)) = false := rfl
          have hz2 : (a0 != a0) = false := by cases a0 <;> rfl
          clear hez
          go_upto_region 12 with fail
          go_upto_region 13 with fail
          go_wp2_with fail
          go_ret
          exact ⟨rfl, HB9.out⟩
        · rw [List.concat_eq_append] at hL
          subst hL
          have hlen : n0 = MM.length + 1 := by rw [← HN0.out, List.length_append]; rfl
          have hMM : MM.length ≤ 400 := by have := HN50.out.1; omega
          obtain ⟨g, o, e0⟩ : ∃ g o, p0 = some ⟨g, o, none⟩ := by
            rcases A06.out with ⟨h1, h2⟩ | ⟨g, o, cap, h1, -, -⟩
            · simp at h2
            · injection h1 with h1; exact ⟨g, o, h1⟩
          subst e0
          have A06' := A06.out
          obtain ⟨-, hnc, hre⟩ := A06'.cut hlen
          have HRe6 := Lib.hid hre
          have hnz : (0 : Int) < n0 := by omega
          have hz1 : decide ((0 : Int) < (n0 : Int)) = true := decide_eq_true hnz
          have HL := Lib.hid (⟨hlen, hnc⟩ : n0 = MM.length + 1 ∧ n0 ≤ c0)
          have HMM := Lib.hid hMM
          clear A06' hre hlen hnc hMM
          go_wp2_with fail
          refine (base_some a0 _ MM (e1, e2) HMM.out w6 A06.out).mono ?_
          rintro r w7 ⟨vx, rfl, hOx, hb7⟩
          obtain ⟨px, cx, rfl⟩ := ownsRow_form hOx
          have PX7 : Hid (Ps w7 (.slice px MM.length cx) MM) := Lib.hid (Ps.own hOx)
          have VA7 := Lib.hid (VA6.out.keep hb7)
          have VT7 := Lib.hid (VT6.out.keep hb7)
          have VJ7 := Lib.hid (VJ6.out.keep hb7)
          have PJ7 := Lib.hid (PJ6.out.keep hb7)
          have PW7 := Lib.hid (PW6.out.keep hb7)
          have A07 := Lib.hid (A06.out.keep hb7)
          have HRe7 := Lib.hid (ra_keep HRe6.out hb7)
          have HB7 := Lib.hid (HB6.out.trans (hb7.mono HB6.out.size))
          obtain ⟨nx, hnx⟩ : ∃ x, MM.length = x := ⟨_, rfl⟩
          rw [hnx] at PX7 HL HRe7
          try rw [hnx]
          have HNX := Lib.hid hnx
          rw [show (pa2 a0 (.slice px nx cx)).toArray = #[.bool a0, .slice px nx cx] from rfl]
          rw [show (pc (e1, e2)).toArray = #[.string e1, .string e2] from rfl]
          clear f0 f1 hOx hb7 VA6 VT6 VJ6 PJ6 PW6 HB6 QW A06 HRe6 hnx
          go_upto_region 10 with fail
          have hb8 : Below w7.heap.size w7 (w7.alloc (.cells #[.bool a0, .slice px nx cx] 24)) := below_alloc0 w7 _ _
          have hb9 : Below (w7.alloc (.cells #[.bool a0, .slice px nx cx] 24)).heap.size (w7.alloc (.cells #[.bool a0, .slice px nx cx] 24)) ((w7.alloc (.cells #[.bool a0, .slice px nx cx] 24)).alloc (.cells #[.string e1, .string e2] 28)) := below_alloc0 _ _ _
          have VX := Lib.hid ((Vl.new w7 [.bool a0, .slice px nx cx] 24).keep hb9)
          change Hid (Vl ((w7.alloc (.cells #[.bool a0, .slice px nx cx] 24)).alloc (.cells #[.string e1, .string e2] 28)) w7.heap.size [.bool a0, .slice px nx cx]) at VX
          have VE := Lib.hid (Vl.new (w7.alloc (.cells #[.bool a0, .slice px nx cx] 24)) [.string e1, .string e2] 28)
          rw [show (w7.alloc (.cells #[.bool a0, .slice px nx cx] 24)).heap.size = w7.heap.size + 1 from by simp] at VE
          change Hid (Vl ((w7.alloc (.cells #[.bool a0, .slice px nx cx] 24)).alloc (.cells #[.string e1, .string e2] 28)) (w7.heap.size + 1) [.string e1, .string e2]) at VE
          have VA8 := Lib.hid ((VA7.out.keep hb8).keep hb9)
          have VT8 := Lib.hid ((VT7.out.keep hb8).keep hb9)
          have VJ8 := Lib.hid ((VJ7.out.keep hb8).keep hb9)
          have PJ8 := Lib.hid ((PJ7.out.keep hb8).keep hb9)
          have PW8 := Lib.hid ((PW7.out.keep hb8).keep hb9)
          have PX8 := Lib.hid ((PX7.out.keep hb8).keep hb9)
          have A08 := Lib.hid ((A07.out.keep hb8).keep hb9)
          have HRe8 := Lib.hid (ra_keep (ra_keep HRe7.out hb8) hb9)
          have HB8 := Lib.hid ((HB7.out.trans (hb8.mono HB7.out.size)).trans (hb9.mono (by have := HB7.out.size; have := hb8.size; omega)))
          obtain ⟨b7, h7⟩ : ∃ x, w7.heap.size = x := ⟨_, rfl⟩
          rw [h7] at VX VE
          try rw [h7]
          obtain ⟨b8, h8⟩ : ∃ x, b7 + 1 = x := ⟨_, rfl⟩
          rw [h8] at VE
          try rw [h8]
          obtain ⟨w8, hw8⟩ : ∃ x, (w7.alloc (.cells #[.bool a0, .slice px nx cx] 24)).alloc (.cells #[.string e1, .string e2] 28) = x := ⟨_, rfl⟩
          rw [hw8] at VX VE VA8 VT8 VJ8 PJ8 PW8 PX8 A08 HRe8 HB8
          try rw [hw8]
          clear hb8 hb9 h7 h8 hw8 VA7 VT7 VJ7 PJ7 PW7 PX7 A07 HRe7 HB7
          have j0 := VJ8.out.c 0 _ rfl
          have j1 := VJ8.out.c 1 _ rfl
          have k0 := VT8.out.c 0 _ rfl
          have k1 := VT8.out.c 1 _ rfl
          go_wp2_with fail
          refine (HSame.out _ _ w8 PJ8.out PW8.out).mono ?_
          rintro r w9 ⟨rfl, hb9⟩
          simp only [decide_true, Bool.and_self]
          clear j0 j1 k0 k1
          have VA9 := Lib.hid (VA8.out.keep hb9)
          have VX9 := Lib.hid (VX.out.keep hb9)
          have VE9 := Lib.hid (VE.out.keep hb9)
          have PX9 := Lib.hid (PX8.out.keep hb9)
          have A09 := Lib.hid (A08.out.keep hb9)
          have HRe9 := Lib.hid (ra_keep HRe8.out hb9)
          have HB9 := Lib.hid (HB8.out.trans (hb9.mono HB8.out.size))
          have f0 := VA9.out.c 0 _ rfl
          have f1 := VA9.out.c 1 _ rfl
          have x0 := VX9.out.c 0 _ rfl
          have x1 := VX9.out.c 1 _ rfl
          have hz2 : (a0 != a0) = false := by cases a0 <;> rfl
          clear hb9 VA8 VT8 VJ8 PJ8 PW8 PX8 A08 HRe8 HB8 VX VE
          go_upto_region 12 with fail
          clear hz1 hz2 f0 f1 x0 x1
          go_upto_region 14 with fail
          have hok : okP (e1, e2) := HS0.out (e1, e2) (by simp)
          have HEe : Hid (∀ W, (Op.equalIn 10000 28 (.agg #[.string e1, .string e2]) (.agg #[.string e1, .string e2])).run Tryd.prog W = .ok true W) := Lib.hid (fun W => by
            have h9 := eqPr (e1, e2) (e1, e2) hok hok W
            rw [decide_eq_true rfl] at h9
            exact h9)
          have hw1 : IntKind.i64.wrap ((n0 : Int) - 1) = (nx : Int) := by have := HL.out.1; have := HN50.out.1; rw [IntKind.wrap_i64]; omega
          have hm0 : (0 : Int) ≤ nx := by omega
          have hm1 : (nx : Int) < n0 := by have := HL.out.1; omega
          have hm2 : (nx : Int) ≤ c0 := by have := HL.out; omega
          have hm3 : (nx : Int) ≤ n0 := by omega
          clear hok
          refine wp_region_held (S := fun W => Below w9.heap.size w9 W) (by kernel_rfl) ?_
          change wpAnyH _ _ _ _ _ _ _ _ (World.drew _)
          have hS0 : (fun W => Below w9.heap.size w9 W) w9.drew := (Below.refl _ w9).drew
          obtain ⟨y0, hy0⟩ : ∃ x, World.drew w9 = x := ⟨_, rfl⟩
          rw [hy0] at hS0 ⊢
          clear hy0
          refine wpAnyH_take (i := 0) (v := (.agg #[.string e1, .string e2])) rfl (by kernel_rfl) (by kernel_rfl) (by kernel_rfl) (fun _ _ _ h => h) ?_ hS0 ?_
          · exact yieldsIf_load_mid (by rfl) 28 _ rfl b8 0 rfl [.string e1, .string e2] dp (fun W h j u hu => by rw [Nat.zero_add]; exact (VE9.out.keep h).c j u hu) HUp.out HDp.out Tryd.isizePr
          simp only [Act.put, List.getElem_toArray, List.getElem_cons_zero, List.getElem_cons_succ, List.setIfInBounds_toArray, List.set_cons_zero, List.set_cons_succ]
          refine wpAnyH_take (i := 1) (v := ?_) rfl (by kernel_rfl) (by kernel_rfl) (by kernel_rfl) (fun _ _ _ h => h) (Or.inl ⟨by rfl, ?_⟩) hS0 ?_
          rotate_left 1
          · intro W hW
            go_simp
            try with_reducible rfl
          simp only [Act.put, List.getElem_toArray, List.getElem_cons_zero, List.getElem_cons_succ, List.setIfInBounds_toArray, List.set_cons_zero, List.set_cons_succ]
          refine wpAnyH_take (i := 2) (v := ?_) rfl (by kernel_rfl) (by kernel_rfl) (by kernel_rfl) (fun _ _ _ h => h) (Or.inl ⟨by rfl, ?_⟩) hS0 ?_
          rotate_left 1
          · intro W hW
            have q_ := (VA9.out.keep hW).c 1 _ rfl
            go_simp
            try with_reducible rfl
          simp only [Act.put, List.getElem_toArray, List.getElem_cons_zero, List.getElem_cons_succ, List.setIfInBounds_toArray, List.set_cons_zero, List.set_cons_succ]
          refine wpAnyH_take (i := 3) (v := ?_) rfl (by kernel_rfl) (by kernel_rfl) (by kernel_rfl) (fun _ _ _ h => h) (Or.inl ⟨by rfl, ?_⟩) hS0 ?_
          rotate_left 1
          · intro W hW
            go_simp
            try with_reducible rfl
          simp only [Act.put, List.getElem_toArray, List.getElem_cons_zero, List.getElem_cons_succ, List.setIfInBounds_toArray, List.set_cons_zero, List.set_cons_succ]
          refine wpAnyH_take (i := 4) (v := ?_) rfl (by kernel_rfl) (by kernel_rfl) (by kernel_rfl) (fun _ _ _ h => h) (Or.inl ⟨by rfl, ?_⟩) hS0 ?_
          rotate_left 1
          · intro W hW
            have q_ := (VA9.out.keep hW).c 1 _ rfl
            go_simp
            try with_reducible rfl
          simp only [Act.put, List.getElem_toArray, List.getElem_cons_zero, List.getElem_cons_succ, List.setIfInBounds_toArray, List.set_cons_zero, List.set_cons_succ]
          refine wpAnyH_take (i := 5) (v := ?_) rfl (by kernel_rfl) (by kernel_rfl) (by kernel_rfl) (fun _ _ _ h => h) (Or.inl ⟨by rfl, ?_⟩) hS0 ?_
          rotate_left 1
          · intro W hW
            go_simp
            try with_reducible rfl
          simp only [Act.put, List.getElem_toArray, List.getElem_cons_zero, List.getElem_cons_succ, List.setIfInBounds_toArray, List.set_cons_zero, List.set_cons_succ]
          refine wpAnyH_take (i := 6) (v := ?_) rfl (by kernel_rfl) (by kernel_rfl) (by kernel_rfl) (fun _ _ _ h => h) (Or.inl ⟨by rfl, ?_⟩) hS0 ?_
          rotate_left 1
          · intro W hW
            go_simp
            try with_reducible rfl
          simp only [Act.put, List.getElem_toArray, List.getElem_cons_zero, List.getElem_cons_succ, List.setIfInBounds_toArray, List.set_cons_zero, List.set_cons_succ]
          refine wpAnyH_take (i := 7) (v := (.pointer (some ⟨g, o + nx * 2, none⟩))) rfl (by kernel_rfl) (by kernel_rfl) (by kernel_rfl) (fun _ _ _ h => h) (Or.inl ⟨by rfl, ?_⟩) hS0 ?_
          · intro W hW
            go_simp
            try with_reducible rfl
          simp only [Act.put, List.getElem_toArray, List.getElem_cons_zero, List.getElem_cons_succ, List.setIfInBounds_toArray, List.set_cons_zero, List.set_cons_succ]
          refine wpAnyH_take (i := 8) (v := (.agg #[.string e1, .string e2])) rfl (by kernel_rfl) (by kernel_rfl) (by kernel_rfl) (fun _ _ _ h => h) ?_ hS0 ?_
          · exact yieldsIf_load_mid (by rfl) 28 _ rfl g (o + nx * 2) rfl [.string e1, .string e2] dp (fun W h => ra_keep HRe9.out h) HUp.out HDp.out Tryd.isizePr
          simp only [Act.put, List.getElem_toArray, List.getElem_cons_zero, List.getElem_cons_succ, List.setIfInBounds_toArray, List.set_cons_zero, List.set_cons_succ]
          refine wpAnyH_take (i := 9) (v := (.bool true)) rfl (by kernel_rfl) (by kernel_rfl) (by kernel_rfl) (fun _ _ _ h => h) ?_ hS0 ?_
          · exact yields_eql (by rfl) 28 28 _ _ rfl #[.string e1, .string e2] #[.string e1, .string e2] rfl rfl true Tryd.guardPr (fun W _ => HEe.out W)
          simp only [Act.put, List.getElem_toArray, List.getElem_cons_zero, List.getElem_cons_succ, List.setIfInBounds_toArray, List.set_cons_zero, List.set_cons_succ]
          refine wpAnyH_take (i := 10) (v := ?_) rfl (by kernel_rfl) (by kernel_rfl) (by kernel_rfl) (fun _ _ _ h => h) (Or.inl ⟨by rfl, ?_⟩) hS0 ?_
          rotate_left 1
          · intro W hW
            go_simp
            try with_reducible rfl
          simp only [Act.put, List.getElem_toArray, List.getElem_cons_zero, List.getElem_cons_succ, List.setIfInBounds_toArray, List.set_cons_zero, List.set_cons_succ]
          refine wpAnyH_take (i := 11) (v := (.agg (pa2 a0 (.slice px nx cx)).toArray)) rfl (by kernel_rfl) (by kernel_rfl) (by kernel_rfl) (fun _ _ _ h => h) ?_ hS0 ?_
          · exact yieldsIf_load_mid (by rfl) 24 _ rfl b7 0 rfl (pa2 a0 (.slice px nx cx)) d (fun W h j u hu => by rw [Nat.zero_add]; exact (VX9.out.keep h).c j u hu) HUd.out HDd.out Tryd.isizePa
          simp only [Act.put, List.getElem_toArray, List.getElem_cons_zero, List.getElem_cons_succ, List.setIfInBounds_toArray, List.set_cons_zero, List.set_cons_succ]
          refine wpAnyH_take (i := 12) (v := (.agg #[.string e1, .string e2])) rfl (by kernel_rfl) (by kernel_rfl) (by kernel_rfl) (fun _ _ _ h => h) ?_ hS0 ?_
          · exact yieldsIf_load_mid (by rfl) 28 _ rfl b8 0 rfl [.string e1, .string e2] dp (fun W h j u hu => by rw [Nat.zero_add]; exact (VE9.out.keep h).c j u hu) HUp.out HDp.out Tryd.isizePr
          simp only [Act.put, List.getElem_toArray, List.getElem_cons_zero, List.getElem_cons_succ, List.setIfInBounds_toArray, List.set_cons_zero, List.set_cons_succ]
          refine wpAnyH_take (i := 16) (v := (.agg (pa2 a0 (.slice (some ⟨g, o, none⟩) n0 c0)).toArray)) rfl (by kernel_rfl) (by kernel_rfl) (by kernel_rfl) (fun _ _ _ h => h) ?_ hS0 ?_
          · exact yieldsIf_load_mid (by rfl) 24 _ rfl x2 0 rfl (pa2 a0 (.slice (some ⟨g, o, none⟩) n0 c0)) d (fun W h j u hu => by rw [Nat.zero_add]; exact (VA9.out.keep h).c j u hu) HUd.out HDd.out Tryd.isizePa
          simp only [Act.put, List.getElem_toArray, List.getElem_cons_zero, List.getElem_cons_succ, List.setIfInBounds_toArray, List.set_cons_zero, List.set_cons_succ]
          refine wpAnyH_ready (rs := [13]) (by kernel_rfl) (by simp) (AllReadyH.cons rfl (fun KK hKK => ?_) AllReadyH.nil)
          · skip
            go_simp
            refine hKK _ _ (Below.alloc hS0 (Below.size hS0) _) ?_
            intro _
            clear hKK KK
            try simp only [Act.put, List.getElem_toArray, List.getElem_cons_zero, List.getElem_cons_succ, List.setIfInBounds_toArray, List.set_cons_zero, List.set_cons_succ]
            have hP1 : Ps (y0.alloc (.cells #[.string e1, .string e2] 28)) (.slice (some ⟨y0.heap.size, 0, none⟩) 1 1) [(e1, e2)] := .inr ⟨_, 0, 1, rfl, Nat.le_refl _, fun j u hu => by rw [Nat.zero_add]; exact (Vl.new y0 [.string e1, .string e2] 28).c j u (by simpa [flP, pc] using hu)⟩
            have hS1 : Below w9.heap.size w9 (y0.alloc (.cells #[.string e1, .string e2] 28)) := Below.alloc hS0 (Below.size hS0) _
            obtain ⟨b9, h9⟩ : ∃ x, y0.heap.size = x := ⟨_, rfl⟩
            rw [h9] at hP1
            try rw [h9]
            obtain ⟨y1, hy1⟩ : ∃ x, y0.alloc (.cells #[.string e1, .string e2] 28) = x := ⟨_, rfl⟩
            rw [hy1] at hP1 hS1 ⊢
            have HP1 := Lib.hid hP1
            clear hP1 h9 hy1 hS0
            replace hS0 : (fun W => Below w9.heap.size w9 W) y1 := hS1
            clear hS1
            refine wpAnyH_take (i := 14) (v := (.agg #[.bool false, .slice (some ⟨b9, 0, none⟩) 1 1])) rfl (by kernel_rfl) (by kernel_rfl) (by kernel_rfl) (fun _ _ _ h => h) ?_ hS0 ?_
            · exact yields_bld1 (by kernel_rfl) 24 1 (.tmp 87) rfl (.slice (some ⟨b9, 0, none⟩) 1 1) rfl (.agg #[.bool false, .slice (some ⟨b9, 0, none⟩) 1 1]) (fun W => buildPa1 (some ⟨b9, 0, none⟩) 1 1 W)
            simp only [Act.put, List.getElem_toArray, List.getElem_cons_zero, List.getElem_cons_succ, List.setIfInBounds_toArray, List.set_cons_zero, List.set_cons_succ]
            refine wpAnyH_ready (rs := [15]) (by kernel_rfl) (by simp) (AllReadyH.cons rfl (fun KK hKK => ?_) AllReadyH.nil)
            · skip
              go_simp
              refine (join_any a0 false _ _ MM [(e1, e2)] HMM.out (by simp) y1 (PX9.out.keep hS0) HP1.out).mono ?_
              rintro r y2 ⟨v, rfl, hO, hb⟩
              rw [if_neg (by decide : ¬ (false = true)), HN0.out] at hO
              obtain ⟨pz, cz, rfl⟩ := ownsRow_form hO
              rw [Bool.false_or]
              have HZ : Hid (Ps y2 (.slice pz n0 cz) (MM ++ [(e1, e2)])) := Lib.hid (by
                have h9 := hO
                rw [← HN0.out] at h9 ⊢
                exact Ps.own h9)
              have hS1 : Below w9.heap.size w9 y2 := Below.trans hS0 (Below.mono hb (Below.size hS0))
              refine hKK _ _ hS1 ?_
              intro _
              clear hKK KK hO hb hS0 HP1
              try simp only [Act.put, List.getElem_toArray, List.getElem_cons_zero, List.getElem_cons_succ, List.setIfInBounds_toArray, List.set_cons_zero, List.set_cons_succ]
              replace hS1 : (fun W => Below w9.heap.size w9 W) y2 := hS1
              have hS0 := hS1
              clear hS1
              refine wpAnyH_ready (rs := [17]) (by kernel_rfl) (by simp) (AllReadyH.cons rfl (fun KK hKK => ?_) AllReadyH.nil)
              · skip
                go_simp
                refine (samep_any a0 a0 _ _ (MM ++ [(e1, e2)]) (MM ++ [(e1, e2)]) HS0.out HS0.out (by rw [HN0.out]; have := HN50.out.1; omega) y2 HZ.out (A09.out.keep hS0)).mono ?_
                rintro r y3 ⟨rfl, hb⟩
                simp only [decide_true, Bool.and_self]
                have hS1 : Below w9.heap.size w9 y3 := Below.trans hS0 (Below.mono hb (Below.size hS0))
                refine hKK _ _ hS1 ?_
                intro _
                clear hKK KK hb hS0 HZ
                try simp only [Act.put, List.getElem_toArray, List.getElem_cons_zero, List.getElem_cons_succ, List.setIfInBounds_toArray, List.set_cons_zero, List.set_cons_succ]
                replace hS1 : (fun W => Below w9.heap.size w9 W) y3 := hS1
                have hS0 := hS1
                clear hS1
                refine wpAnyH_take (i := 18) (v := ?_) rfl (by kernel_rfl) (by kernel_rfl) (by kernel_rfl) (fun _ _ _ h => h) (Or.inl ⟨by rfl, ?_⟩) hS0 ?_
                rotate_left 1
                · intro W hW
                  go_simp
                  try with_reducible rfl
                simp only [Act.put, List.getElem_toArray, List.getElem_cons_zero, List.getElem_cons_succ, List.setIfInBounds_toArray, List.set_cons_zero, List.set_cons_succ]
                refine wpAnyH_take (i := 19) (v := ?_) rfl (by kernel_rfl) (by kernel_rfl) (by kernel_rfl) (fun _ _ _ h => h) (Or.inl ⟨by rfl, ?_⟩) hS0 ?_
                rotate_left 1
                · intro W hW
                  go_simp
                  try with_reducible rfl
                simp only [Act.put, List.getElem_toArray, List.getElem_cons_zero, List.getElem_cons_succ, List.setIfInBounds_toArray, List.set_cons_zero, List.set_cons_succ]
                refine wpAnyH_done (by kernel_rfl) ?_ _
                clear hw1 hm0 hm1 hm2 hm3 hnz hb0 hb1 hh hh1
                go_wp2_with fail
                go_ret
                exact ⟨rfl, Below.trans HB9.out (Below.mono hS0 (Below.size HB9.out))⟩
end Go.Proofs.YtgdapkbenmlabaaDoor.Pt
