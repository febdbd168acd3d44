import Derived.Test.YtlbfdmiihnlljaaX14
/- WalPlays: the answer's Put and Commit; the two disks beside each other. -/
namespace Go.Proofs.Ytlbfdmiihnlljaa
set_option linter.unusedSimpArgs false
set_option linter.unusedVariables false
open Go.RowKit Go.Maps

theorem find_nat {T : TS} {n : Int} (h0 : 0 ≤ n) : find T ((n.toNat : Nat) : Int) = find T n := by rw [show ((n.toNat : Nat) : Int) = n by omega]
theorem WR.put {w w' : World} {B : Nat} {C : List Nat} {x l d h a : Nat} {T T' : TS} {co co' : Int} {s : DS} {va' vb' : Value} (k : WR w B C x l d h T co s) (hk : Kp w w' a a) (ha : a ∉ C ∧ B ≤ a ∧ a ∉ [l, d, h]) (hx : Rx w' x l va' vb' T' co') (na : NF va' T'.length) (nb : NF vb' T'.length)
    (h4 : ∀ j, va'.ownBlock = some j → j ∉ C ∧ j ∉ [x, l, d, h] ∧ B ≤ j) (h5 : ∀ j, vb'.ownBlock = some j → j ∉ C ∧ j ∉ [x, l, d, h] ∧ B ≤ j ∧ ∀ i, va'.ownBlock = some i → i ≠ j) : WR w' B C x l d h T' co' s ∧ Kr w w' B C := by
  obtain ⟨h1, h2, h3⟩ := ha
  simp at h3
  obtain ⟨g1, g2, g3⟩ := h3
  refine ⟨⟨k.lg.kp hk (by omega) (by omega), k.rk.kp hk (by omega) (by omega) (by omega) (by omega), k.n1, k.n2, k.n3, k.n4, k.n5, k.sep, va', vb', hx, na, nb, fun j hj => ?_, fun j hj => ?_⟩, [a], Kf.of_kp hk (by simp) (by simp), fun b hb => ?_⟩
  · refine ⟨(h4 j hj).1, (h4 j hj).2.1, (h4 j hj).2.2, ?_⟩
    rcases hx.ns with ⟨_, _, rfl, hn⟩ | ⟨g, off, cap, rfl, hlt, _⟩
    · rcases na with ⟨h, _⟩ | ⟨hp, b, cap, h, _⟩
      · rw [h] at hj; simp [Value.ownBlock] at hj
      · have : T'.length = 0 := by have := congrArg List.length hn; simpa [keys] using this
        omega
    · have : g = j := by simpa [Value.ownBlock] using hj
      omega
  · refine ⟨(h5 j hj).1, (h5 j hj).2.1, (h5 j hj).2.2.1, ?_, (h5 j hj).2.2.2⟩
    rcases hx.bv with ⟨_, _, rfl, hn⟩ | ⟨g, cap, rfl, hlt, _⟩
    · rcases nb with ⟨h, _⟩ | ⟨hp, b, cap, h, _⟩
      · rw [h] at hj; simp [Value.ownBlock] at hj
      · have : T'.length = 0 := by rw [hn]; rfl
        omega
    · have : g = j := by simpa [Value.ownBlock] using hj
      omega
  · simp at hb
    subst hb
    exact ⟨h1, h2⟩
theorem a_put {K B : Nat} {C : List Nat} (x l d h : Nat) (T : TS) (co : Int) (s : DS) (n : Int) (f : Nat → Int) (h0 : -9223372036854775808 ≤ n) (h1 : n < 9223372036854775808) (hT : T.length ≤ 30) (hr : Rise T) (hs : Sane s 80 K) (w : World) (k : WR w B C x l d h T co s) (hC : ∀ a ∈ C, a < w.heap.size) (hB : B ≤ w.heap.size) :
    Calls Try.prog 26 #[.pointer (some ⟨x, 0, none⟩), .int .i64 n, .agg (byts 64 f).toArray] w fun r w' => r = .returned (.int .i64 (putT 80 2 n f T co).1) ∧ WR w' B C x l d h (putT 80 2 n f T co).2.1 (putT 80 2 n f T co).2.2 s ∧ Kr w w' B C := by
  have hl := k.lts
  have hxs : x ∉ C ∧ B ≤ x ∧ x ∉ [l, d, h] := by
    have g1 := k.n1; have g2 := k.n2; have g3 := k.n3
    exact ⟨(k.sep x (by simp)).1, (k.sep x (by simp)).2, by simp; omega⟩
  obtain ⟨va, vb, hx, na, nb, h4, h5⟩ := k.ex
  have hva : Ns.off va x x := fun j hj => by have := (h4 j hj).2.1; simp at this; omega
  have hvb : Ns.off vb x x := fun j hj => by have := (h5 j hj).2.1; simp at this; omega
  have g4 : ∀ j, va.ownBlock = some j → j ∉ C ∧ j ∉ [x, l, d, h] ∧ B ≤ j := fun j hj => ⟨(h4 j hj).1, (h4 j hj).2.1, (h4 j hj).2.2.1⟩
  have g5 : ∀ j, vb.ownBlock = some j → j ∉ C ∧ j ∉ [x, l, d, h] ∧ B ≤ j ∧ ∀ i, va.ownBlock = some i → i ≠ j := fun j hj => ⟨(h5 j hj).1, (h5 j hj).2.1, (h5 j hj).2.2.1, (h5 j hj).2.2.2.2⟩
  by_cases ho : outB 80 2 n = false
  · have hm : mayB 80 2 T n = 27 := by unfold mayB; rw [if_pos ho]
    have hp : putT 80 2 n f T co = (27, T, if co = 0 then 27 else co) := by unfold putT; rw [hm]; rfl
    rw [hp]
    refine (rput_out x l d h 2 80 K va vb T co s n f h0 h1 (by decide) (by decide) hs w hx k.lg k.rk hva hvb ho).mono ?_
    rintro r w' ⟨he, hx', hk⟩
    exact ⟨he, k.put hk hxs hx' na nb g4 g5⟩
  · have ho : outB 80 2 n = true := by simpa using ho
    have hn0 : 0 ≤ n := by
      unfold outB at ho
      simp at ho
      exact ho.1.1
    obtain ⟨N, rfl⟩ := Int.eq_ofNat_of_zero_le hn0
    cases hq : find T (N : Int) with
    | some f0 =>
      have hm : mayB 80 2 T N = 0 := by unfold mayB; rw [if_neg (by rw [ho]; decide), hq]; rfl
      have hp : putT 80 2 N f T co = (0, put N f T, co) := by unfold putT; rw [if_pos hm]; rfl
      have hlen : (put N f T).length = T.length := by rw [put_len N f T hr, hq]; rfl
      rw [hp]
      refine (rput_there x l d h 2 80 K va vb T co s N f f0 (by omega) hr (by decide) (by decide) hs w hx k.lg k.rk hvb (fun j hj i hi => ⟨(h5 j hj).2.2.2.2 i hi, (h5 j hj).2.2.2.2 i hi⟩) ho hq).mono ?_
      rintro r w' ⟨he, hx', b, hb, hk⟩
      have := (h5 b hb).2.1
      exact ⟨he, k.put hk ⟨(h5 b hb).1, (h5 b hb).2.2.1, fun hm => this (List.mem_cons_of_mem _ hm)⟩ hx' (by rw [hlen]; exact na) (by rw [hlen]; exact nb) g4 g5⟩
    | none =>
      by_cases h30 : 30 ≤ T.length
      · have hm : mayB 80 2 T N = 23 := by unfold mayB; rw [if_neg (by rw [ho]; decide), hq, if_pos ⟨rfl, h30⟩]
        have hp : putT 80 2 N f T co = (23, T, if co = 0 then 23 else co) := by unfold putT; rw [hm]; rfl
        rw [hp]
        refine (rput_many x l d h 2 80 K va vb T co s N f h30 (by omega) (by decide) (by decide) hs w hx k.lg k.rk hva hvb ho hq).mono ?_
        rintro r w' ⟨he, hx', hk⟩
        exact ⟨he, k.put hk hxs hx' na nb g4 g5⟩
      · have hm : mayB 80 2 T N = 0 := by unfold mayB; rw [if_neg (by rw [ho]; decide), hq, if_neg (fun e => h30 e.2)]
        have hp : putT 80 2 N f T co = (0, put N f T, co) := by unfold putT; rw [if_pos hm]; rfl
        rw [hp]
        have fin : ∀ (r : Ending) (w' : World), (r = .returned (.int .i64 0) ∧ ∃ va' vb', Rx w' x l va' vb' (put N f T) co ∧ NF va' (put N f T).length ∧ NF vb' (put N f T).length ∧ (∀ k, va'.ownBlock = some k → w.heap.size ≤ k) ∧ (∀ k, vb'.ownBlock = some k → w.heap.size ≤ k ∧ ∀ j, va'.ownBlock = some j → j ≠ k) ∧ Kp w w' x x) →
            r = .returned (.int .i64 (0, put N f T, co).1) ∧ WR w' B C x l d h (0, put N f T, co).2.1 (0, put N f T, co).2.2 s ∧ Kr w w' B C := by
          rintro r w' ⟨he, va', vb', hx', na', nb', m4, m5, hk⟩
          refine ⟨he, k.put hk hxs hx' na' nb' (fun j hj => ?_) (fun j hj => ?_)⟩
          · have := m4 j hj
            exact ⟨fun hm => by have := hC j hm; omega, fun hm => by have := hl j hm; omega, by omega⟩
          · have := (m5 j hj).1
            exact ⟨fun hm => by have := hC j hm; omega, fun hm => by have := hl j hm; omega, by omega, (m5 j hj).2⟩
        by_cases hz : T = []
        · exact (rput_nil x l d h 2 80 K va vb T co s N f (by omega) hz (by decide) (by decide) hs w hx k.lg k.rk na nb hvb ho hq).mono fin
        · exact (rput_blk x l d h 2 80 K va vb T co s N f (by omega) (List.length_pos_iff.2 hz) (by decide) (by decide) hs w hx k.lg k.rk na nb hvb ho hq).mono fin
theorem a_commit {K B : Nat} {C : List Nat} (x l d h : Nat) (T : TS) (co : Int) (s : DS) (hT : T.length ≤ 30) (hts : ∀ p ∈ T, p.1 < 80 ∧ Byt p.2) (hK : K < 600000) (hs : Sane s 80 K) (w : World) (k : WR w B C x l d h T co s) :
    Calls Try.prog 17 #[.pointer (some ⟨x, 0, none⟩)] w fun r w' => r = .returned (.int .i64 (commit 2 T co s).1) ∧ WR w' B C x l d h (commit 2 T co s).2.1 co (commit 2 T co s).2.2 ∧ Kr w w' B C := by
  have hl := k.lts
  obtain ⟨va, vb, hx, na, nb, h4, h5⟩ := k.ex
  have g1 := k.n1; have g2 := k.n2; have g3 := k.n3; have g4 := k.n4; have g5 := k.n5
  refine (rcommit_any x l d h 2 80 K va vb T co s hT hts (by decide) (by decide) (by omega) hs w hx k.lg k.rk g2 g3 g4 g5 (Ne.symm g1) (fun j hj => ?_) (fun j hj => ?_) (fun j hj => ?_)).mono ?_
  · have := (h4 j hj).2.1; simp at this; omega
  · have := (h5 j hj).2.1; simp at this; omega
  · have := (h4 j hj).2.1; simp at this; omega
  · rintro r w' ⟨he, ⟨va', vb', hv, hx'⟩, hd, hk⟩
    have hkf : Kf w w' [d, h, x] := Kf.of_kc hk (by simp) (by simp) (by simp)
    refine ⟨he, ⟨k.lg.kf hkf (by simp; omega), hd, g1, g2, g3, g4, g5, k.sep, va', vb', hx', ?_⟩, [d, h, x], hkf, fun a ha => ?_⟩
    · rcases hv with ⟨rfl, rfl⟩ | ⟨rfl, rfl⟩
      · have hlen : (commit 2 T co s).2.1.length = T.length := by
          obtain ⟨a, cap, hf, _⟩ := hx'.ns.form
          obtain ⟨a2, cap2, hf2, _⟩ := hx.ns.form
          rw [keys_len] at hf hf2
          rw [hf] at hf2
          simpa using (Value.slice.inj hf2).2.1
        rw [hlen]
        exact ⟨na, nb, fun j hj => ⟨(h4 j hj).1, (h4 j hj).2.1, (h4 j hj).2.2.1, Nat.lt_of_lt_of_le (h4 j hj).2.2.2 hkf.size⟩, fun j hj => ⟨(h5 j hj).1, (h5 j hj).2.1, (h5 j hj).2.2.1, Nat.lt_of_lt_of_le (h5 j hj).2.2.2.1 hkf.size, (h5 j hj).2.2.2.2⟩⟩
      · have hlen : (commit 2 T co s).2.1.length = 0 := by
          obtain ⟨a, cap, hf, _⟩ := hx'.ns.form
          rw [keys_len] at hf
          have := (Value.slice.inj hf).2.1
          simpa using this.symm
        rw [hlen]
        exact ⟨.inl ⟨rfl, rfl⟩, .inl ⟨rfl, rfl⟩, fun j hj => by simp [Value.ownBlock] at hj, fun j hj => by simp [Value.ownBlock] at hj⟩
    · simp at ha
      rcases ha with rfl | rfl | rfl <;> exact k.sep _ (by simp)
/- the answer's disk: what the law stores into it -/
theorem WR.setL {w : World} {B : Nat} {C : List Nat} {x l d h : Nat} {T : TS} {co : Int} {s : DS} (k : WR w B C x l d h T co s) (ar : Bool) (lf u : Int) (hu : lfR { s with ar := ar, lf := lf } = u) : WR (w.setCell ⟨d, 1, none⟩ (.int .i64 u)) B C x l d h T co { s with ar := ar, lf := lf } ∧ Kr w (w.setCell ⟨d, 1, none⟩ (.int .i64 u)) B C :=
  k.disk ((Kp.refl w d h).setCell ⟨d, 1, none⟩ (.inl rfl) _) (k.rk.setL ar lf u hu)
theorem WR.setD {w : World} {B : Nat} {C : List Nat} {x l d h : Nat} {T : TS} {co : Int} {s : DS} (k : WR w B C x l d h T co s) (de : Bool) : WR (w.setCell ⟨d, 2, none⟩ (.bool de)) B C x l d h T co { s with de := de } ∧ Kr w (w.setCell ⟨d, 2, none⟩ (.bool de)) B C :=
  k.disk ((Kp.refl w d h).setCell ⟨d, 2, none⟩ (.inl rfl) _) (k.rk.setD de)
theorem Kr.trans {w1 w2 w3 : World} {B : Nat} {C : List Nat} (h : Kr w1 w2 B C) (k : Kr w2 w3 B C) : Kr w1 w3 B C := by
  obtain ⟨L, h1, h2⟩ := h
  obtain ⟨M, k1, k2⟩ := k
  refine ⟨L ++ M, Kf.trans ⟨h1.os, h1.tape, h1.output, h1.size, fun i hi hn => h1.block i hi (fun hm => hn (List.mem_append_left _ hm))⟩ ⟨k1.os, k1.tape, k1.output, k1.size, fun i hi hn => k1.block i hi (fun hm => hn (List.mem_append_right _ hm))⟩, fun a ha => ?_⟩
  rcases List.mem_append.1 ha with ha | ha
  · exact h2 a ha
  · exact k2 a ha
theorem Eqv.getT {s s' : DS} (h : Eqv s s') (T : TS) (n : Int) : (getT s T n).1 = (getT s' T n).1 ∧ Eqv (getT s T n).2 (getT s' T n).2 := by
  unfold Ytlbfdmiihnlljaa.getT
  cases find T n with
  | some f => exact ⟨rfl, h⟩
  | none =>
    simp only [Option.elim_none]
    rw [← h.n]
    by_cases c : 0 ≤ n ∧ n < s.n
    · rw [if_pos c, if_pos c, h.blk]
      exact ⟨rfl, h.rdd⟩
    · rw [if_neg c, if_neg c]
      exact ⟨rfl, h⟩
theorem eqv_wlog (fi : Nat) : ∀ (bs : List (Nat → Int)) (i : Nat) (s s' : DS), Eqv s s' → (wlog fi i bs s).1 = (wlog fi i bs s').1 ∧ Eqv (wlog fi i bs s).2 (wlog fi i bs s').2
  | [], i, s, s', h => ⟨rfl, h⟩
  | b :: r, i, s, s', h => by
    have h1 := h.write (fi + 1 + i) b
    unfold wlog
    by_cases c : (s.write (fi + 1 + i) b).1 = 0
    · rw [if_pos c, if_pos (h1.1.symm.trans c)]
      exact eqv_wlog fi r (i + 1) _ _ h1.2
    · rw [if_neg c, if_neg (fun e => c (h1.1.trans e))]
      exact h1
theorem Eqv.writeLog {s s' : DS} (h : Eqv s s') (fi : Nat) (T : TS) : (writeLog fi T s).1 = (writeLog fi T s').1 ∧ Eqv (writeLog fi T s).2 (writeLog fi T s').2 := by
  have h1 := eqv_wlog fi (T.map (·.2)) 0 s s' h
  unfold Ytlbfdmiihnlljaa.writeLog
  by_cases c : (wlog fi 0 (T.map (·.2)) s).1 = 0
  · rw [if_pos c, if_pos (h1.1.symm.trans c)]
    exact h1.2.write fi _
  · rw [if_neg c, if_neg (fun e => c (h1.1.trans e))]
    exact h1
theorem Eqv.commit {s s' : DS} (h : Eqv s s') (fi : Nat) (T : TS) (co : Int) : (commit fi T co s).1 = (commit fi T co s').1 ∧ (commit fi T co s).2.1 = (commit fi T co s').2.1 ∧ Eqv (commit fi T co s).2.2 (commit fi T co s').2.2 := by
  have h1 := h.writeLog fi T
  unfold Ytlbfdmiihnlljaa.commit
  split
  · exact ⟨rfl, rfl, h⟩
  · split
    · exact ⟨rfl, rfl, h⟩
    · by_cases c : (Ytlbfdmiihnlljaa.writeLog fi T s).1 = 0
      · rw [if_pos c, if_pos (h1.1.symm.trans c)]
        have h2 := h1.2.install fi (keys T)
        exact ⟨h2.1, rfl, h2.2⟩
      · rw [if_neg c, if_neg (fun e => c (h1.1.trans e))]
        exact ⟨h1.1, rfl, h1.2⟩
theorem Eqv.refl (s : DS) : Eqv s s := ⟨rfl, rfl, rfl, rfl, rfl⟩
/-- a transaction as the law's calls leave it -/
structure TG (T : TS) (co : Int) : Prop where
  ri : Rise T
  le : T.length ≤ 30
  bl : ∀ p ∈ T, p.1 < 80 ∧ Byt p.2
  c0 : 0 ≤ co ∧ co < 100
theorem TG.put {T : TS} {co n : Int} {f : Nat → Int} (h : TG T co) (hf : Byt f) : TG (putT 80 2 n f T co).2.1 (putT 80 2 n f T co).2.2 := by
  have hc := mayB_cases 80 2 T n
  have hc0 := h.c0
  unfold putT
  by_cases c : mayB 80 2 T n = 0
  · rw [if_pos c]
    have hn : 0 ≤ n ∧ n < (80 : Nat) := by
      rcases hc with e | e | e
      · omega
      · omega
      · exact e.2
    refine ⟨put_rise _ _ _ h.ri, ?_, fun p hp => ?_, h.c0⟩
    · show (Ytlbfdmiihnlljaa.put n.toNat f T).length ≤ 30
      rw [put_len _ _ _ h.ri, find_nat hn.1]
      have : ¬ ((find T n).isSome = false ∧ 30 ≤ T.length) := fun e => by
        unfold mayB at c
        rw [if_pos e] at c
        split at c <;> omega
      have hle := h.le
      by_cases hs : (find T n).isSome = true
      · rw [if_pos hs]; exact hle
      · rw [if_neg hs]
        have : ¬ 30 ≤ T.length := fun e => this ⟨by simpa using hs, e⟩
        omega
    · rcases mem_put _ _ _ _ hp with rfl | hp
      · exact ⟨by show n.toNat < 80; omega, hf⟩
      · exact h.bl p hp
  · rw [if_neg c]
    refine ⟨h.ri, h.le, h.bl, ?_⟩
    show 0 ≤ (if co = 0 then mayB 80 2 T n else co) ∧ (if co = 0 then mayB 80 2 T n else co) < 100
    split
    · rcases hc with e | e | e <;> omega
    · exact hc0
theorem TG.commit {T : TS} {co : Int} {s : DS} (h : TG T co) : TG (commit 2 T co s).2.1 co := by
  unfold Ytlbfdmiihnlljaa.commit
  split
  · exact h
  · split
    · exact h
    · split
      · exact ⟨List.Pairwise.nil, by show (0 : Nat) ≤ 30; decide, (fun p hp => by cases hp), h.c0⟩
      · exact h
theorem TG.nil : TG [] 0 := ⟨List.Pairwise.nil, by show (0 : Nat) ≤ 30; decide, (fun p hp => by cases hp), by decide⟩
end Go.Proofs.Ytlbfdmiihnlljaa
