import Derived.Test.YtlbfdmiihnlljaaE3
import Derived.OwnWalk
/- What a head says. -/
namespace Go.Proofs.Ytlbfdmiihnlljaa
set_option linter.unusedSimpArgs false
set_option linter.unusedVariables false
open Go.RowKit Go.Maps

/-- block g has N numbers, which may be written -/
structure Il (w : World) (g N : Nat) (f : Nat → Int) : Prop where
  lt : g < w.heap.size
  c : ∀ j, j < N → w.cell? ⟨g, j, none⟩ = some (.int .i64 (f j))
  z : ∀ j, j < N → w.frozen? ⟨g, j, none⟩ = false
theorem Il.below {w w' : World} {B g N : Nat} {f : Nat → Int} (h : Il w g N f) (hb : Below B w w') (hg : g < B) : Il w' g N f :=
  ⟨Nat.lt_of_lt_of_le h.lt hb.size, fun j hj => (hb.cell (p := ⟨g, j, none⟩) hg).trans (h.c j hj), fun j hj => (hb.frozen (p := ⟨g, j, none⟩) hg).trans (h.z j hj)⟩
theorem Il.keep {w w' : World} {g N : Nat} {f : Nat → Int} (h : Il w g N f) (hb : Below w.heap.size w w') : Il w' g N f := h.below hb h.lt
theorem Il.set {w : World} {g N : Nat} {f : Nat → Int} (h : Il w g N f) (i : Nat) (hi : i < N) (x : Int) : Il (w.setCell ⟨g, i, none⟩ (.int .i64 x)) g N (fun j => if j = i then x else f j) := by
  refine ⟨lt_set h.lt _ _, fun j hj => ?_, fun j hj => by rw [World.frozen?_setCell]; exact h.z j hj⟩
  by_cases e : j = i
  · subst e
    rw [if_pos rfl]
    exact World.cell?_setCell_same _ _ _ (h.c j hj)
  · rw [if_neg e, World.cell?_setCell_other _ _ _ _ (by simp [Ne.symm e])]
    exact h.c j hj
theorem Il.congr {w : World} {g N : Nat} {f f' : Nat → Int} (h : Il w g N f) (he : ∀ j, j < N → f j = f' j) : Il w g N f' := ⟨h.lt, fun j hj => by rw [← he j hj]; exact h.c j hj, h.z⟩
theorem Il.made (w : World) (c : Nat) (t : TypeId) : Il (w.alloc (.cells (madeCells #[.int .i64 0] c) t)) w.heap.size c (fun _ => 0) := by
  refine ⟨by simp, fun j hj => ?_, fun j _ => by simp⟩
  rw [World.cell?_alloc_at _ _ _ _ rfl]
  simp [madeCells, hj, Nat.mod_one]
theorem Try.info3i : ∃ i, Try.prog.info? 3 = some i ∧ i.zero = some (.int .i64 0) ∧ i.size = 1 ∧ i.bytes = 8 := by
  have h : (Try.prog.info? 3).map (fun i => (i.zero, i.size, i.bytes)) = some (some (.int .i64 0), 1, 8) := by kernel_rfl
  cases hq : Try.prog.info? 3 with
  | none => simp [hq] at h
  | some i =>
    simp [hq] at h
    exact ⟨i, rfl, h.1, h.2.1, h.2.2⟩
theorem run_make3 (w : World) (c : Nat) (hc : c ≤ 65536) : (Instr.makeSlice 43 (.int .i64 (c : Int)) (.int .i64 (c : Int))).run Try.prog w = .ok (.slice (some ⟨w.heap.size, 0, none⟩) c c) (w.alloc (.cells (madeCells #[.int .i64 0] c) 3)) := by
  obtain ⟨i, hi, hz, hs, hb⟩ := Try.info3i
  have := run_make (P := Try.prog) w 43 3 i _ (by kernel_rfl) hi hz .i64 .i64 c c (by omega) (by omega) (by rw [hb]; omega) (by omega)
  rw [this, hs, Int.toNat_natCast, Nat.mul_one]
  rfl
theorem wpList_make3 {ops : Array Oper} {rest : List Oper} {o : Oper} {a : Act} {w : World} {Q : Exit → Act → World → Prop} (hgd : o.guard = none) (x : Operand) (ho : o.op = .makeSlice 43 x x) (c : Nat) (hx : a.eval x = .int .i64 (c : Int)) (hc : c ≤ 65536)
    (h : ∀ w', Hid (Il w' w.heap.size c fun _ => 0) → Below w.heap.size w w' → w'.heap.size = w.heap.size + 1 → wpList Try.prog ops Q rest (a.put o.dst (.slice (some ⟨w.heap.size, 0, none⟩) c c)) w') : wpList Try.prog ops Q (o :: rest) a w := by
  refine wpList_plain hgd fun K hK => ?_
  have hr := run_make3 w c hc
  unfold Oper.wp
  simp [execOp, ho, hx, hr, Result.andThen]
  exact hK _ _ (h _ (Il.made w c 3) ((Below.refl _ _).alloc (Nat.le_refl _) _) (by simp))

/-- where a head says that blocks belong -/
def placesF (f : Nat → Int) : Option (List Nat) :=
  if num f 0 = 26529 ∧ num f 2 ≤ 30 then some ((List.range (num f 2).toNat).map fun i => (num f (4 + 2 * i)).toNat) else none
theorem num_rng {f : Nat → Int} (hb : Byt f) (i : Nat) (hi : i + 1 < 64) : 0 ≤ num f i ∧ num f i < 65536 := by
  have h0 := hb i (by omega)
  have h1 := hb (i + 1) hi
  unfold num
  omega
theorem placesF_len {f : Nat → Int} {ts : List Nat} (h : placesF f = some ts) : ts.length ≤ 30 := by
  unfold placesF at h
  split at h
  · rename_i hc
    obtain rfl := Option.some.inj h
    simp
    omega
  · cases h
theorem placesF_le {f : Nat → Int} (hb : Byt f) {ts : List Nat} (h : placesF f = some ts) : ∀ t ∈ ts, t ≤ 65535 := by
  unfold placesF at h
  split at h
  · rename_i hc
    obtain rfl := Option.some.inj h
    intro t ht
    obtain ⟨i, hi, rfl⟩ := List.mem_map.1 ht
    have hi' := List.mem_range.1 hi
    have := num_rng hb (4 + 2 * i) (by omega)
    omega
  · cases h
theorem Il.ns {w : World} {g : Nat} {f : Nat → Int} (ts : List Nat) (c : Nat) (h : Il w g ts.length f) (hm : ts.length ≤ 65536) (he : ∀ i (hi : i < ts.length), f i = (ts[i] : Nat)) : Ns w (.slice (some ⟨g, 0, none⟩) ts.length c) ts :=
  .inr ⟨g, 0, c, rfl, h.lt, by unfold maxLen; omega, fun i hi => by rw [Nat.zero_add, h.c i hi, he i hi]⟩

/-- the answer of placesOf -/
def Places (o : Option (List Nat)) (w : World) (e : Ending) (w' : World) : Prop :=
  ∃ v, e = .returned (.tuple #[v, .bool o.isSome]) ∧ Ns w' v (o.getD []) ∧ (∀ k, v.ownBlock = some k → w.heap.size ≤ k) ∧ Below w.heap.size w w'

set_option maxHeartbeats 4000000 in
set_option maxRecDepth 100000 in
theorem placesof_any (f : Nat → Int) (hb : Byt f) (w : World) : Calls Try.prog 44 #[.agg (byts 64 f).toArray] w (Places (placesF f) w) := by
  have HBy := Lib.hid hb
  obtain ⟨n0, n1⟩ := num_rng hb 2 (by decide)
  obtain ⟨m0, m1⟩ := num_rng hb 0 (by decide)
  obtain ⟨N, hN⟩ := Int.eq_ofNat_of_zero_le n0
  have HN2 : Hid (∀ W, Calls Try.prog 51 #[.agg (byts 64 f).toArray, .int .i64 2] W fun e w' => e = .returned (.int .i64 (N : Int)) ∧ Below W.heap.size W w') := fun W => by
    have h := number_any f hb 2 (by decide) W
    rw [hN] at h
    exact h
  obtain ⟨M, hM⟩ : ∃ M, num f 0 = M := ⟨_, rfl⟩
  have HN0 : Hid (∀ W, Calls Try.prog 51 #[.agg (byts 64 f).toArray, .int .i64 0] W fun e w' => e = .returned (.int .i64 M) ∧ Below W.heap.size W w') := fun W => by
    have h := number_any f hb 0 (by decide) W
    rw [hM] at h
    exact h
  have hN1 : N < 65536 := by omega
  rw [hM] at m0 m1
  have HPF : Hid (placesF f = if M = 26529 ∧ (N : Int) ≤ 30 then some ((List.range N).map fun i => (num f (4 + 2 * i)).toNat) else none) := by
    show placesF f = _
    unfold placesF
    rw [hM, hN, Int.toNat_natCast]
  obtain ⟨o, ho⟩ : ∃ o, placesF f = o := ⟨_, rfl⟩
  have HO := Lib.hid ho
  rw [ho]
  clear hb n0 n1 hN hM ho
  have hR : Hid (∀ W, Fl W w.heap.size 64 f → W.rangeAt w.heap.size 0 (byts 64 f)) := fun W h => h.range0
  by_cases hc : M = 26529
  · subst hc
    by_cases hc2 : (N : Int) ≤ 30
    · have hc3 : N ≤ 30 := by omega
      obtain ⟨ts, hts⟩ : ∃ ts, (List.range N).map (fun i => (num f (4 + 2 * i)).toNat) = ts := ⟨_, rfl⟩
      have HL : Hid (ts.length = N) := by show ts.length = N; rw [← hts]; simp
      have HG : Hid (∀ i (hi : i < ts.length), num f (4 + 2 * i) = (ts[i] : Nat)) := fun i hi => by
        subst hts
        have := num_rng HBy.out (4 + 2 * i) (by rw [List.length_map, List.length_range] at hi; omega)
        simp
        omega
      have ho : o = some ts := by rw [← HO.out, HPF.out, if_pos ⟨rfl, hc2⟩, hts]
      subst ho
      clear HO HPF hts
      go_enter Try.func44, Try.ntmps44
      go_wp2_with (first | (refine wpList_box_byts rfl 50 _ 64 rfl f rfl ?_; intro w1 F1 hb1 hz1; have HB1 := Lib.hid hb1; clear hb1) | (refine wpList_load_mid rfl 50 _ rfl w.heap.size 0 rfl _ (.array 64 5) (hR.out w1 F1.out) Try.arr36 rfl (size36 _) ?_))
      refine (HN2.out w1).mono ?_
      rintro e w2 ⟨rfl, hb2⟩
      have F2 := Lib.hid (F1.out.below hb2 F1.out.lt)
      have HB2 := Lib.hid (HB1.out.trans (hb2.mono (by omega)))
      clear hb2 HN2
      go_wp2_with (refine wpList_load_mid rfl 50 _ rfl w.heap.size 0 rfl _ (.array 64 5) (hR.out w2 F2.out) Try.arr36 rfl (size36 _) ?_)
      refine (HN0.out w2).mono ?_
      rintro e w3 ⟨rfl, hb3⟩
      have F3 := Lib.hid (F2.out.below hb3 F2.out.lt)
      have HB3 := Lib.hid (HB2.out.trans (hb3.mono HB2.out.size))
      have hl3 := F3.out.lt
      clear hb3 HN0 F1 F2 HB1 HB2 hz1
      go_wp2_with (refine wpList_make3 rfl _ rfl N rfl (by omega) ?_; intro w4 I4 hb4 hz4; have F4 := Lib.hid (F3.out.below hb4 F3.out.lt); have HB4 := Lib.hid (HB3.out.trans (hb4.mono HB3.out.size)); clear hb4)
      obtain ⟨g, hg⟩ : ∃ g, w3.heap.size = g := ⟨_, rfl⟩
      rw [hg] at I4 hz4
      have hgw : w.heap.size < g := by omega
      rw [hg]
      clear hg hl3 F3 HB3
      go_loopw [6, 20] (fun _ i wr => ∃ k : Nat, k ≤ N ∧ i = .int .i64 k ∧ Fl wr w.heap.size 64 f ∧ Il wr g N (fun j => if j < k then num f (4 + 2 * j) else 0) ∧ Below w.heap.size w wr) (fun _ i _ => N - (Go.RowKit.intOf i).toNat)
      case atStart => exact ⟨0, by omega, rfl, F4.out, I4.out.congr (fun j _ => by simp), HB4.out⟩
      case round =>
        obtain ⟨k, hk, rfl, hF, hI, hbr⟩ := hrel
        have HF := Lib.hid hF
        have HI := Lib.hid hI
        have HB := Lib.hid hbr
        have hFl := hF.lt
        have hIl := hI.lt
        clear hF hI hbr F4 I4 HB4
        have hk0 : (0 : Int) ≤ k := by omega
        by_cases hlt : k < N
        · have hk30 : (k : Int) ≤ 30 := by omega
          have hkN : (k : Int) < N := by omega
          have HP : Hid (∀ W, Calls Try.prog 51 #[.agg (byts 64 f).toArray, .int .i64 (4 + 2 * (k : Int))] W fun e w' => e = .returned (.int .i64 (num f (4 + 2 * k))) ∧ Below W.heap.size W w') := fun W => by
            have h := number_any f HBy.out (4 + 2 * k) (by omega) W
            rwa [show ((4 + 2 * k : Nat) : Int) = 4 + 2 * (k : Int) by omega] at h
          go_wp2_with (refine wpList_load_mid rfl 50 _ rfl w.heap.size 0 rfl _ (.array 64 5) (hR.out wr HF.out) Try.arr36 rfl (size36 _) ?_)
          refine (HP.out wr).mono ?_
          rintro e w5 ⟨rfl, hb5⟩
          have HF5 := Lib.hid (HF.out.below hb5 hFl)
          have HI5 := Lib.hid (HI.out.below hb5 hIl)
          have HB5 := Lib.hid (HB.out.trans (hb5.mono HB.out.size))
          have ec := HI5.out.c k hlt
          have ez := HI5.out.z k hlt
          clear hb5 HF HI HB HP
          go_wp2
          go_roundw
          case rel =>
            refine ⟨k + 1, by omega, by go_num, HF5.out.far _ (by show g ≠ w.heap.size; omega) _, (HI5.out.set k hlt _).congr (fun j _ => ?_), HB5.out.setCell (by show w.heap.size ≤ g; omega) _⟩
            by_cases hj : j = k
            · subst hj
              rw [if_pos rfl, if_pos (by omega)]
            · rw [if_neg hj]
              by_cases hj2 : j < k
              · rw [if_pos hj2, if_pos (by omega)]
              · rw [if_neg hj2, if_neg (by omega)]
          case measure => simp [Go.RowKit.intOf]; omega
        · obtain rfl : k = N := by omega
          go_wp2
          refine bodyPost_ret (v := .tuple #[.slice (some ⟨g, 0, none⟩) k k, .bool true]) (by simp [results, Try.results44, go_sem]) rfl ⟨_, rfl, ?_, ?_, HB.out⟩
          · have hI := HI.out
            have hl := HL.out
            subst hl
            exact hI.ns ts _ (by omega) (fun i hi => by rw [if_pos hi]; exact HG.out i hi)
          · intro k' hk'
            simp [Value.ownBlock] at hk'
            omega
    · have ho : o = none := by rw [← HO.out, HPF.out, if_neg (fun h => hc2 h.2)]
      subst ho
      clear HO HPF
      go_enter Try.func44, Try.ntmps44
      go_wp2_with (first | (refine wpList_box_byts rfl 50 _ 64 rfl f rfl ?_; intro w1 F1 hb1 hz1; have HB1 := Lib.hid hb1; clear hb1) | (refine wpList_load_mid rfl 50 _ rfl w.heap.size 0 rfl _ (.array 64 5) (hR.out w1 F1.out) Try.arr36 rfl (size36 _) ?_))
      refine (HN2.out w1).mono ?_
      rintro e w2 ⟨rfl, hb2⟩
      have F2 := Lib.hid (F1.out.below hb2 F1.out.lt)
      have HB2 := Lib.hid (HB1.out.trans (hb2.mono (by omega)))
      clear hb2 HN2
      go_wp2_with (refine wpList_load_mid rfl 50 _ rfl w.heap.size 0 rfl _ (.array 64 5) (hR.out w2 F2.out) Try.arr36 rfl (size36 _) ?_)
      refine (HN0.out w2).mono ?_
      rintro e w3 ⟨rfl, hb3⟩
      have HB3 := Lib.hid (HB2.out.trans (hb3.mono HB2.out.size))
      clear hb3 HN0 F1 F2 HB1 HB2 hz1
      go_wp2
      refine bodyPost_ret (v := .tuple #[.slice none 0 0, .bool false]) (by simp [results, Try.results44, go_sem]) rfl ⟨_, rfl, Ns.nil _, fun k hk => by simp [Value.ownBlock] at hk, HB3.out⟩
  · have ho : o = none := by rw [← HO.out, HPF.out, if_neg (fun h => hc h.1)]
    subst ho
    clear HO HPF
    go_enter Try.func44, Try.ntmps44
    go_wp2_with (first | (refine wpList_box_byts rfl 50 _ 64 rfl f rfl ?_; intro w1 F1 hb1 hz1; have HB1 := Lib.hid hb1; clear hb1) | (refine wpList_load_mid rfl 50 _ rfl w.heap.size 0 rfl _ (.array 64 5) (hR.out w1 F1.out) Try.arr36 rfl (size36 _) ?_))
    refine (HN2.out w1).mono ?_
    rintro e w2 ⟨rfl, hb2⟩
    have F2 := Lib.hid (F1.out.below hb2 F1.out.lt)
    have HB2 := Lib.hid (HB1.out.trans (hb2.mono (by omega)))
    clear hb2 HN2
    go_wp2_with (refine wpList_load_mid rfl 50 _ rfl w.heap.size 0 rfl _ (.array 64 5) (hR.out w2 F2.out) Try.arr36 rfl (size36 _) ?_)
    refine (HN0.out w2).mono ?_
    rintro e w3 ⟨rfl, hb3⟩
    have HB3 := Lib.hid (HB2.out.trans (hb3.mono HB2.out.size))
    clear hb3 HN0 F1 F2 HB1 HB2 hz1
    go_wp2
    refine bodyPost_ret (v := .tuple #[.slice none 0 0, .bool false]) (by simp [results, Try.results44, go_sem]) rfl ⟨_, rfl, Ns.nil _, fun k hk => by simp [Value.ownBlock] at hk, HB3.out⟩
end Go.Proofs.Ytlbfdmiihnlljaa
