import Derived.Test.YtlbfdmiihnlljaaR5
import Derived.Test.YtlbfdmiihnlljaaE9
/- The answer's transaction: where it stands; find, Get, Drop. -/
namespace Go.Proofs.Ytlbfdmiihnlljaa
set_option linter.unusedSimpArgs false
set_option linter.unusedVariables false
open Go.RowKit Go.Maps

/-- where a number stands, counted from i; -1: nowhere -/
def pos (x : Int) : List Nat → Nat → Int
  | [], _ => -1
  | k :: r, i => if (k : Int) = x then i else pos x r (i + 1)
theorem pos_none (x : Int) : ∀ (T : TS) (i : Nat), find T x = none → pos x (keys T) i = -1
  | [], _, _ => rfl
  | (k, f) :: r, i, h => by
    by_cases hk : (k : Int) = x
    · simp [find, hk] at h
    · have h2 : find r x = none := by simpa [find, hk] using h
      show (if (k : Int) = x then (i : Int) else pos x (keys r) (i + 1)) = -1
      rw [if_neg hk]
      exact pos_none x r (i + 1) h2
theorem pos_some (x : Int) : ∀ (T : TS) (i : Nat) (f : Nat → Int), find T x = some f → ∃ (j : Nat) (h : j < T.length), pos x (keys T) i = ((i + j : Nat) : Int) ∧ ((T[j].1 : Nat) : Int) = x ∧ T[j].2 = f
  | [], _, _, h => by simp [find] at h
  | (k, g) :: r, i, f, h => by
    by_cases hk : (k : Int) = x
    · refine ⟨0, by simp, ?_, hk, ?_⟩
      · show (if (k : Int) = x then (i : Int) else pos x (keys r) (i + 1)) = _
        rw [if_pos hk]
        simp
      · simpa [find, hk] using h
    · have h2 : find r x = some f := by simpa [find, hk] using h
      obtain ⟨j, hj, h3, h4, h5⟩ := pos_some x r (i + 1) f h2
      refine ⟨j + 1, by simpa using hj, ?_, by simpa using h4, by simpa using h5⟩
      show (if (k : Int) = x then (i : Int) else pos x (keys r) (i + 1)) = _
      rw [if_neg hk, h3]
      congr 1
      omega

/-- a slice of the transaction's blocks -/
def Bv (w : World) (v : Value) (T : TS) : Prop :=
  (∃ a cap, v = .slice a 0 cap ∧ T = []) ∨ ∃ b cap, v = .slice (some ⟨b, 0, none⟩) T.length cap ∧ b < w.heap.size ∧ ∀ i (h : i < T.length), ∀ j, j < 64 → w.cell? ⟨b, i * 64 + j, none⟩ = some (.int .u8 (T[i].2 j)) ∧ w.frozen? ⟨b, i * 64 + j, none⟩ = false
theorem Bv.below {w w' : World} {v : Value} {T : TS} (h : Bv w v T) (hb : Below w.heap.size w w') : Bv w' v T := by
  rcases h with h | ⟨b, cap, hv, hlt, hc⟩
  · exact .inl h
  · exact .inr ⟨b, cap, hv, Nat.lt_of_lt_of_le hlt hb.size, fun i hi j hj => ⟨(hb.cell (p := ⟨b, i * 64 + j, none⟩) hlt).trans (hc i hi j hj).1, (hb.frozen (p := ⟨b, i * 64 + j, none⟩) hlt).trans (hc i hi j hj).2⟩⟩
theorem Bv.kp {w w' : World} {v : Value} {T : TS} {a b : Nat} (h : Bv w v T) (hk : Kp w w' a b) (ho : Ns.off v a b) : Bv w' v T := by
  rcases h with h | ⟨g, cap, rfl, hlt, hc⟩
  · exact .inl h
  · obtain ⟨h1, h2⟩ := ho g rfl
    exact .inr ⟨g, cap, rfl, Nat.lt_of_lt_of_le hlt hk.size, fun i hi j hj => ⟨(hk.cell (p := ⟨g, i * 64 + j, none⟩) hlt h1 h2).trans (hc i hi j hj).1, (hk.frozen (p := ⟨g, i * 64 + j, none⟩) hlt h1 h2).trans (hc i hi j hj).2⟩⟩
theorem Bv.form {w : World} {v : Value} {T : TS} (h : Bv w v T) : ∃ a cap, v = .slice a T.length cap := by
  rcases h with ⟨a, cap, rfl, rfl⟩ | ⟨b, cap, rfl, _, _⟩
  · exact ⟨a, cap, rfl⟩
  · exact ⟨_, cap, rfl⟩
theorem Bv.at {w : World} {a : Option Addr} {n cap : Nat} {T : TS} (h : Bv w (.slice a n cap) T) (i : Nat) (hi : i < T.length) : ∃ b, a = some ⟨b, 0, none⟩ ∧ b < w.heap.size ∧ ∀ j, j < 64 → w.cell? ⟨b, i * 64 + j, none⟩ = some (.int .u8 (T[i].2 j)) := by
  rcases h with ⟨a', cap', _, rfl⟩ | ⟨b, cap', hv, hlt, hc⟩
  · simp at hi
  · have : a = some ⟨b, 0, none⟩ := by injection hv
    exact ⟨b, this, hlt, fun j hj => (hc i hi j hj).1⟩
theorem Bv.nil (w : World) : Bv w (.slice none 0 0) [] := .inl ⟨_, _, rfl, rfl⟩

/-- the answer's transaction: block x, its log l; the slices va, vb -/
structure Rx (w : World) (x l : Nat) (va vb : Value) (T : TS) (co : Int) : Prop where
  lt : x < w.heap.size
  c0 : w.cell? ⟨x, 0, none⟩ = some (.pointer (some ⟨l, 0, none⟩))
  c1 : w.cell? ⟨x, 1, none⟩ = some va
  c2 : w.cell? ⟨x, 2, none⟩ = some vb
  c3 : w.cell? ⟨x, 3, none⟩ = some (.int .i64 co)
  z1 : w.frozen? ⟨x, 1, none⟩ = false
  z2 : w.frozen? ⟨x, 2, none⟩ = false
  z3 : w.frozen? ⟨x, 3, none⟩ = false
  ns : Ns w va (keys T)
  bv : Bv w vb T
theorem Rx.below {w w' : World} {x l : Nat} {va vb : Value} {T : TS} {co : Int} (h : Rx w x l va vb T co) (hb : Below w.heap.size w w') : Rx w' x l va vb T co :=
  ⟨Nat.lt_of_lt_of_le h.lt hb.size, (hb.cell (p := ⟨x, 0, none⟩) h.lt).trans h.c0, (hb.cell (p := ⟨x, 1, none⟩) h.lt).trans h.c1, (hb.cell (p := ⟨x, 2, none⟩) h.lt).trans h.c2, (hb.cell (p := ⟨x, 3, none⟩) h.lt).trans h.c3,
    (hb.frozen (p := ⟨x, 1, none⟩) h.lt).trans h.z1, (hb.frozen (p := ⟨x, 2, none⟩) h.lt).trans h.z2, (hb.frozen (p := ⟨x, 3, none⟩) h.lt).trans h.z3, h.ns.below hb, h.bv.below hb⟩
theorem Rx.kp {w w' : World} {x l a b : Nat} {va vb : Value} {T : TS} {co : Int} (h : Rx w x l va vb T co) (hb : Kp w w' a b) (h1 : x ≠ a) (h2 : x ≠ b) (h3 : Ns.off va a b) (h4 : Ns.off vb a b) : Rx w' x l va vb T co :=
  ⟨Nat.lt_of_lt_of_le h.lt hb.size, (hb.cell (p := ⟨x, 0, none⟩) h.lt h1 h2).trans h.c0, (hb.cell (p := ⟨x, 1, none⟩) h.lt h1 h2).trans h.c1, (hb.cell (p := ⟨x, 2, none⟩) h.lt h1 h2).trans h.c2, (hb.cell (p := ⟨x, 3, none⟩) h.lt h1 h2).trans h.c3,
    (hb.frozen (p := ⟨x, 1, none⟩) h.lt h1 h2).trans h.z1, (hb.frozen (p := ⟨x, 2, none⟩) h.lt h1 h2).trans h.z2, (hb.frozen (p := ⟨x, 3, none⟩) h.lt h1 h2).trans h.z3, h.ns.kp hb h3, h.bv.kp hb h4⟩

set_option maxHeartbeats 2000000 in
set_option maxRecDepth 100000 in
theorem rfind_any (x l : Nat) (va vb : Value) (T : TS) (co : Int) (n : Int) (hT : T.length ≤ 5000) (w : World) (h : Rx w x l va vb T co) :
    Calls Try.prog 38 #[.pointer (some ⟨x, 0, none⟩), .int .i64 n] w fun e w' => e = .returned (.int .i64 (pos n (keys T) 0)) ∧ w' = w := by
  obtain ⟨a, cap, rfl, hm⟩ := h.ns.form
  have hlen : (keys T).length = T.length := by simp [keys]
  unfold maxLen at hm
  have HV := Lib.hid h.ns
  have c1 := h.c1
  have hx0 := h.lt
  clear h
  obtain ⟨ts, hts⟩ : ∃ ts, keys T = ts := ⟨_, rfl⟩
  rw [hts] at HV c1 hm hlen ⊢
  have h5 : (ts.length : Int) ≤ 5000 := by omega
  clear hts hlen hT
  obtain ⟨R, hR⟩ : ∃ R, pos n ts 0 = R := ⟨_, rfl⟩
  have HR := Lib.hid hR
  rw [hR]
  clear hR
  go_enter Try.func38, Try.ntmps38
  go_wp2
  go_loop [5] (fun i => ∃ k : Nat, k ≤ ts.length ∧ i = .int .i64 k ∧ pos n (ts.drop k) k = R) (fun i => ts.length - (Go.RowKit.intOf i).toNat)
  case atStart => exact ⟨0, by omega, rfl, by rw [List.drop_zero]; exact HR.out⟩
  case round =>
    obtain ⟨k, hk, rfl, hall⟩ := hrel
    have HA := Lib.hid hall
    clear hall
    have hk0 : (0 : Int) ≤ k := by omega
    by_cases hlt : k < ts.length
    · have hkk : (k : Int) < ts.length := by omega
      obtain ⟨b, off, rfl, hbl, hbc⟩ := HV.out.at k hlt
      have HS : Hid (R = if (ts[k] : Int) = n then (k : Int) else pos n (ts.drop (k + 1)) (k + 1)) := by
        show _ = _
        rw [← HA.out, List.drop_eq_getElem_cons hlt]
        rfl
      generalize ts[k] = t at *
      clear HA
      by_cases ht : (t : Int) = n
      · have hRk : R = k := by rw [HS.out, if_pos ht]
        clear HS
        subst hRk
        have htn := decide_eq_true ht
        go_wp2_with fail
        go_ret
        exact ⟨rfl, rfl⟩
      · have hRk : pos n (ts.drop (k + 1)) (k + 1) = R := by rw [HS.out, if_neg ht]
        have HK := Lib.hid hRk
        clear HS hRk
        go_wp2_with fail
        go_round
        case rel => exact ⟨k + 1, by omega, by go_num, HK.out⟩
        case measure => simp [Go.RowKit.intOf]; omega
    · obtain rfl : k = ts.length := by omega
      have hRk : R = -1 := by rw [← HA.out, List.drop_length]; rfl
      subst hRk
      clear HA HR
      go_wp2
      go_ret
      exact ⟨rfl, rfl⟩

theorem Rx.drop {w : World} {x l : Nat} {va vb : Value} {T : TS} {co : Int} (h : Rx w x l va vb T co) :
    Rx (((w.setCell ⟨x, 1, none⟩ (.slice none 0 0)).setCell ⟨x, 2, none⟩ (.slice none 0 0)).setCell ⟨x, 3, none⟩ (.int .i64 0)) x l (.slice none 0 0) (.slice none 0 0) [] 0 ∧
      Kp w (((w.setCell ⟨x, 1, none⟩ (.slice none 0 0)).setCell ⟨x, 2, none⟩ (.slice none 0 0)).setCell ⟨x, 3, none⟩ (.int .i64 0)) x x :=
  ⟨⟨lt_set (lt_set (lt_set h.lt _ _) _ _) _ _, cell_set_other (cell_set_other (cell_set_other h.c0 _ (by decide)) _ (by decide)) _ (by decide),
    cell_set_other (cell_set_other (cell_set_same h.c1 _) _ (by decide)) _ (by decide), cell_set_other (cell_set_same (cell_set_other h.c2 _ (by decide)) _) _ (by decide), cell_set_same (cell_set_other (cell_set_other h.c3 _ (by decide)) _ (by decide)) _,
    frozen_set (frozen_set (frozen_set h.z1 _) _) _, frozen_set (frozen_set (frozen_set h.z2 _) _) _, frozen_set (frozen_set (frozen_set h.z3 _) _) _, Ns.nil _, Bv.nil _⟩,
    (((Kp.refl w x x).setCell ⟨x, 1, none⟩ (.inl rfl) _).setCell ⟨x, 2, none⟩ (.inl rfl) _).setCell ⟨x, 3, none⟩ (.inl rfl) _⟩
set_option maxHeartbeats 2000000 in
set_option maxRecDepth 100000 in
theorem rdrop_any (x l : Nat) (va vb : Value) (T : TS) (co : Int) (w : World) (h : Rx w x l va vb T co) :
    Calls Try.prog 19 #[.pointer (some ⟨x, 0, none⟩)] w fun e w' => e = .returned (.tuple #[]) ∧ Rx w' x l (.slice none 0 0) (.slice none 0 0) [] 0 ∧ Kp w w' x x := by
  have c0 := h.c0
  have c1 := h.c1
  have c2 := h.c2
  have c3 := h.c3
  have z1 := h.z1
  have z2 := h.z2
  have z3 := h.z3
  have hl := h.lt
  have HD := Lib.hid h.drop
  clear h
  go_enter Try.func19, Try.ntmps19
  go_wp2
  go_end0
  exact ⟨rfl, HD.out⟩

set_option maxHeartbeats 8000000 in
set_option maxRecDepth 100000 in
theorem rget_any (x l d g fi N K : Nat) (va vb : Value) (T : TS) (co : Int) (s : DS) (n : Int) (hT : T.length ≤ 5000) (hn0 : -9223372036854775808 ≤ n) (hn1 : n < 9223372036854775808) (hN : N ≤ 65536) (hK : K < 800000) (hs : Sane s N K) (w : World) (h : Rx w x l va vb T co) (hl : Lg w l d fi) (hd : Rk w d g s) :
    Calls Try.prog 15 #[.pointer (some ⟨x, 0, none⟩), .int .i64 n] w fun e w' => e = .returned (.tuple #[.agg (byts 64 (getT s T n).1.1).toArray, .int .i64 (getT s T n).1.2]) ∧ Rk w' d g (getT s T n).2 ∧ Kp w w' d g := by
  obtain ⟨a, cap, rfl⟩ := h.bv.form
  have HX := Lib.hid h
  have HL := Lib.hid hl
  have HD := Lib.hid hd
  have HS := Lib.hid hs
  have c2 := h.c2
  have hxl := h.lt
  have hll := hl.lt
  have hdl := hd.lt
  have hgl := hd.fl.lt
  clear h hd hs hl
  have HFi := Lib.hid (fun W (hW : Rx W x l va (.slice a T.length cap) T co) => rfind_any x l va _ T co n hT W hW)
  have HN0 := Lib.hid hn0
  have HN1 := Lib.hid hn1
  have h5 : (T.length : Int) ≤ 5000 := by omega
  clear hn0 hn1
  obtain ⟨R, hR⟩ : ∃ R, getT s T n = R := ⟨_, rfl⟩
  have HR := Lib.hid hR
  rw [hR]
  clear hR
  cases hq : find T n with
  | some f =>
    obtain ⟨j, hj, hp, hj1, hj2⟩ := pos_some n T 0 f hq
    rw [Nat.zero_add] at hp
    have hr : R = ((f, 0), s) := by
      rw [← HR.out]
      unfold getT
      rw [hq]
      rfl
    subst hr
    rw [hp] at HFi
    obtain ⟨b, rfl, hbl, hbc⟩ := HX.out.bv.at j hj
    rw [hj2] at hbc
    have HB := Lib.hid hbc
    have hjj : (j : Int) < T.length := by omega
    have hj0 : (0 : Int) ≤ j := by omega
    clear HR hq hp hj1 hj2 hbc
    go_enter Try.func15, Try.ntmps15
    go_wp2_with (first | (refine wpList_alloc_byts (w := w) rfl 50 64 rfl Try.zero36 ?_; intro w3 F3 hb3 hz3; have HB3 := Lib.hid hb3; have HX3 := Lib.hid (HX.out.below hb3); have HD3 := Lib.hid (HD.out.keep hb3); have hlt3 := F3.out.lt; replace c2 := HX3.out.c2; have hq3 : w.heap.size < w3.heap.size := (by omega); have HC3 : Hid (w3.rangeAt b (j * 64) (byts 64 f)) := Lib.hid (fun i v hi => by obtain ⟨h1, rfl⟩ := byts_of hi; exact (hb3.cell (p := ⟨b, j * 64 + i, none⟩) hbl).trans (HB.out i h1)); clear hb3 hz3) | (go_at_call 38; refine (HFi.out w3 HX3.out).mono ?_; rintro e w' ⟨rfl, hww⟩; rw [hww]; clear hww) | (refine wpList_load_mid rfl 50 _ rfl b (j * 64) rfl (byts 64 f) (.array 64 5) HC3.out Try.arr36 rfl (size36 _) ?_) | (refine wpList_store_blk rfl (.tmp 4) (.tmp 18) rfl w.heap.size 0 64 (fun _ => 0) f F3.out (by omega) rfl rfl ?_; intro w6 F6 HK6))
    have HR6 := Lib.hid (F6.out.congr (f' := f) (fun j hj => by unfold upd; rw [if_pos (by omega), Nat.sub_zero])).range0
    exact bodyPost_ret_by (results_mid_tmp rfl _ _ w.heap.size _ (.array 64 5) rfl HR6.out Try.arr36 rfl (size36 _)) rfl ⟨rfl, HD3.out.kp HK6.out (by omega) (by omega) (by omega) (by omega), (Kp.of_below HB3.out d g).after HK6.out (Nat.le_refl _)⟩
  | none =>
    have hp := pos_none n T 0 hq
    have HRr : Hid (R = if 0 ≤ n ∧ n < (N : Int) then ((s.blk n.toNat, 0), s.rdd) else ((fun _ => 0, 27), s)) := by
      show R = _
      rw [← HR.out]
      unfold getT
      rw [hq, HS.out.n]
      rfl
    rw [hp] at HFi
    clear HR hq hp
    obtain ⟨V, c, s2, hV⟩ : ∃ V c s2, R = ((V, c), s2) := ⟨R.1.1, R.1.2, R.2, rfl⟩
    have HRd : Hid (∀ W, Rk W d g s → Calls Try.prog 39 #[.pointer (some ⟨d, 0, none⟩), .int .i64 n] W fun e w' => e = .returned (.tuple #[.agg (byts 64 V).toArray, .int .i64 c]) ∧ Rk w' d g s2 ∧ Kp W w' d g) := fun W hW => by
      have h1 := HRr.out
      rw [hV] at h1
      by_cases hin : 0 ≤ n ∧ n < (N : Int)
      · rw [if_pos hin] at h1
        obtain ⟨k, rfl⟩ := Int.eq_ofNat_of_zero_le hin.1
        rw [Int.toNat_natCast] at h1
        obtain ⟨⟨rfl, rfl⟩, rfl⟩ : (V = s.blk k ∧ c = 0) ∧ s2 = s.rdd := by simpa using h1
        exact rread_any d g s k N K (by omega) hN (by omega) HS.out W hW
      · rw [if_neg hin] at h1
        obtain ⟨⟨rfl, rfl⟩, rfl⟩ : (V = (fun _ => 0) ∧ c = 27) ∧ s2 = s := by simpa using h1
        refine (rread_out d g s2 n (by rw [HS.out.n]; omega) (by rw [HS.out.n]; exact hN) W hW).mono ?_
        rintro e w' ⟨he, hb⟩
        exact ⟨he, hW.keep hb, Kp.of_below hb _ _⟩
    subst hV
    clear HRr
    go_enter Try.func15, Try.ntmps15
    go_wp2_with (first | (refine wpList_alloc_byts (w := w) rfl 50 64 rfl Try.zero36 ?_; intro w3 F3 hb3 hz3; have HB3 := Lib.hid hb3; have HX3 := Lib.hid (HX.out.below hb3); have HD3 := Lib.hid (HD.out.keep hb3); have hlt3 := F3.out.lt; replace c2 := HX3.out.c2; have c0 := HX3.out.c0; have HL3 := Lib.hid (HL.out.keep hb3); have c0' := HL3.out.c0; have hq3 : w.heap.size < w3.heap.size := (by omega); clear hb3 hz3) | (go_at_call 38; refine (HFi.out w3 HX3.out).mono ?_; rintro e w' ⟨rfl, hww⟩; rw [hww]; clear hww) | (go_at_call 39; refine (HRd.out w3 HD3.out).mono ?_; rintro e w6 ⟨rfl, hD6, hk6⟩; have HD6 := Lib.hid hD6; have HK6 := Lib.hid ((Kp.of_below HB3.out d g).trans hk6); have F6 := Lib.hid (F3.out.kp hk6 (by omega) (by omega)); clear hD6 hk6 c2 c0 c0') | (refine wpList_store_blk rfl (.tmp 4) (.tmp 28) rfl w.heap.size 0 64 (fun _ => 0) V F6.out (by omega) rfl rfl ?_; intro w7 F7 HK7))
    have HR7 := Lib.hid (F7.out.congr (f' := V) (fun j hj => by unfold upd; rw [if_pos (by omega), Nat.sub_zero])).range0
    exact bodyPost_ret_by (results_mid_tmp rfl _ _ w.heap.size _ (.array 64 5) rfl HR7.out Try.arr36 rfl (size36 _)) rfl ⟨rfl, HD6.out.kp HK7.out (by omega) (by omega) (by omega) (by omega), HK6.out.after HK7.out (Nat.le_refl _)⟩
end Go.Proofs.Ytlbfdmiihnlljaa
