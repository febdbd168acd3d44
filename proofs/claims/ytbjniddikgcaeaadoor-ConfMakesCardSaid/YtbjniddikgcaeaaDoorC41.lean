import Derived.Test.YtbjniddikgcaeaaDoorC39
import Derived.Test.YtbjniddikgcaeaaDoorC40
import Derived.Test.YtbjniddikgcaeaaDoorG1
import Derived.Deep.CutBlock
import Derived.Deep.DeepCutAuto
/- ConfMakes: the walk. -/
namespace Go.Proofs.YtbjniddikgcaeaaDoor
set_option linter.unusedSimpArgs false
set_option linter.unusedVariables false
open Go.RowKit Go.Maps


theorem flatR_set : ∀ (R : List Rg) (I : Nat) (hI : I < R.length) (j : Nat) (hj : j < 9) (r' : Rg) (u : Value) (h : r'.cells = (R[I]).cells.set j u), flatR (R.set I r') = (flatR R).set (I * 9 + j) u
  | [], I, hI, _, _, _, _, _ => absurd hI (by simp)
  | r :: R, 0, hI, j, hj, r', u, h => by
    have h' : r'.cells = r.cells.set j u := h
    show r'.cells ++ flatR R = (r.cells ++ flatR R).set (0 * 9 + j) u
    rw [List.set_append, if_pos (by show 0 * 9 + j < 9; omega), h', Nat.zero_mul, Nat.zero_add]
  | r :: R, I + 1, hI, j, hj, r', u, h => by
    have h' : r'.cells = (R[I]'(by simpa using hI)).cells.set j u := by simpa using h
    show r.cells ++ flatR (R.set I r') = (r.cells ++ flatR R).set ((I + 1) * 9 + j) u
    rw [flatR_set R I (by simpa using hI) j hj r' u h', List.set_append, if_neg (by show ¬ (I + 1) * 9 + j < 9; omega)]
    congr 2
    show I * 9 + j = (I + 1) * 9 + j - 9
    omega
theorem regs_take1 {w : World} {a : Option Addr} {n cap : Nat} {rs : List Rg} (h : Regs w (.slice a n cap) rs) (h1 : 1 ≤ rs.length) : Regs w (.slice a 1 cap) (rs.take 1) := by
  obtain ⟨b, off, cap', hv, hbl, hm, hr⟩ := h.row (by omega)
  injection hv with e1 e2 e3
  subst e1 e3
  have hl : (rs.take 1).length = 1 := by rw [List.length_take]; omega
  refine .inr ⟨b, off, cap, by rw [hl], hbl, by rw [hl]; unfold maxLen; omega, ?_⟩
  have ht : ∀ i (hi : i < (rs.take 1).length), (rs.take 1)[i] = rs[i]'(by omega) := fun i hi => by rw [List.getElem_take]
  exact ⟨fun i hi => by rw [ht i hi]; exact hr.k0 i (by omega), fun i hi => by rw [ht i hi]; exact hr.k1 i (by omega), fun i hi => by rw [ht i hi]; exact hr.k2 i (by omega), fun i hi => by rw [ht i hi]; exact hr.k3 i (by omega), fun i hi => by rw [ht i hi]; exact hr.k4 i (by omega), fun i hi => by rw [ht i hi]; exact hr.k5 i (by omega), fun i hi => by rw [ht i hi]; exact hr.k6 i (by omega), fun i hi => by rw [ht i hi]; exact hr.k7 i (by omega), fun i hi => by rw [ht i hi]; exact hr.k8 i (by omega)⟩
theorem ownsRow_cap {w : World} {base : Nat} {e : TypeId} {size n m cap : Nat} {a : Option Addr} {xs : List Value} (h : w.ownsRow base e size (.slice a m cap) n xs) : n ≤ cap := by
  obtain ⟨hl, ⟨hv, hn⟩ | ⟨g, cap', cur, hv, hg, hh, hc, hm, hs, ht⟩⟩ := h
  · omega
  · injection hv with e1 e2 e3
    omega
theorem flatR_len (R : List Rg) : (flatR R).length = R.length * 9 := by
  induction R with
  | nil => rfl
  | cons r R ih =>
    show (r.cells ++ flatR R).length = _
    rw [List.length_append, ih, List.length_cons]
    show 9 + R.length * 9 = _
    omega
/-- a list of labels with one cell of one of them turned -/
structure Trn (w w0 : World) (B BB g gcap : Nat) (vb : Value) (n : Nat) (LB : List (Int × Int)) (R' : List Rg) : Prop where
  len : R'.length = n
  ok : ∀ r ∈ R', r.ok
  oa : w.ownsRow B 39 9 (.slice (some ⟨g, 0, none⟩) n gcap) n (flatR R')
  ob : w.ownsRow BB 34 2 vb LB.length (flatM LB)
  bl : Below B w0 w
theorem Trn.set {w w0 : World} {B BB g gcap : Nat} {vb : Value} {n : Nat} {LB : List (Int × Int)} {R : List Rg} (h : Trn w w0 B BB g gcap vb n LB R) (hg : B ≤ g) (hgB : g < BB) (I : Nat) (hI : I < R.length) (j : Nat) (hj : j < 9) (r' : Rg) (u : Value) (hc : r'.cells = (R[I]).cells.set j u) (hok : r'.ok) : Trn (w.setCell ⟨g, I * 9 + j, none⟩ u) w0 B BB g gcap vb n LB (R.set I r') := by
  refine ⟨by rw [List.length_set]; exact h.len, fun r hr => ?_, ?_, ?_, h.bl.setCell (p := ⟨g, I * 9 + j, none⟩) hg u⟩
  · rcases List.mem_or_eq_of_mem_set hr with h1 | h1
    · exact h.ok r h1
    · rw [h1]; exact hok
  · rw [flatR_set R I hI j hj r' u hc]
    exact ownsRow_set h.oa (I * 9 + j) u (by rw [flatR_len]; omega)
  · exact ownsRow_keep h.ob (fun k hk => by
      have e := ownsRow_block h.ob k hk
      exact heap_set w g (I * 9 + j) u (by omega))
set_option maxRecDepth 100000 in
theorem right_all (v vm : Value) (rs : List Rg) (ms : List (Int × Int)) (w : World) (hr : Regs w v rs) (hok : ∀ r ∈ rs, r.ok) (hms : Mks w vm ms) (hmk : ∀ m ∈ ms, markOk m) (hml : ms.length ≤ 5000) :
    Calls Tryd.prog 10 #[v, vm] w fun e w' => e = .returned (.int .i64 (newE rs ms)) ∧ Below w.heap.size w w' := by
  by_cases h0 : rs.length < 1 ∨ 64 < rs.length
  · have hE : newE rs ms = 23 := by unfold newE; rw [if_pos h0]
    obtain ⟨a, cap, rfl⟩ := hr.form
    have HE := Lib.hid hE
    have hmx := hr.max
    unfold maxLen at hmx
    clear hr hms hok hmk hE
    rcases h0 with h0 | h0
    · have h0i : (rs.length : Int) < 1 := by omega
      go_enter Tryd.func10, Tryd.ntmps10
      go_wp2_with fail
      refine bodyPost_ret (v := .int .i64 23) (by simp [results, Tryd.results10, go_sem]) rfl ⟨by rw [HE.out], Below.refl _ _⟩
    · have h0i : (64 : Int) < rs.length := by omega
      have h1i : ¬ ((rs.length : Int) < 1) := by omega
      go_enter Tryd.func10, Tryd.ntmps10
      go_wp2_with fail
      refine bodyPost_ret (v := .int .i64 23) (by simp [results, Tryd.results10, go_sem]) rfl ⟨by rw [HE.out], Below.refl _ _⟩
  · obtain ⟨b, off, cap, rfl, hbl, -, hrow⟩ := hr.row (by omega)
    exact right_any b off cap vm rs ms w hbl (by omega) (by omega) hrow hok hms hmk hml
theorem same_all (n : Nat) (vr vm vg v vmm : Value) (rs : List Rg) (ms : List (Int × Int)) (hok : ∀ r ∈ rs, r.ok) (hmk : ∀ m ∈ ms, markOk m) (hml : ms.length ≤ 5000) (hE : newE rs ms = 0) (w : World) (hr : Regs w v rs) (hms : Mks w vmm ms) (h : CF n w vr vm vg rs ms) :
    Calls Tryd.prog 11 #[.pointer (some ⟨n + 3, 0, none⟩), v, vmm] w fun e w' => e = .returned (.bool true) ∧ Below w.heap.size w w' := by
  obtain ⟨b, off, cap, rfl, hbl, -, hrow⟩ := hr.row (newE_zero hE).1
  exact same_any n b off cap vr vm vg vmm rs ms hok hmk hml hE w hbl hrow hms h

set_option maxHeartbeats 400000000 in
set_option maxRecDepth 200000 in
theorem makes_walk (v0 v1 : Value) (rs0 : List Rg) (ms0 : List (Int × Int)) (hok0 : ∀ r ∈ rs0, r.ok) (hmk0 : ∀ x ∈ ms0, markOk x) (m : Int) (m0 : 0 ≤ m) (m1 : m < 256) (H : Nat → Nat → Int) (hH : Hok H) (tv : Value) (ts : List Int) (hts : ∀ x ∈ ts, 0 ≤ x ∧ x < 256)
    (at0 what n : Int) (ha0 : 0 ≤ at0) (ha1 : at0 < 256) (hw0 : 0 ≤ what) (hw1 : what < 256) (hn0 : -9223372036854775808 ≤ n) (hn1 : n < 9223372036854775808) (w : World) (hr0 : Regs w v0 rs0) (hm0 : Mks w v1 ms0) (hcap : ∀ a l c, v1 = .slice a l c → l ≤ c) (htv : U8s w tv ts) (hl : ts.length ≤ maxLen) (hG : Gl w) :
    Calls Tryd.prog 3 #[v0, v1, sizeVal m H tv, .int .u8 at0, .int .u8 what, .int .i64 n] w fun e w' => e = .returned (.bool true) ∧ Below w.heap.size w w' := by
  obtain ⟨M, hM⟩ : ∃ M, 2 + m.toNat % 4 = M := ⟨_, rfl⟩
  have hM4 : M = 2 ∨ M = 3 ∨ M = 4 ∨ M = 5 := by omega
  have hP := Lib.hid (fun W (h : U8s W tv ts) => sizeregs_own m m0 m1 H hH tv ts hts W h hl M hM)
  have HLEN := Lib.hid (sizeRs_len M hM4 H)
  have HOKS := Lib.hid (size_ok M hM4 H)
  have HMKS := Lib.hid (size_mkOk M hM4 ts)
  have HNM : Hid (∀ r ∈ sizeRs M H, r.nm.size ≤ 8) := Lib.hid (fun r hr => by
    obtain ⟨k, hk, rfl⟩ := List.mem_iff_getElem.1 hr
    have h1 : regsE (sizeRs M H) (sizeRs M H).length = 0 := by rw [sizeRs_len M hM4 H]; exact size_regsE M hM4 H hH M (Nat.le_refl _)
    have h2 := (oneE_apart hk (regsE_all _ _ h1 k hk)).1
    simp only [nameB, Bool.and_eq_true, decide_eq_true_eq] at h2
    omega)
  have HML := Lib.hid (sizeMs_len M ts)
  have HTV := Lib.hid htv
  have HA := Lib.hid (fun W (h : Gl W) => awake_any W h)
  have hg2 := hG.lt
  have HG := Lib.hid hG
  have HR0 := Lib.hid hr0
  have HM0 := Lib.hid hm0
  have HOK0 := Lib.hid hok0
  have HMK0 := Lib.hid hmk0
  obtain ⟨ax, cx, rfl⟩ := hr0.form
  obtain ⟨am, cm, rfl⟩ := hm0.form
  have hmc := hcap _ _ _ rfl
  have hx63 := hr0.max
  have hm63 := (show ms0.length ≤ maxLen by rcases hm0 with ⟨_, _, _, rfl⟩ | ⟨_, _, _, _, _, h, _⟩; exact Nat.zero_le _; exact h)
  unfold maxLen at hx63 hm63
  have hc : (w.alloc (.cells #[.int .u8 m, .int .u8 (H 0 0), .int .u8 (H 0 1), .int .u8 (H 0 2), .int .u8 (H 0 3), .int .u8 (H 0 4), .int .u8 (H 1 0), .int .u8 (H 1 1), .int .u8 (H 1 2), .int .u8 (H 1 3), .int .u8 (H 1 4), .int .u8 (H 2 0), .int .u8 (H 2 1), .int .u8 (H 2 2), .int .u8 (H 2 3), .int .u8 (H 2 4), .int .u8 (H 3 0), .int .u8 (H 3 1), .int .u8 (H 3 2), .int .u8 (H 3 3), .int .u8 (H 3 4), .int .u8 (H 4 0), .int .u8 (H 4 1), .int .u8 (H 4 2), .int .u8 (H 4 3), .int .u8 (H 4 4), tv] 28)).rangeAt w.heap.size 0 [.int .u8 m, .int .u8 (H 0 0), .int .u8 (H 0 1), .int .u8 (H 0 2), .int .u8 (H 0 3), .int .u8 (H 0 4), .int .u8 (H 1 0), .int .u8 (H 1 1), .int .u8 (H 1 2), .int .u8 (H 1 3), .int .u8 (H 1 4), .int .u8 (H 2 0), .int .u8 (H 2 1), .int .u8 (H 2 2), .int .u8 (H 2 3), .int .u8 (H 2 4), .int .u8 (H 3 0), .int .u8 (H 3 1), .int .u8 (H 3 2), .int .u8 (H 3 3), .int .u8 (H 3 4), .int .u8 (H 4 0), .int .u8 (H 4 1), .int .u8 (H 4 2), .int .u8 (H 4 3), .int .u8 (H 4 4), tv] := by
    intro j u hj
    have := cells_new w [.int .u8 m, .int .u8 (H 0 0), .int .u8 (H 0 1), .int .u8 (H 0 2), .int .u8 (H 0 3), .int .u8 (H 0 4), .int .u8 (H 1 0), .int .u8 (H 1 1), .int .u8 (H 1 2), .int .u8 (H 1 3), .int .u8 (H 1 4), .int .u8 (H 2 0), .int .u8 (H 2 1), .int .u8 (H 2 2), .int .u8 (H 2 3), .int .u8 (H 2 4), .int .u8 (H 3 0), .int .u8 (H 3 1), .int .u8 (H 3 2), .int .u8 (H 3 3), .int .u8 (H 3 4), .int .u8 (H 4 0), .int .u8 (H 4 1), .int .u8 (H 4 2), .int .u8 (H 4 3), .int .u8 (H 4 4), tv] 28 j u hj
    rw [Addr.add_mid] at this
    exact this
  have hq : (Tryd.prog.underlying 28).map (·.isRow) = some true := by kernel_rfl
  obtain ⟨d, hu, hd⟩ := Option.map_eq_some_iff.1 hq
  have hi : (Tryd.prog.info? 28).map (·.size) = some ([.int .u8 m, .int .u8 (H 0 0), .int .u8 (H 0 1), .int .u8 (H 0 2), .int .u8 (H 0 3), .int .u8 (H 0 4), .int .u8 (H 1 0), .int .u8 (H 1 1), .int .u8 (H 1 2), .int .u8 (H 1 3), .int .u8 (H 1 4), .int .u8 (H 2 0), .int .u8 (H 2 1), .int .u8 (H 2 2), .int .u8 (H 2 3), .int .u8 (H 2 4), .int .u8 (H 3 0), .int .u8 (H 3 1), .int .u8 (H 3 2), .int .u8 (H 3 3), .int .u8 (H 3 4), .int .u8 (H 4 0), .int .u8 (H 4 1), .int .u8 (H 4 2), .int .u8 (H 4 3), .int .u8 (H 4 4), tv] : List Value).length := by kernel_rfl
  have HC := Lib.hid hc
  have HU := Lib.hid hu
  have HD := Lib.hid hd
  have HI := Lib.hid hi
  unfold sizeVal at hP ⊢
  clear hc hu hd hi hq htv hts hH hG hr0 hm0 hok0 hmk0 hcap
  go_enter Tryd.func3, Tryd.ntmps3
  go_wp2_with fail
  obtain ⟨W, hW⟩ : ∃ z, w.alloc (.cells #[.int .u8 m, .int .u8 (H 0 0), .int .u8 (H 0 1), .int .u8 (H 0 2), .int .u8 (H 0 3), .int .u8 (H 0 4), .int .u8 (H 1 0), .int .u8 (H 1 1), .int .u8 (H 1 2), .int .u8 (H 1 3), .int .u8 (H 1 4), .int .u8 (H 2 0), .int .u8 (H 2 1), .int .u8 (H 2 2), .int .u8 (H 2 3), .int .u8 (H 2 4), .int .u8 (H 3 0), .int .u8 (H 3 1), .int .u8 (H 3 2), .int .u8 (H 3 3), .int .u8 (H 3 4), .int .u8 (H 4 0), .int .u8 (H 4 1), .int .u8 (H 4 2), .int .u8 (H 4 3), .int .u8 (H 4 4), tv] 28) = z := ⟨_, rfl⟩
  rw [hW] at HC ⊢
  have hbW : Below w.heap.size w W := by rw [← hW]; exact (Below.refl _ _).alloc (Nat.le_refl _) _
  have hlW : w.heap.size < W.heap.size := by rw [← hW]; simp
  obtain ⟨sv0, hsv⟩ : ∃ x : Value, .agg #[.int .u8 m, .int .u8 (H 0 0), .int .u8 (H 0 1), .int .u8 (H 0 2), .int .u8 (H 0 3), .int .u8 (H 0 4), .int .u8 (H 1 0), .int .u8 (H 1 1), .int .u8 (H 1 2), .int .u8 (H 1 3), .int .u8 (H 1 4), .int .u8 (H 2 0), .int .u8 (H 2 1), .int .u8 (H 2 2), .int .u8 (H 2 3), .int .u8 (H 2 4), .int .u8 (H 3 0), .int .u8 (H 3 1), .int .u8 (H 3 2), .int .u8 (H 3 3), .int .u8 (H 3 4), .int .u8 (H 4 0), .int .u8 (H 4 1), .int .u8 (H 4 2), .int .u8 (H 4 3), .int .u8 (H 4 4), tv] = x := ⟨_, rfl⟩
  rw [hsv]
  clear hW
  refine (HA.out W (HG.out.below hbW (by omega))).mono ?_
  rintro e w1 ⟨rfl, hb1⟩
  have HB1 := Lib.hid (hbW.trans (hb1.mono hbW.size))
  have HC1 : Hid (w1.rangeAt w.heap.size 0 [.int .u8 m, .int .u8 (H 0 0), .int .u8 (H 0 1), .int .u8 (H 0 2), .int .u8 (H 0 3), .int .u8 (H 0 4), .int .u8 (H 1 0), .int .u8 (H 1 1), .int .u8 (H 1 2), .int .u8 (H 1 3), .int .u8 (H 1 4), .int .u8 (H 2 0), .int .u8 (H 2 1), .int .u8 (H 2 2), .int .u8 (H 2 3), .int .u8 (H 2 4), .int .u8 (H 3 0), .int .u8 (H 3 1), .int .u8 (H 3 2), .int .u8 (H 3 3), .int .u8 (H 3 4), .int .u8 (H 4 0), .int .u8 (H 4 1), .int .u8 (H 4 2), .int .u8 (H 4 3), .int .u8 (H 4 4), tv]) := fun j u hj => (hb1.cell (p := ⟨w.heap.size, 0 + j, none⟩) hlW).trans (HC.out j u hj)
  clear hb1 hbW hlW HC hsv HA
  by_cases hb70 : (70 : Int) < rs0.length
  · go_wp2_with fail
    go_ret
    exact ⟨rfl, HB1.out⟩
  by_cases hb60 : (60 : Int) < ms0.length
  · go_wp2_with fail
    go_ret
    exact ⟨rfl, HB1.out⟩
  have hx70 : rs0.length ≤ 70 := by omega
  have hm60 : ms0.length ≤ 60 := by omega
  go_wp2_with (refine wpList_load_mid rfl 28 _ rfl w.heap.size 0 rfl [.int .u8 m, .int .u8 (H 0 0), .int .u8 (H 0 1), .int .u8 (H 0 2), .int .u8 (H 0 3), .int .u8 (H 0 4), .int .u8 (H 1 0), .int .u8 (H 1 1), .int .u8 (H 1 2), .int .u8 (H 1 3), .int .u8 (H 1 4), .int .u8 (H 2 0), .int .u8 (H 2 1), .int .u8 (H 2 2), .int .u8 (H 2 3), .int .u8 (H 2 4), .int .u8 (H 3 0), .int .u8 (H 3 1), .int .u8 (H 3 2), .int .u8 (H 3 3), .int .u8 (H 3 4), .int .u8 (H 4 0), .int .u8 (H 4 1), .int .u8 (H 4 2), .int .u8 (H 4 3), .int .u8 (H 4 4), tv] d HC1.out HU.out HD.out HI.out ?_)
  refine (hP.out w1 (HTV.out.below HB1.out)).mono ?_
  rintro e w2 ⟨va, vb, rfl, hb2, hRa, hMb, hown⟩
  have HB2 := Lib.hid (HB1.out.trans (hb2.mono HB1.out.size))
  have HB12 := HB1.out.size
  obtain ⟨R, hR⟩ : ∃ x, sizeRs M H = x := ⟨_, rfl⟩
  obtain ⟨MS, hMS⟩ : ∃ x, sizeMs M ts = x := ⟨_, rfl⟩
  rw [hR] at hRa hown HLEN HOKS HNM
  rw [hMS] at hMb hown HMKS HML
  have hR5 : 2 ≤ R.length ∧ R.length ≤ 5 := by rw [HLEN.out]; omega
  have hMS9 : MS.length ≤ 9 := HML.out
  obtain ⟨hoa, BB0, hBB0, hva0, hob0⟩ := hown
  obtain ⟨BB, hBBe⟩ : ∃ x, min BB0 w2.heap.size = x := ⟨_, rfl⟩
  have hBB : w1.heap.size ≤ BB := by have := hb2.size; omega
  have hBB2 : BB ≤ w2.heap.size := by omega
  have hob := ownsRow_base hob0 (base' := BB) (by omega)
  have hva : ∀ k, va.ownBlock = some k → k < BB := fun k hk => by
    have e1 := hva0 k hk
    have e2 := ownsRow_lt hoa k hk
    omega
  clear hob0 hva0 hBB0 hBBe
  have HOA := Lib.hid (ownsRow_base hoa HB12)
  have HOB := Lib.hid hob
  have HVA := Lib.hid hva
  have hBB' : w.heap.size ≤ BB := by omega
  clear hP hb2 HC1 HU HD HI HTV hR hMS HLEN hM4 HB1 HML hRa hMb hoa hob hva
  go_upto_region 6 with fail
  go_cut [44, 45, 46] (fun sv lv iv wc => ∃ K : Nat, K ≤ 2 ∧ K ≤ ms0.length ∧ sv = .slice am K cm ∧ lv = .int .i64 K ∧ iv = .int .i64 0 ∧ wc = w2)
  case first =>
    by_cases h2 : (2 : Int) < ms0.length
    · go_wp2_with fail
      go_meet
      case rel => exact ⟨2, by omega, by omega, by first | rfl | (congr 1; omega), by first | rfl | (congr 1; omega), rfl, rfl⟩
    · go_wp2_with fail
      go_meet
      case rel => exact ⟨ms0.length, by omega, by omega, by first | rfl | (congr 1; omega), by first | rfl | (congr 1; omega), rfl, rfl⟩
  case rest =>
    obtain ⟨K, hK2, hKm, rfl, rfl, rfl, hwc⟩ := hcut
    subst hwc
    have hK0 : (0 : Int) ≤ K := by omega
    have hK2i : (K : Int) ≤ 2 := by omega
    obtain ⟨i1, hi', hy0, hy1, hy2⟩ := info_parts Tryd.info34
    go_upto_block 0 with fail
    go_cut [14] (fun bv wc => wc.ownsRow w.heap.size 39 9 va R.length (flatR R) ∧ wc.ownsRow BB 34 2 bv (MS ++ ms0.take K).length (flatM (MS ++ ms0.take K)) ∧ Below w.heap.size w wc ∧ BB ≤ wc.heap.size)
    case first =>
      go_wp2_with fail
      go_loopw [14, 16, 46] (fun bv _ iv wr => ∃ q : Nat, q ≤ K ∧ iv = .int .i64 q ∧ wr.ownsRow w.heap.size 39 9 va R.length (flatR R) ∧ wr.ownsRow BB 34 2 bv (MS ++ ms0.take q).length (flatM (MS ++ ms0.take q)) ∧ Below w.heap.size w wr ∧ BB ≤ wr.heap.size) (fun _ _ iv _ => K - (intOf iv).toNat)
      case atStart => exact ⟨0, by omega, rfl, HOA.out, by simpa using HOB.out, HB2.out, hBB2⟩
      case round =>
        obtain ⟨q, hq, rfl, hoa, hob, hb, hBX⟩ := hrel
        have HOA1 := Lib.hid hoa
        have HOB1 := Lib.hid hob
        have HX := Lib.hid hb
        have hq0 : (0 : Int) ≤ q := by omega
        have hq2 : (q : Int) ≤ 2 := by omega
        obtain ⟨wX, rfl⟩ : ∃ x, x = wr := ⟨wr, rfl⟩
        clear HOA HOB HB2
        by_cases hqK : q < K
        · have hqKi : (q : Int) < K := by omega
          have hqm : q < ms0.length := by omega
          obtain ⟨bm, om, cm', hv, hbm, -, hrow⟩ := HM0.out.row (by omega)
          injection hv with hv1 hv2 hv3
          subst hv1 hv3
          have q0 := (hb.cell (p := ⟨bm, om + q * 2, none⟩) hbm).trans (hrow.k0 q hqm)
          have q1 := (hb.cell (p := ⟨bm, om + q * 2 + 1, none⟩) hbm).trans (hrow.k1 q hqm)
          have HT1 : Hid (ms0.take (q + 1) = ms0.take q ++ [ms0[q]]) := Lib.hid (by rw [List.take_add_one, List.getElem?_eq_getElem hqm]; rfl)
          obtain ⟨mq, hmq⟩ : ∃ x, ms0[q] = x := ⟨_, rfl⟩
          rw [hmq] at q0 q1 HT1
          obtain ⟨a, c⟩ := mq
          simp only at q0 q1
          have hlen : (MS ++ ms0.take q).length ≤ 11 := by rw [List.length_append, List.length_take]; omega
          obtain ⟨LM, hLM⟩ : ∃ x, MS ++ ms0.take q = x := ⟨_, rfl⟩
          rw [hLM] at HOB1 hlen
          have HLM := Lib.hid hLM
          have hX := hb.size
          obtain ⟨vba, vbc, hvb⟩ := ownsRow_form HOB1.out
          subst hvb
          clear hoa hob hb hmq hLM hv2 hrow
          go_upto_region 9 with fail
          have HA2 := Lib.hid (HOA1.out.alloc (.cells #[.int .u8 a, .int .u16 c] 34))
          have HB3 := Lib.hid (HOB1.out.alloc (.cells #[.int .u8 a, .int .u16 c] 34))
          have HX2 := Lib.hid (HX.out.alloc hX (.cells #[.int .u8 a, .int .u16 c] 34))
          have c0 : (wX.alloc (.cells #[.int .u8 a, .int .u16 c] 34)).cell? ⟨wX.heap.size, 0, none⟩ = some (.int .u8 a) := by simp
          have c1 : (wX.alloc (.cells #[.int .u8 a, .int .u16 c] 34)).cell? ⟨wX.heap.size, 1, none⟩ = some (.int .u16 c) := by simp
          have hX2 : wX.heap.size < (wX.alloc (.cells #[.int .u8 a, .int .u16 c] 34)).heap.size := by simp
          obtain ⟨wY, hwY⟩ : ∃ x, wX.alloc (.cells #[.int .u8 a, .int .u16 c] 34) = x := ⟨_, rfl⟩
          obtain ⟨gq, hgq⟩ : ∃ x, wX.heap.size = x := ⟨_, rfl⟩
          rw [hwY] at HA2 HB3 HX2 c0 c1 hX2 ⊢
          rw [hgq] at c0 c1 hX2 hX hBX
          try rw [hgq]
          clear hwY hgq q0 q1 HOA1 HOB1 HX
          go_wp2_with (first | (at_builtin; refine wpList_append_own _ rfl _ _ 23 rfl BB 34 i1 _ 2 4 Tryd.underlying23 hi' hy0 hy1 hy2 rfl (by decide) _ _ _ rfl (HB3.out.alloc _) ⟨wY.heap.size, 0, none⟩ 1 1 [.int .u8 a, .int .u16 c] rfl rfl (cells_new wY _ 34) (by simp [Value.oneCell']) (by unfold maxLen; omega) (by omega) (by simp; omega) ?_))
          intro v' w5 hown' hgrow _
          have hY5 : w.heap.size ≤ wY.heap.size := HX2.out.size
          have hsz5 := hgrow.size
          have HX5 := Lib.hid ((HX2.out.alloc hY5 (.cells #[.int .u8 a, .int .u16 c] 34)).grown hgrow (by simp; omega) (fun k hk => Nat.le_trans hBB' (ownsRow_block HB3.out k hk)))
          have HA5 := Lib.hid (ownsRow_keep (HA2.out.alloc (.cells #[.int .u8 a, .int .u16 c] 34)) (fun k hk => by
            have e1 := ownsRow_lt (HA2.out.alloc (.cells #[.int .u8 a, .int .u16 c] 34)) k hk
            have e2 := HVA.out k hk
            refine hgrow.block k e1 (fun e => ?_)
            have e3 := ownsRow_block HB3.out k e.symm
            omega))
          have HO5 := Lib.hid hown'
          have hBX5 : BB ≤ w5.heap.size := by simp at hsz5; omega
          clear hown' hgrow HB3 HA2 HX2 c0 c1 hsz5
          go_wp2_with fail
          go_roundw
          case rel => exact ⟨q + 1, by omega, by go_num, HA5.out, (by rw [HT1.out, ← List.append_assoc, HLM.out, List.length_append, flatM, List.flatMap_append]; simpa [flatM, markCells] using HO5.out), HX5.out, hBX5⟩
          case measure => simp [intOf]; omega
        · obtain rfl : q = K := by omega
          clear hoa hob hb
          go_wp2_with fail
          go_meet
          case rel => exact ⟨HOA1.out, HOB1.out, HX.out, hBX⟩
    case rest =>
      obtain ⟨hoa, hob, hb, hBX⟩ := hcut
      have HA1 := Lib.hid hoa
      have HO1 := Lib.hid hob
      have HX1 := Lib.hid hb
      clear hoa hob hb HOA HOB HB2
      obtain ⟨LB, hLB⟩ : ∃ x, MS ++ ms0.take K = x := ⟨_, rfl⟩
      have hLB11 : LB.length ≤ 11 := by rw [← hLB, List.length_append, List.length_take]; omega
      have HLBok : Hid (∀ x ∈ LB, markOk x) := Lib.hid (fun x hx => by
        rw [← hLB] at hx
        rcases List.mem_append.1 hx with h | h
        · exact HMKS.out x h
        · exact HMK0.out x (List.mem_of_mem_take h))
      rw [hLB] at HO1
      clear hLB HMKS
      obtain ⟨wX, rfl⟩ : ∃ x, x = wc := ⟨wc, rfl⟩
      rcases ownsRow_cell (k := 9) (f := Rg.cells) (l := R) (fun _ => rfl) rfl HA1.out with ⟨-, hnil⟩ | ⟨g, gcap, hva, hgb, hgl, -, hcell⟩
      · rw [hnil] at hR5; simp at hR5
      subst hva
      have hgBB : g < BB := HVA.out g rfl
      obtain ⟨I, hI⟩ := Int.eq_ofNat_of_zero_le (show 0 ≤ at0 % (R.length : Int) from Int.emod_nonneg _ (by omega))
      have hIR : I < R.length := by have := Int.emod_lt_of_pos at0 (show (0 : Int) < R.length by omega); omega
      have hmod : Int.tmod at0 (R.length : Int) = I := by rw [Int.tmod_eq_emod_of_nonneg ha0]; exact hI
      have hne0 : ¬ ((R.length : Int) = 0) := by omega
      have hIi : (I : Int) < R.length := by omega
      have hI0 : (0 : Int) ≤ I := by omega
      have hR5i : (R.length : Int) ≤ 5 := by omega
      have HT := Lib.hid (⟨rfl, HOKS.out, HA1.out, HO1.out, HX1.out⟩ : Trn wX w w.heap.size BB g gcap u14 R.length LB R)
      have hfz := fun j => ownsRow_free HA1.out g rfl (I * 9 + j)
      have hok1 := HOKS.out R[I] (List.getElem_mem _)
      have hnm8 := HNM.out R[I] (List.getElem_mem _)
      have hnm0 := HNM.out R[0] (List.getElem_mem _)
      have d0' := hcell 0 (by omega) 0 (by decide)
      have e0' := hcell I hIR 0 (by decide)
      have ee := fun j hj => hcell I hIR j hj
      have hHC := Lib.hid hcell
      simp only [Nat.zero_mul, Nat.add_zero] at d0' e0'
      have d0 : wX.cell? ⟨g, 0, none⟩ = some (.string R[0].nm) := d0'
      have e0 : wX.cell? ⟨g, I * 9, none⟩ = some (.string R[I].nm) := e0'
      clear d0' e0'
      obtain ⟨rI, hrI⟩ : ∃ r, R[I] = r := ⟨_, rfl⟩
      obtain ⟨n0, hn0'⟩ : ∃ r, (R[0]'(by omega)).nm = r := ⟨_, rfl⟩
      rw [hrI] at hok1 hnm8 e0
      rw [hn0'] at d0 hnm0
      obtain ⟨c, hc⟩ := Int.eq_ofNat_of_zero_le (show 0 ≤ what % 12 from Int.emod_nonneg _ (by decide))
      have hc12 : c < 12 := by omega
      have hwm : Int.tmod what 12 = c := by rw [Int.tmod_eq_emod_of_nonneg hw0]; exact hc
      go_upto_block 2 with fail
      go_cut [] (fun wc => ∃ R', Trn wc w w.heap.size BB g gcap u14 R.length LB R')
      case first =>
        have hcc : c = 0 ∨ c = 1 ∨ c = 2 ∨ c = 3 ∨ c = 4 ∨ c = 5 ∨ c = 6 ∨ c = 7 ∨ c = 8 ∨ c = 9 ∨ c = 10 ∨ c = 11 := by omega
        have ⟨o1, o2, o3, o4, o5⟩ := hok1
        rcases hcc with rfl | rfl | rfl | rfl | rfl | rfl | rfl | rfl | rfl | rfl | rfl | rfl
        · as_aux_lemma =>
            have hf := hfz 3
            have hv := ee 3 (by decide)
            rw [hrI] at hv
            have hv : wX.cell? ⟨g, I * 9 + 3, none⟩ = some (.int .i64 rI.bl) := hv
            clear ee hfz
            go_wp2_with fail
            go_meet
            case rel => exact ⟨R.set I { rI with bl := n }, HT.out.set hgb hgBB I hIR 3 (by decide) _ _ (by rw [hrI]; rfl) ⟨o1, o2, o3, o4, o5⟩⟩
        · as_aux_lemma =>
            have hf := hfz 4
            have hv := ee 4 (by decide)
            rw [hrI] at hv
            have hv : wX.cell? ⟨g, I * 9 + 4, none⟩ = some (.int .i64 rI.nd) := hv
            clear ee hfz
            go_wp2_with fail
            go_meet
            case rel => exact ⟨R.set I { rI with nd := n }, HT.out.set hgb hgBB I hIR 4 (by decide) _ _ (by rw [hrI]; rfl) ⟨o1, o2, o3, o4, o5⟩⟩
        · as_aux_lemma =>
            have hf := hfz 5
            have hv := ee 5 (by decide)
            rw [hrI] at hv
            have hv : wX.cell? ⟨g, I * 9 + 5, none⟩ = some (.int .i64 rI.fr) := hv
            clear ee hfz
            go_wp2_with fail
            go_meet
            case rel => exact ⟨R.set I { rI with fr := n }, HT.out.set hgb hgBB I hIR 5 (by decide) _ _ (by rw [hrI]; rfl) ⟨o1, o2, o3, o4, o5⟩⟩
        · as_aux_lemma =>
            have hf := hfz 6
            have hv := ee 6 (by decide)
            rw [hrI] at hv
            have hv : wX.cell? ⟨g, I * 9 + 6, none⟩ = some (.int .i64 rI.pr) := hv
            clear ee hfz
            go_wp2_with fail
            go_meet
            case rel => exact ⟨R.set I { rI with pr := n }, HT.out.set hgb hgBB I hIR 6 (by decide) _ _ (by rw [hrI]; rfl) ⟨o1, o2, o3, o4, o5⟩⟩
        · as_aux_lemma =>
            have hf := hfz 7
            have hv := ee 7 (by decide)
            rw [hrI] at hv
            have hv : wX.cell? ⟨g, I * 9 + 7, none⟩ = some (.int .i64 rI.op) := hv
            clear ee hfz
            go_wp2_with fail
            go_meet
            case rel => exact ⟨R.set I { rI with op := n }, HT.out.set hgb hgBB I hIR 7 (by decide) _ _ (by rw [hrI]; rfl) ⟨o1, o2, o3, o4, o5⟩⟩
        · as_aux_lemma =>
            have hf := hfz 8
            have hv := ee 8 (by decide)
            rw [hrI] at hv
            have hv : wX.cell? ⟨g, I * 9 + 8, none⟩ = some (.int .i64 rI.cl) := hv
            clear ee hfz
            go_wp2_with fail
            go_meet
            case rel => exact ⟨R.set I { rI with cl := n }, HT.out.set hgb hgBB I hIR 8 (by decide) _ _ (by rw [hrI]; rfl) ⟨o1, o2, o3, o4, o5⟩⟩
        · as_aux_lemma =>
            have hf := hfz 1
            have hf2 := hfz 2
            have hv := ee 1 (by decide)
            have hv2 := ee 2 (by decide)
            rw [hrI] at hv hv2
            have hv : wX.cell? ⟨g, I * 9 + 1, none⟩ = some (.int .u8 rI.lv) := hv
            have hv2 : wX.cell? ⟨g, I * 9 + 2, none⟩ = some (.int .u16 rI.cs) := hv2
            have hq1 : (wX.setCell ⟨g, I * 9 + 1, none⟩ (.int .u8 (n % 256))).cell? ⟨g, I * 9 + 1 + 1, none⟩ = some (.int .u16 rI.cs) := by
              rw [World.cell?_setCell_other _ _ _ _ (by intro e; simp at e)]
              exact hv2
            have hq2 : (wX.setCell ⟨g, I * 9 + 1, none⟩ (.int .u8 (n % 256))).frozen? ⟨g, I * 9 + 1 + 1, none⟩ = false := by
              rw [World.frozen?_setCell]
              exact hf2
            clear ee hfz hf2 hv2
            go_wp2_with fail
            simp only [Result.andThen, hq1, hq2, Bool.false_eq_true, if_false]
            go_wp2_with fail
            have hw16 : 0 ≤ IntKind.u16.wrap (n / 256) ∧ IntKind.u16.wrap (n / 256) < 65536 := by rw [IntKind.wrap_u16]; omega
            have T1 := HT.out.set hgb hgBB I hIR 1 (by decide) { rI with lv := n % 256 } (.int .u8 (n % 256)) (by rw [hrI]; rfl) ⟨o1, by show 0 ≤ n % 256; omega, by show n % 256 < 256; omega, o4, o5⟩
            have T2 := T1.set hgb hgBB I (by rw [List.length_set]; exact hIR) 2 (by decide) { rI with lv := n % 256, cs := IntKind.u16.wrap (n / 256) } (.int .u16 (IntKind.u16.wrap (n / 256))) (by rw [List.getElem_set_self]; rfl) ⟨o1, by show 0 ≤ n % 256; omega, by show n % 256 < 256; omega, hw16.1, hw16.2⟩
            go_meet
            case rel => exact ⟨_, T2⟩
        · as_aux_lemma =>
            have hf := hfz 0
            rw [Nat.add_zero] at hf
            clear ee hfz
            go_wp2_with fail
            go_meet
            case rel => exact ⟨R.set I { rI with nm := rI.nm ++ ⟨#[120]⟩ }, HT.out.set hgb hgBB I hIR 0 (by decide) _ _ (by rw [hrI]; rfl) ⟨(by show (rI.nm ++ (⟨#[120]⟩ : ByteArray)).size ≤ maxLen; rw [ByteArray.size_append]; unfold maxLen; show rI.nm.size + 1 ≤ _; omega), o2, o3, o4, o5⟩⟩
        · as_aux_lemma =>
            have hf := hfz 0
            rw [Nat.add_zero] at hf
            clear ee hfz
            go_wp2_with fail
            go_meet
            case rel => exact ⟨R.set I { rI with nm := n0 }, HT.out.set hgb hgBB I hIR 0 (by decide) _ _ (by rw [hrI]; rfl) ⟨(by show n0.size ≤ maxLen; unfold maxLen; omega), o2, o3, o4, o5⟩⟩
        · as_aux_lemma =>
            clear ee hfz
            go_wp2_with fail
            go_meet
            case rel => exact ⟨R, HT.out⟩
        · as_aux_lemma =>
            clear ee hfz
            go_wp2_with fail
            go_meet
            case rel => exact ⟨R, HT.out⟩
        · as_aux_lemma =>
            clear ee hfz
            go_wp2_with fail
            go_meet
            case rel => exact ⟨R, HT.out⟩
      case rest =>
        obtain ⟨R', hT⟩ := hcut
        have hlen := hT.len
        have hRg : Regs wc (.slice (some ⟨g, 0, none⟩) R.length gcap) R' := regs_of_row (by rw [hlen]; exact hT.oa)
        have hRg1 : Regs wc (.slice (some ⟨g, 0, none⟩) 1 gcap) (R'.take 1) := regs_take1 hRg (by omega)
        have hMk : Mks wc u14 LB := mks_of_row rfl hT.ob
        have hcap1 : 1 ≤ gcap := by
          have := ownsRow_cap hT.oa
          omega
        have HOk' := Lib.hid hT.ok
        have HX2 := Lib.hid hT.bl
        have HRg := Lib.hid hRg
        have HRg1 := Lib.hid hRg1
        have HMk := Lib.hid hMk
        obtain ⟨ub, uc, hub⟩ := ownsRow_form hT.ob
        subst hub
        have hcapi : (1 : Int) ≤ gcap := by omega
        clear hT hRg hRg1 hMk HT HA1 HO1 HX1 hcell hHC ee hfz d0 e0 HVA
        obtain ⟨wS, rfl⟩ : ∃ x, x = wc := ⟨wc, rfl⟩
        go_upto_block 3 with fail
        have hb4 : Below wS.heap.size wS (wS.alloc (.cells #[.slice ax rs0.length cx, .slice (some ⟨g, 0, none⟩) R.length gcap, .slice (some ⟨g, 0, none⟩) 1 gcap, .slice none 0 0] 22)) := (Below.refl _ _).alloc (Nat.le_refl _) _
        have hsz : w.heap.size ≤ wS.heap.size := HX2.out.size
        have HX3 := Lib.hid (HX2.out.trans (hb4.mono hsz))
        obtain ⟨Lv, hLv⟩ : ∃ Lv : Nat → Value, Lv = fun q => if q = 0 then .slice ax rs0.length cx else if q = 1 then .slice (some ⟨g, 0, none⟩) R.length gcap else if q = 2 then .slice (some ⟨g, 0, none⟩) 1 gcap else .slice none 0 0 := ⟨_, rfl⟩
        obtain ⟨Lr, hLr⟩ : ∃ Lr : Nat → List Rg, Lr = fun q => if q = 0 then rs0 else if q = 1 then R' else if q = 2 then R'.take 1 else [] := ⟨_, rfl⟩
        have hLL : ∀ q, q < 4 → (wS.alloc (.cells #[.slice ax rs0.length cx, .slice (some ⟨g, 0, none⟩) R.length gcap, .slice (some ⟨g, 0, none⟩) 1 gcap, .slice none 0 0] 22)).cell? ⟨wS.heap.size, q, none⟩ = some (Lv q) ∧ Regs (wS.alloc (.cells #[.slice ax rs0.length cx, .slice (some ⟨g, 0, none⟩) R.length gcap, .slice (some ⟨g, 0, none⟩) 1 gcap, .slice none 0 0] 22)) (Lv q) (Lr q) ∧ ∀ r ∈ Lr q, r.ok := by
          intro q hq
          have : q = 0 ∨ q = 1 ∨ q = 2 ∨ q = 3 := by omega
          rcases this with rfl | rfl | rfl | rfl
          · exact ⟨by rw [hLv]; simp, by rw [hLv, hLr]; exact (HR0.out.below HX2.out).below hb4, by rw [hLr]; exact HOK0.out⟩
          · exact ⟨by rw [hLv]; simp, by rw [hLv, hLr]; exact HRg.out.below hb4, by rw [hLr]; exact HOk'.out⟩
          · exact ⟨by rw [hLv]; simp, by rw [hLv, hLr]; exact HRg1.out.below hb4, by rw [hLr]; exact fun r hr => HOk'.out r (List.mem_of_mem_take hr)⟩
          · exact ⟨by rw [hLv]; simp, by rw [hLv, hLr]; exact .inl ⟨none, 0, rfl, rfl⟩, by rw [hLr]; intro r hr; cases hr⟩
        have HLL := Lib.hid hLL
        have HM04 := Lib.hid ((HM0.out.below HX2.out).below hb4)
        have HMB4 := Lib.hid (HMk.out.below hb4)
        have hl4 : wS.heap.size < (wS.alloc (.cells #[.slice ax rs0.length cx, .slice (some ⟨g, 0, none⟩) R.length gcap, .slice (some ⟨g, 0, none⟩) 1 gcap, .slice none 0 0] 22)).heap.size := by simp
        obtain ⟨w4, hw4⟩ : ∃ x, wS.alloc (.cells #[.slice ax rs0.length cx, .slice (some ⟨g, 0, none⟩) R.length gcap, .slice (some ⟨g, 0, none⟩) 1 gcap, .slice none 0 0] 22) = x := ⟨_, rfl⟩
        obtain ⟨gl, hgl4⟩ : ∃ x, wS.heap.size = x := ⟨_, rfl⟩
        rw [hw4] at HX3 HLL HM04 HMB4 hl4 ⊢
        rw [hgl4] at HLL hl4
        try rw [hgl4]
        clear hw4 hgl4 hLL hb4 hLv hLr HX2 hsz HRg HRg1 HMk
        go_wp2_with fail
        go_loopw [19, 21, 22, 23, 24, 135] (fun _ _ _ _ _ qv wr => ∃ q : Nat, q ≤ 4 ∧ qv = .int .i64 q ∧ Below w4.heap.size w4 wr ∧ Below w.heap.size w wr) (fun _ _ _ _ _ qv _ => 4 - (intOf qv).toNat)
        case atStart => exact ⟨0, by omega, rfl, Below.refl _ _, HX3.out⟩
        case round =>
          obtain ⟨q, hq, rfl, hb4, hb⟩ := hrel
          have HB4 := Lib.hid hb4
          have HB0 := Lib.hid hb
          have hq0 : (0 : Int) ≤ q := by omega
          have hq4 : (q : Int) ≤ 4 := by omega
          clear HX3
          obtain ⟨wX, rfl⟩ : ∃ x, x = wr := ⟨wr, rfl⟩
          by_cases hqq : q < 4
          · have hqi : (q : Int) < 4 := by omega
            obtain ⟨hcl, hrl, hol⟩ := HLL.out q hqq
            have hcq := (hb4.cell (p := ⟨gl, q, none⟩) hl4).trans hcl
            have hs4 := hb4.size
            have hs0 := hb.size
            obtain ⟨V, hV⟩ : ∃ V, Lv q = V := ⟨_, rfl⟩
            obtain ⟨L, hL⟩ : ∃ L, Lr q = L := ⟨_, rfl⟩
            rw [hV] at hcq hrl
            rw [hL] at hrl hol
            have HRL := Lib.hid (hrl.below hb4)
            have HOL := Lib.hid hol
            have HMa := Lib.hid (HM04.out.below hb4)
            have HMb := Lib.hid (HMB4.out.below hb4)
            clear hcl hrl hol hV hL hb4 hb
            go_upto_block 5 with fail
            have hb5 : Below wX.heap.size wX (wX.alloc (.cells #[.slice am ms0.length cm, .slice ub LB.length uc, .slice none 0 0] 23)) := (Below.refl _ _).alloc (Nat.le_refl _) _
            obtain ⟨Mv, hMv⟩ : ∃ Mv : Nat → Value, Mv = fun q => if q = 0 then .slice am ms0.length cm else if q = 1 then .slice ub LB.length uc else .slice none 0 0 := ⟨_, rfl⟩
            obtain ⟨Mm, hMm⟩ : ∃ Mm : Nat → List (Int × Int), Mm = fun q => if q = 0 then ms0 else if q = 1 then LB else [] := ⟨_, rfl⟩
            have hMM : ∀ p, p < 3 → (wX.alloc (.cells #[.slice am ms0.length cm, .slice ub LB.length uc, .slice none 0 0] 23)).cell? ⟨wX.heap.size, p, none⟩ = some (Mv p) ∧ Mks (wX.alloc (.cells #[.slice am ms0.length cm, .slice ub LB.length uc, .slice none 0 0] 23)) (Mv p) (Mm p) ∧ (∀ x ∈ Mm p, markOk x) ∧ (Mm p).length ≤ 5000 := by
              intro p hp
              have : p = 0 ∨ p = 1 ∨ p = 2 := by omega
              rcases this with rfl | rfl | rfl
              · exact ⟨by rw [hMv]; simp, by rw [hMv, hMm]; exact HMa.out.below hb5, by rw [hMm]; exact HMK0.out, by rw [hMm]; show ms0.length ≤ 5000; omega⟩
              · exact ⟨by rw [hMv]; simp, by rw [hMv, hMm]; exact HMb.out.below hb5, by rw [hMm]; exact HLBok.out, by rw [hMm]; show LB.length ≤ 5000; omega⟩
              · exact ⟨by rw [hMv]; simp, by rw [hMv, hMm]; exact .inl ⟨none, 0, rfl, rfl⟩, (by rw [hMm]; intro r hr; cases hr), by rw [hMm]; exact Nat.zero_le _⟩
            have HMM := Lib.hid hMM
            have HRL5 := Lib.hid (HRL.out.below hb5)
            have HX5 := Lib.hid (HB0.out.trans (hb5.mono hs0))
            have HX45 := Lib.hid (HB4.out.trans (hb5.mono hs4))
            have hl5 : wX.heap.size < (wX.alloc (.cells #[.slice am ms0.length cm, .slice ub LB.length uc, .slice none 0 0] 23)).heap.size := by simp
            obtain ⟨w5, hw5⟩ : ∃ x, wX.alloc (.cells #[.slice am ms0.length cm, .slice ub LB.length uc, .slice none 0 0] 23) = x := ⟨_, rfl⟩
            obtain ⟨gm, hgm⟩ : ∃ x, wX.heap.size = x := ⟨_, rfl⟩
            rw [hw5] at HMM HRL5 HX5 HX45 hl5 ⊢
            rw [hgm] at HMM hl5
            try rw [hgm]
            have hs45 := HX45.out.size
            have hs05 := HX5.out.size
            clear hw5 hgm hMM hb5 hMv hMm HRL HMa HMb hcq HB4 HB0
            go_wp2_with fail
            go_loopw [21, 22, 23, 24, 143] (fun _ _ _ _ pv wr => ∃ p : Nat, p ≤ 3 ∧ pv = .int .i64 p ∧ Below w5.heap.size w5 wr ∧ Below w4.heap.size w4 wr ∧ Below w.heap.size w wr) (fun _ _ _ _ pv _ => 3 - (intOf pv).toNat)
            case atStart => exact ⟨0, by omega, rfl, Below.refl _ _, HX45.out, HX5.out⟩
            case round =>
              obtain ⟨p, hp, rfl, hb5, hb4, hb⟩ := hrel
              have HB5 := Lib.hid hb5
              have HB4 := Lib.hid hb4
              have HB0 := Lib.hid hb
              have hp0 : (0 : Int) ≤ p := by omega
              have hp3 : (p : Int) ≤ 3 := by omega
              clear HX5 HX45
              obtain ⟨wY, rfl⟩ : ∃ x, x = wr := ⟨wr, rfl⟩
              by_cases hpp : p < 3
              · have hpi : (p : Int) < 3 := by omega
                obtain ⟨hcl, hml, hok, hln⟩ := HMM.out p hpp
                have hcp := (hb5.cell (p := ⟨gm, p, none⟩) hl5).trans hcl
                have hsY4 := hb4.size
                have hsY0 := hb.size
                obtain ⟨Z, hZ⟩ : ∃ V, Mv p = V := ⟨_, rfl⟩
                obtain ⟨Q, hQ⟩ : ∃ L, Mm p = L := ⟨_, rfl⟩
                rw [hZ] at hcp hml
                rw [hQ] at hml hok hln
                have HRY := Lib.hid (HRL5.out.below hb5)
                have HMY := Lib.hid (hml.below hb5)
                have HOK2 := Lib.hid hok
                have HLN2 := Lib.hid hln
                have HN := Lib.hid (fun W hr hm => new_any V Z L Q W hr HOL.out hm hok hln)
                clear hcl hml hok hln hZ hQ hb5 hb4 hb
                go_wp2_with fail
                clear hcp
                refine (HN.out wY HRY.out HMY.out).mono ?_
                rintro e w6 ⟨hbad, hgood⟩
                by_cases hE : newE L Q = 0
                · obtain ⟨nn, vr, vm, vg, rfl, hnn, hb6, hCF⟩ := hgood hE
                  have HCF := Lib.hid hCF
                  have HR6 := Lib.hid (HRY.out.below hb6)
                  have HM6 := Lib.hid (HMY.out.below hb6)
                  have H56 := Lib.hid (HB5.out.trans (hb6.mono HB5.out.size))
                  have H46 := Lib.hid (HB4.out.trans (hb6.mono HB4.out.size))
                  have H06 := Lib.hid (HB0.out.trans (hb6.mono HB0.out.size))
                  have HRt := Lib.hid (right_all V Z L Q w6 HR6.out HOL.out HM6.out HOK2.out HLN2.out)
                  rw [hE] at HRt
                  have HEz := Lib.hid hE
                  clear hbad hgood hCF hb6 hE HB5 HB4 HB0 HN HRY HMY hnn
                  go_wp2_with fail
                  refine HRt.out.mono ?_
                  rintro e w7 ⟨rfl, hb7⟩
                  have HS := Lib.hid (same_all nn vr vm vg V Z L Q HOL.out HOK2.out HLN2.out HEz.out w7 (HR6.out.below hb7) (HM6.out.below hb7) (HCF.out.below hb7))
                  have H57 := Lib.hid (H56.out.trans (hb7.mono H56.out.size))
                  have H47 := Lib.hid (H46.out.trans (hb7.mono H46.out.size))
                  have H07 := Lib.hid (H06.out.trans (hb7.mono H06.out.size))
                  clear hb7 HRt H56 H46 H06 HR6 HM6 HCF
                  go_wp2_with fail
                  refine HS.out.mono ?_
                  rintro e w8 ⟨rfl, hb8⟩
                  have H58 := Lib.hid (H57.out.trans (hb8.mono H57.out.size))
                  have H48 := Lib.hid (H47.out.trans (hb8.mono H47.out.size))
                  have H08 := Lib.hid (H07.out.trans (hb8.mono H07.out.size))
                  clear hb8 HS H57 H47 H07
                  go_wp2_with fail
                  go_roundw
                  case rel => exact ⟨p + 1, by omega, by go_num, H58.out, H48.out, H08.out⟩
                  case measure => simp [intOf]; omega
                · obtain ⟨rfl, hb6⟩ := hbad hE
                  have HR6 := Lib.hid (HRY.out.below hb6)
                  have HM6 := Lib.hid (HMY.out.below hb6)
                  have H56 := Lib.hid (HB5.out.trans (hb6.mono HB5.out.size))
                  have H46 := Lib.hid (HB4.out.trans (hb6.mono HB4.out.size))
                  have H06 := Lib.hid (HB0.out.trans (hb6.mono HB0.out.size))
                  have HRt := Lib.hid (right_all V Z L Q w6 HR6.out HOL.out HM6.out HOK2.out HLN2.out)
                  obtain ⟨E, hEE⟩ : ∃ E, newE L Q = E := ⟨_, rfl⟩
                  rw [hEE] at HRt hE ⊢
                  have hEz : (E == 0) = false := by simp [hE]
                  clear hbad hgood hb6 HB5 HB4 HB0 HN HRY HMY hEE HR6 HM6
                  go_wp2_with fail
                  refine HRt.out.mono ?_
                  rintro e w7 ⟨rfl, hb7⟩
                  have H57 := Lib.hid (H56.out.trans (hb7.mono H56.out.size))
                  have H47 := Lib.hid (H46.out.trans (hb7.mono H46.out.size))
                  have H07 := Lib.hid (H06.out.trans (hb7.mono H06.out.size))
                  clear hb7 HRt H56 H46 H06
                  go_wp2_with fail
                  go_roundw
                  case rel => exact ⟨p + 1, by omega, by go_num, H57.out, H47.out, H07.out⟩
                  case measure => simp [intOf]; omega
              · obtain rfl : p = 3 := by omega
                have G4 := HB4
                have G0 := HB0
                clear hb5 hb4 hb
                go_wp2_with fail
                go_roundw
                case rel => exact ⟨q + 1, by omega, by go_num, G4.out, G0.out⟩
                case measure => simp [intOf]; omega
          · obtain rfl : q = 4 := by omega
            clear hb4 hb
            go_wp2_with fail
            go_ret
            exact ⟨rfl, HB0.out⟩
end Go.Proofs.YtbjniddikgcaeaaDoor
