import Derived.Test.YtbnpgkclnebnmaaGreatZ20
import Derived.Test.YtbnpgkclnebnmaaGreatZ17
import Derived.Test.YtbnpgkclnebnmaaGreatZ4
/- Files: what is written and read is the caller's own. -/
/- The reference: a group of files in memory. -/
/- The reference: Write at a file's end; Cut. -/
/- Files: a configuration of one label with many blocks; one file that grows at its end. -/
/- Files: the laws' own bytes. -/
/- Files: does a way pass a block. -/
/- Files: one that would be too long; a block that no file has; the configuration of one label. -/

namespace Go.Proofs.YtbnpgkclnebnmaaGreat
set_option linter.unusedSimpArgs false
set_option linter.unusedVariables false
open Go.RowKit Go.Maps

theorem ownsRow_cap {w : World} {base : Nat} {e : TypeId} {size n g c : Nat} {xs : List Value} (h : w.ownsRow base e size (.slice (some ⟨g, 0, none⟩) n c) n xs) : n ≤ c ∧ c ≤ maxLen := by
  rcases h.2 with ⟨hv, -⟩ | ⟨g', cap, cur, hv, -, -, h1, h2, -⟩
  · cases hv
  · injection hv with e1 e2 e3
    subst e3
    exact ⟨h1, h2⟩
theorem ownsRow_zero (w : World) : (w.alloc (.cells #[] 5)).ownsRow w.heap.size 5 1 (.slice (some ⟨w.heap.size, 0, none⟩) 0 0) 0 [] :=
  World.ownsRow_made w _ 0 (Nat.le_refl _) (Nat.zero_le _) (by simp)
end Go.Proofs.YtbnpgkclnebnmaaGreat

namespace Go.Proofs.YtbnpgkclnebnmaaGreat
set_option linter.unusedSimpArgs false
set_option linter.unusedVariables false
open Go.RowKit Go.Maps

/-- bytes that can be read, outside of some blocks: nil, or a slice -/
def By (w : World) (v : Value) (n : Nat) (F : Nat → Int) (L : List Nat) : Prop := (v = .slice none 0 0 ∧ n = 0) ∨ ∃ b o c, v = .slice (some ⟨b, o, none⟩) n c ∧ n ≤ c ∧ c ≤ maxLen ∧ b < w.heap.size ∧ b ∉ L ∧ ∀ j, j < n → w.cell? ⟨b, o + j, none⟩ = some (.int .u8 (F j))
theorem By.kf {w w' : World} {v : Value} {n : Nat} {F : Nat → Int} {L L' : List Nat} (h : By w v n F L) (hk : Kf w w' L') (hl : ∀ a ∈ L', a ∈ L ∨ w.heap.size ≤ a) : By w' v n F L := by
  rcases h with h | ⟨b, o, c, hv, h1, h2, h3, h4, h5⟩
  · exact .inl h
  · exact .inr ⟨b, o, c, hv, h1, h2, Nat.lt_of_lt_of_le h3 hk.size, h4, fun j hj => (hk.cell (p := ⟨b, o + j, none⟩) h3 (fun hb => by
      rcases hl b hb with h | h
      · exact h4 h
      · omega)).trans (h5 j hj)⟩
theorem By.keep {w w' : World} {v : Value} {n : Nat} {F : Nat → Int} {L : List Nat} (h : By w v n F L) (hb : Below w.heap.size w w') : By w' v n F L :=
  h.kf (Kf.of_below hb []) (fun a ha => by cases ha)
theorem By.more {w : World} {v : Value} {n : Nat} {F : Nat → Int} {L : List Nat} (h : By w v n F L) {a : Nat} (ha : w.heap.size ≤ a) : By w v n F (a :: L) := by
  rcases h with h | ⟨b, o, c, hv, h1, h2, h3, h4, h5⟩
  · exact .inl h
  · exact .inr ⟨b, o, c, hv, h1, h2, h3, fun hb => by
      rcases List.mem_cons.1 hb with rfl | hb
      · omega
      · exact h4 hb, h5⟩
theorem By.congr {w : World} {v : Value} {n : Nat} {F F' : Nat → Int} {L : List Nat} (h : By w v n F L) (hF : ∀ j, j < n → F' j = F j) : By w v n F' L := by
  rcases h with h | ⟨b, o, c, hv, h1, h2, h3, h4, h5⟩
  · exact .inl h
  · exact .inr ⟨b, o, c, hv, h1, h2, h3, h4, fun j hj => by rw [hF j hj]; exact h5 j hj⟩
theorem By.b8 {w : World} {pa : Option Addr} {n c : Nat} {F : Nat → Int} {L : List Nat} (h : By w (.slice pa n c) n F L) (k : Nat) (hk : k ≤ n) : B8 w pa k c F := by
  rcases h with ⟨hv, rfl⟩ | ⟨b, o, c', hv, h1, h2, h3, h4, h5⟩
  · injection hv with e1 e2 e3
    subst e1 e3
    exact .inl ⟨rfl, by omega, rfl⟩
  · injection hv with e1 e2 e3
    subst e1 e3
    exact .inr (.inr ⟨b, o, rfl, h3, fun j hj => h5 j (by omega)⟩)
theorem By.form {w : World} {v : Value} {n : Nat} {F : Nat → Int} {L : List Nat} (h : By w v n F L) : ∃ pa c, v = .slice pa n c ∧ n ≤ c ∧ c ≤ maxLen := by
  rcases h with ⟨hv, rfl⟩ | ⟨b, o, c, hv, h1, h2, -⟩
  · exact ⟨none, 0, hv, Nat.le_refl _, Nat.zero_le _⟩
  · exact ⟨_, c, hv, h1, h2⟩
theorem By.src {w : World} {v : Value} {n : Nat} {F : Nat → Int} {L : List Nat} (h : By w v n F L) : Src w v n F L := by
  rcases h with ⟨hv, rfl⟩ | ⟨b, o, c, hv, h1, h2, h3, h4, h5⟩
  · exact ⟨none, 0, hv, Nat.le_refl _, Nat.zero_le _, fun h => absurd h (Nat.lt_irrefl _)⟩
  · exact ⟨_, c, hv, h1, h2, fun _ => ⟨b, o, rfl, ⟨h3, h5⟩, h4⟩⟩
theorem By.str {w : World} {v : Value} {n : Nat} {F : Nat → Int} {L : List Nat} (h : By w v n F L) (hF : ∀ j, j < n → 0 ≤ F j ∧ F j < 256) : (convert 24 9 v).run Tryz.prog w = .ok (.string (strOf n F)) w := by
  obtain ⟨pa, c, rfl, -⟩ := h.form
  exact (h.b8 n (Nat.le_refl _)).str hF
theorem By.row {w : World} {base g n c : Nat} {F : Nat → Int} {L : List Nat} (h : w.ownsRow base 5 1 (.slice (some ⟨g, 0, none⟩) n c) n (byts n F)) (hL : ∀ a ∈ L, a < base ∨ g ≠ a) : By w (.slice (some ⟨g, 0, none⟩) n c) n F L := by
  have h1 := ownsRow_cap h
  have h2 := World.ownsRow.lt h g rfl
  have h3 := fl_of_owns h
  exact .inr ⟨g, 0, c, rfl, h1.1, h1.2, h3.lt, fun hg => by
    rcases hL g hg with h | h
    · omega
    · exact h rfl, fun j hj => by rw [Nat.zero_add]; exact h3.c j hj⟩
theorem flF_get {M : List Mf} {k : Nat} {e : Mf} (h : M[k]? = some e) (j : Nat) (hj : j < 5) : (flF M)[k * 5 + j]? = (fcc e)[j]? := by
  induction M generalizing k with
  | nil => simp at h
  | cons a E ih =>
    have hf : flF (a :: E) = fcc a ++ flF E := rfl
    have hl : (fcc a).length = 5 := rfl
    cases k with
    | zero =>
      obtain rfl := Option.some.inj h
      rw [hf, List.getElem?_append_left (by rw [hl]; omega), Nat.zero_mul, Nat.zero_add]
    | succ k =>
      rw [List.getElem?_cons_succ] at h
      rw [hf, List.getElem?_append_right (by rw [hl]; omega), ← ih h, show (k + 1) * 5 + j - (fcc a).length = k * 5 + j from by rw [hl]; omega]
theorem flF_put (M : List Mf) (i : Nat) (m : Mf) (hm : M[i]? = some m) (n' : Nat) (F' : Nat → Int) (v : Value) : (flF M).set (i * 5 + 3) v = flF (M.set i (⟨m.1.k, m.1.l, m.1.g, n'⟩, F', v, m.2.2.2)) := by
  induction M generalizing i with
  | nil => simp at hm
  | cons a E ih =>
    cases i with
    | zero =>
      obtain rfl := Option.some.inj hm
      rw [List.set_cons_zero, flF_cons, flF_cons]; rfl
    | succ i =>
      rw [List.set_cons_succ, flF_cons, flF_cons, show (i + 1) * 5 + 3 = (i * 5 + 3) + 1 + 1 + 1 + 1 + 1 by omega]
      simp only [List.set_cons_succ]
      rw [← ih i (by simpa using hm)]
/-- a group of the reference in memory, its struct in block r, its nodes in block nb -/
structure Mm (w : World) (r nb cap : Nat) (B : Int) (M : List Mf) (L : List Nat) : Prop where
  vr : Vl w r [.slice (some ⟨nb, 0, none⟩) M.length cap, .slice none 0 0, .int .i64 B]
  vn : Vl w nb (flF M)
  bys : ∀ m ∈ M, By w m.2.2.1 m.1.n m.2.1 L
  pl : ∀ m ∈ M, ∃ pb c, m.2.2.2 = .slice pb 0 c
  ne : r ≠ nb
  hr : r ∈ L
  hn : nb ∈ L
theorem Mm.kf {w w' : World} {r nb cap : Nat} {B : Int} {M : List Mf} {L L' : List Nat} (h : Mm w r nb cap B M L) (hk : Kf w w' L') (hl : ∀ a ∈ L', a ∈ L ∨ w.heap.size ≤ a) (h1 : r ∉ L') (h2 : nb ∉ L') : Mm w' r nb cap B M L :=
  ⟨h.vr.kf hk h1, h.vn.kf hk h2, fun m hm => (h.bys m hm).kf hk hl, h.pl, h.ne, h.hr, h.hn⟩
theorem Mm.keep {w w' : World} {r nb cap : Nat} {B : Int} {M : List Mf} {L : List Nat} (h : Mm w r nb cap B M L) (hb : Below w.heap.size w w') : Mm w' r nb cap B M L :=
  h.kf (Kf.of_below hb []) (fun a ha => by cases ha) (fun h => by cases h) (fun h => by cases h)
theorem Mm.more {w : World} {r nb cap : Nat} {B : Int} {M : List Mf} {L : List Nat} (h : Mm w r nb cap B M L) {a : Nat} (ha : w.heap.size ≤ a) : Mm w r nb cap B M (a :: L) :=
  ⟨h.vr, h.vn, fun m hm => (h.bys m hm).more ha, h.pl, h.ne, List.mem_cons_of_mem _ h.hr, List.mem_cons_of_mem _ h.hn⟩
theorem Mm.at {w : World} {r nb cap : Nat} {B : Int} {M : List Mf} {L : List Nat} (h : Mm w r nb cap B M L) {i : Nat} {m : Mf} (hm : M[i]? = some m) (j : Nat) (hj : j < 5) (v : Value) (hv : (fcc m)[j]? = some v) : w.cell? ⟨nb, i * 5 + j, none⟩ = some v :=
  h.vn.c (i * 5 + j) v (by rw [flF_get hm j hj]; exact hv)
theorem Mm.thaw {w : World} {r nb cap : Nat} {B : Int} {M : List Mf} {L : List Nat} (h : Mm w r nb cap B M L) {i : Nat} {m : Mf} (hm : M[i]? = some m) (j : Nat) (hj : j < 5) : w.frozen? ⟨nb, i * 5 + j, none⟩ = false :=
  h.vn.z (i * 5 + j) (by
    have := (List.getElem?_eq_some_iff.1 hm).1
    rw [flF_len]
    omega)
theorem Mm.nf {w : World} {r nb cap : Nat} {B : Int} {M : List Mf} {L : List Nat} (h : Mm w r nb cap B M L) (n : Nat) (hn : M.length = n) : Nf w nb n (M.map fun m => m.1) (fun i => (M.getD i z0F).2.2) := by
  subst hn
  refine ⟨h.vn.lt, List.length_map .., fun i x hx j v hj => ?_, fun i x hx => ?_, fun i hi => ?_, fun j hj => h.vn.z j (by rw [flF_len]; omega)⟩
  · rw [List.getElem?_map] at hx
    obtain ⟨m, hm, rfl⟩ := Option.map_eq_some_iff.1 hx
    have hg : M.getD i z0F = m := by rw [List.getD_eq_getElem?_getD, hm]; rfl
    rw [hg] at hj
    exact h.at hm j (by have := (List.getElem?_eq_some_iff.1 hj).1; exact this) v hj
  · rw [List.getElem?_map] at hx
    obtain ⟨m, hm, rfl⟩ := Option.map_eq_some_iff.1 hx
    have hg : M.getD i z0F = m := by rw [List.getD_eq_getElem?_getD, hm]; rfl
    obtain ⟨pa, c, hv, -⟩ := (h.bys m (List.mem_of_getElem? hm)).form
    rw [hg]
    exact ⟨pa, c, hv⟩
  · have hm : M.getD i z0F ∈ M := by
      rw [List.getD_eq_getElem?_getD, List.getElem?_eq_getElem hi]
      exact List.getElem_mem hi
    exact h.pl _ hm
/-- a node's bytes are others -/
theorem Mm.put {w : World} {r nb cap : Nat} {B : Int} {M : List Mf} {L : List Nat} (h : Mm w r nb cap B M L) {i : Nat} {m : Mf} (hm : M[i]? = some m) (n' : Nat) (F' : Nat → Int) (v' : Value) (hv : By w v' n' F' L) :
    Mm (w.setCell ⟨nb, i * 5 + 3, none⟩ v') r nb cap B (M.set i (⟨m.1.k, m.1.l, m.1.g, n'⟩, F', v', m.2.2.2)) L := by
  have hk : Kp w (w.setCell ⟨nb, i * 5 + 3, none⟩ v') nb nb := (Kp.refl w nb nb).setCell _ (.inl rfl) v'
  have hkf : Kf w (w.setCell ⟨nb, i * 5 + 3, none⟩ v') [nb] := Kf.of_kp hk (List.mem_singleton.2 rfl) (List.mem_singleton.2 rfl)
  have hl : ∀ a ∈ [nb], a ∈ L ∨ w.heap.size ≤ a := fun a ha => .inl (by rw [List.mem_singleton.1 ha]; exact h.hn)
  have hil := (List.getElem?_eq_some_iff.1 hm).1
  refine ⟨?_, ?_, fun x hx => ?_, fun x hx => ?_, h.ne, h.hr, h.hn⟩
  · rw [List.length_set]
    exact h.vr.kp hk h.ne h.ne
  · rw [← flF_put M i m hm n' F' v']
    exact h.vn.set (i * 5 + 3) (by rw [flF_len]; omega) v'
  · rcases List.mem_or_eq_of_mem_set hx with hx | rfl
    · exact (h.bys x hx).kf hkf hl
    · exact hv.kf hkf hl
  · rcases List.mem_or_eq_of_mem_set hx with hx | rfl
    · exact h.pl x hx
    · exact h.pl m (List.mem_of_getElem? hm)
end Go.Proofs.YtbnpgkclnebnmaaGreat

namespace Go.Proofs.YtbnpgkclnebnmaaGreat
set_option linter.unusedSimpArgs false
set_option linter.unusedVariables false
open Go.RowKit Go.Maps

theorem sl5_byts (n m : Nat) (F s : Nat → Int) : [] ++ byts n F ++ byts m s = byts (n + m) (fun i => if i < n then F i else s (i - n)) := by
  rw [List.nil_append, byts_append]
  congr 1
  · exact byts_congr (fun i hi => (if_pos hi).symm)
  · exact byts_congr (fun i hi => by rw [if_neg (by omega), show n + i - n = i from by omega])
/-- some bytes behind others, in new memory, and stored as a node's -/
theorem Mm.put2 {w w6 : World} {r nb cap : Nat} {B : Int} {M : List Mf} {L : List Nat} (h : Mm w r nb cap B M L) (hb : Below w.heap.size w w6) (hL : ∀ a ∈ L, a < w.heap.size) {i : Nat} {m : Mf} (hm : M[i]? = some m) (e g2 c2 : Nat) (X : Nat → Int) (ho : w6.ownsRow w.heap.size 5 1 (.slice (some ⟨g2, 0, none⟩) e c2) e (byts e X)) :
    Mm (w6.setCell ⟨nb, i * 5 + 3, none⟩ (.slice (some ⟨g2, 0, none⟩) e c2)) r nb cap B (M.set i (⟨m.1.k, m.1.l, m.1.g, e⟩, X, .slice (some ⟨g2, 0, none⟩) e c2, m.2.2.2)) L :=
  (h.keep hb).put hm e X _ (By.row ho (fun a ha => .inl (hL a ha)))
set_option maxHeartbeats 40000000 in
set_option maxRecDepth 200000 in
theorem rwrite_end (r nb cap n : Nat) (B : Int) (M : List Mf) (L : List Nat) (i : Nat) (m : Mf) (hm : M[i]? = some m) (hkd : ¬ m.1.k = 0) (hn1 : 1 ≤ n) (hn2 : n ≤ 200) (hlen : M.length = n) (hE : ∀ m ∈ M, m.1.n ≤ 16384) (off len e : Nat) (HARG : off ≤ m.1.n ∧ m.1.n ≤ e ∧ off + len = e ∧ e ≤ 16384)
    (pv : Option Addr) (cv : Nat) (s : Nat → Int) (w : World) (hs : B8 w pv len cv s) (h : Mm w r nb cap B M L) (hL : ∀ a ∈ L, a < w.heap.size) :
    Calls Tryz.prog 36 #[.pointer (some ⟨r, 0, none⟩), .int .i64 i, .int .i64 off, .slice pv len cv] w fun x w' => ∃ g2 c2, x = .returned (.int .i64 (if B < uBF 0 ((M.set i (⟨m.1.k, m.1.l, m.1.g, e⟩, (fun j => if j < off then m.2.1 j else s (j - off)), .slice (some ⟨g2, 0, none⟩) e c2, m.2.2.2)).map fun m => m.1) n then 10 else 0)) ∧ Mm w' r nb cap B (M.set i (⟨m.1.k, m.1.l, m.1.g, e⟩, (fun j => if j < off then m.2.1 j else s (j - off)), .slice (some ⟨g2, 0, none⟩) e c2, m.2.2.2)) L ∧ Kp w w' nb nb := by
  have HM := Lib.hid h
  have HL := Lib.hid hL
  have HE := Lib.hid hE
  have HMi := Lib.hid hm
  obtain ⟨i5, hi5, hz5, hs5, hb5⟩ := Tryz.info5i
  have HI5 := Lib.hid hi5
  have HZ5 := Lib.hid hz5
  have HS5 := Lib.hid hs5
  have HY5 := Lib.hid hb5
  obtain ⟨dG, hug, hdg⟩ := Tryz.descGr
  have HUG := Lib.hid hug
  have HDG := Lib.hid hdg
  have hil := (List.getElem?_eq_some_iff.1 hm).1
  rw [hlen] at hil
  have hi0 : (0 : Int) ≤ i := by omega
  have hi1 : (i : Int) < n := by omega
  have hby := h.bys m (List.mem_of_getElem? hm)
  have hmn := hE m (List.mem_of_getElem? hm)
  have hcc := h.at hm 3 (by decide) _ rfl
  obtain ⟨pl, cl, hpl⟩ := h.pl m (List.mem_of_getElem? hm)
  obtain ⟨⟨mk, ml, mg, k⟩, F, v, vp⟩ := m
  simp only at hby hmn hcc hpl hkd HARG
  subst hpl
  obtain ⟨pa, ca, rfl, hkc, hcm⟩ := hby.form
  unfold maxLen at hcm
  have c0 := h.at hm 0 (by decide) _ rfl
  have c3 := h.at hm 3 (by decide) _ rfl
  have q0 := h.vr.c 0 _ rfl
  rw [hlen] at q0
  rw [Nat.add_zero] at c0
  have z3 := h.thaw hm 3 (by decide)
  have hkb : (mk == 0) = false := beq_eq_false_iff_ne.2 hkd
  have HBY := Lib.hid hby
  have hk0 : (0 : Int) ≤ k := by omega
  have hk1 : (k : Int) ≤ 16384 := by omega
  have hbl : Below w.heap.size w (w.alloc (.cells #[] 5)) := (Below.refl _ _).alloc (Nat.le_refl _) _
  have HBL := Lib.hid hbl
  have HO0 := Lib.hid (ownsRow_zero w)
  have HBz := Lib.hid ((hby.b8 off (by omega)).keep hbl)
  have hrs := h.vr.lt
  have hns := h.vn.lt
  have HNE := Lib.hid h.ne
  have HLen := Lib.hid hlen
  clear hug hdg hi5 hz5 hs5 hb5 hby hcc hkd hbl hm hL hE h hlen
  have HS8 := Lib.hid hs
  obtain ⟨ho1, ho2, ho3, ho4⟩ := HARG
  have HEE := Lib.hid ho3
  have of0 : (0 : Int) ≤ off := by omega
  have of1 : (off : Int) ≤ k := by omega
  have le0 : (0 : Int) ≤ len := by omega
  have le1 : (len : Int) ≤ 16384 - off := by omega
  have d1 : decide ((off : Int) < 0) = false := decide_eq_false (by omega)
  have d2 : decide ((k : Int) < off) = false := decide_eq_false (by omega)
  have d3 : decide (16384 - (off : Int) < len) = false := decide_eq_false (by omega)
  have d4 : decide ((off : Int) + len < k) = false := decide_eq_false (by omega)
  clear hs ho3
  go_enter Tryz.func36, Tryz.ntmps36
  go_upto_region 12 with (first | (at_builtin; refine wpList_append_b8 _ rfl _ _ 24 rfl w.heap.size 5 i5 (.int .u8 0) Tryz.sl34 HI5.out HZ5.out HS5.out HY5.out rfl w.heap.size 0 0 [] rfl HO0.out pa off ca off (Nat.zero_add _) F rfl HBz.out (by omega) (by simp) ?_; intro g1 cap1 w5 hown hgr; have HO1 := Lib.hid hown; have HG1 := Lib.hid hgr; clear hown hgr; have HK5 := Lib.hid (HBL.out.trans ((Kp.of_grown HG1.out).below (Nat.le_refl _) (Nat.le_refl _) HBL.out.size)); simp only [Act.put, List.getElem_toArray, List.getElem_cons_zero, List.getElem_cons_succ, List.setIfInBounds_toArray, List.set_cons_zero, List.set_cons_succ]) | (at_builtin; refine wpList_append_b8 _ rfl _ _ 24 rfl w.heap.size 5 i5 (.int .u8 0) Tryz.sl34 HI5.out HZ5.out HS5.out HY5.out rfl g1 off cap1 _ rfl HO1.out pv len cv e HEE.out s rfl (HS8.out.keep HK5.out) (by omega) HK5.out.size ?_; intro g2 cap2 w6 hown hgr; have HO2 := Lib.hid hown; have HG2 := Lib.hid hgr; clear hown hgr; have HK6 := Lib.hid (HK5.out.trans ((Kp.of_grown HG2.out).below (World.ownsRow.lt HO1.out g1 rfl).1 (World.ownsRow.lt HO1.out g1 rfl).1 HK5.out.size)); have c6 := (HK6.out.cell (p := ⟨nb, i * 5 + 3, none⟩) hns).trans c3; have z6 := (HK6.out.frozen (p := ⟨nb, i * 5 + 3, none⟩) hns).trans z3; simp only [Act.put, List.getElem_toArray, List.getElem_cons_zero, List.getElem_cons_succ, List.setIfInBounds_toArray, List.set_cons_zero, List.set_cons_succ]))
  have hrow := HO2.out
  rw [sl5_byts, HEE.out] at hrow
  have hM6 := Mm.put2 HM.out HK6.out HL.out HMi.out e g2 cap2 _ hrow
  have hK6 : Kp w (w6.setCell ⟨nb, i * 5 + 3, none⟩ (.slice (some ⟨g2, 0, none⟩) e cap2)) nb nb := (Kp.of_below HK6.out nb nb).setA (i * 5 + 3) _
  simp only at hM6
  obtain ⟨w7, hw7⟩ : ∃ x, w6.setCell ⟨nb, i * 5 + 3, none⟩ (.slice (some ⟨g2, 0, none⟩) e cap2) = x := ⟨_, rfl⟩
  rw [hw7] at hM6 hK6 ⊢
  have HM7 := Lib.hid hM6
  have HK7 := Lib.hid hK6
  clear hw7 hrow hM6 hK6 c6 z6 c3 z3 c0 q0 HO2 HO1 HO0 HG1 HG2 HK5 HK6 HBz HS8 HBY HBL
  obtain ⟨M', hM'⟩ : ∃ x, M.set i (⟨mk, ml, mg, e⟩, (fun j => if j < off then F j else s (j - off)), .slice (some ⟨g2, 0, none⟩) e cap2, .slice pl 0 cl) = x := ⟨_, rfl⟩
  have HE' : Hid (∀ x ∈ M'.map fun m => m.1, x.n ≤ 16384) := Lib.hid (fun x hx => by
    obtain ⟨y, hy, rfl⟩ := List.mem_map.1 hx
    rw [← hM'] at hy
    rcases List.mem_or_eq_of_mem_set hy with hy | rfl
    · exact HE.out y hy
    · exact ho4)
  have hl7 : M'.length = n := by rw [← hM', List.length_set]; exact HLen.out
  rw [hM'] at HM7
  have HMM := Lib.hid hM'
  have HF := Lib.hid (ffull_any nb n cap 0 0 none B (M'.map fun m => m.1) _ hn1 hn2 (by decide) HE'.out w7 (HM7.out.nf n hl7))
  have hR := HM7.out.vr
  rw [hl7] at hR
  have HR := Lib.hid hR.range0
  clear hM' hR HE HMi HL HM hl7
  go_wp2_with (refine wpList_load_mid rfl 82 _ rfl r 0 rfl [.slice (some ⟨nb, 0, none⟩) n cap, .slice none 0 0, .int .i64 B] dG HR.out HUG.out HDG.out Tryz.isizeGr ?_)
  refine HF.out.mono ?_
  rintro x w8 ⟨rfl, hb⟩
  have HM8 := Lib.hid (HM7.out.keep hb)
  have HK8 := Lib.hid (HK7.out.trans (Kp.of_below hb nb nb))
  clear hb HF HR HM7 HK7
  by_cases hfull : B < uBF 0 (M'.map fun m => m.1) n
  · have hd : decide (B < uBF 0 (M'.map fun m => m.1) n) = true := decide_eq_true hfull
    have HFU := Lib.hid hfull
    clear hfull
    rw [hd]
    go_wp2_with fail
    go_ret
    exact ⟨g2, cap2, by rw [HMM.out, if_pos HFU.out]; rfl, by rw [HMM.out]; exact HM8.out, HK8.out⟩
  · have hd : decide (B < uBF 0 (M'.map fun m => m.1) n) = false := decide_eq_false hfull
    have HFU := Lib.hid hfull
    clear hfull
    rw [hd]
    go_wp2_with fail
    go_ret
    exact ⟨g2, cap2, by rw [HMM.out, if_neg (by have := HFU.out; omega)]; rfl, by rw [HMM.out]; exact HM8.out, HK8.out⟩
set_option maxHeartbeats 40000000 in
set_option maxRecDepth 200000 in
theorem rwrite_big (r nb cap n : Nat) (B : Int) (M : List Mf) (L : List Nat) (i : Nat) (m : Mf) (hm : M[i]? = some m) (hkd : ¬ m.1.k = 0) (hlen : M.length = n) (hE : ∀ m ∈ M, m.1.n ≤ 16384) (off len : Nat) (HARG : off ≤ m.1.n ∧ 16384 < off + len ∧ len ≤ 2000)
    (pv : Option Addr) (cv : Nat) (w : World) (h : Mm w r nb cap B M L) (hL : ∀ a ∈ L, a < w.heap.size) :
    Calls Tryz.prog 36 #[.pointer (some ⟨r, 0, none⟩), .int .i64 i, .int .i64 off, .slice pv len cv] w fun x w' => x = .returned (.int .i64 11) ∧ Below w.heap.size w w' := by
  have HM := Lib.hid h
  have HL := Lib.hid hL
  have HE := Lib.hid hE
  have HMi := Lib.hid hm
  obtain ⟨i5, hi5, hz5, hs5, hb5⟩ := Tryz.info5i
  have HI5 := Lib.hid hi5
  have HZ5 := Lib.hid hz5
  have HS5 := Lib.hid hs5
  have HY5 := Lib.hid hb5
  obtain ⟨dG, hug, hdg⟩ := Tryz.descGr
  have HUG := Lib.hid hug
  have HDG := Lib.hid hdg
  have hil := (List.getElem?_eq_some_iff.1 hm).1
  rw [hlen] at hil
  have hi0 : (0 : Int) ≤ i := by omega
  have hi1 : (i : Int) < n := by omega
  have hby := h.bys m (List.mem_of_getElem? hm)
  have hmn := hE m (List.mem_of_getElem? hm)
  have hcc := h.at hm 3 (by decide) _ rfl
  obtain ⟨pl, cl, hpl⟩ := h.pl m (List.mem_of_getElem? hm)
  obtain ⟨⟨mk, ml, mg, k⟩, F, v, vp⟩ := m
  simp only at hby hmn hcc hpl hkd HARG
  subst hpl
  obtain ⟨pa, ca, rfl, hkc, hcm⟩ := hby.form
  unfold maxLen at hcm
  have c0 := h.at hm 0 (by decide) _ rfl
  have c3 := h.at hm 3 (by decide) _ rfl
  have q0 := h.vr.c 0 _ rfl
  rw [hlen] at q0
  rw [Nat.add_zero] at c0
  have z3 := h.thaw hm 3 (by decide)
  have hkb : (mk == 0) = false := beq_eq_false_iff_ne.2 hkd
  have HBY := Lib.hid hby
  have hk0 : (0 : Int) ≤ k := by omega
  have hk1 : (k : Int) ≤ 16384 := by omega
  have hbl : Below w.heap.size w (w.alloc (.cells #[] 5)) := (Below.refl _ _).alloc (Nat.le_refl _) _
  have HBL := Lib.hid hbl
  have HO0 := Lib.hid (ownsRow_zero w)
  have HBz := Lib.hid ((hby.b8 0 (by omega)).keep hbl)
  have hrs := h.vr.lt
  have hns := h.vn.lt
  have HNE := Lib.hid h.ne
  have HLen := Lib.hid hlen
  clear hug hdg hi5 hz5 hs5 hb5 hby hcc hkd hbl hm hL hE h hlen
  obtain ⟨ho1, ho2, ho3⟩ := HARG
  have of0 : (0 : Int) ≤ off := by omega
  have of1 : (off : Int) ≤ k := by omega
  have le0 : (0 : Int) ≤ len := by omega
  have le1 : (len : Int) ≤ 2000 := by omega
  have d1 : decide ((off : Int) < 0) = false := decide_eq_false (by omega)
  have d2 : decide ((k : Int) < off) = false := decide_eq_false (by omega)
  have d3 : decide (16384 - (off : Int) < len) = true := decide_eq_true (by omega)
  go_enter Tryz.func36, Tryz.ntmps36
  go_wp2_with fail
  go_ret
  exact ⟨rfl, Below.refl _ _⟩
set_option maxHeartbeats 40000000 in
set_option maxRecDepth 200000 in
theorem rcut_in (r nb cap n : Nat) (B : Int) (M : List Mf) (L : List Nat) (i : Nat) (m : Mf) (hm : M[i]? = some m) (hkd : ¬ m.1.k = 0) (hlen : M.length = n) (hE : ∀ m ∈ M, m.1.n ≤ 16384) (x : Nat) (HARG : x ≤ m.1.n) (w : World) (h : Mm w r nb cap B M L) (hL : ∀ a ∈ L, a < w.heap.size) :
    Calls Tryz.prog 30 #[.pointer (some ⟨r, 0, none⟩), .int .i64 i, .int .i64 x] w fun e w' => ∃ g2 c2, e = .returned (.int .i64 0) ∧ Mm w' r nb cap B (M.set i (⟨m.1.k, m.1.l, m.1.g, x⟩, m.2.1, .slice (some ⟨g2, 0, none⟩) x c2, m.2.2.2)) L ∧ Kp w w' nb nb := by
  have HM := Lib.hid h
  have HL := Lib.hid hL
  have HE := Lib.hid hE
  have HMi := Lib.hid hm
  obtain ⟨i5, hi5, hz5, hs5, hb5⟩ := Tryz.info5i
  have HI5 := Lib.hid hi5
  have HZ5 := Lib.hid hz5
  have HS5 := Lib.hid hs5
  have HY5 := Lib.hid hb5
  obtain ⟨dG, hug, hdg⟩ := Tryz.descGr
  have HUG := Lib.hid hug
  have HDG := Lib.hid hdg
  have hil := (List.getElem?_eq_some_iff.1 hm).1
  rw [hlen] at hil
  have hi0 : (0 : Int) ≤ i := by omega
  have hi1 : (i : Int) < n := by omega
  have hby := h.bys m (List.mem_of_getElem? hm)
  have hmn := hE m (List.mem_of_getElem? hm)
  have hcc := h.at hm 3 (by decide) _ rfl
  obtain ⟨pl, cl, hpl⟩ := h.pl m (List.mem_of_getElem? hm)
  obtain ⟨⟨mk, ml, mg, k⟩, F, v, vp⟩ := m
  simp only at hby hmn hcc hpl hkd HARG
  subst hpl
  obtain ⟨pa, ca, rfl, hkc, hcm⟩ := hby.form
  unfold maxLen at hcm
  have c0 := h.at hm 0 (by decide) _ rfl
  have c3 := h.at hm 3 (by decide) _ rfl
  have q0 := h.vr.c 0 _ rfl
  rw [hlen] at q0
  rw [Nat.add_zero] at c0
  have z3 := h.thaw hm 3 (by decide)
  have hkb : (mk == 0) = false := beq_eq_false_iff_ne.2 hkd
  have HBY := Lib.hid hby
  have hk0 : (0 : Int) ≤ k := by omega
  have hk1 : (k : Int) ≤ 16384 := by omega
  have hbl : Below w.heap.size w (w.alloc (.cells #[] 5)) := (Below.refl _ _).alloc (Nat.le_refl _) _
  have HBL := Lib.hid hbl
  have HO0 := Lib.hid (ownsRow_zero w)
  have HBz := Lib.hid ((hby.b8 x (by omega)).keep hbl)
  have hrs := h.vr.lt
  have hns := h.vn.lt
  have HNE := Lib.hid h.ne
  have HLen := Lib.hid hlen
  clear hug hdg hi5 hz5 hs5 hb5 hby hcc hkd hbl hm hL hE h hlen
  have x0 : (0 : Int) ≤ x := by omega
  have x1 : (x : Int) ≤ k := by omega
  have d1 : decide ((x : Int) < 0) = false := decide_eq_false (by omega)
  have d2 : decide ((k : Int) < x) = false := decide_eq_false (by omega)
  go_enter Tryz.func30, Tryz.ntmps30
  go_upto_region 7 with (first | (at_builtin; refine wpList_append_b8 _ rfl _ _ 24 rfl w.heap.size 5 i5 (.int .u8 0) Tryz.sl34 HI5.out HZ5.out HS5.out HY5.out rfl w.heap.size 0 0 [] rfl HO0.out pa x ca x (Nat.zero_add _) F rfl HBz.out (by omega) (by simp) ?_; intro g1 cap1 w5 hown hgr; have HO1 := Lib.hid hown; have HG1 := Lib.hid hgr; clear hown hgr; have HK5 := Lib.hid (HBL.out.trans ((Kp.of_grown HG1.out).below (Nat.le_refl _) (Nat.le_refl _) HBL.out.size)); have c6 := (HK5.out.cell (p := ⟨nb, i * 5 + 3, none⟩) hns).trans c3; have z6 := (HK5.out.frozen (p := ⟨nb, i * 5 + 3, none⟩) hns).trans z3; simp only [Act.put, List.getElem_toArray, List.getElem_cons_zero, List.getElem_cons_succ, List.setIfInBounds_toArray, List.set_cons_zero, List.set_cons_succ]))
  have hrow := HO1.out
  rw [List.nil_append] at hrow
  have hM6 := Mm.put2 HM.out HK5.out HL.out HMi.out x g1 cap1 _ hrow
  have hK6 : Kp w (w5.setCell ⟨nb, i * 5 + 3, none⟩ (.slice (some ⟨g1, 0, none⟩) x cap1)) nb nb := (Kp.of_below HK5.out nb nb).setA (i * 5 + 3) _
  simp only at hM6
  have HM7 := Lib.hid hM6
  have HK7 := Lib.hid hK6
  clear hrow hM6 hK6
  go_wp2_with fail
  go_ret
  exact ⟨rfl, ⟨g1, cap1, HM7.out⟩, HK7.out⟩
end Go.Proofs.YtbnpgkclnebnmaaGreat

namespace Go.Proofs.YtbnpgkclnebnmaaGreat
set_option linter.unusedSimpArgs false
set_option linter.unusedVariables false
open Go.RowKit Go.Maps

def RBc (bl : Nat) : Cf.Rg := ⟨⟨#[108, 111, 119]⟩, 0, 0, bl, 8, 1, 1, 1, 0⟩
def RB (bl : Nat) : List Cf.Rg := [RBc bl]
theorem RB_small (bl : Nat) (h4 : 4 ≤ bl) (h5 : bl ≤ 512) : ∀ r ∈ RB bl, Cf.Small r := fun r hr => by
  unfold RB at hr
  rw [List.mem_singleton] at hr
  subst hr
  exact ⟨by show (4 : Int) ≤ (bl : Int); omega, by show (bl : Int) ≤ 512; omega, by show (4 : Int) ≤ 8; decide, by show (8 : Int) ≤ 128; decide⟩
theorem RB_ok (bl : Nat) : ∀ r ∈ RB bl, Cf.Rg.ok r := fun r hr => by
  unfold RB at hr
  rw [List.mem_singleton] at hr
  subst hr
  exact ⟨by show 3 ≤ maxLen; decide, by show (0 : Int) ≤ 0; decide, by show (0 : Int) < 256; decide, by show (0 : Int) ≤ 0; decide, by show (0 : Int) < 65536; decide⟩
theorem RB_new (bl : Nat) (h : bl = 270 ∨ bl = 300) : Cf.newE (RB bl) [] = 0 := by
  rcases h with rfl | rfl <;> decide +kernel
/-- what is known of that configuration, and of its label's group -/
structure CO (bl N : Nat) (g : Cf.Ge) (B0 P0 DA : Nat) : Prop where
  hN : (Cf.layF (RB bl)).2 = N
  n0 : 32 ≤ N
  n1 : N ≤ 65536
  hg : (Cf.layF (RB bl)).1[0]'(by rw [Cf.lay_len]; exact Nat.one_pos) = g
  gg : GG g B0 P0 8 DA bl N
theorem co_any (bl : Nat) (h4 : 4 ≤ bl) (h5 : bl ≤ 512) : ∃ N g B0 P0 DA, CO bl N g B0 P0 DA := by
  have hs := RB_small bl h4 h5
  have hl : (RB bl).length = 1 := rfl
  have hT := Cf.layF_range (RB bl) hs (RB bl).length (Nat.le_refl _)
  rw [List.take_length] at hT
  obtain ⟨N, hN⟩ := Int.eq_ofNat_of_zero_le (show 0 ≤ (Cf.layF (RB bl)).2 by omega)
  obtain ⟨g, hgi⟩ : ∃ g, (Cf.layF (RB bl)).1[0]'(by rw [Cf.lay_len]; exact Nat.one_pos) = g := ⟨_, rfl⟩
  obtain ⟨B0, P0, M, DA, NB, hg, hbl, hnd⟩ := geo_gg (RB bl) hs (by rw [hl]; decide) N hN 0 (by rw [hl]; decide) g hgi
  have e1 : ((RB bl)[0]'(by rw [hl]; decide)).bl = bl := rfl
  have e2 : ((RB bl)[0]'(by rw [hl]; decide)).nd = 8 := rfl
  rw [e1] at hbl
  rw [e2] at hnd
  obtain rfl : NB = bl := by omega
  obtain rfl : M = 8 := by omega
  exact ⟨N, g, B0, P0, DA, hN, by omega, by omega, hgi, hg⟩
theorem freshO {bl N : Nat} {g : Cf.Ge} {B0 P0 DA : Nat} (h4 : 4 ≤ bl) (h5 : bl ≤ 512) (hc : CO bl N g B0 P0 DA) (n : Nat) (vr vm vg : Value) (w : World) (h : Cf.CF n w vr vm vg (RB bl) []) :
    Calls Tryz.prog 25 #[.pointer (some ⟨n + 3, 0, none⟩)] w fun e w' => ∃ t m d g' l Y, e = .returned (.tuple #[.pointer (some ⟨d, 0, none⟩), .pointer (some ⟨l, 0, none⟩), .pointer (some ⟨t, 0, none⟩)]) ∧ From w.heap.size t m d g' ∧ w.heap.size ≤ l ∧ l ∉ [t, m, d, g'] ∧ Lg w' l d 1 ∧ Rd w' t m d g' N ⟨[], Y⟩ Y 7000 ∧ Tab P0 8 Y (VF 3) ∧ (∀ j, j < 512 → bt Y B0 j = false) ∧ Below w.heap.size w w' := by
  have hl : (RB bl).length = 1 := rfl
  refine (fresh_any n vr vm vg (RB bl) [] (RB_small bl h4 h5) (by rw [hl]; decide) (by rw [hl]; decide) N hc.hN hc.n0 hc.n1 w h).mono ?_
  rintro e w' ⟨t, m, d, g', l, Y, he, h1, h2, h3, h4, h5, h6, h7⟩
  have h8 := h6.done 0 (by rw [hl]; decide) (by rw [hl]; decide)
  rw [hc.hg] at h8
  obtain ⟨h9, h10⟩ := h8 B0 P0 8 DA bl hc.gg
  exact ⟨t, m, d, g', l, Y, he, h1, h2, h3, h4, h5, h9, h10, h7⟩
theorem openO {bl N : Nat} {g : Cf.Ge} {B0 P0 DA : Nat} (hc : CO bl N g B0 P0 DA) (ln : Lm) (t m d gg n K : Nat) (Y : Nat → Nat → Int) (vr vm vg : Value) (w : World) (h : Cf.CF n w vr vm vg (RB bl) []) (hr : Rd w t m d gg N ln Y K) :
    Calls Tryz.prog 13 #[.pointer (some ⟨t, 0, none⟩), .pointer (some ⟨n + 3, 0, none⟩), .int .i64 0] w fun e w' => ∃ q p, e = .returned (.tuple #[.pointer (some ⟨q, 0, none⟩), .int .i64 0]) ∧ w.heap.size ≤ q ∧ w.heap.size ≤ p ∧ Gr w' q p t m d gg 0 g B0 bl N ln Y K ∧ Below w.heap.size w w' :=
  gopen_in (ln := ln) t m d gg n B0 P0 8 DA bl N K Y vr vm vg (RB bl) [] 0 Nat.one_pos g hc.hg hc.gg w h hr
/-- slots that a write of at most 1024 bytes touches, from a block on -/
def LQ (a : Nat) : List Nat := 2000 :: 2001 :: (2002 + (a - 38) / 32) :: (2003 + (a - 38) / 32) :: List.range' a 17
theorem LQ_len (a : Nat) : (LQ a).length = 21 := by
  unfold LQ
  simp
theorem LQ_mem (a c : Nat) : c ∈ LQ a ↔ c = 2000 ∨ c = 2001 ∨ c = 2002 + (a - 38) / 32 ∨ c = 2003 + (a - 38) / 32 ∨ a ≤ c ∧ c < a + 17 := by
  unfold LQ
  simp [List.mem_range'_1]
theorem LQ_has (off len : Nat) (hl : len ≤ 1024) (hol : off + len ≤ 16384) (c : Nat) (h1 : off / 64 ≤ c) (h2 : 64 * c < off + len) (i : Nat) (hi : i ≤ lenC c) : chS c i ∈ LQ (off / 64) := by
  have := (chS_cases c (by omega) (chS c i)).1 ⟨i, hi, rfl⟩
  rw [LQ_mem]
  omega
/-- the slots of a file of so many blocks -/
def SL (n : Nat) : List Nat := List.range n ++ ((if 6 < n then [2000] else []) ++ (if 38 < n then 2001 :: List.range' 2002 ((n - 38 + 31) / 32) else []))
theorem SL_mem (n c : Nat) (hn : n ≤ 256) : c ∈ SL n ↔ ndS n c = true := by
  rw [ndS_iff]
  unfold SL
  rw [List.mem_append, List.mem_append, List.mem_range]
  by_cases h6 : 6 < n
  · rw [if_pos h6]
    by_cases h38 : 38 < n
    · rw [if_pos h38]
      simp only [List.mem_cons, List.not_mem_nil, or_false, List.mem_range'_1]
      omega
    · rw [if_neg h38]
      simp only [List.mem_cons, List.not_mem_nil, or_false]
      omega
  · rw [if_neg h6, if_neg (show ¬ 38 < n by omega)]
    simp only [List.not_mem_nil, or_false]
    omega
theorem SL_nodup (n : Nat) (hn : n ≤ 256) : (SL n).Nodup := by
  unfold SL
  rw [List.nodup_append, List.nodup_append]
  refine ⟨List.nodup_range, ⟨?_, ?_, fun a ha b hb => ?_⟩, fun a ha b hb => ?_⟩
  · split <;> simp
  · split
    · rw [List.nodup_cons]
      refine ⟨fun h => ?_, List.nodup_range'⟩
      rw [List.mem_range'_1] at h
      omega
    · exact List.nodup_nil
  · by_cases h6 : 6 < n
    · rw [if_pos h6] at ha
      by_cases h38 : 38 < n
      · rw [if_pos h38] at hb
        simp only [List.mem_cons, List.not_mem_nil, or_false, List.mem_range'_1] at ha hb
        omega
      · rw [if_neg h38] at hb
        cases hb
    · rw [if_neg h6] at ha
      cases ha
  · rw [List.mem_range] at ha
    rw [List.mem_append] at hb
    by_cases h6 : 6 < n
    · by_cases h38 : 38 < n
      · rw [if_pos h6, if_pos h38] at hb
        simp only [List.mem_cons, List.not_mem_nil, or_false, List.mem_range'_1] at hb
        omega
      · rw [if_pos h6, if_neg h38] at hb
        simp only [List.mem_cons, List.not_mem_nil, or_false] at hb
        omega
    · rw [if_neg h6, if_neg (show ¬ 38 < n by omega)] at hb
      simp at hb
/-- how many blocks: of data, of pointers -/
def ptsN (n : Nat) : Nat := if n ≤ 6 then 0 else if n ≤ 38 then 1 else 2 + (n - 38 + 31) / 32
theorem ptsN_le (n : Nat) (h : n ≤ 256) : ptsN n ≤ 9 := by
  unfold ptsN
  split
  · omega
  · split <;> omega
theorem SL_len (n : Nat) : (SL n).length = n + ptsN n := by
  unfold SL ptsN
  by_cases h6 : 6 < n
  · by_cases h38 : 38 < n
    · rw [if_pos h6, if_pos h38, if_neg (by omega), if_neg (by omega)]
      simp
      omega
    · rw [if_pos h6, if_neg h38, if_neg (by omega), if_pos (by omega)]
      simp
  · rw [if_neg h6, if_neg (show ¬ 38 < n by omega), if_pos (by omega)]
    simp
/-- one file, node 3: its blocks are all that are taken -/
structure St (B0 P0 DA NB : Nat) (Y V : Nat → Nat → Int) (B : Nat → Nat) (sz : Nat) (X : Nat → Int) : Prop where
  tab : Tab P0 8 Y V
  fu : Fu B0 DA NB Y (V 3) (ndS ((sz + 63) / 64)) B
  k : V 3 0 = 1
  l : V 3 1 = 1
  s : V 3 3 = sz
  s2 : sz ≤ 16384
  bit : ∀ j, j < NB → (bt Y B0 j = true ↔ ∃ c, ndS ((sz + 63) / 64) c = true ∧ B c = j + 1)
  ct : ∀ i, i < 64 * ((sz + 63) / 64) → ctF DA Y B i = if i < sz then X i else 0
theorem St.start {B0 P0 DA NB : Nat} {Y : Nat → Nat → Int} (h : Tab P0 8 Y (VF 3)) (hb : ∀ j, j < 512 → bt Y B0 j = false) (hN : NB ≤ 512) (B : Nat → Nat) (X : Nat → Int) : St B0 P0 DA NB Y (VF 3) B 0 X := by
  refine ⟨h, ?_, by rw [VF3]; rfl, by rw [VF3]; rfl, by rw [VF3]; rfl, by decide, fun j hj => ?_, fun i hi => absurd hi (by omega)⟩
  · rw [VF3]
    exact Fu.none B0 DA NB Y (own 1) B (fun i h4 _ => own_noblocks 1 i h4)
  · rw [hb j (by omega)]
    constructor
    · intro h
      cases h
    · rintro ⟨c, h1, -⟩
      rw [ndS_iff] at h1
      omega
theorem St.count {B0 P0 DA NB : Nat} {Y V : Nat → Nat → Int} {B : Nat → Nat} {sz : Nat} {X : Nat → Int} (h : St B0 P0 DA NB Y V B sz X) : (setL (bt Y B0) NB).length = (sz + 63) / 64 + ptsN ((sz + 63) / 64) := by
  obtain ⟨n, hn⟩ : ∃ n, (sz + 63) / 64 = n := ⟨_, rfl⟩
  have h256 : n ≤ 256 := by have := h.s2; omega
  have hbit := h.bit
  have hfi := h.fu.fi
  have hus := h.fu.us
  rw [hn] at hbit hfi hus
  rw [hn, ← SL_len n]
  apply Nat.le_antisymm
  · have hm : (setL (bt Y B0) NB).length ≤ ((SL n).map fun c => B c - 1).length := nodup_le _ _ (List.nodup_range.filter _) (fun a ha => by
      unfold setL at ha
      rw [List.mem_filter, List.mem_range] at ha
      obtain ⟨c, h1, h2⟩ := (hbit a ha.1).1 ha.2
      rw [List.mem_map]
      exact ⟨c, (SL_mem n c h256).2 h1, by omega⟩)
    rw [List.length_map] at hm
    exact hm
  · have hnd : ((SL n).map fun c => B c - 1).Nodup := by
      unfold List.Nodup
      rw [List.pairwise_map]
      refine List.Pairwise.imp_of_mem (R := fun a b => a ≠ b) (fun {a b} ha hb hab he => hab ?_) (SL_nodup n h256)
      have h1 := (SL_mem n a h256).1 ha
      have h2 := (SL_mem n b h256).1 hb
      have r1 := hfi.rng a h1
      have r2 := hfi.rng b h2
      exact hfi.inj a b h1 h2 (by omega)
    have hm := nodup_le _ (setL (bt Y B0) NB) hnd (fun a ha => by
      obtain ⟨c, hc, rfl⟩ := List.mem_map.1 ha
      have h1 := (SL_mem n c h256).1 hc
      have r1 := hfi.rng c h1
      unfold setL
      rw [List.mem_filter, List.mem_range]
      exact ⟨by omega, hus c h1⟩)
    rw [List.length_map] at hm
    exact hm
/-- a write at its end -/
theorem writeO {bl N : Nat} {g : Cf.Ge} {B0 P0 DA : Nat} (hc : CO bl N g B0 P0 DA) (h270 : 270 ≤ bl) (q p t m d gg K : Nat) (Y0 V D : Nat → Nat → Int) (b0 : Nat → Nat) (sz : Nat) (X : Nat → Int) (hS : St B0 P0 DA bl Y0 V b0 sz X) (hK : K < 260000000) (w : World) (h : Gr w q p t m d gg 0 g B0 bl N ⟨dl B0 (P0 + 1) DA b0 (ndS ((sz + 63) / 64)) (LQ (sz / 64)), D⟩ Y0 K)
    (len : Nat) (hl : len ≤ 1024) (hol : sz + len ≤ 16384) (v : Value) (s : Nat → Int) (hs : ∀ j, j < len → 0 ≤ s j ∧ s j < 256) (hv : Src w v len s [t, m, d, gg]) :
    Calls Tryz.prog 35 #[.pointer (some ⟨q, 0, none⟩), .int .i64 3, .int .i64 sz, v] w fun e w' => ∃ (Y V' : Nat → Nat → Int) (B : Nat → Nat), e = .returned (.int .i64 0) ∧ Gr w' q p t m d gg 0 g B0 bl N ⟨dl B0 (P0 + 1) DA B (ndS ((sz + len + 63) / 64)) (LQ (sz / 64)), D⟩ Y (K + 25000) ∧ Kf w w' [t, m, d, gg] ∧ St B0 P0 DA bl Y V' B (sz + len) (fun i => if i < sz then X i else s (i - sz)) := by
  have hmax : max sz (sz + len) = sz + len := by omega
  have := fwrite_in q p t m d gg 0 B0 P0 8 DA bl N K (P0 + 1) g Y0 V b0 (LQ (sz / 64)) D (by rw [LQ_len]; decide) 3 rfl (by decide) (by decide) (by rw [hS.k]; decide) (by rw [hS.l]; decide) sz hS.s hS.fu hS.tab hK hc.gg w h sz len (Nat.le_refl _) (by omega) hol hS.s2
    (by
      rw [hmax, hS.k]
      show mbl 1 ((sz + len : Nat) : Int) = true
      unfold mbl
      rw [if_pos rfl]
      exact decide_eq_true (by omega)) (fun c h1 h2 i hi => LQ_has sz len hl hol c h1 h2 i hi) v s hs hv
  rw [hmax] at this
  refine this.mono ?_
  rintro e w' (⟨Y, f, B, rfl, hG, hk, hT, hF, h0, h1, -, h3, hB, hy, hu, hfr, hct⟩ | ⟨Y, ln, B, n, -, -, -, -, hall, hn1, -, hn0, -, -, hu, -⟩)
  · have hv3 : vput 3 f V 3 = f := vput_at _ _ _
    refine ⟨Y, vput 3 f V, B, rfl, hG, hk, ⟨hT, by rw [hv3]; exact hF, by rw [hv3, h0, hS.k], by rw [hv3, h1, hS.l], by rw [hv3, h3], hol, fun j hj => ?_, fun i hi => ?_⟩⟩
    · rw [hu j hj, hS.bit j hj]
      constructor
      · rintro (⟨c, h1, h2⟩ | ⟨c, h1, -, h2⟩)
        · exact ⟨c, ndS_mono (by omega) c h1, by rw [hB c h1]; exact h2⟩
        · exact ⟨c, h1, h2⟩
      · rintro ⟨c, h1, h2⟩
        by_cases hh : ndS ((sz + 63) / 64) c = true
        · exact .inl ⟨c, hh, by rw [← hB c hh]; exact h2⟩
        · exact .inr ⟨c, h1, by simpa using hh, h2⟩
    · rw [hct i hi]
      by_cases e1 : sz ≤ i ∧ i < sz + len
      · rw [if_pos e1, if_pos e1.2, if_neg (by omega)]
      · rw [if_neg e1]
        by_cases e2 : i < 64 * ((sz + 63) / 64)
        · rw [if_pos e2, hS.ct i e2]
          by_cases e3 : i < sz
          · rw [if_pos e3, if_pos (by omega), if_pos e3]
          · rw [if_neg e3, if_neg (by omega)]
        · rw [if_neg e2, if_neg (by omega)]
  · exfalso
    have h256 : (sz + len + 63) / 64 ≤ 256 := by omega
    have := no_space bl n B (SL ((sz + len + 63) / 64)) (fun c hc2 => (SL_mem _ c h256).2 (hn1 c hc2)) (fun j hj => by
      have := (hu j hj).1 (hall j hj)
      rw [hS.bit j hj] at this
      rcases this with ⟨c, h1, h2⟩ | ⟨c, h1, -, h2⟩
      · have := hn0 c h1
        exact ⟨c, this.1, by rw [this.2]; exact h2⟩
      · exact ⟨c, h1, h2⟩)
    rw [SL_len] at this
    have := ptsN_le _ h256
    omega
end Go.Proofs.YtbnpgkclnebnmaaGreat

namespace Go.Proofs.YtbnpgkclnebnmaaGreat
set_option linter.unusedSimpArgs false
set_option linter.unusedVariables false
open Go.RowKit Go.Maps

def byF (b : Int) (i : Nat) : Int := (b + 7 * i) % 256
theorem byF_bd (b : Int) (i : Nat) : 0 ≤ byF b i ∧ byF b i < 256 := by
  unfold byF
  omega
theorem run_maken (w : World) (c : Nat) (hc : c ≤ 65536) : (Instr.makeSlice 24 (.int .i64 (c : Int)) (.int .i64 (c : Int))).run Tryz.prog w = .ok (.slice (some ⟨w.heap.size, 0, none⟩) c c) (w.alloc (.cells (madeCells #[.int .u8 0] c) 5)) := by
  obtain ⟨i, hi, hz, hs, hb⟩ := Tryz.info5i
  have := run_make (P := Tryz.prog) w 24 5 i _ (by kernel_rfl) hi hz .i64 .i64 c c (by omega) (by omega) (by rw [hb]; omega) (by omega)
  simp only [hs, Int.toNat_natCast, Nat.mul_one] at this
  exact this
set_option maxHeartbeats 40000000 in
set_option maxRecDepth 200000 in
theorem bytes_any (n : Nat) (hn : n ≤ 2000) (b : Int) (w : World) :
    Calls Tryz.prog 34 #[.int .i64 n, .int .u8 b] w fun e w' => ∃ g, e = .returned (.slice (some ⟨g, 0, none⟩) n n) ∧ w.heap.size ≤ g ∧ Fl w' g n (byF b) ∧ Below w.heap.size w w' := by
  have hn0 : (0 : Int) ≤ n := by omega
  have hn1 : (n : Int) ≤ 2000 := by omega
  have hmk := run_maken w n (by omega)
  go_enter Tryz.func34, Tryz.ntmps34
  go_upto_region 2 with fail
  clear hmk
  have hF := Fl.zeros w n
  have hB : Below w.heap.size w (w.alloc (.cells (madeCells #[.int .u8 0] n) 5)) := (Below.refl _ _).alloc (Nat.le_refl _) _
  have HF := Lib.hid hF
  have HB := Lib.hid hB
  obtain ⟨w1, hw1⟩ : ∃ x, w.alloc (.cells (madeCells #[.int .u8 0] n) 5) = x := ⟨_, rfl⟩
  obtain ⟨g, hg⟩ : ∃ x, w.heap.size = x := ⟨_, rfl⟩
  rw [hw1] at HF HB ⊢
  rw [hg] at HF HB
  rw [hg]
  clear hF hB hw1
  go_wp2_with fail
  go_loopw [6, 11] (fun _ y wr => ∃ k : Nat, k ≤ n ∧ y = .int .i64 k ∧ Kp w1 wr g g ∧ Fl wr g n (fun j => if j < k then byF b j else 0)) (fun _ y _ => n - (Go.RowKit.intOf y).toNat)
  case atStart => exact ⟨0, Nat.zero_le _, rfl, Kp.refl _ _ _, HF.out.congr (fun j _ => by rw [if_neg (Nat.not_lt_zero _)])⟩
  case round =>
    obtain ⟨k, hk, rfl, hKp, hFk⟩ := hrel
    have HKp := Lib.hid hKp
    have HFk := Lib.hid hFk
    clear hKp hFk
    by_cases hlt : k < n
    · have hk0 : (0 : Int) ≤ k := by omega
      have hk1 : (k : Int) < n := by omega
      have zk := HFk.out.z k hlt
      have ck := HFk.out.c k hlt
      go_wp2_with fail
      go_roundw
      case rel =>
        refine ⟨k + 1, by omega, by go_num, HKp.out.setA k _, (HFk.out.set k hlt _).congr (fun j hj => ?_)⟩
        by_cases e : j = k
        · subst e
          rw [if_pos rfl, if_pos (by omega)]
          unfold byF
          first | omega | (simp [IntKind.wrap, IntKind.bits, IntKind.signed]; omega)
        · rw [if_neg e]
          by_cases e2 : j < k
          · rw [if_pos e2, if_pos (by omega)]
          · rw [if_neg e2, if_neg (by omega)]
      case measure => simp [Go.RowKit.intOf]; omega
    obtain rfl : n = k := by omega
    have HB2 := Lib.hid (HB.out.trans (HKp.out.below (Nat.le_refl _) (Nat.le_refl _) (by have := HB.out.size; omega)))
    have HF2 := Lib.hid (HFk.out.congr (f' := byF b) (fun j hj => if_pos hj))
    clear HB HF HKp HFk
    go_wp2_with fail
    go_ret
    exact ⟨g, rfl, by omega, HF2.out, by rw [hg]; exact HB2.out⟩
end Go.Proofs.YtbnpgkclnebnmaaGreat

namespace Go.Proofs.YtbnpgkclnebnmaaGreat
set_option linter.unusedSimpArgs false
set_option linter.unusedVariables false
open Go.RowKit Go.Maps

theorem Tryz.arrWy : Tryz.prog.underlying 181 = some (.array 3 3) := by kernel_rfl
theorem Tryz.int3 : Tryz.prog.underlying 3 = some (.int .i64) := by kernel_rfl
theorem Tryz.cells3 : Tryz.prog.cellsOf 3 = 1 := by kernel_rfl
theorem Tryz.guardWy : Tryz.prog.eqGuardType Tryz.prog.depth 181 = false := by kernel_rfl
def eqW (a b c x y z : Int) : Bool := (a == x) && ((b == y) && (c == z))
theorem eqWy (a b c x y z : Int) (w : World) : (Op.equalIn 10000 181 (.agg (wyc a b c).toArray) (.agg (wyc x y z).toArray)).run Tryz.prog w = .ok (eqW a b c x y z) w := by
  obtain ⟨i, hi⟩ : ∃ i, Tryz.prog.info? 3 = some i := by
    have := Tryz.isizeInt
    cases h : Tryz.prog.info? 3 with
    | none => simp [h] at this
    | some i => exact ⟨i, rfl⟩
  rw [run_equalIn_array w 9999 (wyc a b c).toArray (wyc x y z).toArray Tryz.arrWy hi, Tryz.cells3]
  have hag : (isAgg 3).run Tryz.prog w = .ok false w := by
    unfold isAgg
    rw [Sem.run_bind, run_underlying Tryz.int3 w]
    rfl
  have p : ∀ (i : Nat) (v : Value) (a b c : Int), (wyc a b c)[i]? = some v → (part 3 (wyc a b c).toArray (i * 1)).run Tryz.prog w = .ok v w := fun i v a b c h => by
    simp [part, Sem.run_bind, hag, h]
  have q : ∀ (i : Nat) (is : List Nat) (u v : Int), (wyc a b c)[i]? = some (.int .i64 u) → (wyc x y z)[i]? = some (.int .i64 v) → (Op.eqItems 9999 3 1 (wyc a b c).toArray (wyc x y z).toArray (i :: is)).run Tryz.prog w = if (u == v) = true then (Op.eqItems 9999 3 1 (wyc a b c).toArray (wyc x y z).toArray is).run Tryz.prog w else .ok false w := fun i is u v h1 h2 => by
    simp only [Op.eqItems, Sem.run_bind, p i _ _ _ _ h1, p i _ _ _ _ h2, Result.andThen_ok, run_equalIn_int w 9998 3 .i64 .i64 _ _ Tryz.int3]
    cases hb : (u == v) <;> simp
  rw [show List.range 3 = [0, 1, 2] from rfl, q 0 _ a x rfl rfl, q 1 _ b y rfl rfl, q 2 _ c z rfl rfl]
  have h0 : (Op.eqItems 9999 3 1 (wyc a b c).toArray (wyc x y z).toArray []).run Tryz.prog w = .ok true w := by simp [Op.eqItems]
  rw [h0]
  unfold eqW
  cases h1 : (a == x) <;> cases h2 : (b == y) <;> cases h3 : (c == z) <;> rfl
set_option maxHeartbeats 8000000 in
set_option maxRecDepth 100000 in
theorem passes_gen (a b c x y z u1 u2 u3 n : Int)
    (hst : ∀ W, Calls Tryz.prog 118 #[.agg (wyc x y z).toArray] W fun e w' => e = .returned (.int .i64 n) ∧ Below W.heap.size W w')
    (hfi : ∀ W, Calls Tryz.prog 129 #[.agg (wyc a b c).toArray, .int .i64 n] W fun e w' => e = .returned (.agg (wyc u1 u2 u3).toArray) ∧ Below W.heap.size W w') (w : World) :
    Calls Tryz.prog 106 #[.agg (wyc a b c).toArray, .agg (wyc x y z).toArray] w fun e w' => e = .returned (.bool (eqW u1 u2 u3 x y z)) ∧ Below w.heap.size w w' := by
  obtain ⟨d, hu, hd⟩ := Tryz.descWy
  have HU := Lib.hid hu
  have HD := Lib.hid hd
  have HST := Lib.hid hst
  have HFI := Lib.hid hfi
  have HEQ := Lib.hid (fun W => eqWy u1 u2 u3 x y z W)
  obtain ⟨eb, heb⟩ : ∃ e, eqW u1 u2 u3 x y z = e := ⟨_, rfl⟩
  rw [heb] at HEQ ⊢
  clear hu hd hst hfi heb
  go_enter Tryz.func106, Tryz.ntmps106
  go_upto_region 1 with (first | (refine wpList_box_list (w := w) rfl 181 _ rfl (wyc a b c) rfl ?_; intro w1 F1 hb1 hz1; have HB1 := Lib.hid hb1; have hq1 : w.heap.size < w1.heap.size := (by omega); clear hb1 hz1) | (refine wpList_box_list (w := w1) rfl 181 _ rfl (wyc x y z) rfl ?_; intro w2 F2 hb2 hz2; have HB2 := Lib.hid hb2; have hq2 : w1.heap.size < w2.heap.size := (by omega); clear hb2 hz2))
  obtain ⟨b1, hb1⟩ : ∃ b, w.heap.size = b := ⟨_, rfl⟩
  obtain ⟨b2, hb2⟩ : ∃ b, w1.heap.size = b := ⟨_, rfl⟩
  have G1 := Lib.hid (F1.out.keep HB2.out)
  have HB := Lib.hid (HB1.out.trans (HB2.out.mono HB1.out.size))
  rw [hb1, hb2] at hq1
  rw [hb2] at hq2
  rw [hb1] at G1 HB
  rw [hb2] at F2
  have HW := Lib.hid hb1
  try rw [hb1]
  try rw [hb2]
  clear hb1 hb2 HB1 HB2 F1
  refine wp_region_held (S := fun W => Vl W b1 (wyc a b c) ∧ Vl W b2 (wyc x y z) ∧ Below b1 w W) (by kernel_rfl) ?_
  change wpAnyH _ _ _ _ _ _ _ _ (World.drew _)
  have hS0 : (fun W => Vl W b1 (wyc a b c) ∧ Vl W b2 (wyc x y z) ∧ Below b1 w W) w2.drew := ⟨G1.out.keep (Below.refl _ _).drew, F2.out.keep (Below.refl _ _).drew, HB.out.drew⟩
  obtain ⟨w3, hw3⟩ : ∃ x, World.drew w2 = x := ⟨_, rfl⟩
  rw [hw3] at hS0 ⊢
  clear hw3
  refine wpAnyH_take (i := 0) (v := .agg (wyc a b c).toArray) rfl (by kernel_rfl) (by kernel_rfl) (by kernel_rfl) (fun _ _ _ h => h) ?_ hS0 ?_
  · exact yieldsIf_load_mid (by rfl) 181 (.tmp 2) rfl b1 0 rfl (wyc a b c) d (fun W hW => hW.1.range0) HU.out HD.out (sizeWy _ _ _)
  simp only [Act.put, List.getElem_toArray, List.getElem_cons_zero, List.getElem_cons_succ, List.setIfInBounds_toArray, List.set_cons_zero, List.set_cons_succ]
  refine wpAnyH_take (i := 1) (v := .agg (wyc x y z).toArray) rfl (by kernel_rfl) (by kernel_rfl) (by kernel_rfl) (fun _ _ _ h => h) ?_ hS0 ?_
  · exact yieldsIf_load_mid (by rfl) 181 (.tmp 3) rfl b2 0 rfl (wyc x y z) d (fun W hW => hW.2.1.range0) HU.out HD.out (sizeWy _ _ _)
  simp only [Act.put, List.getElem_toArray, List.getElem_cons_zero, List.getElem_cons_succ, List.setIfInBounds_toArray, List.set_cons_zero, List.set_cons_succ]
  refine wpAnyH_take (i := 4) (v := .agg (wyc x y z).toArray) rfl (by kernel_rfl) (by kernel_rfl) (by kernel_rfl) (fun _ _ _ h => h) ?_ hS0 ?_
  · exact yieldsIf_load_mid (by rfl) 181 (.tmp 3) rfl b2 0 rfl (wyc x y z) d (fun W hW => hW.2.1.range0) HU.out HD.out (sizeWy _ _ _)
  simp only [Act.put, List.getElem_toArray, List.getElem_cons_zero, List.getElem_cons_succ, List.setIfInBounds_toArray, List.set_cons_zero, List.set_cons_succ]
  refine wpAnyH_ready (rs := [2]) (by kernel_rfl) (by simp) (AllReadyH.cons rfl (fun KK hKK => ?_) AllReadyH.nil)
  go_simp
  refine (HST.out w3).mono ?_
  rintro e w4 ⟨rfl, hb⟩
  replace hS0 : (fun W => Vl W b1 (wyc a b c) ∧ Vl W b2 (wyc x y z) ∧ Below b1 w W) w4 := ⟨hS0.1.keep hb, hS0.2.1.keep hb, hS0.2.2.trans (hb.mono (Nat.le_of_lt hS0.1.lt))⟩
  clear hb
  refine hKK _ _ hS0 ?_
  intro _
  clear hKK KK
  try simp only [Act.put, List.getElem_toArray, List.getElem_cons_zero, List.getElem_cons_succ, List.setIfInBounds_toArray, List.set_cons_zero, List.set_cons_succ]
  refine wpAnyH_ready (rs := [3]) (by kernel_rfl) (by simp) (AllReadyH.cons rfl (fun KK hKK => ?_) AllReadyH.nil)
  go_simp
  refine (HFI.out w4).mono ?_
  rintro e w5 ⟨rfl, hb⟩
  replace hS0 : (fun W => Vl W b1 (wyc a b c) ∧ Vl W b2 (wyc x y z) ∧ Below b1 w W) w5 := ⟨hS0.1.keep hb, hS0.2.1.keep hb, hS0.2.2.trans (hb.mono (Nat.le_of_lt hS0.1.lt))⟩
  clear hb
  refine hKK _ _ hS0 ?_
  intro _
  clear hKK KK
  try simp only [Act.put, List.getElem_toArray, List.getElem_cons_zero, List.getElem_cons_succ, List.setIfInBounds_toArray, List.set_cons_zero, List.set_cons_succ]
  refine wpAnyH_take (i := 5) (v := .bool eb) rfl (by kernel_rfl) (by kernel_rfl) (by kernel_rfl) (fun _ _ _ h => h) ?_ hS0 ?_
  · exact yields_eql (by rfl) 181 181 (.tmp 8) (.tmp 9) rfl (wyc u1 u2 u3).toArray (wyc x y z).toArray rfl rfl eb Tryz.guardWy (fun W _ => HEQ.out W)
  simp only [Act.put, List.getElem_toArray, List.getElem_cons_zero, List.getElem_cons_succ, List.setIfInBounds_toArray, List.set_cons_zero, List.set_cons_succ]
  refine wpAnyH_take (i := 6) (v := ?_) rfl (by kernel_rfl) (by kernel_rfl) (by kernel_rfl) (fun _ _ _ h => h) (Or.inl ⟨by rfl, ?_⟩) hS0 ?_
  rotate_left 1
  · intro W hW
    go_simp
    try with_reducible rfl
  simp only [Act.put, List.getElem_toArray, List.getElem_cons_zero, List.getElem_cons_succ, List.setIfInBounds_toArray, List.set_cons_zero, List.set_cons_succ]
  refine wpAnyH_done (by kernel_rfl) ?_ _
  have HBz := Lib.hid hS0.2.2
  clear hS0
  go_wp2_with fail
  go_ret
  exact ⟨rfl, by rw [HW.out]; exact HBz.out⟩
theorem passes0 (a b c : Int) (w : World) : Calls Tryz.prog 106 #[.agg (wyc a b c).toArray, .agg (wyc 0 0 0).toArray] w fun e w' => e = .returned (.bool true) ∧ Below w.heap.size w w' :=
  passes_gen a b c 0 0 0 0 0 0 0 (fun W => steps0 W) (fun W => first0 a b c W) w
theorem passes1 (a b c x : Int) (hx : 0 < x) (w : World) : Calls Tryz.prog 106 #[.agg (wyc a b c).toArray, .agg (wyc x 0 0).toArray] w fun e w' => e = .returned (.bool (decide (a = x))) ∧ Below w.heap.size w w' := by
  have := passes_gen a b c x 0 0 a 0 0 1 (fun W => steps1 x hx W) (fun W => first1 a b c W) w
  rwa [show eqW a 0 0 x 0 0 = decide (a = x) from by unfold eqW; simp; rfl] at this
theorem passes2 (a b c x y : Int) (hx : 0 < x) (hy : 0 < y) (w : World) : Calls Tryz.prog 106 #[.agg (wyc a b c).toArray, .agg (wyc x y 0).toArray] w fun e w' => e = .returned (.bool (decide (a = x ∧ b = y))) ∧ Below w.heap.size w w' := by
  have := passes_gen a b c x y 0 a b 0 2 (fun W => steps2 x y hx hy W) (fun W => first2 a b c W) w
  rwa [show eqW a b 0 x y 0 = decide (a = x ∧ b = y) from by unfold eqW; rw [Bool.eq_iff_iff]; simp] at this
theorem passes3 (a b c x y z : Int) (hx : 0 < x) (hy : 0 < y) (hz : 0 < z) (w : World) : Calls Tryz.prog 106 #[.agg (wyc a b c).toArray, .agg (wyc x y z).toArray] w fun e w' => e = .returned (.bool (decide (a = x ∧ b = y ∧ c = z))) ∧ Below w.heap.size w w' := by
  have := passes_gen a b c x y z a b c 3 (fun W => steps3 x y z hx hy hz W) (fun W => first3 a b c W) w
  rwa [show eqW a b c x y z = decide (a = x ∧ b = y ∧ c = z) from by unfold eqW; rw [Bool.eq_iff_iff]; simp] at this
end Go.Proofs.YtbnpgkclnebnmaaGreat

namespace Go.Proofs.YtbnpgkclnebnmaaGreat
set_option linter.unusedSimpArgs false
set_option linter.unusedVariables false
open Go.RowKit Go.Maps

theorem wpList_bld6 {P : Program} {ops : Array Oper} {rest : List Oper} {op : Oper} {a : Act} {w : World} {Q : Exit → Act → World → Prop} (hgd : op.guard = none) (ty : TypeId) (i0 i1 i2 i3 i4 i5 : Nat) (x0 x1 x2 x3 x4 x5 : Operand) (ho : op.op = .build ty #[(i0, x0), (i1, x1), (i2, x2), (i3, x3), (i4, x4), (i5, x5)]) (v0 v1 v2 v3 v4 v5 : Value) (h0 : a.eval x0 = v0) (h1 : a.eval x1 = v1) (h2 : a.eval x2 = v2) (h3 : a.eval x3 = v3) (h4 : a.eval x4 = v4) (h5 : a.eval x5 = v5) (v : Value)
    (hr : (Instr.build ty #[(i0, v0), (i1, v1), (i2, v2), (i3, v3), (i4, v4), (i5, v5)]).run P w = .ok v w) (h : wpList P ops Q rest (a.put op.dst v) w) : wpList P ops Q (op :: rest) a w := by
  refine wpList_plain hgd fun K' hK' => ?_
  unfold Oper.wp
  simp [execOp, ho, h0, h1, h2, h3, h4, h5, hr, Result.andThen]
  exact hK' _ _ h
theorem Tryz.buildRg (bl : Nat) (w : World) : (Instr.build 41 #[(0, .string ⟨#[108, 111, 119]⟩), (2, .int .i64 bl), (3, .int .i64 8), (4, .int .i64 1), (5, .int .i64 1), (6, .int .i64 1)]).run Tryz.prog w = .ok (.agg (RBc bl).cells.toArray) w := by kernel_rfl
theorem Tryz.sliceRg (bl : Nat) (w : World) : (Instr.buildSlice 107 1 #[(0, .agg (RBc bl).cells.toArray)]).run Tryz.prog w = .ok (.slice (some ⟨w.heap.size, 0, none⟩) 1 1) (w.alloc (.cells (RBc bl).cells.toArray 41)) := by kernel_rfl
theorem wpList_sliceRg {ops : Array Oper} {rest : List Oper} {op : Oper} {a : Act} {w : World} {Q : Exit → Act → World → Prop} (hgd : op.guard = none) (x : Operand) (ho : op.op = .buildSlice 107 1 #[(0, x)]) (bl : Nat) (hx : a.eval x = .agg (RBc bl).cells.toArray)
    (h : ∀ w', Hid (Vl w' w.heap.size (RBc bl).cells) → Hid (Below w.heap.size w w') → wpList Tryz.prog ops Q rest (a.put op.dst (.slice (some ⟨w.heap.size, 0, none⟩) 1 1)) w') : wpList Tryz.prog ops Q (op :: rest) a w := by
  refine wpList_plain hgd fun K hK => ?_
  have hr := Tryz.sliceRg bl w
  unfold Oper.wp
  simp [execOp, ho, hx, hr, Result.andThen]
  exact hK _ _ (h _ (Lib.hid (Vl.new w (RBc bl).cells 41)) (Lib.hid ((Below.refl _ _).alloc (Nat.le_refl _) _)))
theorem tmod_n (a m : Int) (h0 : 0 ≤ a) (hm : 0 < m) : ∃ k : Nat, Int.tmod a m = k ∧ (k : Int) < m := by
  rw [Int.tmod_eq_emod_of_nonneg h0]
  have h1 := Int.emod_nonneg a (show m ≠ 0 by omega)
  have h2 := Int.emod_lt_of_pos a hm
  obtain ⟨k, hk⟩ := Int.eq_ofNat_of_zero_le h1
  exact ⟨k, hk, by omega⟩
set_option maxHeartbeats 40000000 in
set_option maxRecDepth 200000 in
theorem fwrite_big (q p t m d gg lab B0 P0 M DA NB N K : Nat) (ln : Lm) (g : Cf.Ge) (Y0 V : Nat → Nat → Int) (num : Nat) (h1 : 1 ≤ num) (h2 : num ≤ M) (hkd : ¬ V num 0 = 0) (sz : Nat) (hsz : V num 3 = sz) (hsz2 : sz ≤ 16384)
    (hI : Tab P0 M Y0 V) (hK : K < 260000000) (hg : GG g B0 P0 M DA NB N) (w : World) (h : Gr w q p t m d gg lab g B0 NB N ln Y0 K)
    (off len : Nat) (ho : off ≤ sz) (hl : len ≤ 2000) (hol : 16384 < off + len) (pv : Option Addr) (cap : Nat) :
    Calls Tryz.prog 35 #[.pointer (some ⟨q, 0, none⟩), .int .i64 num, .int .i64 off, .slice pv len cap] w fun e w' => e = .returned (.int .i64 11) ∧ Gr w' q p t m d gg lab g B0 NB N ln Y0 (K + 1) ∧ Kf w w' [t, m, d, gg] := by
  have HO := Lib.hid (fopen_in (ln := ln) q p t m d gg lab B0 P0 M DA NB N K g Y0 V num h1 h2 hkd (by omega) hI hg w h)
  obtain ⟨f0, hf⟩ : ∃ f, V num = f := ⟨_, rfl⟩
  rw [hf] at HO hsz hkd
  have HSz := Lib.hid (fun b q W hW => size_any b q f0 (by omega) (by omega) W hW)
  rw [hsz] at HSz
  have hs0 : (0 : Int) ≤ sz := by omega
  have hs1 : (sz : Int) ≤ 16384 := by omega
  obtain ⟨zi, hzi⟩ : ∃ z : Int, (sz : Int) = z := ⟨_, rfl⟩
  rw [hzi] at HSz
  have hz0 : 0 ≤ zi := by omega
  have hz1 : zi ≤ 16384 := by omega
  have ho0 : (0 : Int) ≤ off := by omega
  have hoz : (off : Int) ≤ zi := by omega
  have hll : (16384 : Int) - off < len := by omega
  have hl0 : (0 : Int) ≤ len := by omega
  have hl1 : (len : Int) ≤ 2000 := by omega
  have h0' : decide ((off : Int) < 0) = false := decide_eq_false (by omega)
  have h0d : decide (zi < (off : Int)) = false := decide_eq_false (by omega)
  have h0e : decide (16384 - (off : Int) < (len : Int)) = true := decide_eq_true (by omega)
  clear h1 h2 hkd hsz hI hg h hf hzi hs0 hs1
  go_enter Tryz.func35, Tryz.ntmps35
  go_wp2_with fail
  refine HO.out.mono ?_
  rintro e w1 ⟨b, rfl, hb, hG, hVb, hk⟩
  have HG1 := Lib.hid hG
  have HK1 := Lib.hid hk
  have HS1 := Lib.hid (HSz.out b q w1 hVb)
  clear hG hVb hk HO HSz
  go_wp2_with fail
  refine HS1.out.mono ?_
  rintro e wz ⟨rfl, hwz⟩
  rw [hwz]
  clear hwz HS1
  go_wp2_with fail
  go_ret
  exact ⟨rfl, HG1.out.mono (Lm.le_refl _) (by omega), HK1.out⟩
/-- conf.New of that one label, as a law calls it -/
theorem newO (bl : Nat) (h : bl = 270 ∨ bl = 300) (b : Nat) (w : World) (hV : Vl w b (RBc bl).cells) :
    Calls Tryz.prog 38 #[.slice (some ⟨b, 0, none⟩) 1 1, .slice none 0 0] w fun e w' => ∃ n vr vm vg, e = .returned (.tuple #[.pointer (some ⟨n + 3, 0, none⟩), .int .i64 0]) ∧ w.heap.size ≤ n ∧ Below w.heap.size w w' ∧ Cf.CF n w' vr vm vg (RB bl) [] := by
  have hr : Cf.Row9 w b 0 (RB bl) := by
    refine ⟨?_, ?_, ?_, ?_, ?_, ?_, ?_, ?_, ?_⟩ <;> intro i hi <;> obtain rfl : i = 0 := by (have : i < 1 := hi; omega)
    · exact hV.c 0 _ rfl
    · exact hV.c 1 _ rfl
    · exact hV.c 2 _ rfl
    · exact hV.c 3 _ rfl
    · exact hV.c 4 _ rfl
    · exact hV.c 5 _ rfl
    · exact hV.c 6 _ rfl
    · exact hV.c 7 _ rfl
    · exact hV.c 8 _ rfl
  refine (Cf.new_some b 0 1 (RB bl) (.slice none 0 0) [] w hV.lt Nat.one_pos (show 1 ≤ 64 by decide) hr (RB_ok bl) (.inl ⟨none, 0, rfl, rfl⟩) (fun m hm => by cases hm) (by decide)).mono ?_
  rintro e w' ⟨-, h2⟩
  exact h2 (RB_new bl h)
end Go.Proofs.YtbnpgkclnebnmaaGreat
