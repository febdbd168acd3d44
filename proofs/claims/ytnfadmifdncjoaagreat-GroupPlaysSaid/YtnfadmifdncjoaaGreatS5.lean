import Derived.Test.YtnfadmifdncjoaaGreatS2
/- The law's model: its stores; how it says what the group holds. -/
namespace Go.Proofs.YtnfadmifdncjoaaGreat
set_option linter.unusedSimpArgs false
set_option linter.unusedVariables false
open Go.RowKit Go.Maps

/-- the model's blocks are four -/
structure Mx (mm tk yb nd : Nat) : Prop where
  a : tk ≠ mm
  b : yb ≠ mm
  c : nd ≠ mm
  d : tk ≠ yb
  e : tk ≠ nd
  f : yb ≠ nd
theorem Mo.setT {w : World} {mm tk yb nd L LM : Nat} {T : Nat → Bool} {X V : Nat → Nat → Int} (h : Mo w mm tk yb nd L LM T X V) (hd : Mx mm tk yb nd) (n : Nat) (hn : n < L) (x : Bool) : Mo (w.setCell ⟨tk, n, none⟩ (.bool x)) mm tk yb nd L LM (fun j => if j = n then x else T j) X V := by
  have hk : Kp w (w.setCell ⟨tk, n, none⟩ (.bool x)) tk tk := (Kp.refl w tk tk).setCell ⟨tk, n, none⟩ (.inl rfl) _
  obtain ⟨F, f1, f2⟩ := h.b
  exact ⟨h.m.kp hk (Ne.symm hd.a) (Ne.symm hd.a), h.t.set n hn x, ⟨F, f1.kp hk (Ne.symm hd.d) (Ne.symm hd.d), f2⟩, h.n.kf (L := [tk]) ⟨hk.os, hk.tape, hk.output, hk.size, fun k h1 h2 => hk.block k h1 (fun e => h2 (by simp [e])) (fun e => h2 (by simp [e]))⟩ (by simp; exact Ne.symm hd.e)⟩
theorem Mo.setX {w : World} {mm tk yb nd L LM : Nat} {T : Nat → Bool} {X V : Nat → Nat → Int} (h : Mo w mm tk yb nd L LM T X V) (hd : Mx mm tk yb nd) (n : Nat) (hn : n < L) (f : Nat → Int) : Mo (w.setCells yb (n * 64) (byts 64 f)) mm tk yb nd L LM T (vput n f X) V := by
  have hk : Kp w (w.setCells yb (n * 64) (byts 64 f)) yb yb := (Kp.refl w yb yb).setCells yb _ (.inl rfl) _
  obtain ⟨F, f1, f2⟩ := h.b
  refine ⟨h.m.kp hk (Ne.symm hd.b) (Ne.symm hd.b), ⟨Nat.lt_of_lt_of_le h.t.lt hk.size, fun j hj => ?_, fun j hj => ?_⟩, ⟨_, f1.store (n * 64) 64 (by omega) f, fun k hk1 j hj => ?_⟩, h.n.kf (L := [yb]) ⟨hk.os, hk.tape, hk.output, hk.size, fun k h1 h2 => hk.block k h1 (fun e => h2 (by simp [e])) (fun e => h2 (by simp [e]))⟩ (by simp; exact Ne.symm hd.f)⟩
  · exact (h.t.kf (L := [yb]) ⟨hk.os, hk.tape, hk.output, hk.size, fun k h1 h2 => hk.block k h1 (fun e => h2 (by simp [e])) (fun e => h2 (by simp [e]))⟩ (by simp; exact hd.d)).c j hj
  · exact (h.t.kf (L := [yb]) ⟨hk.os, hk.tape, hk.output, hk.size, fun k h1 h2 => hk.block k h1 (fun e => h2 (by simp [e])) (fun e => h2 (by simp [e]))⟩ (by simp; exact hd.d)).z j hj
  · unfold upd vput
    by_cases e : n = k
    · subst e
      rw [if_pos rfl, if_pos ⟨by omega, by omega⟩, show n * 64 + j - n * 64 = j by omega]
    · rw [if_neg e, if_neg (by omega)]
      exact f2 k hk1 j hj
theorem Mo.setN {w : World} {mm tk yb nd L LM : Nat} {T : Nat → Bool} {X V : Nat → Nat → Int} (h : Mo w mm tk yb nd L LM T X V) (hd : Mx mm tk yb nd) (n : Nat) (hn : n < LM) (f : Nat → Int) : Mo (w.setCells nd (n * 12) (ndc f)) mm tk yb nd L LM T X (vput n f V) := by
  have hk : Kp w (w.setCells nd (n * 12) (ndc f)) nd nd := (Kp.refl w nd nd).setCells nd _ (.inl rfl) _
  obtain ⟨F, f1, f2⟩ := h.b
  exact ⟨h.m.kp hk (Ne.symm hd.c) (Ne.symm hd.c), h.t.kf (L := [nd]) ⟨hk.os, hk.tape, hk.output, hk.size, fun k h1 h2 => hk.block k h1 (fun e => h2 (by simp [e])) (fun e => h2 (by simp [e]))⟩ (by simp; exact hd.e), ⟨F, f1.kp hk hd.f hd.f, f2⟩, h.n.put n hn f⟩
/-- the model says what the view holds -/
structure Rl (B0 P0 M DA NB : Nat) (Y : Nat → Nat → Int) (T : Nat → Bool) (X V : Nat → Nat → Int) : Prop where
  t0 : T 0 = true
  t : ∀ j, j < NB → T (j + 1) = bt Y B0 j
  x : ∀ j, j < NB → ∀ c, c < 64 → X (j + 1) c = Y (DA + j) c
  v : Tab P0 M Y V
theorem Rl.zero (B0 P0 M DA NB : Nat) : Rl B0 P0 M DA NB (fun _ _ => 0) (fun j => if j = 0 then true else false) (fun _ _ => 0) (fun _ => zpt) :=
  ⟨rfl, fun j _ => by rw [bt_zero]; rfl, fun _ _ _ _ => rfl, Tab.new P0 M⟩
theorem Rl.give {B0 P0 M DA NB N : Nat} {g : Cf.Ge} {Y : Nat → Nat → Int} {T : Nat → Bool} {X V : Nat → Nat → Int} (h : Rl B0 P0 M DA NB Y T X V) (hg : GG g B0 P0 M DA NB N) (hv : ∀ x, Byt (Y x)) (i : Nat) (hi : i < NB) (on : Bool) : Rl B0 P0 M DA NB (setV Y B0 i on) (fun j => if j = i + 1 then on else T j) X V := by
  have hD : B0 < DA := by have := hg.bp; have := hg.pd; omega
  have hB := hg.bp
  have h5 := hg.n512
  refine ⟨by rw [if_neg (by omega)]; exact h.t0, fun j hj => ?_, fun j hj c hc => ?_, h.v.congr fun x h1 h2 => setV_ne _ _ _ _ (by omega)⟩
  · rw [bt_on hv B0 i j on (by omega)]
    by_cases e : i = j
    · subst e; rw [if_pos rfl, if_pos rfl]
    · rw [if_neg (by omega), if_neg e]; exact h.t j hj
  · rw [setV_ne _ _ _ _ (by omega)]; exact h.x j hj c hc
theorem Rl.put {B0 P0 M DA NB N : Nat} {g : Cf.Ge} {Y : Nat → Nat → Int} {T : Nat → Bool} {X V : Nat → Nat → Int} (h : Rl B0 P0 M DA NB Y T X V) (hg : GG g B0 P0 M DA NB N) (i : Nat) (hi : i < NB) (f : Nat → Int) : Rl B0 P0 M DA NB (vput (DA + i) f Y) T (vput (i + 1) f X) V := by
  have hD : B0 < DA := by have := hg.bp; have := hg.pd; omega
  have hP := hg.pd
  have h5 := hg.n512
  refine ⟨h.t0, fun j hj => ?_, fun j hj c hc => ?_, h.v.congr fun x h1 h2 => vput_ne _ _ (by omega)⟩
  · rw [bt_put _ _ _ _ _ (by omega)]; exact h.t j hj
  · unfold vput
    by_cases e : i = j
    · subst e; rw [if_pos rfl, if_pos rfl]
    · rw [if_neg (by omega), if_neg (by omega)]; exact h.x j hj c hc
theorem Rl.take {B0 P0 M DA NB N : Nat} {g : Cf.Ge} {Y : Nat → Nat → Int} {T : Nat → Bool} {X V : Nat → Nat → Int} (h : Rl B0 P0 M DA NB Y T X V) (hg : GG g B0 P0 M DA NB N) (hv : ∀ x, Byt (Y x)) (i : Nat) (hi : i < NB) : Rl B0 P0 M DA NB (vput (DA + i) (fun _ => 0) (setV Y B0 i true)) (fun j => if j = i + 1 then true else T j) (vput (i + 1) (fun _ => 0) X) V :=
  (h.give hg hv i hi true).put hg i hi _
theorem Rl.node {B0 P0 M DA NB N : Nat} {g : Cf.Ge} {Y : Nat → Nat → Int} {T : Nat → Bool} {X V : Nat → Nat → Int} (h : Rl B0 P0 M DA NB Y T X V) (hg : GG g B0 P0 M DA NB N) (n : Nat) (h1 : 1 ≤ n) (h2 : n ≤ M) (f : Nat → Int) (hf : NdOk f) (hc : codeN f = 0) : Rl B0 P0 M DA NB (tabW P0 n f Y) T X (vput n f V) := by
  have hB := hg.bp
  have hP := hg.pd
  have h5 := hg.n512
  refine ⟨h.t0, fun j hj => ?_, fun j hj c hc => ?_, h.v.wr n h1 h2 f hf hc⟩
  · unfold tabW
    rw [bt_put _ _ _ _ _ (by omega)]; exact h.t j hj
  · rw [tabW_ne _ _ _ _ _ (by omega)]; exact h.x j hj c hc
theorem step_box_list {P : Program} {ops : Array Oper} {o : Oper} {a : Act} {w : World} {K : Act → World → Prop} {Q : Exit → Act → World → Prop} {E : Prop} (hgd : o.guard = none) (ty : TypeId) (x : Operand) (ho : o.op = .box ty x) (cs : List Value) (hx : a.eval x = .agg cs.toArray)
    (h : ∀ w', Hid (Vl w' w.heap.size cs) → Below w.heap.size w w' → w'.heap.size = w.heap.size + 1 → K (a.put o.dst (.pointer (some ⟨w.heap.size, 0, none⟩))) w') : if Region.wanted o (yielded ops a.tmps) = true then Oper.wp P o a w K Q else E := by
  have hw : Region.wanted o (yielded ops a.tmps) = true := by simp [Region.wanted, hgd]
  rw [if_pos hw]
  have hr : (Instr.box ty (.agg cs.toArray)).run P w = .ok (.pointer (some ⟨w.heap.size, 0, none⟩)) (w.alloc (.cells cs.toArray ty)) := by
    simp [Instr.box, newVar, newRow, Value.cells]
  unfold Oper.wp
  simp [execOp, ho, hx, hr, Result.andThen]
  exact h _ (Vl.new w cs ty) ((Below.refl _ _).alloc (Nat.le_refl _) _) (by simp)
theorem Tryz.buildMod (a b c L LM : Nat) (w : World) : (Instr.build 49 #[(0, .slice (some ⟨a, 0, none⟩) L L), (1, .slice (some ⟨b, 0, none⟩) L L), (2, .slice (some ⟨c, 0, none⟩) LM LM)]).run Tryz.prog w = .ok (.agg [.slice (some ⟨a, 0, none⟩) L L, .slice (some ⟨b, 0, none⟩) L L, .slice (some ⟨c, 0, none⟩) LM LM].toArray) w := by kernel_rfl
end Go.Proofs.YtnfadmifdncjoaaGreat
