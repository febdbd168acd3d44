import Derived.Test.YtbjniddikgcaeaaDoorC7
import Derived.Test.YtbjniddikgcaeaaDoorC14
/- The lines of a configuration's text, as they are read: the state. -/
namespace Go.Proofs.YtbjniddikgcaeaaDoor
set_option linter.unusedSimpArgs false
set_option linter.unusedVariables false
open Go.RowKit Go.Maps

/-- append, and where the new slice lies -/
theorem wp_append_at {P : Program} {w : World} {o : Oper} {a : Act} {K : Act → World → Prop} {Q : Exit → Act → World → Prop} (s x : Operand) (t : TypeId)
    (ho : o.op = .call { callee := .builtin .append, args := #[s, x], argTypes := #[t, t] })
    (base : Nat) (e : TypeId) (i : TypeInfo) (z : Value) (size bytes : Nat) (ht : P.underlying t = some (.slice e)) (hi : P.info? e = some i) (hz : i.zero = some z)
    (hsize : i.size = size) (hby : i.bytes = bytes) (hzs : z.cells.size = size) (hsz : 0 < size)
    (v : Value) (n : Nat) (xs : List Value) (hs : a.eval s = v) (hown : w.ownsRow base e size v n xs)
    (ad : Addr) (m c : Nat) (news : List Value) (hx : a.eval x = .slice (some ad) m c) (hl : news.length = m * size) (hnews : ∀ j u, news[j]? = some u → w.cell? (ad.add j) = some u) (h1 : ∀ u ∈ news, u.oneCell' = true)
    (h63 : n + m ≤ maxLen) (hbytes : (n + m) * bytes ≤ 140737488355328) (hbase : base ≤ w.heap.size)
    (h : ∀ v' w', w'.ownsRow base e size v' (n + m) (xs ++ news) → w.grownBy w' v.ownBlock → (v'.ownBlock = v.ownBlock ∨ v'.ownBlock = some w.heap.size) → K (a.put o.dst v') w') : o.wp P a w K Q := by
  obtain ⟨v', w', hr, h2, h3, -, h5⟩ := run_append_own_at (P := P) w base t o.type e i z size bytes ht hi hz hsize hby hzs hsz v n xs hown ad m c news hl hnews h1 h63 hbytes hbase
  unfold Oper.wp execOp
  simp only [ho, resolve, invoke, builtin, Sem.run_bind, Sem.run_pure, Result.andThen_ok, List.map_toArray, List.map_cons, List.map_nil, hs, hx, hr]
  exact h v' w' h2 h3 h5

/-- of what lay in W nothing has turned but block bt and v's own row -/
structure Sx (W : World) (bt : Nat) (v : Value) (w' : World) : Prop where
  sz : W.heap.size ≤ w'.heap.size
  same : ∀ b, b < W.heap.size → b ≠ bt → v.ownBlock ≠ some b → w'.heap[b]? = W.heap[b]?
  bel : Below bt W w'
theorem Sx.refl (W : World) (bt : Nat) (v : Value) : Sx W bt v W := ⟨Nat.le_refl _, fun _ _ _ _ => rfl, Below.refl _ _⟩
theorem Sx.drew {W w : World} {bt : Nat} {v : Value} (h : Sx W bt v w) : Sx W bt v w.drew := ⟨h.sz, h.same, h.bel.drew⟩
theorem Sx.alloc {W w : World} {bt : Nat} {v : Value} (h : Sx W bt v w) (hbt : bt ≤ W.heap.size) (o : Obj) : Sx W bt v (w.alloc o) :=
  ⟨Nat.le_trans h.sz (by simp), fun b hb h1 h2 => ((MapKept.heap_alloc w o).2 b (Nat.lt_of_lt_of_le hb h.sz)).trans (h.same b hb h1 h2), h.bel.alloc (Nat.le_trans hbt h.sz) o⟩
theorem Sx.grown {W w w' : World} {bt : Nat} {v : Value} (h : Sx W bt v w) (hg : w.grownBy w' v.ownBlock) (hbt : bt ≤ W.heap.size) (hv : ∀ k, v.ownBlock = some k → bt ≤ k) : Sx W bt v w' :=
  ⟨Nat.le_trans h.sz hg.size, fun b hb h1 h2 => (hg.block b (Nat.lt_of_lt_of_le hb h.sz) (fun e => h2 e.symm)).trans (h.same b hb h1 h2), h.bel.grown hg (Nat.le_trans hbt h.sz) hv⟩
theorem Sx.set {W w : World} {bt : Nat} {v : Value} (h : Sx W bt v w) (o : Nat) (u : Value) : Sx W bt v (w.setCell ⟨bt, o, none⟩ u) :=
  ⟨by rw [size_set]; exact h.sz, fun b hb h1 h2 => (heap_set w bt o u h1).trans (h.same b hb h1 h2), h.bel.setCell (Nat.le_refl _) u⟩
theorem Sx.cell {W w : World} {bt : Nat} {v : Value} (h : Sx W bt v w) {b o : Nat} (hb : b < W.heap.size) (h1 : b ≠ bt) (h2 : v.ownBlock ≠ some b) : w.cell? ⟨b, o, none⟩ = W.cell? ⟨b, o, none⟩ := cell_same (h.same b hb h1 h2)

def Own3 (vr vc vt : Value) (k : Nat) : Prop := vr.ownBlock = some k ∨ vc.ownBlock = some k ∨ vt.ownBlock = some k
def trustCells (x : Int × ByteArray × ByteArray) : List Value := [.int .i64 x.1, .string x.2.1, .string x.2.2]
structure TX (bt : Nat) (w : World) (vr vc vt : Value) (rs : List Rg) (cls : List ByteArray) (trs : List (Int × ByteArray × ByteArray)) : Prop where
  lt : bt < w.heap.size
  c0 : w.cell? ⟨bt, 0, none⟩ = some vr
  c1 : w.cell? ⟨bt, 1, none⟩ = some vc
  c2 : w.cell? ⟨bt, 2, none⟩ = some vt
  f0 : w.frozen? ⟨bt, 0, none⟩ = false
  f1 : w.frozen? ⟨bt, 1, none⟩ = false
  f2 : w.frozen? ⟨bt, 2, none⟩ = false
  rr : w.ownsRow (bt + 1) 39 9 vr rs.length (flatR rs)
  rc : w.ownsRow (bt + 1) 9 1 vc cls.length (cls.map Value.string)
  rt : w.ownsRow (bt + 1) 138 3 vt trs.length (trs.flatMap trustCells)
  d1 : ∀ k, vr.ownBlock = some k → vc.ownBlock ≠ some k
  d2 : ∀ k, vr.ownBlock = some k → vt.ownBlock ≠ some k
  d3 : ∀ k, vc.ownBlock = some k → vt.ownBlock ≠ some k
/-- what has turned: the state's own block and rows; new rows lie where old ones lay, or are new -/
structure Fr (bt : Nat) (own own' : Nat → Prop) (w w' : World) : Prop where
  sz : w.heap.size ≤ w'.heap.size
  same : ∀ b, b < w.heap.size → b ≠ bt → ¬ own b → w'.heap[b]? = w.heap[b]?
  new : ∀ k, own' k → own k ∨ w.heap.size ≤ k
  bel : Below bt w w'
theorem Fr.refl (bt : Nat) (own : Nat → Prop) (w : World) : Fr bt own own w w := ⟨Nat.le_refl _, fun _ _ _ _ => rfl, fun _ h => .inl h, Below.refl _ _⟩
theorem Fr.trans {bt : Nat} {o1 o2 o3 : Nat → Prop} {w1 w2 w3 : World} (h1 : Fr bt o1 o2 w1 w2) (h2 : Fr bt o2 o3 w2 w3) : Fr bt o1 o3 w1 w3 :=
  ⟨Nat.le_trans h1.sz h2.sz, fun b hb hn ho => (h2.same b (Nat.lt_of_lt_of_le hb h1.sz) hn (fun h => by rcases h1.new b h with h | h; exact ho h; omega)).trans (h1.same b hb hn ho),
    fun k hk => by rcases h2.new k hk with h | h; exact h1.new k h; exact .inr (Nat.le_trans h1.sz h), h1.bel.trans h2.bel⟩
theorem Fr.below {bt : Nat} {own : Nat → Prop} {w w' : World} (h : Below w.heap.size w w') (hbt : bt ≤ w.heap.size) : Fr bt own own w w' :=
  ⟨h.size, fun b hb _ _ => h.block b hb, fun _ h => .inl h, h.mono hbt⟩
theorem TX.below {bt : Nat} {w w' : World} {vr vc vt : Value} {rs : List Rg} {cls : List ByteArray} {trs : List (Int × ByteArray × ByteArray)} (h : TX bt w vr vc vt rs cls trs) (hb : Below w.heap.size w w') : TX bt w' vr vc vt rs cls trs :=
  ⟨Nat.lt_of_lt_of_le h.lt hb.size, (hb.cell (p := ⟨bt, 0, none⟩) h.lt).trans h.c0, (hb.cell (p := ⟨bt, 1, none⟩) h.lt).trans h.c1, (hb.cell (p := ⟨bt, 2, none⟩) h.lt).trans h.c2, (hb.frozen (p := ⟨bt, 0, none⟩) h.lt).trans h.f0, (hb.frozen (p := ⟨bt, 1, none⟩) h.lt).trans h.f1, (hb.frozen (p := ⟨bt, 2, none⟩) h.lt).trans h.f2, ownsRow_below h.rr hb, ownsRow_below h.rc hb, ownsRow_below h.rt hb, h.d1, h.d2, h.d3⟩
/-- a line's words -/
structure Wd (w : World) (A : Nat) (ws : List ByteArray) : Prop where
  lt : A < w.heap.size
  c : ∀ i (h : i < ws.length), w.cell? ⟨A, i, none⟩ = some (.string ws[i])
theorem Wd.below {w w' : World} {A : Nat} {ws : List ByteArray} (h : Wd w A ws) (hb : Below w.heap.size w w') : Wd w' A ws :=
  ⟨Nat.lt_of_lt_of_le h.lt hb.size, fun i hi => (hb.cell (p := ⟨A, i, none⟩) h.lt).trans (h.c i hi)⟩
end Go.Proofs.YtbjniddikgcaeaaDoor
