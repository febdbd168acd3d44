import Derived.Test.YtfackmiojbdjhaaDoorC1
import Derived.Test.YtfackmiojbdjhaaDoorC7
/- Numbers of one to four digits: the code's. -/
/- The lines of a configuration's text, as they are read: the state. -/
/- The state when one of its rows has grown. -/

namespace Go.Proofs.YtfackmiojbdjhaaDoor
set_option linter.unusedSimpArgs false
set_option linter.unusedVariables false
open Go.RowKit

def digB (b : UInt8) : Bool := decide (48 ≤ b.toNat) && decide (b.toNat ≤ 57)
def numV (l : List UInt8) : Nat := l.foldl (fun n b => n * 10 + (b.toNat - 48)) 0
def numC (s : ByteArray) : Option Nat :=
  if 1 ≤ s.size ∧ s.size ≤ 4 ∧ ¬ (1 < s.size ∧ (s.get! 0).toNat = 48) ∧ s.data.toList.all digB = true then some (numV s.data.toList) else none
theorem numV_snoc (l : List UInt8) (b : UInt8) : numV (l ++ [b]) = numV l * 10 + (b.toNat - 48) := by
  unfold numV; rw [List.foldl_append]; rfl
theorem numV_lt : ∀ (n : Nat) (l : List UInt8), l.length = n → (∀ b ∈ l, digB b = true) → numV l < 10 ^ n := by
  intro n
  induction n with
  | zero => intro l hl _; obtain rfl := List.eq_nil_of_length_eq_zero hl; decide
  | succ n ih =>
    intro l hl hd
    have hne : l ≠ [] := by intro e; subst e; simp at hl
    rw [← List.dropLast_concat_getLast hne, numV_snoc, Nat.pow_succ]
    have h1 := ih l.dropLast (by simp [hl]) (fun b hb => hd b ((List.dropLast_sublist l).subset hb))
    have h2 := hd (l.getLast hne) (List.getLast_mem hne)
    simp only [digB, Bool.and_eq_true, decide_eq_true_eq] at h2
    omega
theorem digs_upto (s : ByteArray) (h : ∀ j (hj : j < s.size), digB s[j] = true) : s.data.toList.all digB = true := by
  rw [List.all_eq_true]
  intro x hx
  obtain ⟨j, hj, rfl⟩ := List.mem_iff_getElem.1 hx
  exact h j (by simpa using hj)
theorem digs_bad (s : ByteArray) (j : Nat) (hj : j < s.size) (h : digB s[j] = false) : s.data.toList.all digB = false := by
  rw [List.all_eq_false]
  exact ⟨s[j], by exact Array.mem_toList_iff.2 (Array.getElem_mem _), by simp [h]⟩
theorem take_snoc (s : ByteArray) (k : Nat) (h : k < s.size) : s.data.toList.take (k + 1) = s.data.toList.take k ++ [s[k]] := by
  rw [List.take_succ_eq_append_getElem (by simpa using h)]
  rfl
theorem numV_take_lt (s : ByteArray) (k : Nat) (hk : k ≤ s.size) (h : ∀ j (hj : j < s.size), j < k → digB s[j] = true) : numV (s.data.toList.take k) < 10 ^ k := by
  refine numV_lt k _ (by rw [List.length_take]; have : s.data.toList.length = s.size := Array.length_toList
                         omega) (fun b hb => ?_)
  obtain ⟨j, hj, rfl⟩ := List.mem_iff_getElem.1 hb
  rw [List.length_take] at hj
  have hj2 : j < s.size := by omega
  rw [List.getElem_take]
  exact h j hj2 (by omega)

set_option maxHeartbeats 1000000 in
theorem number_any4 (s : ByteArray) (w : World) : Calls Tryd.prog 63 #[.string s] w fun e w' => e = .returned (.tuple #[.int .i64 (((numC s).getD 0 : Nat) : Int), .bool (numC s).isSome]) ∧ Below w.heap.size w w' := by
  have hbad : ¬ (1 ≤ s.size ∧ s.size ≤ 4 ∧ ¬ (1 < s.size ∧ (s.get! 0).toNat = 48)) → Hid (numC s = none) := by
    intro h
    show numC s = none
    unfold numC
    rw [if_neg (fun h' => h ⟨h'.1, h'.2.1, h'.2.2.1⟩)]
  by_cases h1 : s.size < 1
  · have hN := hbad (by omega)
    clear hbad
    go_enter Tryd.func63, Tryd.ntmps63
    go_wp2
    refine bodyPost_ret (v := .tuple #[.int .i64 0, .bool false]) (by simp [results, Tryd.results63, go_sem]) rfl ⟨by rw [hN.out]; rfl, Below.refl _ _⟩
  · by_cases h4 : 4 < s.size
    · have hN := hbad (by omega)
      clear hbad
      go_enter Tryd.func63, Tryd.ntmps63
      go_wp2
      refine bodyPost_ret (v := .tuple #[.int .i64 0, .bool false]) (by simp [results, Tryd.results63, go_sem]) rfl ⟨by rw [hN.out]; rfl, Below.refl _ _⟩
    · have h0 : 0 < s.size := by omega
      have hg : s.get! 0 = s[0] := get_bang s 0 h0
      rw [hg] at hbad
      have HG := Lib.hid hg
      clear hg
      obtain ⟨Z, hZ⟩ : ∃ Z, s[0] = Z := ⟨_, rfl⟩
      rw [hZ] at hbad
      by_cases hz : 1 < s.size ∧ Z.toNat = 48
      · have hN := hbad (fun h => h.2.2 hz)
        obtain ⟨hz1, hz2⟩ := hz
        clear hbad
        go_enter Tryd.func63, Tryd.ntmps63
        go_wp2
        refine bodyPost_ret (v := .tuple #[.int .i64 0, .bool false]) (by simp [results, Tryd.results63, go_sem]) rfl ⟨by rw [hN.out]; rfl, Below.refl _ _⟩
      · have HGood : Hid (∀ (_ : s.data.toList.all digB = true), numC s = some (numV s.data.toList)) := by
          intro h
          unfold numC
          rw [if_pos ⟨by omega, by omega, by rw [HG.out, hZ]; exact hz, h⟩]
        have HBad : Hid (s.data.toList.all digB = false → numC s = none) := by
          intro h
          unfold numC
          rw [if_neg (by rw [h]; simp)]
        clear hbad
        have main : ∀ (hz' : (s.size ≤ 1) ∨ (1 < s.size ∧ ¬ (Z.toNat = 48))), Calls Tryd.prog 63 #[.string s] w fun e w' => e = .returned (.tuple #[.int .i64 (((numC s).getD 0 : Nat) : Int), .bool (numC s).isSome]) ∧ Below w.heap.size w w' := by
          intro hz'
          have HZ := Lib.hid hz'
          have i1 : ¬ ((s.size : Int) < 1) := by omega
          have i4 : ¬ (4 < (s.size : Int)) := by omega
          rcases hz' with hz1 | ⟨hz1, hz2⟩
          · have i2 : ¬ (1 < (s.size : Int)) := by omega
            go_enter Tryd.func63, Tryd.ntmps63
            go_wp2
            go_loopw [4, 26] (fun n i wr => ∃ k : Nat, k ≤ s.size ∧ i = .int .i64 k ∧ n = .int .i64 (numV (s.data.toList.take k) : Nat) ∧ Below w.heap.size w wr ∧ ∀ j (hj : j < s.size), j < k → digB s[j] = true) (fun _ i _ => s.size - (intOf i).toNat)
            case atStart => exact ⟨0, by omega, rfl, by simp [numV], Below.refl _ _, fun j _ h => by omega⟩
            case round =>
              obtain ⟨k, hk, rfl, rfl, hb, hall⟩ := hrel
              have HA := Lib.hid hall
              have hlt10 := numV_take_lt s k hk hall
              clear hall
              by_cases hlt : k < s.size
              · have hp : 10 ^ k ≤ 10 ^ 3 := Nat.pow_le_pow_right (by omega) (by omega)
                have HT : Hid (numV (s.data.toList.take (k + 1)) = numV (s.data.toList.take k) * 10 + (s[k].toNat - 48)) := by
                  show numV _ = _
                  rw [take_snoc s k hlt, numV_snoc]
                have HD : Hid (digB s[k] = (decide (48 ≤ s[k].toNat) && decide (s[k].toNat ≤ 57))) := rfl
                have HF : Hid (digB s[k] = false → numC s = none) := fun h => HBad.out (digs_bad s k hlt h)
                have hv : numV (s.data.toList.take k) ≤ 999 := by omega
                generalize numV (s.data.toList.take k) = V at *
                obtain ⟨R, hR⟩ : ∃ R, s[k] = R := ⟨_, rfl⟩
                rw [hR] at HT HD HF
                clear hlt10 hp
                by_cases hlow : R.toNat < 48
                · have hN : Hid (numC s = none) := HF.out (by rw [HD.out]; simp; omega)
                  go_wp2
                  refine bodyPost_ret (v := .tuple #[.int .i64 0, .bool false]) (by simp [results, Tryd.results63, go_sem]) rfl ⟨by rw [hN.out]; rfl, hb⟩
                · by_cases hhi : 57 < R.toNat
                  · have hN : Hid (numC s = none) := HF.out (by rw [HD.out]; simp; omega)
                    go_wp2
                    refine bodyPost_ret (v := .tuple #[.int .i64 0, .bool false]) (by simp [results, Tryd.results63, go_sem]) rfl ⟨by rw [hN.out]; rfl, hb⟩
                  · have HR := Lib.hid hR
                    go_wp2
                    go_roundw
                    case rel =>
                      refine ⟨k + 1, by omega, by go_num, ?_, hb, fun j hj hjk => ?_⟩
                      · rw [HT.out]; congr 1; omega
                      · by_cases e : j = k
                        · subst e; rw [HR.out, HD.out]; simp; omega
                        · exact HA.out j hj (by omega)
                    case measure => simp [intOf]; omega
              · obtain rfl : k = s.size := by omega
                have hN : Hid (numC s = some (numV s.data.toList)) := HGood.out (digs_upto s (fun j hj => HA.out j hj hj))
                have hfull : s.data.toList.take s.size = s.data.toList := List.take_of_length_le (Nat.le_of_eq Array.length_toList)
                rw [hfull]
                clear hfull
                go_wp2
                refine bodyPost_ret (v := .tuple #[.int .i64 (numV s.data.toList : Nat), .bool true]) (by simp [results, Tryd.results63, go_sem]) rfl ⟨by rw [hN.out]; rfl, hb⟩
          · have i2 : 1 < (s.size : Int) := by omega
            go_enter Tryd.func63, Tryd.ntmps63
            go_wp2
            go_loopw [4, 26] (fun n i wr => ∃ k : Nat, k ≤ s.size ∧ i = .int .i64 k ∧ n = .int .i64 (numV (s.data.toList.take k) : Nat) ∧ Below w.heap.size w wr ∧ ∀ j (hj : j < s.size), j < k → digB s[j] = true) (fun _ i _ => s.size - (intOf i).toNat)
            case atStart => exact ⟨0, by omega, rfl, by simp [numV], Below.refl _ _, fun j _ h => by omega⟩
            case round =>
              obtain ⟨k, hk, rfl, rfl, hb, hall⟩ := hrel
              have HA := Lib.hid hall
              have hlt10 := numV_take_lt s k hk hall
              clear hall
              by_cases hlt : k < s.size
              · have hp : 10 ^ k ≤ 10 ^ 3 := Nat.pow_le_pow_right (by omega) (by omega)
                have HT : Hid (numV (s.data.toList.take (k + 1)) = numV (s.data.toList.take k) * 10 + (s[k].toNat - 48)) := by
                  show numV _ = _
                  rw [take_snoc s k hlt, numV_snoc]
                have HD : Hid (digB s[k] = (decide (48 ≤ s[k].toNat) && decide (s[k].toNat ≤ 57))) := rfl
                have HF : Hid (digB s[k] = false → numC s = none) := fun h => HBad.out (digs_bad s k hlt h)
                have hv : numV (s.data.toList.take k) ≤ 999 := by omega
                generalize numV (s.data.toList.take k) = V at *
                obtain ⟨R, hR⟩ : ∃ R, s[k] = R := ⟨_, rfl⟩
                rw [hR] at HT HD HF
                clear hlt10 hp
                by_cases hlow : R.toNat < 48
                · have hN : Hid (numC s = none) := HF.out (by rw [HD.out]; simp; omega)
                  go_wp2
                  refine bodyPost_ret (v := .tuple #[.int .i64 0, .bool false]) (by simp [results, Tryd.results63, go_sem]) rfl ⟨by rw [hN.out]; rfl, hb⟩
                · by_cases hhi : 57 < R.toNat
                  · have hN : Hid (numC s = none) := HF.out (by rw [HD.out]; simp; omega)
                    go_wp2
                    refine bodyPost_ret (v := .tuple #[.int .i64 0, .bool false]) (by simp [results, Tryd.results63, go_sem]) rfl ⟨by rw [hN.out]; rfl, hb⟩
                  · have HR := Lib.hid hR
                    go_wp2
                    go_roundw
                    case rel =>
                      refine ⟨k + 1, by omega, by go_num, ?_, hb, fun j hj hjk => ?_⟩
                      · rw [HT.out]; congr 1; omega
                      · by_cases e : j = k
                        · subst e; rw [HR.out, HD.out]; simp; omega
                        · exact HA.out j hj (by omega)
                    case measure => simp [intOf]; omega
              · obtain rfl : k = s.size := by omega
                have hN : Hid (numC s = some (numV s.data.toList)) := HGood.out (digs_upto s (fun j hj => HA.out j hj hj))
                have hfull : s.data.toList.take s.size = s.data.toList := List.take_of_length_le (Nat.le_of_eq Array.length_toList)
                rw [hfull]
                clear hfull
                go_wp2
                refine bodyPost_ret (v := .tuple #[.int .i64 (numV s.data.toList : Nat), .bool true]) (by simp [results, Tryd.results63, go_sem]) rfl ⟨by rw [hN.out]; rfl, hb⟩
        exact main (by omega)
end Go.Proofs.YtfackmiojbdjhaaDoor

namespace Go.Proofs.YtfackmiojbdjhaaDoor
set_option linter.unusedSimpArgs false
set_option linter.unusedVariables false
open Go.RowKit Go.Maps

/-- append, and where the new slice lies -/
theorem wp_append_at {P : Program} {w : World} {o : Oper} {a : Act} {K : Act → World → Prop} {Q : Exit → Act → World → Prop} (s x : Operand) (t : TypeId)
    (ho : o.op = .call { callee := .builtin .append, args := #[s, x], argTypes := #[t, t] })
    (base : Nat) (e : TypeId) (i : TypeInfo) (z : Value) (size bytes : Nat) (ht : P.underlying t = some (.slice e)) (hi : P.info? e = some i) (hz : i.zero = some z)
    (hsize : i.size = size) (hby : i.bytes = bytes) (hzs : z.cells.size = size) (hsz : 0 < size)
    (v : Value) (n : Nat) (xs : List Value) (hs : a.eval s = v) (hown : w.ownsRow base e size v n xs)
    (ad : Addr) (m c : Nat) (news : List Value) (hx : a.eval x = .slice (some ad) m c) (hl : news.length = m * size) (hnews : ∀ j u, news[j]? = some u → w.cell? (ad.add j) = some u) (h1 : ∀ u ∈ news, u.oneCell' = true)
    (h63 : n + m ≤ maxLen) (hbytes : (n + m) * bytes ≤ 140737488355328) (hbase : base ≤ w.heap.size)
    (h : ∀ v' w', w'.ownsRow base e size v' (n + m) (xs ++ news) → w.grownBy w' v.ownBlock → (v'.ownBlock = v.ownBlock ∨ v'.ownBlock = some w.heap.size) → K (a.put o.dst v') w') : o.wp P a w K Q := by
  obtain ⟨v', w', hr, h2, h3, -, h5⟩ := run_append_own_at (P := P) w base t o.type e i z size bytes ht hi hz hsize hby hzs hsz v n xs hown ad m c news hl hnews h1 h63 hbytes hbase
  unfold Oper.wp execOp
  simp only [ho, resolve, invoke, builtin, Sem.run_bind, Sem.run_pure, Result.andThen_ok, List.map_toArray, List.map_cons, List.map_nil, hs, hx, hr]
  exact h v' w' h2 h3 h5

/-- of what lay in W nothing has turned but block bt and v's own row -/
structure Sx (W : World) (bt : Nat) (v : Value) (w' : World) : Prop where
  sz : W.heap.size ≤ w'.heap.size
  same : ∀ b, b < W.heap.size → b ≠ bt → v.ownBlock ≠ some b → w'.heap[b]? = W.heap[b]?
  bel : Below bt W w'
theorem Sx.refl (W : World) (bt : Nat) (v : Value) : Sx W bt v W := ⟨Nat.le_refl _, fun _ _ _ _ => rfl, Below.refl _ _⟩
theorem Sx.drew {W w : World} {bt : Nat} {v : Value} (h : Sx W bt v w) : Sx W bt v w.drew := ⟨h.sz, h.same, h.bel.drew⟩
theorem Sx.alloc {W w : World} {bt : Nat} {v : Value} (h : Sx W bt v w) (hbt : bt ≤ W.heap.size) (o : Obj) : Sx W bt v (w.alloc o) :=
  ⟨Nat.le_trans h.sz (by simp), fun b hb h1 h2 => ((MapKept.heap_alloc w o).2 b (Nat.lt_of_lt_of_le hb h.sz)).trans (h.same b hb h1 h2), h.bel.alloc (Nat.le_trans hbt h.sz) o⟩
theorem Sx.grown {W w w' : World} {bt : Nat} {v : Value} (h : Sx W bt v w) (hg : w.grownBy w' v.ownBlock) (hbt : bt ≤ W.heap.size) (hv : ∀ k, v.ownBlock = some k → bt ≤ k) : Sx W bt v w' :=
  ⟨Nat.le_trans h.sz hg.size, fun b hb h1 h2 => (hg.block b (Nat.lt_of_lt_of_le hb h.sz) (fun e => h2 e.symm)).trans (h.same b hb h1 h2), h.bel.grown hg (Nat.le_trans hbt h.sz) hv⟩
theorem Sx.set {W w : World} {bt : Nat} {v : Value} (h : Sx W bt v w) (o : Nat) (u : Value) : Sx W bt v (w.setCell ⟨bt, o, none⟩ u) :=
  ⟨by rw [size_set]; exact h.sz, fun b hb h1 h2 => (heap_set w bt o u h1).trans (h.same b hb h1 h2), h.bel.setCell (Nat.le_refl _) u⟩
theorem Sx.cell {W w : World} {bt : Nat} {v : Value} (h : Sx W bt v w) {b o : Nat} (hb : b < W.heap.size) (h1 : b ≠ bt) (h2 : v.ownBlock ≠ some b) : w.cell? ⟨b, o, none⟩ = W.cell? ⟨b, o, none⟩ := cell_same (h.same b hb h1 h2)

def Own3 (vr vc vt : Value) (k : Nat) : Prop := vr.ownBlock = some k ∨ vc.ownBlock = some k ∨ vt.ownBlock = some k
def trustCells (x : Int × ByteArray × ByteArray) : List Value := [.int .i64 x.1, .string x.2.1, .string x.2.2]
structure TX (bt : Nat) (w : World) (vr vc vt : Value) (rs : List Rg) (cls : List ByteArray) (trs : List (Int × ByteArray × ByteArray)) : Prop where
  lt : bt < w.heap.size
  c0 : w.cell? ⟨bt, 0, none⟩ = some vr
  c1 : w.cell? ⟨bt, 1, none⟩ = some vc
  c2 : w.cell? ⟨bt, 2, none⟩ = some vt
  f0 : w.frozen? ⟨bt, 0, none⟩ = false
  f1 : w.frozen? ⟨bt, 1, none⟩ = false
  f2 : w.frozen? ⟨bt, 2, none⟩ = false
  rr : w.ownsRow (bt + 1) 39 9 vr rs.length (flatR rs)
  rc : w.ownsRow (bt + 1) 9 1 vc cls.length (cls.map Value.string)
  rt : w.ownsRow (bt + 1) 138 3 vt trs.length (trs.flatMap trustCells)
  d1 : ∀ k, vr.ownBlock = some k → vc.ownBlock ≠ some k
  d2 : ∀ k, vr.ownBlock = some k → vt.ownBlock ≠ some k
  d3 : ∀ k, vc.ownBlock = some k → vt.ownBlock ≠ some k
/-- what has turned: the state's own block and rows; new rows lie where old ones lay, or are new -/
structure Fr (bt : Nat) (own own' : Nat → Prop) (w w' : World) : Prop where
  sz : w.heap.size ≤ w'.heap.size
  same : ∀ b, b < w.heap.size → b ≠ bt → ¬ own b → w'.heap[b]? = w.heap[b]?
  new : ∀ k, own' k → own k ∨ w.heap.size ≤ k
  bel : Below bt w w'
theorem Fr.refl (bt : Nat) (own : Nat → Prop) (w : World) : Fr bt own own w w := ⟨Nat.le_refl _, fun _ _ _ _ => rfl, fun _ h => .inl h, Below.refl _ _⟩
theorem Fr.trans {bt : Nat} {o1 o2 o3 : Nat → Prop} {w1 w2 w3 : World} (h1 : Fr bt o1 o2 w1 w2) (h2 : Fr bt o2 o3 w2 w3) : Fr bt o1 o3 w1 w3 :=
  ⟨Nat.le_trans h1.sz h2.sz, fun b hb hn ho => (h2.same b (Nat.lt_of_lt_of_le hb h1.sz) hn (fun h => by rcases h1.new b h with h | h; exact ho h; omega)).trans (h1.same b hb hn ho),
    fun k hk => by rcases h2.new k hk with h | h; exact h1.new k h; exact .inr (Nat.le_trans h1.sz h), h1.bel.trans h2.bel⟩
theorem Fr.below {bt : Nat} {own : Nat → Prop} {w w' : World} (h : Below w.heap.size w w') (hbt : bt ≤ w.heap.size) : Fr bt own own w w' :=
  ⟨h.size, fun b hb _ _ => h.block b hb, fun _ h => .inl h, h.mono hbt⟩
theorem TX.below {bt : Nat} {w w' : World} {vr vc vt : Value} {rs : List Rg} {cls : List ByteArray} {trs : List (Int × ByteArray × ByteArray)} (h : TX bt w vr vc vt rs cls trs) (hb : Below w.heap.size w w') : TX bt w' vr vc vt rs cls trs :=
  ⟨Nat.lt_of_lt_of_le h.lt hb.size, (hb.cell (p := ⟨bt, 0, none⟩) h.lt).trans h.c0, (hb.cell (p := ⟨bt, 1, none⟩) h.lt).trans h.c1, (hb.cell (p := ⟨bt, 2, none⟩) h.lt).trans h.c2, (hb.frozen (p := ⟨bt, 0, none⟩) h.lt).trans h.f0, (hb.frozen (p := ⟨bt, 1, none⟩) h.lt).trans h.f1, (hb.frozen (p := ⟨bt, 2, none⟩) h.lt).trans h.f2, ownsRow_below h.rr hb, ownsRow_below h.rc hb, ownsRow_below h.rt hb, h.d1, h.d2, h.d3⟩
/-- a line's words -/
structure Wd (w : World) (A : Nat) (ws : List ByteArray) : Prop where
  lt : A < w.heap.size
  c : ∀ i (h : i < ws.length), w.cell? ⟨A, i, none⟩ = some (.string ws[i])
theorem Wd.below {w w' : World} {A : Nat} {ws : List ByteArray} (h : Wd w A ws) (hb : Below w.heap.size w w') : Wd w' A ws :=
  ⟨Nat.lt_of_lt_of_le h.lt hb.size, fun i hi => (hb.cell (p := ⟨A, i, none⟩) h.lt).trans (h.c i hi)⟩
end Go.Proofs.YtfackmiojbdjhaaDoor

namespace Go.Proofs.YtfackmiojbdjhaaDoor
set_option linter.unusedSimpArgs false
set_option linter.unusedVariables false
open Go.RowKit Go.Maps

theorem ownsRow_lt0 {w : World} {base : Nat} {e : TypeId} {size : Nat} {v : Value} {n : Nat} {xs : List Value} (h : w.ownsRow base e size v n xs) : ∀ k, v.ownBlock = some k → k < w.heap.size := by
  intro k hk
  obtain ⟨_, ⟨hv, _⟩ | ⟨g, cap, cur, hv, hg, hh, _⟩⟩ := h
  · rw [hv] at hk; simp [Value.ownBlock] at hk
  · rw [hv] at hk
    simp only [Value.ownBlock, Option.some.injEq] at hk
    subst hk
    exact (Array.getElem?_eq_some_iff.1 hh).1
theorem TX.step0 {bt : Nat} {w w6 : World} {vr vc vt v : Value} {rs : List Rg} {cls : List ByteArray} {trs : List (Int × ByteArray × ByteArray)} (rs' : List Rg) (h : TX bt w vr vc vt rs cls trs) (hs : Sx w bt vr w6) (e : w6.heap[bt]? = w.heap[bt]?)
    (hr : w6.ownsRow (bt + 1) 39 9 v rs'.length (flatR rs')) (hv : v.ownBlock = vr.ownBlock ∨ ∃ g, v.ownBlock = some g ∧ w.heap.size ≤ g) :
    TX bt (w6.setCell ⟨bt, 0, none⟩ v) v vc vt rs' cls trs ∧ Fr bt (Own3 vr vc vt) (Own3 v vc vt) w (w6.setCell ⟨bt, 0, none⟩ v) := by
  have x_vc : ∀ k, v.ownBlock = some k → vc.ownBlock ≠ some k := by
    intro k hk hu
    rcases hv with hv | ⟨g, hv, hg⟩
    · rw [hv] at hk
      exact h.d1 k hk hu
    · rw [hv] at hk
      obtain rfl := Option.some.inj hk
      have := ownsRow_lt0 h.rc _ hu
      omega
  have s_vc : ∀ b, vc.ownBlock = some b → w6.heap[b]? = w.heap[b]? := fun b hb => hs.same b (ownsRow_lt0 h.rc b hb) (by have := ownsRow_block h.rc b hb; omega) (fun e => h.d1 b e hb)
  have x_vt : ∀ k, v.ownBlock = some k → vt.ownBlock ≠ some k := by
    intro k hk hu
    rcases hv with hv | ⟨g, hv, hg⟩
    · rw [hv] at hk
      exact h.d2 k hk hu
    · rw [hv] at hk
      obtain rfl := Option.some.inj hk
      have := ownsRow_lt0 h.rt _ hu
      omega
  have s_vt : ∀ b, vt.ownBlock = some b → w6.heap[b]? = w.heap[b]? := fun b hb => hs.same b (ownsRow_lt0 h.rt b hb) (by have := ownsRow_block h.rt b hb; omega) (fun e => h.d2 b e hb)
  have e7 : ∀ b, b ≠ bt → (w6.setCell ⟨bt, 0, none⟩ v).heap[b]? = w6.heap[b]? := fun b hb => heap_set _ _ _ _ hb
  refine ⟨⟨by rw [size_set]; exact Nat.lt_of_lt_of_le h.lt hs.sz, ?_, ?_, ?_, ?_, ?_, ?_, ?_, ?_, ?_, ?_, ?_, ?_⟩, ⟨by rw [size_set]; exact hs.sz, ?_, ?_, (hs.set 0 v).bel⟩⟩
  · exact World.cell?_setCell_same _ _ _ ((cell_same e).trans h.c0)
  · rw [World.cell?_setCell_other _ _ _ _ (by simp)]; exact (cell_same e).trans h.c1
  · rw [World.cell?_setCell_other _ _ _ _ (by simp)]; exact (cell_same e).trans h.c2
  · simpa using (frozen_same e).trans h.f0
  · simpa using (frozen_same e).trans h.f1
  · simpa using (frozen_same e).trans h.f2
  · exact ownsRow_same hr (fun b hb _ => e7 b (by omega))
  · exact ownsRow_same2 (ownsRow_same2 h.rc s_vc) (fun b hb => e7 b (by have := ownsRow_block h.rc b hb; omega))
  · exact ownsRow_same2 (ownsRow_same2 h.rt s_vt) (fun b hb => e7 b (by have := ownsRow_block h.rt b hb; omega))
  · exact x_vc
  · exact x_vt
  · exact h.d3
  · intro b hb hne ho
    exact (e7 b hne).trans (hs.same b hb hne (fun e => ho (.inl e)))
  · intro k hk
    rcases hk with hk | hk | hk
    · rcases hv with hv | ⟨g, hv, hg⟩
      · exact .inl (.inl (hv ▸ hk))
      · rw [hv] at hk
        obtain rfl := Option.some.inj hk
        exact .inr hg
    · exact .inl (.inr (.inl hk))
    · exact .inl (.inr (.inr hk))
theorem TX.step1 {bt : Nat} {w w6 : World} {vr vc vt v : Value} {rs : List Rg} {cls : List ByteArray} {trs : List (Int × ByteArray × ByteArray)} (cls' : List ByteArray) (h : TX bt w vr vc vt rs cls trs) (hs : Sx w bt vc w6) (e : w6.heap[bt]? = w.heap[bt]?)
    (hr : w6.ownsRow (bt + 1) 9 1 v cls'.length (cls'.map Value.string)) (hv : v.ownBlock = vc.ownBlock ∨ ∃ g, v.ownBlock = some g ∧ w.heap.size ≤ g) :
    TX bt (w6.setCell ⟨bt, 1, none⟩ v) vr v vt rs cls' trs ∧ Fr bt (Own3 vr vc vt) (Own3 vr v vt) w (w6.setCell ⟨bt, 1, none⟩ v) := by
  have x_vr : ∀ k, v.ownBlock = some k → vr.ownBlock ≠ some k := by
    intro k hk hu
    rcases hv with hv | ⟨g, hv, hg⟩
    · rw [hv] at hk
      exact h.d1 k hu hk
    · rw [hv] at hk
      obtain rfl := Option.some.inj hk
      have := ownsRow_lt0 h.rr _ hu
      omega
  have s_vr : ∀ b, vr.ownBlock = some b → w6.heap[b]? = w.heap[b]? := fun b hb => hs.same b (ownsRow_lt0 h.rr b hb) (by have := ownsRow_block h.rr b hb; omega) (fun e => h.d1 b hb e)
  have x_vt : ∀ k, v.ownBlock = some k → vt.ownBlock ≠ some k := by
    intro k hk hu
    rcases hv with hv | ⟨g, hv, hg⟩
    · rw [hv] at hk
      exact h.d3 k hk hu
    · rw [hv] at hk
      obtain rfl := Option.some.inj hk
      have := ownsRow_lt0 h.rt _ hu
      omega
  have s_vt : ∀ b, vt.ownBlock = some b → w6.heap[b]? = w.heap[b]? := fun b hb => hs.same b (ownsRow_lt0 h.rt b hb) (by have := ownsRow_block h.rt b hb; omega) (fun e => h.d3 b e hb)
  have e7 : ∀ b, b ≠ bt → (w6.setCell ⟨bt, 1, none⟩ v).heap[b]? = w6.heap[b]? := fun b hb => heap_set _ _ _ _ hb
  refine ⟨⟨by rw [size_set]; exact Nat.lt_of_lt_of_le h.lt hs.sz, ?_, ?_, ?_, ?_, ?_, ?_, ?_, ?_, ?_, ?_, ?_, ?_⟩, ⟨by rw [size_set]; exact hs.sz, ?_, ?_, (hs.set 1 v).bel⟩⟩
  · rw [World.cell?_setCell_other _ _ _ _ (by simp)]; exact (cell_same e).trans h.c0
  · exact World.cell?_setCell_same _ _ _ ((cell_same e).trans h.c1)
  · rw [World.cell?_setCell_other _ _ _ _ (by simp)]; exact (cell_same e).trans h.c2
  · simpa using (frozen_same e).trans h.f0
  · simpa using (frozen_same e).trans h.f1
  · simpa using (frozen_same e).trans h.f2
  · exact ownsRow_same2 (ownsRow_same2 h.rr s_vr) (fun b hb => e7 b (by have := ownsRow_block h.rr b hb; omega))
  · exact ownsRow_same hr (fun b hb _ => e7 b (by omega))
  · exact ownsRow_same2 (ownsRow_same2 h.rt s_vt) (fun b hb => e7 b (by have := ownsRow_block h.rt b hb; omega))
  · exact fun k hk hu => x_vr k hu hk
  · exact h.d2
  · exact x_vt
  · intro b hb hne ho
    exact (e7 b hne).trans (hs.same b hb hne (fun e => ho (.inr (.inl e))))
  · intro k hk
    rcases hk with hk | hk | hk
    · exact .inl (.inl hk)
    · rcases hv with hv | ⟨g, hv, hg⟩
      · exact .inl (.inr (.inl (hv ▸ hk)))
      · rw [hv] at hk
        obtain rfl := Option.some.inj hk
        exact .inr hg
    · exact .inl (.inr (.inr hk))
theorem TX.step2 {bt : Nat} {w w6 : World} {vr vc vt v : Value} {rs : List Rg} {cls : List ByteArray} {trs : List (Int × ByteArray × ByteArray)} (trs' : List (Int × ByteArray × ByteArray)) (h : TX bt w vr vc vt rs cls trs) (hs : Sx w bt vt w6) (e : w6.heap[bt]? = w.heap[bt]?)
    (hr : w6.ownsRow (bt + 1) 138 3 v trs'.length (trs'.flatMap trustCells)) (hv : v.ownBlock = vt.ownBlock ∨ ∃ g, v.ownBlock = some g ∧ w.heap.size ≤ g) :
    TX bt (w6.setCell ⟨bt, 2, none⟩ v) vr vc v rs cls trs' ∧ Fr bt (Own3 vr vc vt) (Own3 vr vc v) w (w6.setCell ⟨bt, 2, none⟩ v) := by
  have x_vr : ∀ k, v.ownBlock = some k → vr.ownBlock ≠ some k := by
    intro k hk hu
    rcases hv with hv | ⟨g, hv, hg⟩
    · rw [hv] at hk
      exact h.d2 k hu hk
    · rw [hv] at hk
      obtain rfl := Option.some.inj hk
      have := ownsRow_lt0 h.rr _ hu
      omega
  have s_vr : ∀ b, vr.ownBlock = some b → w6.heap[b]? = w.heap[b]? := fun b hb => hs.same b (ownsRow_lt0 h.rr b hb) (by have := ownsRow_block h.rr b hb; omega) (fun e => h.d2 b hb e)
  have x_vc : ∀ k, v.ownBlock = some k → vc.ownBlock ≠ some k := by
    intro k hk hu
    rcases hv with hv | ⟨g, hv, hg⟩
    · rw [hv] at hk
      exact h.d3 k hu hk
    · rw [hv] at hk
      obtain rfl := Option.some.inj hk
      have := ownsRow_lt0 h.rc _ hu
      omega
  have s_vc : ∀ b, vc.ownBlock = some b → w6.heap[b]? = w.heap[b]? := fun b hb => hs.same b (ownsRow_lt0 h.rc b hb) (by have := ownsRow_block h.rc b hb; omega) (fun e => h.d3 b hb e)
  have e7 : ∀ b, b ≠ bt → (w6.setCell ⟨bt, 2, none⟩ v).heap[b]? = w6.heap[b]? := fun b hb => heap_set _ _ _ _ hb
  refine ⟨⟨by rw [size_set]; exact Nat.lt_of_lt_of_le h.lt hs.sz, ?_, ?_, ?_, ?_, ?_, ?_, ?_, ?_, ?_, ?_, ?_, ?_⟩, ⟨by rw [size_set]; exact hs.sz, ?_, ?_, (hs.set 2 v).bel⟩⟩
  · rw [World.cell?_setCell_other _ _ _ _ (by simp)]; exact (cell_same e).trans h.c0
  · rw [World.cell?_setCell_other _ _ _ _ (by simp)]; exact (cell_same e).trans h.c1
  · exact World.cell?_setCell_same _ _ _ ((cell_same e).trans h.c2)
  · simpa using (frozen_same e).trans h.f0
  · simpa using (frozen_same e).trans h.f1
  · simpa using (frozen_same e).trans h.f2
  · exact ownsRow_same2 (ownsRow_same2 h.rr s_vr) (fun b hb => e7 b (by have := ownsRow_block h.rr b hb; omega))
  · exact ownsRow_same2 (ownsRow_same2 h.rc s_vc) (fun b hb => e7 b (by have := ownsRow_block h.rc b hb; omega))
  · exact ownsRow_same hr (fun b hb _ => e7 b (by omega))
  · exact h.d1
  · exact fun k hk hu => x_vr k hu hk
  · exact fun k hk hu => x_vc k hu hk
  · intro b hb hne ho
    exact (e7 b hne).trans (hs.same b hb hne (fun e => ho (.inr (.inr e))))
  · intro k hk
    rcases hk with hk | hk | hk
    · exact .inl (.inl hk)
    · exact .inl (.inr (.inl hk))
    · rcases hv with hv | ⟨g, hv, hg⟩
      · exact .inl (.inr (.inr (hv ▸ hk)))
      · rw [hv] at hk
        obtain rfl := Option.some.inj hk
        exact .inr hg
end Go.Proofs.YtfackmiojbdjhaaDoor
