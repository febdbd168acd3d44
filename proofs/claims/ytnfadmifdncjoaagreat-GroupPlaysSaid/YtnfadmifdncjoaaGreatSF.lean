import Derived.Test.YtnfadmifdncjoaaGreatFA
import Derived.Deep.MidRow
import Derived.Deep.QuietTactic
import Derived.Test.YtnfadmifdncjoaaGreatS4
import Derived.Test.YtnfadmifdncjoaaGreatS5
/- GroupPlays: the state within the switch. -/
namespace Go.Proofs.YtnfadmifdncjoaaGreat
set_option linter.unusedSimpArgs false
set_option linter.unusedVariables false
open Go.RowKit Go.Maps

noncomputable def c_body : Code := (Tryz.f3.body.getD .skip)
noncomputable def c_loop : Code := (cB (cR (cL (cR (cR (cR (cR (cR (cR (cR (cR c_body)))))))))))
noncomputable def c_sw : Code := (cR (cL (cR (cR (cR (cR (cR (cR (cR (cR (cR (cR (cR (cR (cR (cB (cL (cR (cR (cO c_loop))))))))))))))))))))
/-- which blocks lie where -/
structure Cx (w6 : World) (q p t m dd gg mo tk yb nd qa bX : Nat) : Prop where
  mx : Mx mo tk yb nd
  s1 : w6.heap.size ≤ mo
  s2 : w6.heap.size ≤ tk
  s3 : w6.heap.size ≤ yb
  s4 : w6.heap.size ≤ nd
  s5 : w6.heap.size ≤ t
  s6 : w6.heap.size ≤ m
  ne : ∀ a ∈ [t, m, dd, gg], a ≠ mo ∧ a ≠ tk ∧ a ≠ yb ∧ a ≠ nd
  nq : ∀ a ∈ [mo, tk, yb, nd, qa, bX], a ∉ [q, p, t, m, dd, gg]
theorem Cx.n4 {w6 : World} {q p t m dd gg mo tk yb nd qa bX : Nat} (h : Cx w6 q p t m dd gg mo tk yb nd qa bX) (a : Nat) (ha : a ∈ [mo, tk, yb, nd, qa, bX]) : a ∉ [t, m, dd, gg] := fun hm => h.nq a ha (by
  simp only [List.mem_cons, List.not_mem_nil, or_false] at hm ⊢
  rcases hm with rfl | rfl | rfl | rfl <;> simp)
/-- what holds before a call and behind it -/
def Sw (w6 w : World) (q p t m dd gg mo tk yb nd i B0 P0 M DA NB N L LM K : Nat) (g : Cf.Ge) : Prop :=
  (∃ Y T X V ln, Gr w q p t m dd gg i g B0 NB N ln Y K ∧ ln.l.length ≤ 30 ∧ Rl B0 P0 M DA NB Y T X V ∧ Mo w mo tk yb nd L LM T X V) ∧ Kf w6 w [dd, gg]
/-- the slots that the loop goes on with -/
def Same (f f' : Nat → Value) : Prop := f' 7 = f 7 ∧ f' 9 = f 9 ∧ f' 11 = f 11 ∧ f' 12 = f 12 ∧ f' 14 = f 14 ∧ f' 17 = f 17 ∧ f' 82 = f 82 ∧ f' 83 = f 83 ∧ f' 84 = f 84
theorem hend {F : (Nat → Value) → Act} {Q : Exit → Act → World → Prop} {P : (Nat → Value) → World → Prop} {f f' : Nat → Value} {w' : World} (h : ∀ f' w', Same f f' → P f' w' → Q .normal (F f') w') (e : True) (hs : Same f f') (hp : P f' w') : Q .normal (F f') w' := h f' w' hs hp
theorem Sw.kf {w6 w w' : World} {q p t m dd gg mo tk yb nd i B0 P0 M DA NB N L LM K : Nat} {g : Cf.Ge} {Y X V : Nat → Nat → Int} {T : Nat → Bool} {ln : Lm} {qa bX : Nat} (hx : Cx w6 q p t m dd gg mo tk yb nd qa bX) (hG : Gr w' q p t m dd gg i g B0 NB N ln Y K) (hl : ln.l.length ≤ 30) (hR : Rl B0 P0 M DA NB Y T X V) (hM : Mo w mo tk yb nd L LM T X V) (hK : Kf w6 w [dd, gg]) (hk : Kf w w' [t, m, dd, gg]) : Sw w6 w' q p t m dd gg mo tk yb nd i B0 P0 M DA NB N L LM K g :=
  ⟨⟨Y, T, X, V, ln, hG, hl, hR, hM.kf hk hx.ne⟩, hK.tx hk hx.s5 hx.s6⟩
theorem Sw.keep {w6 w w' : World} {q p t m dd gg mo tk yb nd i B0 P0 M DA NB N L LM K : Nat} {g : Cf.Ge} {Y X V : Nat → Nat → Int} {T : Nat → Bool} {ln : Lm} (hG : Gr w q p t m dd gg i g B0 NB N ln Y K) (hl : ln.l.length ≤ 30) (hR : Rl B0 P0 M DA NB Y T X V) (hM : Mo w mo tk yb nd L LM T X V) (hK : Kf w6 w [dd, gg]) (hb : Below w.heap.size w w') : Sw w6 w' q p t m dd gg mo tk yb nd i B0 P0 M DA NB N L LM K g :=
  ⟨⟨Y, T, X, V, ln, hG.keep hb, hl, hR, hM.keep hb⟩, hK.more hb⟩
theorem put_defers (a : Act) (d : Option Tmp) (v : Value) : (a.put d v).defers = a.defers := by cases d <;> rfl
def nsF (b : Int) : Nat → Int := fun i => if i = 0 then 1 else if i = 1 then b else if i = 2 then b else 0
theorem buildNs (b : Int) (w : World) : (Instr.build 68 #[(0, .int .u8 1), (1, .int .u8 b), (2, .int .u16 b)]).run Tryz.prog w = .ok (.agg (ndc (nsF b)).toArray) w := by kernel_rfl
theorem wpQuiet_load {P : Program} {ops : Array Oper} {C : World → Prop} {Q : Act → Prop} {a : Act} {o : Oper} {rest : List Oper} (hw : Region.wanted o (yielded ops a.tmps) = true) (ty : TypeId) (x : Operand) (ho : o.op = .load ty x)
    (b off : Nat) (hx : a.eval x = .pointer (some ⟨b, off, none⟩)) (cs : List Value) (d : TypeDesc) (hS : ∀ w, C w → w.rangeAt b off cs)
    (hu : P.underlying ty = some d) (hd : d.isRow = true) (hi : (P.info? ty).map (·.size) = some cs.length) (h : wpQuiet P ops C Q rest (a.put o.dst (.agg cs.toArray))) : wpQuiet P ops C Q (o :: rest) a := by
  refine wpQuiet_step (fun K hK => ?_)
  rw [if_pos hw]
  refine ⟨.agg cs.toArray, fun w hC => ?_, hK _ h⟩
  unfold Oper.quietAt execOp
  simp only [ho, hx, Instr.loadAt, Instr.sureAddr, Sem.run_bind, Sem.run_pure, Result.andThen_ok, run_loadVar_mid w b off ty cs d (hS w hC) hu hd hi]
  exact ⟨rfl, rfl⟩
theorem nsF_ok {b : Int} (h : 0 ≤ b ∧ b < 256) : NdOk (nsF b) := ⟨(by show (0 : Int) ≤ 1 ∧ (1 : Int) < 256; decide), h, (by show 0 ≤ b ∧ b < 65536; omega), (by show (0 : Int) ≤ 0 ∧ (0 : Int) < 4294967296; decide), fun i h1 h2 => by
  unfold nsF
  rw [if_neg (by omega), if_neg (by omega), if_neg (by omega)]; decide⟩
theorem nsF_code {b : Int} (h : 0 < b) : codeN (nsF b) = 0 := code_of h (show mbl 1 0 = true by decide)
theorem nsF_bad : codeN (nsF 0) ≠ 0 := by decide +kernel
theorem Fr_ex (b : Nat → Bool) : ∀ n, ∃ v, Fr b n v
  | 0 => ⟨-1, .inl ⟨rfl, fun j hj => absurd hj (Nat.not_lt_zero _)⟩⟩
  | n + 1 => by
    obtain ⟨v, hv⟩ := Fr_ex b n
    rcases hv with ⟨-, h⟩ | ⟨i, hi, h1, h2, h3⟩
    · cases hb : b n
      · exact ⟨n, .inr ⟨n, Nat.lt_succ_self n, rfl, hb, h⟩⟩
      · exact ⟨-1, .inl ⟨rfl, fun j hj => by
          rcases Nat.lt_or_ge j n with h' | h'
          · exact h j h'
          · obtain rfl : j = n := by omega
            exact hb⟩⟩
    · exact ⟨i, .inr ⟨i, by omega, rfl, h2, h3⟩⟩
theorem Fr_uniq {b : Nat → Bool} {n : Nat} {v v' : Int} (h : Fr b n v) (h' : Fr b n v') : v = v' := by
  rcases h with ⟨rfl, h⟩ | ⟨i, hi, rfl, h2, h3⟩
  · rcases h' with ⟨rfl, -⟩ | ⟨i', hi', -, h2', -⟩
    · rfl
    · rw [h i' hi'] at h2'; cases h2'
  · rcases h' with ⟨-, h'⟩ | ⟨i', hi', rfl, h2', h3'⟩
    · rw [h' i hi] at h2; cases h2
    · rcases Nat.lt_trichotomy i i' with h4 | h4 | h4
      · rw [h3' i h4] at h2; cases h2
      · rw [h4]
      · rw [h3 i' h4] at h2'; cases h2'
theorem build36z (w : World) : (Instr.build 59 #[]).run Tryz.prog w = .ok (.agg (byts 64 fun _ => 0).toArray) w := by kernel_rfl
theorem buildMk (k x : Int) (w : World) : (Instr.build 68 #[(0, .int .u8 k), (1, .int .u8 1), (2, .int .u16 x)]).run Tryz.prog w = .ok (.agg (ndc (setG (mkN k) x)).toArray) w := by kernel_rfl
theorem Same.trans {f f' f'' : Nat → Value} (h : Same f f') (k : Same f' f'') : Same f f'' := by
  obtain ⟨a1, a2, a3, a4, a5, a6, a7, a8, a9⟩ := h
  obtain ⟨b1, b2, b3, b4, b5, b6, b7, b8, b9⟩ := k
  exact ⟨b1.trans a1, b2.trans a2, b3.trans a3, b4.trans a4, b5.trans a5, b6.trans a6, b7.trans a7, b8.trans a8, b9.trans a9⟩
theorem put_none (a : Act) (v : Value) : a.put none v = a := rfl
theorem Sw.mono {w6 w : World} {q p t m dd gg mo tk yb nd i B0 P0 M DA NB N L LM K K' : Nat} {g : Cf.Ge} (h : Sw w6 w q p t m dd gg mo tk yb nd i B0 P0 M DA NB N L LM K g) (hk : K ≤ K') : Sw w6 w q p t m dd gg mo tk yb nd i B0 P0 M DA NB N L LM K' g := by
  obtain ⟨⟨Y, T, X, V, ln, hG, hl, hR, hM⟩, h2⟩ := h
  exact ⟨⟨Y, T, X, V, ln, hG.mono (Lm.le_refl _) hk, hl, hR, hM⟩, h2⟩
end Go.Proofs.YtnfadmifdncjoaaGreat
