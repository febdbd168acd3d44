import Derived.Test.YteaoabppppbkoaaGreatDoorJ1
import Derived.Test.YteaoabppppbkoaaGreatDoorJ2
import Derived.Test.YteaoabppppbkoaaGreatDoorJ3
import Derived.Test.YteaoabppppbkoaaGreatDoorJ4
import Derived.Test.YteaoabppppbkoaaGreatDoorJ5
import Derived.Test.YteaoabppppbkoaaGreatDoorJ6
import Derived.Test.YteaoabppppbkoaaGreatDoorJ7
import Derived.Test.YteaoabppppbkoaaGreatDoorJ8
import Derived.Test.YteaoabppppbkoaaGreatDoorJ9
import Derived.Test.YteaoabppppbkoaaGreatDoorJ10
import Derived.Test.YteaoabppppbkoaaGreatDoorJ11
import Derived.Test.YteaoabppppbkoaaGreatDoorJ12
import Derived.Test.YteaoabppppbkoaaGreatDoorJ13
import Derived.Test.YteaoabppppbkoaaGreatDoorJ14
import Derived.Test.YteaoabppppbkoaaGreatDoorJ15
import Derived.Test.YteaoabppppbkoaaGreatDoorJ16
import Derived.Test.YteaoabppppbkoaaGreatDoorJ17
import Derived.Test.YteaoabppppbkoaaGreatDoorJ18
import Derived.Test.YteaoabppppbkoaaGreatDoorJ19
import Derived.Test.YteaoabppppbkoaaGreatDoorJ20
import Derived.Test.YteaoabppppbkoaaGreatDoorJ21
import Derived.Test.YteaoabppppbkoaaGreatDoorJ22
import Derived.Test.YteaoabppppbkoaaGreatDoorJ23
import Derived.Test.YteaoabppppbkoaaGreatDoorJ24
import Derived.BigQuiet
import Derived.BigRegion
import Derived.Carry
import Derived.ChangeKeysEq
import Derived.Deep.CutBlock
import Derived.Deep.DeepAppendRoom
import Derived.Deep.DeepCutAuto
import Derived.Deep.DeepHandedRow
import Derived.Deep.Draws
import Derived.Deep.MidRow
import Derived.Deep.Quiet
import Derived.Deep.QuietTactic
import Derived.Deep.RegionHeld
import Derived.DeepKeys
import Derived.DeepKeys4
import Derived.IntWalk
import Derived.Laws.AppendOwn
import Derived.Laws.AppendOwnNone
import Derived.Laws.BitsAllLaws
import Derived.Laws.CopyOwn
import Derived.Laws.IdiomStrings
import Derived.Laws.MakeOwn
import Derived.Laws.OwnMore
import Derived.Laws.ResultCell
import Derived.Laws.ShiftsVarLaws
import Derived.Lib.DecodeNEq
import Derived.Lib.EndianBits
import Derived.Lib.Hide
import Derived.Lib.LaidTab
import Derived.Lib.LazyBuf
import Derived.Lib.OthersKept
import Derived.Lib.QuietBelow
import Derived.Lib.SlKeysI
import Derived.Lib.SliceRun
import Derived.Lib.SmallJoins
import Derived.Lib.TrimU
import Derived.LoopTactic
import Derived.Maps.OwnOps
import Derived.Maps.OwnSet
import Derived.Maps.RangeWalk
import Derived.OpenShut
import Derived.Orders
import Derived.OwnWalk
import Derived.ProofKit
import Derived.RegionTactic
import Derived.Shelf.Small.Strs
import Derived.Shelf.Small.Utf8
import Derived.Shelf.Sort.Plain
import Derived.Shelf.Strings.AsciiSet
import Derived.Shelf.Strings.Runes
import Derived.Shelf.Strings.Search1
import Derived.Shelf.Strings.Trim
import Derived.Shelf.Unicode.DecodeSlow
import Derived.Sort.Grow
import Derived.Sort.KeysCollected
import Derived.Sort.OwnSorted
import Derived.StillTailTactics
import Derived.WalkKit
import Derived.WalkLawsBesides
import Derived.WalkSpells
/- What else is needed of the parts. -/
/- Blocks of bytes; the disk. -/
namespace Go.Proofs.YteaoabppppbkoaaGreatDoor
set_option linter.unusedSimpArgs false
set_option linter.unusedVariables false
open Go.RowKit Go.Maps
/-! ### copy, by elements of several cells -/
/-! ### blocks compared -/
theorem eqb_same {n : Nat} {f g : Nat → Int} (h : ∀ i, i < n → f i = g i) : eqb n f g = true := (eqb_iff n f g).2 h
theorem Tryz.int5 : Tryz.prog.underlying 5 = some (.int .u8) := by kernel_rfl
theorem eqItems_byts (n d : Nat) (f g : Nat → Int) (w : World) : ∀ is : List Nat, (∀ i ∈ is, i < n) → (Op.eqItems (d + 1) 5 1 (byts n f).toArray (byts n g).toArray is).run Tryz.prog w = .ok (is.all fun i => f i == g i) w
  | [], _ => by simp [Op.eqItems]
  | i :: is, h => by
    have hi := h i (by simp)
    have ih := eqItems_byts n d f g w is (fun j hj => h j (by simp [hj]))
    have hag : (isAgg 5).run Tryz.prog w = .ok false w := by
      unfold isAgg
      rw [Sem.run_bind, run_underlying Tryz.int5 w]
      rfl
    have p1 : ∀ f : Nat → Int, (part 5 (byts n f).toArray (i * 1)).run Tryz.prog w = .ok (.int .u8 (f i)) w := fun f => by
      simp [part, Sem.run_bind, hag, byts_get f hi]
    simp only [Op.eqItems, Sem.run_bind, p1, Result.andThen_ok, run_equalIn_int w d 5 .u8 .u8 _ _ Tryz.int5, List.all_cons]
    cases hb : (f i == g i)
    · simp
    · simpa using ih
theorem eq36 (f g : Nat → Int) (w : World) : (Op.equalIn 10000 116 (.agg (byts 64 f).toArray) (.agg (byts 64 g).toArray)).run Tryz.prog w = .ok (eqb 64 f g) w := by
  obtain ⟨i, hi⟩ : ∃ i, Tryz.prog.info? 5 = some i := by
    have := Tryz.info5
    cases h : Tryz.prog.info? 5 with
    | none => simp [h] at this
    | some i => exact ⟨i, rfl⟩
  rw [run_equalIn_array w 9999 (byts 64 f).toArray (byts 64 g).toArray Tryz.arr36 hi, Tryz.cells5]
  exact eqItems_byts 64 9998 f g w (List.range 64) (fun j hj => List.mem_range.1 hj)

/-! ### results that are a cell -/
/-! ### a block as a variable, as a zero, as a box -/
/-! ### the disk -/
theorem Bs.src {w : World} {p : Option Addr} {c n : Nat} {f : Nat → Int} (h : 0 < n → ∃ b, p = some ⟨b, 0, none⟩ ∧ b < w.heap.size ∧ ∀ j, j < n * 64 → w.cell? ⟨b, j, none⟩ = some (.int .u8 (f j))) (w' : World) (hb : Below w.heap.size w w') :
    0 < (byts (n * 64) f).length → ∃ ad, p = some ad ∧ ∀ j v, (byts (n * 64) f)[j]? = some v → w'.cell? (ad.add j) = some v := by
  intro h0
  rw [byts_len] at h0
  obtain ⟨b, h1, h2, h3⟩ := h (by omega)
  refine ⟨_, h1, fun j v hj => ?_⟩
  obtain ⟨hj1, rfl⟩ := byts_of hj
  rw [Addr.add_mid, Nat.zero_add]
  exact (hb.cell (p := ⟨b, j, none⟩) h2).trans (h3 j hj1)
theorem Tryz.size36n : (Tryz.prog.info? 116).map (·.size) = some 64 := by kernel_rfl

end Go.Proofs.YteaoabppppbkoaaGreatDoor

/- Nodes: blocks of cells, a node as twelve numbers, Blank, Check; Encode. -/
namespace Go.Proofs.YteaoabppppbkoaaGreatDoor
set_option linter.unusedSimpArgs false
set_option linter.unusedVariables false
open Go.RowKit Go.Maps
/-! ### a node as twelve numbers -/
theorem yields_neq {P : Program} {ops : Array Oper} {S : World → Prop} {op : Oper} {a : Act} (hw : Region.wanted op (yielded ops a.tmps) = true) (ty ty' : TypeId) (x y : Operand) (ho : op.op = .binOp .neq ty x y ty') (xs ys : Array Value) (hx : a.eval x = .agg xs) (hy : a.eval y = .agg ys) (b : Bool)
    (hg : P.eqGuardType P.depth ty = false) (hr : ∀ w, S w → (Op.equalIn 10000 ty (.agg xs) (.agg ys)).run P w = .ok b w) : YieldsIf P ops S op (.bool (!b)) a :=
  .inl ⟨hw, fun w hS => by
    have hr := hr w hS
    have hgd := run_eqGuard_agg (P := P) w .neq ty x y xs ys hg
    unfold execOp
    simp [ho, hx, hy, hgd, run_neq_struct, hr, Result.andThen]⟩
end Go.Proofs.YteaoabppppbkoaaGreatDoor

/- Directories: names. -/
namespace Go.Proofs.YteaoabppppbkoaaGreatDoor
set_option linter.unusedSimpArgs false
set_option linter.unusedVariables false
open Go.RowKit Go.Maps
set_option maxHeartbeats 4000000 in
theorem maystand_any (x : UInt8) (w : World) : Calls Tryz.prog 108 #[.int .u8 x.toNat] w fun e w' => e = .returned (.bool (maySt x)) ∧ w' = w := by
  unfold maySt
  obtain ⟨n, hn⟩ : ∃ n, x.toNat = n := ⟨_, rfl⟩
  rw [hn]
  clear hn
  by_cases h1 : 33 ≤ n
  · by_cases h2 : n ≤ 126
    · by_cases h3 : n = 47
      · subst h3
        go_enter Tryz.func108, Tryz.ntmps108
        go_wp2_with fail
        go_ret
        exact ⟨rfl, rfl⟩
      · by_cases h4 : n = 64
        · subst h4
          go_enter Tryz.func108, Tryz.ntmps108
          go_wp2_with fail
          go_ret
          exact ⟨rfl, rfl⟩
        · have h1' : (33 : Int) ≤ n := by omega
          have h2' : (n : Int) ≤ 126 := by omega
          have h3' : ¬ ((n : Int) = 47) := by omega
          have h4' : ¬ ((n : Int) = 64) := by omega
          go_enter Tryz.func108, Tryz.ntmps108
          go_wp2_with fail
          go_ret
          exact ⟨by simp [h1, h2, h3, h4]; omega, rfl⟩
    · have h1' : (33 : Int) ≤ n := by omega
      have h2' : ¬ (n : Int) ≤ 126 := by omega
      go_enter Tryz.func108, Tryz.ntmps108
      go_wp2_with fail
      go_ret
      exact ⟨by simp [h1, h2], rfl⟩
  · have h1' : ¬ (33 : Int) ≤ n := by omega
    go_enter Tryz.func108, Tryz.ntmps108
    go_wp2_with fail
    go_ret
    exact ⟨by simp [h1], rfl⟩
theorem may_upto (s : ByteArray) (h : ∀ j (hj : j < s.size), maySt s[j] = true) : s.data.toList.all maySt = true := by
  rw [List.all_eq_true]
  intro x hx
  obtain ⟨j, hj, rfl⟩ := List.mem_iff_getElem.1 hx
  have hj' : j < s.size := by simpa using hj
  exact h j hj'
theorem may_bad (s : ByteArray) (j : Nat) (hj : j < s.size) (h : maySt s[j] = false) : s.data.toList.all maySt = false := by
  rw [← Bool.not_eq_true, List.all_eq_true]
  intro hh
  have := hh s[j] (by
    have : j < s.data.toList.length := by simpa using hj
    exact List.mem_iff_getElem.2 ⟨j, this, rfl⟩)
  rw [h] at this
  cases this
theorem ba_ext {s : ByteArray} {d : Array UInt8} (h : s.toList = d.toList) : s = ⟨d⟩ := by
  rw [ByteArray.toList_eq] at h
  obtain ⟨a⟩ := s
  congr 1
  exact Array.ext' h
set_option maxHeartbeats 8000000 in
theorem name_any (s : ByteArray) (w : World) : Calls Tryz.prog 63 #[.string s] w fun e w' => e = .returned (.int .i64 (nameC s)) ∧ w' = w := by
  by_cases h0 : s = ⟨#[]⟩
  · subst h0
    go_enter Tryz.func63, Tryz.ntmps63
    go_wp2_with fail
    go_ret
    exact ⟨rfl, rfl⟩
  by_cases h1 : s = ⟨#[46]⟩
  · subst h1
    go_enter Tryz.func63, Tryz.ntmps63
    go_wp2_with fail
    go_ret
    exact ⟨rfl, rfl⟩
  by_cases h2 : s = ⟨#[46, 46]⟩
  · subst h2
    go_enter Tryz.func63, Tryz.ntmps63
    go_wp2_with fail
    go_ret
    exact ⟨by unfold nameC; rw [if_pos (.inr (.inr rfl))]; rfl, rfl⟩
  have hz : ¬ (s.size = 0 ∨ s = ⟨#[46]⟩ ∨ s = ⟨#[46, 46]⟩) := by
    rintro (h | h | h)
    · refine h0 ?_
      obtain ⟨d⟩ := s
      congr 1
      exact Array.size_eq_zero_iff.1 h
    · exact h1 h
    · exact h2 h
  have HZ := Lib.hid hz
  clear hz
  have q0 : s.toList.isEmpty = false := by
    rw [← Bool.not_eq_true, List.isEmpty_iff]
    exact fun h => h0 (ba_ext h)
  have q1 : (s.toList == [46]) = false := by
    rw [← Bool.not_eq_true, beq_iff_eq]
    exact fun h => h1 (ba_ext h)
  have q2 : (s.toList == [46, 46]) = false := by
    rw [← Bool.not_eq_true, beq_iff_eq]
    exact fun h => h2 (ba_ext h)
  clear h0 h1 h2
  by_cases h14 : 14 < s.size
  · have h14' : (14 : Int) < s.size := by omega
    have HL := Lib.hid h14
    go_enter Tryz.func63, Tryz.ntmps63
    go_wp2_with fail
    go_ret
    exact ⟨by unfold nameC; rw [if_neg HZ.out, if_pos HL.out]; rfl, rfl⟩
  · have h14' : ¬ (14 : Int) < s.size := by omega
    have HL := Lib.hid h14
    have hl : (s.size : Int) ≤ 14 := by omega
    go_enter Tryz.func63, Tryz.ntmps63
    go_wp2_with fail
    go_loop [3, 19] (fun _ i => ∃ k : Nat, k ≤ s.size ∧ i = .int .i64 k ∧ ∀ j (hj : j < s.size), j < k → maySt s[j] = true) (fun _ i => s.size - (Go.RowKit.intOf i).toNat)
    case atStart => exact ⟨0, Nat.zero_le _, rfl, fun j _ h => absurd h (Nat.not_lt_zero _)⟩
    case round =>
      obtain ⟨k, hk, rfl, hall⟩ := hrel
      have HA := Lib.hid hall
      clear hall
      by_cases hlt : k < s.size
      · have hlt' : (k : Int) < s.size := by omega
        have hk0 : (0 : Int) ≤ k := by omega
        have HM := Lib.hid (fun W => maystand_any s[k] W)
        go_wp2_with fail
        refine (HM.out w).mono ?_
        rintro e wz ⟨rfl, hwz⟩
        rw [hwz]
        clear hwz
        cases hm : maySt s[k]
        · have HF := Lib.hid (may_bad s k hlt hm)
          clear HM
          go_wp2_with fail
          go_ret
          exact ⟨by unfold nameC; rw [if_neg HZ.out, if_neg HL.out, if_neg (by rw [HF.out]; decide)]; rfl, rfl⟩
        · have HT := Lib.hid hm
          clear HM
          go_wp2_with fail
          go_round
          case rel =>
            refine ⟨k + 1, by omega, by go_num, fun j hj hjk => ?_⟩
            by_cases e : j = k
            · subst e
              exact HT.out
            · exact HA.out j hj (by omega)
          case measure => simp [Go.RowKit.intOf]; omega
      · obtain rfl : k = s.size := by omega
        have HT := Lib.hid (may_upto s (fun j hj => HA.out j hj hj))
        clear HA
        go_wp2_with fail
        go_ret
        exact ⟨by unfold nameC; rw [if_neg HZ.out, if_neg HL.out, if_pos HT.out]; rfl, rfl⟩
end Go.Proofs.YteaoabppppbkoaaGreatDoor

/-
  DERIVED: THE SHELF's CONTRACTS AT THIS DUMP, IN PLAIN WORDS (tools/lay-plain.mjs out of 'YteaoabppppbkoaaGreatDoorShelf.lean', which tools/lay-shelf.mjs wrote): THE SAME DECLARATIONS UNDER THE SAME NAMES: 'import', 'namespace', 'open', 'def', 'theorem' AND NOTHING ELSE: no command of the shelf's: FOR A HAND-IN. Each laying: the table of numbers ('.._ren') and one theorem, a field a fact of the dump's own or the kernel's comparison; each contract: ONE APPLICATION.
-/
namespace Go.Proofs
open Go.Shelf
def Tryz.lays162_ren : Go.Shelf.Ren := ⟨fun | 162 => 135 | 232 => 157 | 227 => 158 | 234 => 159 | 236 => 160 | 228 => 188 | 271 => 189 | 151 => 190 | 120 => 204 | 197 => 205 | 152 => 206 | 260 => 209 | 137 => 210 | 119 => 211 | 224 => 212 | 225 => 213 | 217 => 215 | 266 => 216 | n => n, fun | 9 => 9 | 4 => 4 | 3 => 3 | 5 => 5 | 117 => 283 | 116 => 282 | 0 => 0 | 124 => 286 | 21 => 21 | 105 => 312 | 46 => 251 | 119 => 334 | 139 => 337 | 138 => 336 | n => n, fun | 3 => 0 | 4 => 1 | n => n⟩
theorem Tryz.lays162 : Go.Proofs.Lays.n162 Tryz.prog Tryz.lays162_ren := {
  mixed := by kernel_rfl
  f119 := Tryz.func211.trans (congrArg some (by kernel_rfl))
  f120 := Tryz.func204.trans (congrArg some (by kernel_rfl))
  f137 := Tryz.func210.trans (congrArg some (by kernel_rfl))
  f151 := Tryz.func190.trans (congrArg some (by kernel_rfl))
  f152 := Tryz.func206.trans (congrArg some (by kernel_rfl))
  f162 := Tryz.func135.trans (congrArg some (by kernel_rfl))
  f197 := Tryz.func205.trans (congrArg some (by kernel_rfl))
  f217 := Tryz.func215.trans (congrArg some (by kernel_rfl))
  f224 := Tryz.func212.trans (congrArg some (by kernel_rfl))
  f225 := Tryz.func213.trans (congrArg some (by kernel_rfl))
  f227 := Tryz.func158.trans (congrArg some (by kernel_rfl))
  f228 := Tryz.func188.trans (congrArg some (by kernel_rfl))
  f232 := Tryz.func157.trans (congrArg some (by kernel_rfl))
  f234 := Tryz.func159.trans (congrArg some (by kernel_rfl))
  f236 := Tryz.func160.trans (congrArg some (by kernel_rfl))
  f260 := Tryz.func209.trans (congrArg some (by kernel_rfl))
  f266 := Tryz.func216.trans (congrArg some (by kernel_rfl))
  f271 := Tryz.func189.trans (congrArg some (by kernel_rfl))
  t0 := Tryz.underlying0
  a0 := Tryz.isAgg0
  z0 := Tryz.sizeOf0
  v0 := Tryz.zeroValue0
  t3 := Tryz.underlying3
  a3 := Tryz.isAgg3
  z3 := Tryz.sizeOf3
  v3 := Tryz.zeroValue3
  t4 := Tryz.underlying4
  a4 := Tryz.isAgg4
  z4 := Tryz.sizeOf4
  v4 := Tryz.zeroValue4
  t5 := Tryz.underlying5
  a5 := Tryz.isAgg5
  z5 := Tryz.sizeOf5
  v5 := Tryz.zeroValue5
  t9 := Tryz.underlying9
  a9 := Tryz.isAgg9
  z9 := Tryz.sizeOf9
  v9 := Tryz.zeroValue9
  t21 := Tryz.underlying21
  a21 := Tryz.isAgg21
  z21 := Tryz.sizeOf21
  v21 := Tryz.zeroValue21
  t46 := Tryz.underlying251
  a46 := Tryz.isAgg251
  z46 := Tryz.sizeOf251
  v46 := Tryz.zeroValue251
  t105 := Tryz.underlying312
  a105 := Tryz.isAgg312
  z105 := Tryz.sizeOf312
  v105 := Tryz.zeroValue312
  t116 := Tryz.underlying282
  a116 := Tryz.isAgg282
  z116 := Tryz.sizeOf282
  t117 := Tryz.underlying283
  a117 := Tryz.isAgg283
  z117 := Tryz.sizeOf283
  v117 := Tryz.zeroValue283
  t119 := Tryz.underlying334
  a119 := Tryz.isAgg334
  z119 := Tryz.sizeOf334
  t124 := Tryz.underlying286
  a124 := Tryz.isAgg286
  z124 := Tryz.sizeOf286
  v124 := Tryz.zeroValue286
  t138 := Tryz.underlying336
  a138 := Tryz.isAgg336
  z138 := Tryz.sizeOf336
  v138 := Tryz.zeroValue336
  t139 := Tryz.underlying337
  a139 := Tryz.isAgg337
  z139 := Tryz.sizeOf337
  v139 := Tryz.zeroValue337
  g3 := by kernel_rfl
  g4 := by kernel_rfl }
open Go.RowKit in
/-- strings.TrimRight: "TrimRight returns a slice of the string s, with all trailing Unicode code points contained in cutset removed.": AT A cutset OF ONE ASCII BYTE. The world is as it was. (LAID: no walk: one application.) -/
theorem Tryz.strings_TrimRight_one (s : ByteArray) (c : UInt8) (hc : c.toNat < 128) (w : World) (hs : s.size ≤ 9223372036854775807) :
    Calls Tryz.prog 135 #[.string s, .string ⟨#[c]⟩] w fun e w' => e = .returned (.string ⟨(Lib.trimRightB s.data.toList c).toArray⟩) ∧ w' = w := Any.strings_TrimRight_one Tryz.lays162 s c hc w hs
end Go.Proofs

/- A transaction on a disk of a configuration: the blocks behind the log, as they will be; where a node stands. -/
namespace Go.Proofs.YteaoabppppbkoaaGreatDoor
set_option linter.unusedSimpArgs false
set_option linter.unusedVariables false
open Go.RowKit Go.Maps
theorem over_nil (D : Nat → Nat → Int) : over [] D = D := rfl
/-! ### where a node stands -/
end Go.Proofs.YteaoabppppbkoaaGreatDoor

/- Directories: entries as bytes. -/
namespace Go.Proofs.YteaoabppppbkoaaGreatDoor
set_option linter.unusedSimpArgs false
set_option linter.unusedVariables false
open Go.RowKit Go.Maps
theorem enc_one (e : En) : ∀ v ∈ enc e, v.oneCell' = true := by
  intro v hv
  simp only [enc, List.mem_cons, List.not_mem_nil, or_false] at hv
  rcases hv with rfl | rfl <;> rfl
theorem Tryz.zeroEn : (Tryz.prog.info? 58).map (fun i => i.zero) = some (some (.agg (enc zE).toArray)) := by kernel_rfl
theorem Tryz.isizeEn : (Tryz.prog.info? 58).map (·.size) = some 2 := by kernel_rfl
theorem sizeEn (e : En) : (Tryz.prog.info? 58).map (·.size) = some (enc e).length := Tryz.isizeEn
theorem Tryz.descEn : ∃ d, Tryz.prog.underlying 58 = some d ∧ d.isRow = true := ⟨_, Tryz.underlying58, rfl⟩
theorem Tryz.buildEn0 (w : World) : (Instr.build 58 #[]).run Tryz.prog w = .ok (.agg (enc zE).toArray) w := by kernel_rfl
theorem Tryz.buildEn2 (s : ByteArray) (n : Int) (w : World) : (Instr.build 58 #[(0, .string s), (1, .int .u16 n)]).run Tryz.prog w = .ok (.agg #[.string s, .int .u16 n]) w := by kernel_rfl
theorem Tryz.guardEn : Tryz.prog.eqGuardType Tryz.prog.depth 58 = false := by kernel_rfl
theorem Tryz.clEn : Tryz.prog.cellsOf 58 = 2 := by kernel_rfl
theorem Tryz.clStr : Tryz.prog.cellsOf 9 = 1 := by kernel_rfl
theorem Tryz.keyEn : Tryz.prog.keyTypeAt 3 58 = true := by kernel_rfl
def enl (e : En) : List Lit := [.string e.1.data.toList, .int .u16 e.2]
theorem enl_is (e : En) (h1 : e.1.size ≤ maxLen) (h2 : e.2 < 65536) : Tryz.prog.keyLits 4 58 (enc e) = some (enl e) := by
  have w1 := wf16 (e.2 : Int) ⟨by omega, by omega⟩
  simp [enc, enl, Program.keyLits, Tryz.underlying58, Tryz.underlying9, Tryz.underlying36, Tryz.clEn, Tryz.clStr, Tryz.cl23, w1, h1]
theorem enc_formed (e : En) : (Value.agg (enc e).toArray).formed Tryz.prog 58 = true := by simp [Value.formed, Tryz.underlying58, Tryz.clEn, enc]
theorem enl_inj (e e' : En) : enl e = enl e' ↔ e = e' := by
  constructor
  · intro h
    simp only [enl, List.cons.injEq, Lit.string.injEq, Lit.int.injEq, and_true, true_and] at h
    obtain ⟨⟨s⟩, n⟩ := e
    obtain ⟨⟨s'⟩, n'⟩ := e'
    obtain ⟨h1, h2⟩ := h
    have h3 : s = s' := Array.ext' h1
    have h4 : n = n' := by
      have : (n : Int) = n' := h2
      omega
    rw [h3, h4]
  · rintro rfl
    rfl
theorem eqEn (e e' : En) (h1 : e.1.size ≤ maxLen) (h2 : e.2 < 65536) (h3 : e'.1.size ≤ maxLen) (h4 : e'.2 < 65536) (w : World) : (Op.equalIn 10000 58 (.agg (enc e).toArray) (.agg (enc e').toArray)).run Tryz.prog w = .ok (decide (e = e')) w := by
  obtain ⟨r, hr, hiff⟩ := run_equalIn_deep (P := Tryz.prog) 9997 3 58 Tryz.keyEn w 4 4 _ _ _ _ (enc_formed e) (enc_formed e') (enl_is e h1 h2) (enl_is e' h3 h4)
  rw [show 9997 + 3 = 10000 from rfl] at hr
  rw [hr, show r = decide (e = e') from Bool.eq_iff_iff.2 (hiff.trans ((enl_inj e e').trans decide_eq_true_iff.symm))]
/-- is it what an empty place has? -/
def vacE (e : En) : Bool := decide (e = zE)
set_option maxHeartbeats 8000000 in
theorem vacant_any (e : En) (h1 : e.1.size ≤ maxLen) (h2 : e.2 < 65536) (w : World) : Calls Tryz.prog 70 #[.agg (enc e).toArray] w fun x w' => x = .returned (.bool (vacE e)) ∧ Below w.heap.size w w' := by
  obtain ⟨d, hu, hd⟩ := Tryz.descEn
  have HU := Lib.hid hu
  have HD := Lib.hid hd
  have HE := Lib.hid (fun W => eqEn e zE h1 h2 (Nat.zero_le _) (by decide) W)
  unfold vacE
  obtain ⟨C, hC⟩ : ∃ C, decide (e = zE) = C := ⟨_, rfl⟩
  rw [hC] at HE ⊢
  clear hu hd hC h1 h2
  go_enter Tryz.func70, Tryz.ntmps70
  go_wp2_with (first | (refine wpList_box_list rfl 58 _ rfl (enc e) rfl ?_; intro w1 F1 hb1 hz1; have HB1 := Lib.hid hb1; clear hb1 hz1) | (refine wpList_load_mid rfl 58 _ rfl w.heap.size 0 rfl (enc e) d F1.out.range0 HU.out HD.out (sizeEn e) ?_) | (refine wpList_yields (.agg (enc zE).toArray) (yields_bld0 (by rfl) 58 rfl _ Tryz.buildEn0) ?_) | (refine wpList_yields (.bool C) (yields_eql (by rfl) 58 58 _ _ rfl (enc e).toArray (enc zE).toArray rfl rfl C Tryz.guardEn (fun W _ => HE.out W)) ?_))
  go_ret
  exact ⟨rfl, HB1.out⟩
theorem btF_bd (s : ByteArray) (j : Nat) : 0 ≤ btF s j ∧ btF s j < 256 := by
  unfold btF
  split
  · rename_i b _
    have := b.toNat_lt
    omega
  · decide
theorem btF_past (s : ByteArray) (j : Nat) (h : s.size ≤ j) : btF s j = 0 := by
  unfold btF
  rw [List.getElem?_eq_none (by rw [← Lib.size_eq]; exact h)]
end Go.Proofs.YteaoabppppbkoaaGreatDoor

/- A group: Make; Usage; a disk as an image. -/
namespace Go.Proofs.YteaoabppppbkoaaGreatDoor
set_option linter.unusedSimpArgs false
set_option linter.unusedVariables false
open Go.RowKit Go.Maps
variable {ln : Lm}
/-! ### Make -/
/-! ### how many nodes aren't free -/
def cN (V : Nat → Nat → Int) : Nat → Nat
  | 0 => 0
  | k + 1 => cN V k + if V (k + 1) 0 = 0 then 0 else 1
/-! ### a disk as an image -/
set_option maxHeartbeats 2000000 in
set_option maxRecDepth 100000 in
theorem image_fl (d g : Nat) (s : DS) (hn : s.n ≤ 65536) (w : World) (h : Dk w d g s) :
    Calls Tryz.prog 46 #[.pointer (some ⟨d, 0, none⟩)] w fun e w' => ∃ b c, e = .returned (.slice (some ⟨b, 0, none⟩) s.n c) ∧ w.heap.size ≤ b ∧ Fl w' b (s.n * 64) s.f ∧ Below w.heap.size w w' := by
  have H := Lib.hid h
  have c0 := h.c0
  clear h
  go_enter Tryz.func46, Tryz.ntmps46
  go_wp2_with (first | (refine wpList_make36 rfl _ rfl s.n rfl hn ?_; intro w1 F1 hb1 hz1; have H1 := Lib.hid (H.out.keep hb1); have hb1' := Lib.hid hb1; replace c0 := H1.out.c0; clear hb1) | (refine wpList_copy_mid rfl (.tmp 12) (.tmp 16) 113 113 rfl 116 (by kernel_rfl) 64 Tryz.size36n w.heap.size 0 s.n s.n (some ⟨g, 0, none⟩) s.n s.n rfl rfl (byts (s.n * 64) s.f) (by rw [byts_len, show Nat.min s.n s.n = s.n from Nat.min_self s.n]) (Bs.src (c := s.n) (fun _ => ⟨g, rfl, H1.out.fl.lt, H1.out.fl.c⟩) _ (Below.refl _ _)) (by rw [byts_len]; exact F1.out.there 0 (s.n * 64) (by omega)) (byts_one _ _) ?_))
  go_ret
  exact ⟨_, _, rfl, Nat.le_refl _, F1.out.stored _, below_setCells hb1'.out _ _ (Nat.le_refl _) _⟩

theorem image7 {N : Nat} (t m d g K : Nat) (Y : Nat → Nat → Int) (w : World) (h : Rd w t m d g N ⟨[], Y⟩ Y K) :
    Calls Tryz.prog 46 #[.pointer (some ⟨d, 0, none⟩)] w fun e w' => ∃ b c, e = .returned (.slice (some ⟨b, 0, none⟩) N c) ∧ w.heap.size ≤ b ∧ Img w' b N Y ∧ Below w.heap.size w w' := by
  obtain ⟨T, D, s, ht, hd, hs, ha, hA, hY, hl, hT⟩ := h.ex
  obtain rfl : T = [] := List.eq_nil_iff_forall_not_mem.2 fun p hp => by cases hl.1 p hp
  rw [over_nil] at hY
  subst hY
  have hn := hA.n
  refine (image_fl d g s (by rw [hn]; exact h.hN) w hd).mono ?_
  rintro e w' ⟨b, c, rfl, hbb, hF, hb⟩
  rw [hn] at hF ⊢
  exact ⟨b, c, rfl, hbb, ⟨s.f, hF, fun x h1 h2 j hj => hA.out x ⟨h2, by omega⟩ j hj⟩, hb⟩
end Go.Proofs.YteaoabppppbkoaaGreatDoor

/- In which group a block lies. -/
namespace Go.Proofs.YteaoabppppbkoaaGreatDoor.Cf
set_option linter.unusedSimpArgs false
set_option linter.unusedVariables false
open Go.RowKit Go.Maps
/-- what Group answers -/
def GroupPost (rs : List Rg) (x : Int) (w : World) (e : Ending) (w' : World) : Prop :=
  Below w.heap.size w w' ∧ ((∃ i, ∃ hi : i < rs.length, (∀ j (hj : j < i), ¬ inG ((layF rs).1[j]'(by rw [lay_len]; omega)) x) ∧ inG ((layF rs).1[i]'(by rw [lay_len]; exact hi)) x ∧
      e = .returned (.tuple #[.int .i64 i, .int .i64 (max 0 (x - ((layF rs).1[i]'(by rw [lay_len]; exact hi)).da + 1)), .bool true])) ∨
    ((∀ j (hj : j < rs.length), ¬ inG ((layF rs).1[j]'(by rw [lay_len]; omega)) x) ∧ e = .returned (.tuple #[.int .i64 0, .int .i64 0, .bool false])))
set_option maxHeartbeats 2000000 in
set_option maxRecDepth 100000 in
theorem group_any (n : Nat) (vr vm vg : Value) (rs : List Rg) (ms : List (Int × Int)) (hs : ∀ r ∈ rs, Small r) (h0 : 0 < rs.length) (h64 : rs.length ≤ 64) (x : Int) (hx : -9223372036854775808 ≤ x) (hx2 : x < 9223372036854775808) (w : World) (h : CF n w vr vm vg rs ms) :
    Calls Tryz.prog 47 #[.pointer (some ⟨n + 3, 0, none⟩), .int .i64 x] w (GroupPost rs x w) := by
  have hlen := clen_any n vr vm vg rs ms w h h64
  obtain ⟨g, gcap, rfl, hgl, hm, hcell⟩ := h.geo h0
  have HC := Lib.hid hcell
  have HH := Lib.hid h
  have HRan := Lib.hid (lay_range rs hs h64)
  obtain ⟨N, hN⟩ : ∃ N, rs.length = N := ⟨_, rfl⟩
  have HN := Lib.hid hN
  rw [hN] at hlen hm
  clear h hcell hN hs
  unfold maxLen at hm
  go_enter Tryz.func47, Tryz.ntmps47
  go_wp2_with fail
  refine hlen.mono ?_
  rintro e w1 ⟨rfl, rfl⟩
  obtain ⟨w0, rfl⟩ : ∃ x, x = w1 := ⟨w1, rfl⟩
  go_wp2
  go_loopw [11] (fun i wr => ∃ k : Nat, k ≤ N ∧ i = .int .i64 k ∧ Below w0.heap.size w0 wr ∧ ∀ j (hj : j < rs.length), j < k → ¬ inG ((layF rs).1[j]'(by rw [lay_len]; omega)) x) (fun i _ => N - (intOf i).toNat)
  case atStart => exact ⟨0, by omega, rfl, Below.refl _ _, fun j _ h => by omega⟩
  case round =>
    obtain ⟨k, hk, rfl, hb, hno⟩ := hrel
    have HNO := Lib.hid hno
    have HB := Lib.hid hb
    clear hno
    by_cases hlt : k < N
    · have hltr : k < rs.length := by rw [HN.out]; exact hlt
      have e0 := (hb.cell (p := ⟨g, k * 6 + 0, none⟩) hgl).trans (HC.out k hltr 0 (by omega))
      have e1 := (hb.cell (p := ⟨g, k * 6 + 1, none⟩) hgl).trans (HC.out k hltr 1 (by omega))
      have e2 := (hb.cell (p := ⟨g, k * 6 + 2, none⟩) hgl).trans (HC.out k hltr 2 (by omega))
      have e3 := (hb.cell (p := ⟨g, k * 6 + 3, none⟩) hgl).trans (HC.out k hltr 3 (by omega))
      have e4 := (hb.cell (p := ⟨g, k * 6 + 4, none⟩) hgl).trans (HC.out k hltr 4 (by omega))
      have e5 := (hb.cell (p := ⟨g, k * 6 + 5, none⟩) hgl).trans (HC.out k hltr 5 (by omega))
      obtain ⟨r1, r2, r3, r4, r5, r6, r7, r8⟩ := HRan.out k hltr
      obtain ⟨c0, c2, clt⟩ := (fun (q : CF n wr vr vm _ rs ms) => (⟨q.cb.c0, q.cb.c2, q.cb.lt⟩ : _ ∧ _ ∧ _)) (HH.out.below hb)
      clear hb
      have HGk : Hid (∀ q : Int, inG ((layF rs).1[k]'(by rw [lay_len]; exact hltr)) q ↔ ((layF rs).1[k]'(by rw [lay_len]; exact hltr)).base ≤ q ∧ q < ((layF rs).1[k]'(by rw [lay_len]; exact hltr)).da + ((layF rs).1[k]'(by rw [lay_len]; exact hltr)).bl) := fun q => Iff.rfl
      have HPo : Hid (inG ((layF rs).1[k]'(by rw [lay_len]; exact hltr)) x → ∀ w', Below w0.heap.size w0 w' → GroupPost rs x w0 (.returned (.tuple #[.int .i64 k, .int .i64 (max 0 (x - ((layF rs).1[k]'(by rw [lay_len]; exact hltr)).da + 1)), .bool true])) w') := by
        intro hi w' hb'
        exact ⟨hb', .inl ⟨k, hltr, fun j hj => HNO.out j (by omega) hj, hi, rfl⟩⟩
      have HNx : Hid (¬ inG ((layF rs).1[k]'(by rw [lay_len]; exact hltr)) x → ∀ j (hj : j < rs.length), j < k + 1 → ¬ inG ((layF rs).1[j]'(by rw [lay_len]; omega)) x) := by
        intro hi j hj hjk
        by_cases e : j = k
        · subst e; exact hi
        · exact HNO.out j hj (by omega)
      generalize (layF rs).1[k]'(by rw [lay_len]; exact hltr) = gg at *
      obtain ⟨bs, bm, tb, da, bl, nd⟩ := gg
      simp [Ge.cells] at e0 e1 e2 e3 e4 e5
      simp only at r1 r2 r3 r4 r5 r6 r7 r8
      have hend := fun W => end_any bs bm tb da bl nd W (by omega) (by omega) (by omega) (by omega)
      have hn3 : n + 3 < wr.heap.size := by omega
      have hgl2 : g < wr.heap.size := Nat.lt_of_lt_of_le hgl HB.out.size
      rw [HN.out] at c2
      have hlt' : (k : Int) < (N : Int) := by omega
      by_cases hlow : bs ≤ x
      · go_wp2_with fail
        refine (hend _).mono ?_
        rintro e w2 ⟨rfl, hb2⟩
        have hz2 := hb2.size
        simp at hz2
        have hlt2 : wr.heap.size < w2.heap.size := by omega
        have g3 : w2.cell? ⟨wr.heap.size, 3, none⟩ = some (.int .i64 da) := (hb2.cell (p := ⟨wr.heap.size, 3, none⟩) (by simp)).trans (by simp [World.cell?_alloc_new])
        have HB2 := Lib.hid (HB.out.trans ((((Below.refl _ wr).alloc (Nat.le_refl _) _).trans (hb2.mono (by simp))).mono HB.out.size))
        clear hb2 hend e0 e1 e2 e3 e4 e5 c0 c2
        by_cases hhi : x < da + bl
        · have hsub : -9223372036854775808 ≤ x - da ∧ x - da < 1000 := by omega
          have HIN : Hid (inG ⟨bs, bm, tb, da, bl, nd⟩ x) := (HGk.out x).2 ⟨hlow, hhi⟩
          go_wp2
          go_quiet (fail)
          go_wp2
          all_goals
            refine bodyPost_ret (v := .tuple #[.int .i64 k, .int .i64 (max 0 (x - da + 1)), .bool true]) (by simp [results, Tryz.results47, go_sem] <;> omega) rfl ?_
            exact HPo.out HIN.out _ (below_drewN' HB2.out _)
        · go_wp2
          go_roundw
          case rel => exact ⟨k + 1, by omega, by go_num, HB2.out, HNx.out (fun h => by have := (HGk.out x).1 h; (try simp only at this); omega)⟩
          case measure => simp [intOf]; omega
      · go_wp2
        go_roundw
        case rel => exact ⟨k + 1, by omega, by go_num, HB.out.alloc HB.out.size _, HNx.out (fun h => by have := (HGk.out x).1 h; (try simp only at this); omega)⟩
        case measure => simp [intOf]; omega
    · obtain rfl : k = N := by omega
      go_wp2
      refine bodyPost_ret (v := .tuple #[.int .i64 0, .int .i64 0, .bool false]) (by simp [results, Tryz.results47, go_sem]) rfl ⟨HB.out, .inr ⟨fun j hj => HNO.out j hj (by rw [← HN.out]; exact hj), rfl⟩⟩
end Go.Proofs.YteaoabppppbkoaaGreatDoor.Cf

/- A group: Node out of range, Set that fails, Wipe, Ino. -/
namespace Go.Proofs.YteaoabppppbkoaaGreatDoor
set_option linter.unusedSimpArgs false
set_option linter.unusedVariables false
open Go.RowKit Go.Maps
variable {ln : Lm}
theorem genN_code (x : Int) : codeN (genN x) = 0 := by
  unfold codeN okN
  rw [show blankB (genN x) = true from by simp [blankB, genN, eqb]]
  rfl
set_option maxHeartbeats 20000000 in
set_option maxRecDepth 100000 in
theorem gwipe_in (q p t m d gg lab B0 P0 M DA NB N K : Nat) (g : Cf.Ge) (Y : Nat → Nat → Int) (V : Nat → Nat → Int) (n : Nat) (h1 : 1 ≤ n) (h2 : n ≤ M) (hT : Has ln (P0 + (n - 1) / 2)) (hK : K < 500000000) (hI : Tab P0 M Y V) (hg : GG g B0 P0 M DA NB N) (w : World) (h : Gr w q p t m d gg lab g B0 NB N ln Y K) :
    Calls Tryz.prog 33 #[.pointer (some ⟨q, 0, none⟩), .int .i64 n] w fun e w' => e = .returned (.int .i64 0) ∧ Gr w' q p t m d gg lab g B0 NB N ln (tabW P0 n (genN (V n 2)) Y) (K + 2) ∧ Kf w w' [t, m, d, gg] := by
  have HN := Lib.hid (gnode_in q p t m d gg lab B0 P0 M DA NB N K g Y V n h1 h2 (by omega) hI hg w h)
  have hok := (hI n h1 h2).2.1
  have HS := Lib.hid (fun W hW => gset_in (ln := ln) q p t m d gg lab B0 P0 M DA NB N (K + 1) g Y (genN (V n 2)) (genN_ok hok.g) (genN_code _) n h1 h2 hT (by omega) hg W hW)
  obtain ⟨f, hf⟩ : ∃ f, V n = f := ⟨_, rfl⟩
  rw [hf] at HN HS ⊢
  obtain ⟨Z, hZ⟩ : ∃ Z, tabW P0 n (genN (f 2)) Y = Z := ⟨_, rfl⟩
  rw [hZ] at HS ⊢
  have lts := Lib.hid h.lts
  clear hZ hf hok hI h hg h1 h2 hK hT
  go_enter Tryz.func33, Tryz.ntmps33
  go_wp2_with fail
  refine HN.out.mono ?_
  rintro e w2 ⟨rfl, hG, hk⟩
  have HG2 := Lib.hid hG
  have HK2 := Lib.hid hk
  have hww := hk.size
  have NB6 := Lib.hid (hG.notin (Nat.le_refl _))
  clear hG hk HN
  go_upto_region 2 with (first | (refine wpList_alloc_list (w := w2) rfl 77 rfl (ndc zpt) Tryz.zero27 ?_; intro w3 F3 hb3 hz3; have HG3 := Lib.hid (HG2.out.keep hb3); have HK3 := Lib.hid (HK2.out.more hb3); clear hb3 hz3) | (refine wpList_store_list rfl 77 (.tmp 5) (.tmp 11) rfl w2.heap.size (ndc zpt) (ndc f) rfl rfl F3.out rfl (size27 _) (ndc_one _) ?_; intro w4 F4 HK4))
  obtain ⟨b, hb⟩ : ∃ b, w2.heap.size = b := ⟨_, rfl⟩
  rw [hb] at F4 HK4 NB6 hww
  try rw [hb]
  have HG4 := Lib.hid (HG3.out.kp HK4.out NB6.out)
  have HK5 := Lib.hid (HK3.out.fresh HK4.out hww)
  clear hb HG2 HG3 HK2 HK3 HK4 F3
  have c2 := F4.out.c 2 _ rfl
  go_wp2_with (first | (refine wpList_yields (.agg (ndc (genN (f 2))).toArray) (yields_bld1 (by rfl) 77 2 (.tmp 19) rfl (.int .u16 (f 2)) rfl _ (build27_gen _)) ?_))
  refine (HS.out w4 HG4.out).mono ?_
  rintro e w6 ⟨rfl, hG, hk⟩
  have HG6 := Lib.hid hG
  have HK6 := Lib.hid (HK5.out.trans hk)
  clear hG hk HG4 HK5 c2 F4 HS
  go_wp2_with fail
  go_ret
  exact ⟨rfl, HG6.out, HK6.out⟩
end Go.Proofs.YteaoabppppbkoaaGreatDoor

/- Files: bytes as handed in; as strings; appended. -/
namespace Go.Proofs.YteaoabppppbkoaaGreatDoor
set_option linter.unusedSimpArgs false
set_option linter.unusedVariables false
open Go.RowKit Go.Maps
def strOf (n : Nat) (s : Nat → Int) : ByteArray := ⟨((List.range n).map fun j => UInt8.ofNat (s j).toNat).toArray⟩
theorem u8_back (x : Int) (h0 : 0 ≤ x) (h1 : x < 256) : ((UInt8.ofNat x.toNat).toNat : Int) = x := by
  rw [UInt8.toNat_ofNat']
  omega
set_option maxRecDepth 100000 in
theorem str_cells {w : World} {b off n c : Nat} {s : Nat → Int} (hs : ∀ j, j < n → 0 ≤ s j ∧ s j < 256) (h : ∀ j, j < n → w.cell? ⟨b, off + j, none⟩ = some (.int .u8 (s j))) :
    (convert 27 9 (.slice (some ⟨b, off, none⟩) n c)).run Tryz.prog w = .ok (.string (strOf n s)) w := by
  have := run_convert_bytes_back (P := Tryz.prog) w 27 9 5 ⟨b, off, none⟩ c ((List.range n).map fun j => UInt8.ofNat (s j).toNat) (by kernel_rfl) (by kernel_rfl) (by kernel_rfl) (fun j hj => by
    have hj' : j < n := by simpa using hj
    rw [List.getElem_map, List.getElem_range, u8_back _ (hs j hj').1 (hs j hj').2, Addr.add_lit]
    exact h j hj')
  rw [List.length_map, List.length_range] at this
  exact this
end Go.Proofs.YteaoabppppbkoaaGreatDoor

/- Directories: Unpack. -/
namespace Go.Proofs.YteaoabppppbkoaaGreatDoor
set_option linter.unusedSimpArgs false
set_option linter.unusedVariables false
open Go.RowKit Go.Maps
theorem yields_conv {P : Program} {ops : Array Oper} {S : World → Prop} {op : Oper} {a : Act} (hw : Region.wanted op (yielded ops a.tmps) = true) (src dst : TypeId) (x : Operand) (ho : op.op = .convert src dst x) (vx v : Value) (hx : a.eval x = vx)
    (hr : ∀ w, S w → (convert src dst vx).run P w = .ok v w) : YieldsIf P ops S op v a :=
  .inl ⟨hw, fun w hS => by
    have hr := hr w hS
    unfold execOp
    simp [ho, hx, hr, Result.andThen]⟩
theorem nameC_ok {s : ByteArray} (h : nameC s = 0) : 1 ≤ s.size ∧ s.size ≤ 14 ∧ ∀ b ∈ s.data.toList, maySt b = true := by
  unfold nameC at h
  split at h
  · cases h
  · rename_i h1
    split at h
    · cases h
    · split at h
      · rename_i h3
        refine ⟨?_, by omega, fun b hb => List.all_eq_true.1 h3 b hb⟩
        have : ¬ s.size = 0 := fun hh => h1 (.inl hh)
        omega
      · cases h
theorem maySt_ne {b : UInt8} (h : maySt b = true) : b ≠ 0 := by
  rintro rfl
  revert h
  decide
theorem trim_pk (s : ByteArray) (h14 : s.size ≤ 14) (h0 : ∀ b ∈ s.data.toList, b ≠ 0) : (Lib.trimRightB (strOf 14 (btF s)).data.toList 0).toArray = s.data := by
  have hl : (strOf 14 (btF s)).data.toList = (List.range 14).map fun j => UInt8.ofNat (btF s j).toNat := rfl
  have hlen : s.data.toList.length = s.size := (Lib.size_eq s).symm
  have hget : ∀ (j : Nat) (hj : j < s.size), UInt8.ofNat (btF s j).toNat = s.data.toList[j]'(by rw [hlen]; exact hj) := fun j hj => by
    unfold btF
    rw [List.getElem?_eq_getElem (by rw [hlen]; exact hj)]
    simp
  rw [hl, Lib.trimRightB_take _ 0 s.size (by simp; omega) (fun j b hj hb => ?_) (fun b hs hb => ?_)]
  · have : ((List.range 14).map fun j => UInt8.ofNat (btF s j).toNat).take s.size = s.data.toList := by
      refine List.ext_getElem? fun j => ?_
      by_cases hj : j < s.size
      · rw [List.getElem?_take_of_lt hj, List.getElem?_map, List.getElem?_range (by omega), List.getElem?_eq_getElem (by rw [hlen]; exact hj), ← hget j hj]
        rfl
      · rw [List.getElem?_eq_none (by simp; omega), List.getElem?_eq_none (by omega)]
    rw [this]
  · rw [List.getElem?_map] at hb
    by_cases hj2 : j < 14
    · rw [List.getElem?_range hj2] at hb
      simp only [Option.map_some, Option.some.injEq] at hb
      rw [← hb, btF_past s j hj]
      rfl
    · rw [List.getElem?_eq_none (by simp; omega)] at hb
      cases hb
  · rw [List.getElem?_map, List.getElem?_range (by omega)] at hb
    simp only [Option.map_some, Option.some.injEq] at hb
    rw [← hb, hget (s.size - 1) (by omega)]
    exact h0 _ (List.getElem_mem _)
set_option maxHeartbeats 20000000 in
set_option maxRecDepth 100000 in
theorem unpack_ok (e : En) (h : e = zE ∨ okE e) (sb so cap : Nat) (hcap : 16 ≤ cap) (hc2 : cap ≤ 100000) (hso : so ≤ 100000) (w : World) (hS : Sb w sb so 16 (pkF e)) :
    Calls Tryz.prog 100 #[.slice (some ⟨sb, so, none⟩) 16 cap] w fun x w' => x = .returned (.tuple #[.agg (enc e).toArray, .bool true]) ∧ Below w.heap.size w w' := by
  obtain ⟨d, hu, hd⟩ := Tryz.descEn
  have HU := Lib.hid hu
  have HD := Lib.hid hd
  obtain ⟨s, n⟩ := e
  have hb : s.size ≤ 14 ∧ n < 65536 ∧ ∀ b ∈ s.data.toList, b ≠ 0 := by
    rcases h with h | h
    · cases h
      exact ⟨by decide, by decide, fun b hb => by cases hb⟩
    · obtain ⟨h1, h2, h3⟩ := h
      obtain ⟨h4, h5, h6⟩ := nameC_ok h3
      exact ⟨h5, h2, fun b hb => maySt_ne (h6 b hb)⟩
  obtain ⟨h14, hn, hnz⟩ := hb
  have n0 : (0 : Int) ≤ n := by omega
  have n1 : (n : Int) < 65536 := by omega
  have HTr := Lib.hid (trim_pk s h14 hnz)
  have htr := fun W => Tryz.strings_TrimRight_one (strOf 14 (btF s)) 0 (by decide) W (by show (List.map _ _).toArray.size ≤ _; simp)
  rw [trim_pk s h14 hnz] at htr
  have HTR := Lib.hid htr
  have HV := Lib.hid (fun W => vacant_any (s, n) (by show s.size ≤ maxLen; unfold maxLen; omega) hn W)
  have hvac : vacE (s, n) = decide ((s, n) = zE) := rfl
  have HNm : Hid (¬ (s, n) = zE → ¬ ((n : Int) = 0) ∧ nameC s = 0) := Lib.hid (fun hne => by
    rcases h with h | h
    · exact absurd h hne
    · obtain ⟨h1, h2, h3⟩ := h
      have : 0 < n := h1
      exact ⟨by omega, h3⟩)
  have HNa := Lib.hid (fun W => name_any s W)
  have p0 : pkF (s, n) 0 = (n : Int) % 256 := rfl
  have p1 : pkF (s, n) 1 = (n : Int) / 256 := rfl
  have p2 : ∀ j, pkF (s, n) (2 + j) = btF s j := fun j => by
    unfold pkF
    rw [if_neg (by omega), if_neg (by omega), show 2 + j - 2 = j by omega]
  have HP0 := Lib.hid p0
  have HP1 := Lib.hid p1
  have HP2 := Lib.hid p2
  have HSb := Lib.hid hS
  have hor := u16_or8 ((n : Int) % 256) ((n : Int) / 256 * 256) (by omega) (by omega) (by omega) (by omega) (by omega)
  rw [show (n : Int) % 256 + (n : Int) / 256 * 256 = n by omega] at hor
  have HOR := Lib.hid hor
  have HSH := Lib.hid (shl8 ((n : Int) / 256) (by omega) (by omega))
  have HUW := Lib.hid (wraps_u16 ((n : Int) % 256) (by omega) (by omega))
  have HVW := Lib.hid (wraps_u16 ((n : Int) / 256) (by omega) (by omega))
  obtain ⟨P, hP⟩ : ∃ P, pkF (s, n) = P := ⟨_, rfl⟩
  rw [hP] at HP0 HP1 HP2 HSb
  obtain ⟨lo, hlo⟩ : ∃ x : Int, (n : Int) % 256 = x := ⟨_, rfl⟩
  obtain ⟨hi, hhi⟩ : ∃ x : Int, (n : Int) / 256 = x := ⟨_, rfl⟩
  have l0 : 0 ≤ lo ∧ lo < 256 := by omega
  have m0 : 0 ≤ hi ∧ hi < 256 := by omega
  obtain ⟨l0, l1⟩ := l0
  obtain ⟨m0, m1⟩ := m0
  rw [hlo] at HOR HUW HP0
  rw [hhi] at HOR HSH HVW HP1
  obtain ⟨vc, hvc⟩ : ∃ x, vacE (s, n) = x := ⟨_, rfl⟩
  rw [hvc] at HV hvac
  have HVc := Lib.hid hvac
  obtain ⟨ni, hni⟩ : ∃ x : Int, (n : Int) = x := ⟨_, rfl⟩
  rw [hni] at HNm HOR n0 n1
  have HNI := Lib.hid hni
  have hcp : (16 : Int) ≤ cap := by omega
  have hcn : ¬ cap = 2 := by omega
  clear hu hd h h14 hn hnz htr hvac p0 p1 p2 hS hor hP hlo hhi hvc hni
  go_enter Tryz.func100, Tryz.ntmps100
  go_upto_region 3 with (first | (refine wpList_alloc_list (w := w) rfl 58 rfl (enc zE) Tryz.zeroEn ?_; intro w1 F1 hb1 hz1; have HB1 := Lib.hid hb1; have hq1 : w.heap.size < w1.heap.size := (by omega); clear hb1 hz1))
  obtain ⟨b2, hb2⟩ : ∃ b, w.heap.size = b := ⟨_, rfl⟩
  have hsb : sb < b2 := by have := HSb.out.lt; omega
  have HSb1 := Lib.hid (HSb.out.keep HB1.out)
  rw [hb2] at F1 HB1 hq1
  try rw [hb2]
  have HW := Lib.hid hb2
  clear hb2 HSb
  refine wp_region_held (S := fun W => Sb W sb so 16 P) (by kernel_rfl) ?_
  change wpAnyH _ _ _ _ _ _ _ _ (World.drew _)
  have hS0 : (fun W => Sb W sb so 16 P) w1.drew := HSb1.out.keep (Below.refl _ _).drew
  have F2 := Lib.hid (F1.out.keep (Below.refl _ _).drew)
  have HB2 := Lib.hid HB1.out.drew
  have hq2 : b2 < (World.drew w1).heap.size := hq1
  obtain ⟨w2, hw2⟩ : ∃ x, World.drew w1 = x := ⟨_, rfl⟩
  rw [hw2] at hS0 F2 HB2 hq2 ⊢
  clear hw2 F1 HB1 hq1 HSb1
  refine wpAnyH_take (i := 0) (v := ?_) rfl (by kernel_rfl) (by kernel_rfl) (by kernel_rfl) (fun _ _ _ h => h) (Or.inl ⟨by rfl, ?_⟩) hS0 ?_
  rotate_left 1
  · intro W hW
    go_simp
    try with_reducible rfl
  simp only [Act.put, List.getElem_toArray, List.getElem_cons_zero, List.getElem_cons_succ, List.setIfInBounds_toArray, List.set_cons_zero, List.set_cons_succ]
  refine wpAnyH_take (i := 1) (v := ?_) rfl (by kernel_rfl) (by kernel_rfl) (by kernel_rfl) (fun _ _ _ h => h) (Or.inl ⟨by rfl, ?_⟩) hS0 ?_
  rotate_left 1
  · intro W hW
    go_simp
    try with_reducible rfl
  simp only [Act.put, List.getElem_toArray, List.getElem_cons_zero, List.getElem_cons_succ, List.setIfInBounds_toArray, List.set_cons_zero, List.set_cons_succ]
  refine wpAnyH_take (i := 2) (v := .string (strOf 14 (btF s))) rfl (by kernel_rfl) (by kernel_rfl) (by kernel_rfl) (fun _ _ _ h => h) ?_ hS0 ?_
  · exact yields_conv (by rfl) 27 9 (.tmp 10) rfl (.slice (some ⟨sb, so + 2, none⟩) 14 (cap - 2)) _ rfl (fun W hW => str_cells (fun j _ => btF_bd s j) (fun j hj => by
      have := hW.c (2 + j) (by omega)
      rw [HP2.out, ← Nat.add_assoc] at this
      exact this))
  simp only [Act.put, List.getElem_toArray, List.getElem_cons_zero, List.getElem_cons_succ, List.setIfInBounds_toArray, List.set_cons_zero, List.set_cons_succ]
  refine wpAnyH_take (i := 4) (v := ?_) rfl (by kernel_rfl) (by kernel_rfl) (by kernel_rfl) (fun _ _ _ h => h) (Or.inl ⟨by rfl, ?_⟩) hS0 ?_
  rotate_left 1
  · intro W hW
    go_simp
    try with_reducible rfl
  simp only [Act.put, List.getElem_toArray, List.getElem_cons_zero, List.getElem_cons_succ, List.setIfInBounds_toArray, List.set_cons_zero, List.set_cons_succ]
  refine wpAnyH_take (i := 5) (v := ?_) rfl (by kernel_rfl) (by kernel_rfl) (by kernel_rfl) (fun _ _ _ h => h) (Or.inl ⟨by rfl, ?_⟩) hS0 ?_
  rotate_left 1
  · intro W hW
    go_simp
    try with_reducible rfl
  simp only [Act.put, List.getElem_toArray, List.getElem_cons_zero, List.getElem_cons_succ, List.setIfInBounds_toArray, List.set_cons_zero, List.set_cons_succ]
  refine wpAnyH_take (i := 6) (v := ?_) rfl (by kernel_rfl) (by kernel_rfl) (by kernel_rfl) (fun _ _ _ h => h) (Or.inl ⟨by rfl, ?_⟩) hS0 ?_
  rotate_left 1
  · intro W hW
    have c0 : W.cell? ⟨sb, so, none⟩ = some (.int .u8 lo) := by
      have := hW.c 0 (by decide)
      rw [HP0.out] at this
      exact this
    go_simp
    try with_reducible rfl
  simp only [Act.put, List.getElem_toArray, List.getElem_cons_zero, List.getElem_cons_succ, List.setIfInBounds_toArray, List.set_cons_zero, List.set_cons_succ]
  refine wpAnyH_take (i := 7) (v := ?_) rfl (by kernel_rfl) (by kernel_rfl) (by kernel_rfl) (fun _ _ _ h => h) (Or.inl ⟨by rfl, ?_⟩) hS0 ?_
  rotate_left 1
  · intro W hW
    have k3 := HUW.out
    go_simp
    try with_reducible rfl
  simp only [Act.put, List.getElem_toArray, List.getElem_cons_zero, List.getElem_cons_succ, List.setIfInBounds_toArray, List.set_cons_zero, List.set_cons_succ]
  refine wpAnyH_take (i := 8) (v := ?_) rfl (by kernel_rfl) (by kernel_rfl) (by kernel_rfl) (fun _ _ _ h => h) (Or.inl ⟨by rfl, ?_⟩) hS0 ?_
  rotate_left 1
  · intro W hW
    go_simp
    try with_reducible rfl
  simp only [Act.put, List.getElem_toArray, List.getElem_cons_zero, List.getElem_cons_succ, List.setIfInBounds_toArray, List.set_cons_zero, List.set_cons_succ]
  refine wpAnyH_take (i := 9) (v := ?_) rfl (by kernel_rfl) (by kernel_rfl) (by kernel_rfl) (fun _ _ _ h => h) (Or.inl ⟨by rfl, ?_⟩) hS0 ?_
  rotate_left 1
  · intro W hW
    go_simp
    try with_reducible rfl
  simp only [Act.put, List.getElem_toArray, List.getElem_cons_zero, List.getElem_cons_succ, List.setIfInBounds_toArray, List.set_cons_zero, List.set_cons_succ]
  refine wpAnyH_take (i := 10) (v := ?_) rfl (by kernel_rfl) (by kernel_rfl) (by kernel_rfl) (fun _ _ _ h => h) (Or.inl ⟨by rfl, ?_⟩) hS0 ?_
  rotate_left 1
  · intro W hW
    have c1 : W.cell? ⟨sb, so + 1, none⟩ = some (.int .u8 hi) := by
      have := hW.c 1 (by decide)
      rw [HP1.out] at this
      exact this
    go_simp
    try with_reducible rfl
  simp only [Act.put, List.getElem_toArray, List.getElem_cons_zero, List.getElem_cons_succ, List.setIfInBounds_toArray, List.set_cons_zero, List.set_cons_succ]
  refine wpAnyH_take (i := 11) (v := ?_) rfl (by kernel_rfl) (by kernel_rfl) (by kernel_rfl) (fun _ _ _ h => h) (Or.inl ⟨by rfl, ?_⟩) hS0 ?_
  rotate_left 1
  · intro W hW
    have k4 := HVW.out
    go_simp
    try with_reducible rfl
  simp only [Act.put, List.getElem_toArray, List.getElem_cons_zero, List.getElem_cons_succ, List.setIfInBounds_toArray, List.set_cons_zero, List.set_cons_succ]
  refine wpAnyH_take (i := 12) (v := ?_) rfl (by kernel_rfl) (by kernel_rfl) (by kernel_rfl) (fun _ _ _ h => h) (Or.inl ⟨by rfl, ?_⟩) hS0 ?_
  rotate_left 1
  · intro W hW
    have k2 := HSH.out
    go_simp
    try with_reducible rfl
  simp only [Act.put, List.getElem_toArray, List.getElem_cons_zero, List.getElem_cons_succ, List.setIfInBounds_toArray, List.set_cons_zero, List.set_cons_succ]
  refine wpAnyH_take (i := 13) (v := ?_) rfl (by kernel_rfl) (by kernel_rfl) (by kernel_rfl) (fun _ _ _ h => h) (Or.inl ⟨by rfl, ?_⟩) hS0 ?_
  rotate_left 1
  · intro W hW
    have k1 := HOR.out
    go_simp
    try with_reducible rfl
  simp only [Act.put, List.getElem_toArray, List.getElem_cons_zero, List.getElem_cons_succ, List.setIfInBounds_toArray, List.set_cons_zero, List.set_cons_succ]
  refine wpAnyH_ready (rs := [3, 15]) (by kernel_rfl) (by simp) (AllReadyH.cons rfl (fun KK hKK => ?_) (AllReadyH.cons rfl (fun KK hKK => ?_) AllReadyH.nil))
  · go_simp
    refine (HTR.out w2).mono ?_
    rintro e wz ⟨rfl, hwz⟩
    rw [hwz]
    clear hwz
    refine hKK _ _ hS0 ?_
    intro _
    clear hKK KK
    try simp only [Act.put, List.getElem_toArray, List.getElem_cons_zero, List.getElem_cons_succ, List.setIfInBounds_toArray, List.set_cons_zero, List.set_cons_succ]
    refine wpAnyH_take (i := 14) (v := .agg (enc (s, n)).toArray) rfl (by kernel_rfl) (by kernel_rfl) (by kernel_rfl) (fun _ _ _ h => h) ?_ hS0 ?_
    · exact yields_bld2 (by rfl) 58 0 1 (.tmp 12) (.tmp 22) rfl (.string s) (.int .u16 ni) rfl rfl _ (fun W => by
          rw [show (enc (s, n)) = [.string s, .int .u16 ni] from by unfold enc; rw [HNI.out]]
          exact Tryz.buildEn2 s ni W)
    simp only [Act.put, List.getElem_toArray, List.getElem_cons_zero, List.getElem_cons_succ, List.setIfInBounds_toArray, List.set_cons_zero, List.set_cons_succ]
    refine wpAnyH_ready (rs := [15]) (by kernel_rfl) (by simp) (AllReadyH.cons rfl (fun KK hKK => ?_) AllReadyH.nil)
    refine step_alloc_list rfl 58 (enc zE) rfl Tryz.zeroEn ?_
    intro wA FA hbA hzA
    have hS1 : (fun W => Sb W sb so 16 P) wA := hS0.keep hbA
    have GA := Lib.hid (F2.out.keep hbA)
    have HBA := Lib.hid (HB2.out.trans (hbA.mono (by omega)))
    obtain ⟨b4, hb4⟩ : ∃ x, w2.heap.size = x := ⟨_, rfl⟩
    have hq4 : b2 < b4 ∧ b4 < wA.heap.size := by omega
    rw [hb4] at FA
    try rw [hb4]
    clear hS0 hbA hzA hb4 F2 HB2
    have hS0 := hS1
    clear hS1
    refine hKK _ _ hS0 ?_
    intro _
    clear hKK KK
    try simp only [Act.put, List.getElem_toArray, List.getElem_cons_zero, List.getElem_cons_succ, List.setIfInBounds_toArray, List.set_cons_zero, List.set_cons_succ]
    have PF := Lib.hid (FA.out.stored (enc (s, n)) rfl)
    refine wpAnyH_ready (rs := [16]) (by kernel_rfl) (by simp) (AllReadyH.cons rfl (fun KK hKK => ?_) AllReadyH.nil)
    refine step_store_mid rfl 58 _ _ rfl b4 0 (enc (s, n)).toArray rfl rfl (FA.out.there0 2 rfl) (sizeEn _) (all_oneCell_toArray (enc_one _)) ?_
    have hk : Kp wA (wA.setCells b4 0 (enc (s, n))) b4 b4 := (Kp.refl wA b4 b4).setCells b4 0 (.inl rfl) _
    have hS1 : (fun W => Sb W sb so 16 P) (wA.setCells b4 0 (enc (s, n))) := hS0.kp hk (by omega)
    have GB := Lib.hid (GA.out.kp hk (by omega) (by omega))
    have HBB := Lib.hid (HBA.out.trans (hk.below (by omega) (by omega) (by omega)))
    have hqb := hk.size
    obtain ⟨wB, hwB⟩ : ∃ x, wA.setCells b4 0 (enc (s, n)) = x := ⟨_, rfl⟩
    change KK _ (wA.setCells b4 0 (enc (s, n)))
    rw [hwB] at hS1 PF GB HBB hqb ⊢
    clear hS0 hwB hk FA GA HBA
    refine hKK _ _ hS1 ?_
    intro _
    clear hKK KK hS1
    refine wpAnyH_done (by kernel_rfl) ?_ _
    have HR := Lib.hid PF.out.range0
    go_wp2_with (refine wpList_load_mid rfl 58 _ rfl b4 0 rfl (enc (s, n)) d HR.out HU.out HD.out (sizeEn _) ?_)
    refine (HV.out wB).mono ?_
    rintro e wC ⟨rfl, hb⟩
    have PC := Lib.hid (PF.out.keep hb)
    have GC := Lib.hid (GB.out.keep hb)
    have HBC := Lib.hid (HBB.out.trans (hb.mono (by omega)))
    clear hb HV PF GB HBB HR
    have HR := Lib.hid PC.out.range0
    have GS := Lib.hid (GC.out.stored (enc (s, n)) rfl)
    cases vc
    · have hne : ¬ (s, n) = zE := by
        have := HVc.out
        exact of_decide_eq_false this.symm
      obtain ⟨hn0, hnm⟩ := HNm.out hne
      have cN : wC.cell? ⟨b4, 1, none⟩ = some (.int .u16 ni) := by rw [← HNI.out]; exact PC.out.c 1 _ rfl
      have cS := PC.out.c 0 _ rfl
      have HNa2 := HNa.out
      rw [hnm] at HNa2
      have HNa3 := Lib.hid HNa2
      clear hnm HNa2 hne
      go_wp2_with fail
      refine (HNa3.out wC).mono ?_
      rintro e wz ⟨rfl, hwz⟩
      rw [hwz]
      clear hwz
      go_wp2_with (first | (refine wpList_load_mid rfl 58 _ rfl b4 0 rfl (enc (s, n)) d HR.out HU.out HD.out (sizeEn _) ?_) | (refine wpList_store_mid rfl 58 _ _ rfl b2 0 (enc (s, n)).toArray rfl rfl (GC.out.there0 2 rfl) (sizeEn _) (all_oneCell_toArray (enc_one _)) ?_))
      exact bodyPost_ret_by (results_mid_tmp rfl _ _ b2 _ d rfl GS.out.range0 HU.out HD.out (sizeEn _)) rfl ⟨rfl, by rw [HW.out]; exact below_setCells HBC.out b2 0 (by omega) _⟩
    · go_wp2_with (first | (refine wpList_load_mid rfl 58 _ rfl b4 0 rfl (enc (s, n)) d HR.out HU.out HD.out (sizeEn _) ?_) | (refine wpList_store_mid rfl 58 _ _ rfl b2 0 (enc (s, n)).toArray rfl rfl (GC.out.there0 2 rfl) (sizeEn _) (all_oneCell_toArray (enc_one _)) ?_))
      exact bodyPost_ret_by (results_mid_tmp rfl _ _ b2 _ d rfl GS.out.range0 HU.out HD.out (sizeEn _)) rfl ⟨rfl, by rw [HW.out]; exact below_setCells HBC.out b2 0 (by omega) _⟩
  · refine step_alloc_list rfl 58 (enc zE) rfl Tryz.zeroEn ?_
    intro wA FA hbA hzA
    have hS1 : (fun W => Sb W sb so 16 P) wA := hS0.keep hbA
    have GA := Lib.hid (F2.out.keep hbA)
    have HBA := Lib.hid (HB2.out.trans (hbA.mono (by omega)))
    obtain ⟨b4, hb4⟩ : ∃ x, w2.heap.size = x := ⟨_, rfl⟩
    have hq4 : b2 < b4 ∧ b4 < wA.heap.size := by omega
    rw [hb4] at FA
    try rw [hb4]
    clear hS0 hbA hzA hb4 F2 HB2
    have hS0 := hS1
    clear hS1
    refine hKK _ _ hS0 ?_
    intro _
    clear hKK KK
    try simp only [Act.put, List.getElem_toArray, List.getElem_cons_zero, List.getElem_cons_succ, List.setIfInBounds_toArray, List.set_cons_zero, List.set_cons_succ]
    refine wpAnyH_ready (rs := [3]) (by kernel_rfl) (by simp) (AllReadyH.cons rfl (fun KK hKK => ?_) AllReadyH.nil)
    go_simp
    refine (HTR.out wA).mono ?_
    rintro e wz ⟨rfl, hwz⟩
    rw [hwz]
    clear hwz
    refine hKK _ _ hS0 ?_
    intro _
    clear hKK KK
    try simp only [Act.put, List.getElem_toArray, List.getElem_cons_zero, List.getElem_cons_succ, List.setIfInBounds_toArray, List.set_cons_zero, List.set_cons_succ]
    refine wpAnyH_take (i := 14) (v := .agg (enc (s, n)).toArray) rfl (by kernel_rfl) (by kernel_rfl) (by kernel_rfl) (fun _ _ _ h => h) ?_ hS0 ?_
    · exact yields_bld2 (by rfl) 58 0 1 (.tmp 12) (.tmp 22) rfl (.string s) (.int .u16 ni) rfl rfl _ (fun W => by
          rw [show (enc (s, n)) = [.string s, .int .u16 ni] from by unfold enc; rw [HNI.out]]
          exact Tryz.buildEn2 s ni W)
    simp only [Act.put, List.getElem_toArray, List.getElem_cons_zero, List.getElem_cons_succ, List.setIfInBounds_toArray, List.set_cons_zero, List.set_cons_succ]
    have PF := Lib.hid (FA.out.stored (enc (s, n)) rfl)
    refine wpAnyH_ready (rs := [16]) (by kernel_rfl) (by simp) (AllReadyH.cons rfl (fun KK hKK => ?_) AllReadyH.nil)
    refine step_store_mid rfl 58 _ _ rfl b4 0 (enc (s, n)).toArray rfl rfl (FA.out.there0 2 rfl) (sizeEn _) (all_oneCell_toArray (enc_one _)) ?_
    have hk : Kp wA (wA.setCells b4 0 (enc (s, n))) b4 b4 := (Kp.refl wA b4 b4).setCells b4 0 (.inl rfl) _
    have hS1 : (fun W => Sb W sb so 16 P) (wA.setCells b4 0 (enc (s, n))) := hS0.kp hk (by omega)
    have GB := Lib.hid (GA.out.kp hk (by omega) (by omega))
    have HBB := Lib.hid (HBA.out.trans (hk.below (by omega) (by omega) (by omega)))
    have hqb := hk.size
    obtain ⟨wB, hwB⟩ : ∃ x, wA.setCells b4 0 (enc (s, n)) = x := ⟨_, rfl⟩
    change KK _ (wA.setCells b4 0 (enc (s, n)))
    rw [hwB] at hS1 PF GB HBB hqb ⊢
    clear hS0 hwB hk FA GA HBA
    refine hKK _ _ hS1 ?_
    intro _
    clear hKK KK hS1
    refine wpAnyH_done (by kernel_rfl) ?_ _
    have HR := Lib.hid PF.out.range0
    go_wp2_with (refine wpList_load_mid rfl 58 _ rfl b4 0 rfl (enc (s, n)) d HR.out HU.out HD.out (sizeEn _) ?_)
    refine (HV.out wB).mono ?_
    rintro e wC ⟨rfl, hb⟩
    have PC := Lib.hid (PF.out.keep hb)
    have GC := Lib.hid (GB.out.keep hb)
    have HBC := Lib.hid (HBB.out.trans (hb.mono (by omega)))
    clear hb HV PF GB HBB HR
    have HR := Lib.hid PC.out.range0
    have GS := Lib.hid (GC.out.stored (enc (s, n)) rfl)
    cases vc
    · have hne : ¬ (s, n) = zE := by
        have := HVc.out
        exact of_decide_eq_false this.symm
      obtain ⟨hn0, hnm⟩ := HNm.out hne
      have cN : wC.cell? ⟨b4, 1, none⟩ = some (.int .u16 ni) := by rw [← HNI.out]; exact PC.out.c 1 _ rfl
      have cS := PC.out.c 0 _ rfl
      have HNa2 := HNa.out
      rw [hnm] at HNa2
      have HNa3 := Lib.hid HNa2
      clear hnm HNa2 hne
      go_wp2_with fail
      refine (HNa3.out wC).mono ?_
      rintro e wz ⟨rfl, hwz⟩
      rw [hwz]
      clear hwz
      go_wp2_with (first | (refine wpList_load_mid rfl 58 _ rfl b4 0 rfl (enc (s, n)) d HR.out HU.out HD.out (sizeEn _) ?_) | (refine wpList_store_mid rfl 58 _ _ rfl b2 0 (enc (s, n)).toArray rfl rfl (GC.out.there0 2 rfl) (sizeEn _) (all_oneCell_toArray (enc_one _)) ?_))
      exact bodyPost_ret_by (results_mid_tmp rfl _ _ b2 _ d rfl GS.out.range0 HU.out HD.out (sizeEn _)) rfl ⟨rfl, by rw [HW.out]; exact below_setCells HBC.out b2 0 (by omega) _⟩
    · go_wp2_with (first | (refine wpList_load_mid rfl 58 _ rfl b4 0 rfl (enc (s, n)) d HR.out HU.out HD.out (sizeEn _) ?_) | (refine wpList_store_mid rfl 58 _ _ rfl b2 0 (enc (s, n)).toArray rfl rfl (GC.out.there0 2 rfl) (sizeEn _) (all_oneCell_toArray (enc_one _)) ?_))
      exact bodyPost_ret_by (results_mid_tmp rfl _ _ b2 _ d rfl GS.out.range0 HU.out HD.out (sizeEn _)) rfl ⟨rfl, by rw [HW.out]; exact below_setCells HBC.out b2 0 (by omega) _⟩
end Go.Proofs.YteaoabppppbkoaaGreatDoor

/- Directories: open. -/
namespace Go.Proofs.YteaoabppppbkoaaGreatDoor
set_option linter.unusedSimpArgs false
set_option linter.unusedVariables false
open Go.RowKit Go.Maps
variable {ln : Lm}
def flatE (E : List En) : List Value := E.flatMap enc
theorem flatE_snoc (E : List En) (e : En) : flatE (E ++ [e]) = flatE E ++ enc e := by
  unfold flatE
  simp
/-- a directory as opened: its group, its number, its places -/
def dcl (q num : Nat) (v : Value) : List Value := [.pointer (some ⟨q, 0, none⟩), .int .i64 num, v]
theorem Tryz.zeroDd : (Tryz.prog.info? 156).map (fun i => i.zero) = some (some (.agg [.pointer none, .int .i64 0, .slice none 0 0].toArray)) := by kernel_rfl
theorem Tryz.isizeDd : (Tryz.prog.info? 156).map (·.size) = some 3 := by kernel_rfl
theorem Tryz.buildDd (q : Nat) (n : Int) (w : World) : (Instr.build 156 #[(0, .pointer (some ⟨q, 0, none⟩)), (1, .int .i64 n)]).run Tryz.prog w = .ok (.agg [.pointer (some ⟨q, 0, none⟩), .int .i64 n, .slice none 0 0].toArray) w := by kernel_rfl
theorem Tryz.infoEn : ∃ i, Tryz.prog.info? 58 = some i ∧ i.zero = some (.agg (enc zE).toArray) ∧ i.size = 2 ∧ i.bytes = 24 := by
  have h : (Tryz.prog.info? 58).map (fun i => (i.zero, i.size, i.bytes)) = some (some (.agg (enc zE).toArray), 2, 24) := by kernel_rfl
  obtain ⟨i, hi, he⟩ := Option.map_eq_some_iff.1 h
  simp only [Prod.mk.injEq] at he
  exact ⟨i, hi, he.1, he.2.1, he.2.2⟩
theorem dcl_one (q num : Nat) : ∀ v ∈ dcl q num (.slice none 0 0), v.oneCell' = true := by
  intro v hv
  simp only [dcl, List.mem_cons, List.not_mem_nil, or_false] at hv
  rcases hv with rfl | rfl | rfl <;> rfl
set_option maxHeartbeats 80000000 in
set_option maxRecDepth 200000 in
theorem dopen_in (q p t m d gg lab B0 P0 M DA NB N K : Nat) (g : Cf.Ge) (Y V : Nat → Nat → Int) (num : Nat) (h1 : 1 ≤ num) (h2 : num ≤ M) (b0 : Nat → Nat) (E : List En) (hD : Dir B0 DA NB Y (V num) b0 E) (hI : Tab P0 M Y V) (hK : K < 190000000) (hg : GG g B0 P0 M DA NB N) (w : World) (h : Gr w q p t m d gg lab g B0 NB N ln Y K) :
    Calls Tryz.prog 57 #[.pointer (some ⟨q, 0, none⟩), .int .i64 num] w fun e w' => ∃ bd v base, e = .returned (.tuple #[.pointer (some ⟨bd, 0, none⟩), .int .i64 0]) ∧ w.heap.size ≤ bd ∧ bd < base ∧ Vl w' bd (dcl q num v) ∧ w'.ownsRow base 58 2 v E.length (flatE E) ∧ Gr w' q p t m d gg lab g B0 NB N ln Y (K + 1001) ∧ Kf w w' [t, m, d, gg] := by
  obtain ⟨iE, hi, hz, hs, hbE⟩ := Tryz.infoEn
  have HI := Lib.hid hi
  have HZ := Lib.hid hz
  have HS := Lib.hid hs
  have HBE := Lib.hid hbE
  obtain ⟨dE, hu, hd⟩ := Tryz.descEn
  have HU := Lib.hid hu
  have HDd := Lib.hid hd
  have hk2 := hD.k
  have hlen := hD.n
  have HN := Lib.hid (gnode_in (ln := ln) q p t m d gg lab B0 P0 M DA NB N K g Y V num h1 h2 (by omega) hI hg w h)
  have HRd := Lib.hid (fun W hW => fread_in (ln := ln) q p t m d gg lab B0 P0 M DA NB N (K + 1) g Y V num h1 h2 (by rw [hk2]; decide) (16 * E.length) hD.s (by omega) b0 (ndS ((16 * E.length + 63) / 64)) hD.fu.fi (fun c hc => (ndS_iff _ _).2 (by omega)) hI (by omega) hg W hW 0 (by decide) ((16 * E.length : Nat) : Int) (by omega) (by omega) (16 * E.length) (by omega))
  have h3 := hD.s
  obtain ⟨f0, hf⟩ : ∃ f, V num = f := ⟨_, rfl⟩
  rw [hf] at HN hk2 h3
  have HZ0 := Lib.hid (show (ndc f0)[0]? = some (.int .u8 2) from by rw [← hk2]; rfl)
  obtain ⟨zn, hzn⟩ : ∃ z, 16 * E.length = z := ⟨_, rfl⟩
  rw [hzn] at HRd h3
  have HZ3 := Lib.hid (show (ndc f0)[3]? = some (.int .u32 zn) from by rw [← h3]; rfl)
  have HCt : Hid (∀ i, i < zn → ctF DA Y b0 (0 + i) = dirC E i) := Lib.hid (fun i hi => by rw [Nat.zero_add]; exact hD.ct i (by omega))
  have HOk := Lib.hid hD.ok
  have hzl : zn ≤ 16384 := by omega
  have HZn := Lib.hid hzn
  have h0lt : ∀ a ∈ [q, p, t, m, d, gg], a < w.heap.size := fun a ha => by
    obtain ⟨l1, l2, l3, l4, l5, l6⟩ := h.lts
    simp only [List.mem_cons, List.not_mem_nil, or_false] at ha
    rcases ha with rfl | rfl | rfl | rfl | rfl | rfl <;> assumption
  have H0 := Lib.hid h0lt
  have hzi0 : (0 : Int) ≤ zn := by omega
  have hzi1 : (zn : Int) ≤ 16384 := by omega
  clear hi hz hs hbE hu hd h1 h2 hI hg h hf hk2 h3 hD hzn h0lt
  go_enter Tryz.func57, Tryz.ntmps57
  go_wp2_with fail
  refine HN.out.mono ?_
  rintro e w1 ⟨rfl, hG, hk⟩
  have HG1 := Lib.hid hG
  have HK1 := Lib.hid hk
  clear hG hk HN
  go_upto_region 2 with (first | (refine wpList_alloc_list (w := w1) rfl 77 rfl (ndc zpt) Tryz.zero27 ?_; intro w2 F2 hb2 hz2; simp only [Act.put, List.getElem_toArray, List.getElem_cons_zero, List.getElem_cons_succ, List.setIfInBounds_toArray, List.set_cons_zero, List.set_cons_succ]; refine wpList_store_list rfl 77 (.tmp 6) (.tmp 17) rfl w1.heap.size (ndc zpt) (ndc f0) rfl rfl F2.out rfl (size27 _) (ndc_one _) ?_; intro w3 F3 HK3; have HQ2 := Lib.hid hb2; clear hb2 F2))
  obtain ⟨bN, hbN⟩ : ∃ x, w1.heap.size = x := ⟨_, rfl⟩
  have HG3 := Lib.hid ((HG1.out.keep HQ2.out).kp HK3.out (HG1.out.notin (Nat.le_refl _)))
  have HKa := Lib.hid ((HK1.out.more HQ2.out).new HK3.out HK1.out.size)
  rw [hbN] at F3
  try rw [hbN]
  clear HQ2 HK3 HG1 HK1 hbN hz2
  have c0 := F3.out.c 0 _ HZ0.out
  have c3 := F3.out.c 3 _ HZ3.out
  go_wp2_with fail
  clear c0 c3
  refine (HRd.out w3 HG3.out).mono ?_
  rintro e w4 ⟨bR, rfl, hbR, hF, hG, hk⟩
  have HG4 := Lib.hid hG
  have HKb := Lib.hid (HKa.out.trans hk)
  have FR := Lib.hid hF
  have hRw : w.heap.size ≤ bR := Nat.le_trans HKa.out.size hbR
  clear hG hk hF hbR HRd HG3 HKa F3
  go_wp2_with (first | (refine wpList_yields (.agg [.pointer (some ⟨q, 0, none⟩), .int .i64 num, .slice none 0 0].toArray) (yields_bld2 (by rfl) 156 0 1 _ _ rfl (.pointer (some ⟨q, 0, none⟩)) (.int .i64 num) rfl rfl _ (fun W => Tryz.buildDd q num W)) ?_) | (refine wpList_alloc_list (w := w4) rfl 156 rfl [.pointer none, .int .i64 0, .slice none 0 0] Tryz.zeroDd ?_; intro w5 F5 hb5 hz5; simp only [Act.put, List.getElem_toArray, List.getElem_cons_zero, List.getElem_cons_succ, List.setIfInBounds_toArray, List.set_cons_zero, List.set_cons_succ]; refine wpList_store_list rfl 156 (.tmp 9) (.tmp 42) rfl w4.heap.size [.pointer none, .int .i64 0, .slice none 0 0] (dcl q num (.slice none 0 0)) rfl rfl F5.out rfl Tryz.isizeDd (dcl_one _ _) ?_; intro w6 F6 HK6; have HQ5 := Lib.hid hb5; clear hb5 F5))
  obtain ⟨bd, hbd⟩ : ∃ x, w4.heap.size = x := ⟨_, rfl⟩
  have hdw : w.heap.size ≤ bd := by have := HKb.out.size; omega
  have hRd : bR < bd := by have := FR.out.lt; omega
  have hd6 : bd < w6.heap.size := by have := HK6.out.size; omega
  have HG6 := Lib.hid ((HG4.out.keep HQ5.out).kp HK6.out (HG4.out.notin (Nat.le_refl _)))
  have HKc := Lib.hid ((HKb.out.more HQ5.out).new HK6.out HKb.out.size)
  have FR6 := Lib.hid ((FR.out.below HQ5.out FR.out.lt).kp HK6.out (by omega) (by omega))
  rw [hbd] at F6
  try rw [hbd]
  clear HQ5 HK6 HG4 HKb FR hbd hz5
  have HND : Hid (bd ∉ [q, p, t, m, d, gg]) := Lib.hid (fun ha => by have := H0.out bd ha; omega)
  try simp only [Act.put, List.getElem_toArray, List.getElem_cons_zero, List.getElem_cons_succ, List.setIfInBounds_toArray, List.set_cons_zero, List.set_cons_succ]
  go_loopw [10, 11, 12] (fun av _ _ wr => ∃ k : Nat, k ≤ E.length ∧ av = .int .i64 ((16 * k : Nat) : Int) ∧ Kp w6 wr bd bd ∧ ∃ v, Vl wr bd (dcl q num v) ∧ wr.ownsRow w6.heap.size 58 2 v k (flatE (E.take k))) (fun av _ _ _ => zn - (Go.RowKit.intOf av).toNat)
  case atStart => exact ⟨0, Nat.zero_le _, rfl, Kp.refl _ _ _, .slice none 0 0, F6.out, World.ownsRow_nil _ _ _ _⟩
  case round =>
    obtain ⟨k, hk, rfl, hkp, v, hV, hO⟩ := hrel
    have HKp := Lib.hid hkp
    have HV := Lib.hid hV
    have HO := Lib.hid hO
    have hsz := hkp.size
    clear hkp hV hO F6
    obtain ⟨o, ho⟩ : ∃ o, 16 * k = o := ⟨_, rfl⟩
    rw [ho]
    have HOo := Lib.hid ho
    have hzz := HZn.out
    by_cases hlt : k < E.length
    · have ho16 : o + 16 ≤ zn := by omega
      have hoi : (o : Int) < zn := by omega
      have hoi0 : (0 : Int) ≤ o := by omega
      have hoi16 : (o : Int) + 16 ≤ zn := by omega
      have hoz : (o : Int) ≤ zn := by omega
      have hon : ¬ zn = o := by omega
      have hon2 : ¬ o = zn := by omega
      obtain ⟨e, he⟩ : ∃ e, E[k]? = some e := ⟨E[k], List.getElem?_eq_getElem hlt⟩
      have heE : e ∈ E := List.mem_of_getElem? he
      have hok := HOk.out e heE
      have hsb : Sb wr bR o 16 (pkF e) := ⟨by have := FR6.out.lt; omega, fun j hj => by
        have := (FR6.out.kp HKp.out (by omega) (by omega)).c (o + j) (by omega)
        rw [HCt.out (o + j) (by omega)] at this
        rw [this]
        unfold dirC
        rw [show (o + j) / 16 = k by omega, he, show (o + j) % 16 = j by omega]⟩
      have hun : ∀ cap, 16 ≤ cap → cap ≤ 100000 → Calls Tryz.prog 100 #[.slice (some ⟨bR, o, none⟩) 16 cap] wr fun x w' => x = .returned (.tuple #[.agg (enc e).toArray, .bool true]) ∧ Below wr.heap.size wr w' := fun cap hc1 hc2 => unpack_ok e hok bR o cap hc1 hc2 (by omega) wr hsb
      have HUn := Lib.hid (hun (zn - o) (by omega) (by omega))
      have hsnoc : flatE (E.take (k + 1)) = flatE (E.take k) ++ enc e := by
        rw [← flatE_snoc]
        congr 1
        rw [List.take_add_one, he]
        rfl
      have HSn := Lib.hid hsnoc
      have hE5 : E.length ≤ 1024 := by omega
      obtain ⟨s, n⟩ := e
      have HLt := Lib.hid hlt
      clear hsb hun hsnoc he heE hok ho hzz hlt
      go_wp2_with fail
      refine HUn.out.mono ?_
      rintro e w8 ⟨rfl, hb⟩
      have HK8 := Lib.hid (HKp.out.trans (Kp.of_below hb bd bd))
      have HV8 := Lib.hid (HV.out.keep hb)
      have HO8 := Lib.hid (ownsRow_below HO.out hb)
      have hs8 := hb.size
      clear hb HUn HKp HV HO
      go_upto_region 16 with (first | (refine wpList_alloc_list (w := w8) rfl 58 rfl (enc zE) Tryz.zeroEn ?_; intro w9 F9 hb9 hz9; simp only [Act.put, List.getElem_toArray, List.getElem_cons_zero, List.getElem_cons_succ, List.setIfInBounds_toArray, List.set_cons_zero, List.set_cons_succ]; refine wpList_store_list rfl 58 (.tmp 11) (.tmp 56) rfl w8.heap.size (enc zE) (enc (s, n)) rfl rfl F9.out rfl (sizeEn _) (enc_one _) ?_; intro wA FA HKA; have HQ9 := Lib.hid hb9; clear hb9 F9))
      obtain ⟨bx, hbx⟩ : ∃ x, w8.heap.size = x := ⟨_, rfl⟩
      have hx6 : w6.heap.size ≤ bx := by omega
      have hxA : bx < wA.heap.size := by have := HKA.out.size; omega
      have HKA6 := Lib.hid (HK8.out.trans ((Kp.of_below HQ9.out bd bd).after HKA.out (by omega)))
      have HVA := Lib.hid ((HV8.out.keep HQ9.out).kp HKA.out (by omega) (by omega))
      have hnx : ∀ kk, v.ownBlock = some kk → kk < bx := fun kk hkk => by
        have := World.ownsRow.lt HO8.out kk hkk
        omega
      have HOA := Lib.hid (ownsRow_kpo (ownsRow_below HO8.out HQ9.out) HKA.out (fun kk hkk => by have := hnx kk hkk; omega))
      rw [hbx] at FA
      try rw [hbx]
      clear HQ9 HKA HK8 HV8 HO8 hbx hz9 hnx
      have cV := HVA.out.c 2 _ rfl
      have zV := HVA.out.z 2 (by show 2 < 3; decide)
      have hAd : bd < wA.heap.size := HVA.out.lt
      have HRx : Hid (wA.rangeAt bx 0 [.string s, .int .u16 n]) := Lib.hid FA.out.range0
      go_wp2_with (first | (refine wpList_load_mid rfl 58 _ rfl bx 0 rfl [.string s, .int .u16 n] dE HRx.out HU.out HDd.out Tryz.isizeEn ?_) | (at_builtin; refine wpList_append_own _ rfl _ _ 68 rfl w6.heap.size 58 iE _ 2 24 Tryz.underlying68 HI.out HZ.out HS.out HBE.out rfl (by decide) _ _ _ rfl (HOA.out.alloc _) ⟨wA.heap.size, 0, none⟩ 1 1 [.string s, .int .u16 n] rfl rfl (Cf.cells_new wA _ 58) (by simp [Value.oneCell']) (by unfold maxLen; omega) (by omega) (by simp; omega) ?_; intro v' wB hown' hgrow _; obtain ⟨pa, pc, hv'⟩ := Cf.ownsRow_form hown'; subst hv'; have hob := ownsRow_block HOA.out; have HOB := Lib.hid hown'; have HVB := Lib.hid ((HVA.out.keep ((Below.refl _ _).alloc (Nat.le_refl _) _)).grownO hgrow (fun kk hkk => by have := hob kk hkk; omega)); have HKB := Lib.hid ((HKA6.out.trans (Kp.of_below ((Below.refl wA.heap.size wA).alloc (Nat.le_refl _) (.cells #[.string s, .int .u16 n] 58)) bd bd)).growO (base := w6.heap.size) hgrow hob); clear hown' hgrow hob cV zV; have cV := HVB.out.c 2 _ rfl; have zV := HVB.out.z 2 (by show 2 < 3; decide)))
      have hk15 : Kp wB (wB.setCell ⟨bd, 2, none⟩ (.slice pa (k + 1) pc)) bd bd := (Kp.refl wB bd bd).setA 2 _
      have HVC : Hid (Vl (wB.setCell ⟨bd, 2, none⟩ (.slice pa (k + 1) pc)) bd (dcl q num (.slice pa (k + 1) pc))) := Lib.hid (HVB.out.set 2 (by show 2 < 3; decide) (.slice pa (k + 1) pc))
      have HOC := Lib.hid (ownsRow_kpn HOB.out hk15 hd6)
      have HKC := Lib.hid (HKB.out.trans hk15)
      clear hk15
      go_roundw
      case rel =>
        refine ⟨k + 1, HLt.out, ?_, HKC.out, _, HVC.out, ?_⟩
        · have := HOo.out
          rw [show ((16 * (k + 1) : Nat) : Int) = (o : Int) + 16 by omega]
        · rw [HSn.out]
          exact HOC.out
      case measure => (have := HOo.out; have := HZn.out; simp [Go.RowKit.intOf]; try omega)
    · obtain rfl : k = E.length := by omega
      have hoi : ¬ ((o : Int) < zn) := by omega
      have HOf := HO.out
      rw [List.take_length] at HOf
      have HOg := Lib.hid HOf
      clear HOf
      go_wp2_with fail
      go_ret2
      exact ⟨bd, rfl, hdw, v, w6.heap.size, hd6, HV.out, HOg.out, (HG6.out.kp HKp.out HND.out).mono (Lm.le_refl _) (by omega), HKc.out.new HKp.out hdw⟩
end Go.Proofs.YteaoabppppbkoaaGreatDoor

/- Directories: find. -/
namespace Go.Proofs.YteaoabppppbkoaaGreatDoor
set_option linter.unusedSimpArgs false
set_option linter.unusedVariables false
open Go.RowKit Go.Maps
/-- entries that may be loaded -/
def smE (E : List En) : Prop := ∀ e ∈ E, e.1.size ≤ 14 ∧ e.2 < 65536
theorem smE_of {E : List En} (h : ∀ e ∈ E, e = zE ∨ okE e) : smE E := fun e he => by
  rcases h e he with rfl | h
  · exact ⟨by decide, by decide⟩
  · exact ⟨(nameC_ok h.2.2).2.1, h.2.1⟩
theorem flatE_get {E : List En} {k : Nat} {e : En} (h : E[k]? = some e) (j : Nat) (hj : j < 2) : (flatE E)[2 * k + j]? = (enc e)[j]? := by
  induction E generalizing k with
  | nil => simp at h
  | cons a E ih =>
    have hf : flatE (a :: E) = enc a ++ flatE E := rfl
    cases k with
    | zero =>
      simp only [List.getElem?_cons_zero, Option.some.injEq] at h
      subst h
      rw [hf, List.getElem?_append_left (by show 2 * 0 + j < 2; omega), Nat.mul_zero, Nat.zero_add]
    | succ k =>
      rw [List.getElem?_cons_succ] at h
      rw [hf, List.getElem?_append_right (by show 2 ≤ _; omega), ← ih h, show 2 * (k + 1) + j - (enc a).length = 2 * k + j from by show 2 * (k + 1) + j - 2 = _; omega]
theorem own_some {w : World} {base n : Nat} {pa : Option Addr} {cap : Nat} {xs : List Value} (h : w.ownsRow base 58 2 (.slice pa n cap) n xs) (hn : 0 < n) : ∃ g, pa = some ⟨g, 0, none⟩ ∧ base ≤ g ∧ g < w.heap.size := by
  rcases h.2 with ⟨hv, hx⟩ | ⟨g', cap', cur, hv, hb, hgg, -⟩
  · injection hv with h1 h2 h3
    omega
  · injection hv with h1 h2 h3
    exact ⟨g', h1, hb, (Array.getElem?_eq_some_iff.1 hgg).1⟩
theorem own_at {w : World} {base n g cap : Nat} {E : List En} (h : w.ownsRow base 58 2 (.slice (some ⟨g, 0, none⟩) n cap) n (flatE E)) (hn : n = E.length) {k : Nat} {e : En} (he : E[k]? = some e) : w.rangeAt g (k * 2) (enc e) := fun j u hu => by
  have hk : k < E.length := (List.getElem?_eq_some_iff.1 he).1
  have hj : j < 2 := (List.getElem?_eq_some_iff.1 hu).1
  rw [World.ownsRow.cellAt h (k * 2 + j) (by rw [hn]; omega), Nat.mul_comm k 2, flatE_get he j hj]
  exact hu
theorem ownsRow_belowB {w w' : World} {base n g cap : Nat} {xs : List Value} (h : w.ownsRow base 58 2 (.slice (some ⟨g, 0, none⟩) n cap) n xs) (hb : Below w.heap.size w w') (hg : g < w.heap.size) : w'.ownsRow base 58 2 (.slice (some ⟨g, 0, none⟩) n cap) n xs := ownsRow_below h hb
end Go.Proofs.YteaoabppppbkoaaGreatDoor

/- Directories: room, used, put. -/
namespace Go.Proofs.YteaoabppppbkoaaGreatDoor
set_option linter.unusedSimpArgs false
set_option linter.unusedVariables false
open Go.RowKit Go.Maps
/-- how many places there are without the empty ones at the end -/
def isUsed (E : List En) (u : Nat) : Prop := u ≤ E.length ∧ (∀ j e', u ≤ j → E[j]? = some e' → vacE e' = true) ∧ (u = 0 ∨ ∃ e, E[u - 1]? = some e ∧ vacE e = false)
set_option maxHeartbeats 20000000 in
set_option maxRecDepth 100000 in
theorem used_any (q num bd base : Nat) (v : Value) (E : List En) (hE : smE E) (hl : E.length ≤ 1024) (w : World) (hV : Vl w bd (dcl q num v)) (hO : w.ownsRow base 58 2 v E.length (flatE E)) :
    Calls Tryz.prog 59 #[.pointer (some ⟨bd, 0, none⟩)] w fun x w' => Below w.heap.size w w' ∧ ∃ i : Nat, isUsed E i ∧ x = .returned (.int .i64 i) := by
  obtain ⟨pa, cap, hv⟩ := Cf.ownsRow_form hO
  subst hv
  obtain ⟨dE, hu, hd⟩ := Tryz.descEn
  have HU := Lib.hid hu
  have HD := Lib.hid hd
  have HV := Lib.hid hV
  have HO := Lib.hid hO
  have HE := Lib.hid hE
  obtain ⟨n, hn⟩ : ∃ n, E.length = n := ⟨_, rfl⟩
  rw [hn] at HV HO hl
  have HN := Lib.hid hn
  have hn0 : (0 : Int) ≤ n := by omega
  have hn1 : (n : Int) ≤ 1024 := by omega
  have c2 : w.cell? ⟨bd, 2, none⟩ = some (.slice pa n cap) := HV.out.c 2 _ rfl
  clear hu hd hV hO hE hn
  go_enter Tryz.func59, Tryz.ntmps59
  go_wp2_with fail
  clear c2
  go_loopw [3] (fun iv wr => ∃ u : Nat, u ≤ n ∧ iv = .int .i64 u ∧ Below w.heap.size w wr ∧ ∀ j e', u ≤ j → E[j]? = some e' → vacE e' = true) (fun iv _ => (Go.RowKit.intOf iv).toNat)
  case atStart => exact ⟨n, Nat.le_refl _, rfl, Below.refl _ _, fun j e' h he => by
    have := (List.getElem?_eq_some_iff.1 he).1
    have := HN.out
    omega⟩
  case round =>
    obtain ⟨u, hk, rfl, hb, hall⟩ := hrel
    have HB := Lib.hid hb
    have HA := Lib.hid hall
    have hsz := hb.size
    clear hb hall
    have hun : u ≤ E.length := by have := HN.out; omega
    have HUn := Lib.hid hun
    clear hun
    by_cases hlt : 0 < u
    · obtain ⟨g, rfl, hg1, hg2⟩ := own_some HO.out (by omega)
      obtain ⟨k, rfl⟩ : ∃ k, u = k + 1 := ⟨u - 1, by omega⟩
      have hke : k < E.length := by have := HUn.out; omega
      obtain ⟨e, he⟩ : ∃ e, E[k]? = some e := ⟨E[k], List.getElem?_eq_getElem hke⟩
      obtain ⟨he1, he2⟩ := HE.out e (List.mem_of_getElem? he)
      have HRg := Lib.hid (own_at (ownsRow_belowB HO.out HB.out hg2) HN.out.symm he)
      have HVc := Lib.hid (fun W => vacant_any e (by unfold maxLen; omega) he2 W)
      have HHe := Lib.hid he
      obtain ⟨ui, hui⟩ : ∃ z : Int, ((k + 1 : Nat) : Int) = z := ⟨_, rfl⟩
      have hu1 : ui - 1 = (k : Int) := by omega
      have hki : (k : Int) < n := by omega
      have hk0 : (0 : Int) ≤ k := by omega
      have hu0 : 0 < ui := by omega
      have HUi := Lib.hid hui
      rw [hui]
      obtain ⟨vc, hvc⟩ : ∃ x, vacE e = x := ⟨_, rfl⟩
      rw [hvc] at HVc
      have HMt := Lib.hid hvc
      obtain ⟨es, en⟩ := e
      have c2 : wr.cell? ⟨bd, 2, none⟩ = some (.slice (some ⟨g, 0, none⟩) n cap) := (HV.out.below HB.out HV.out.lt).c 2 _ rfl
      have HHk := Lib.hid hk
      have cA : wr.cell? ⟨g, k * 2, none⟩ = some (.string es) := HRg.out 0 _ rfl
      have cB : wr.cell? ⟨g, k * 2 + 1, none⟩ = some (.int .u16 en) := HRg.out 1 _ rfl
      clear he hke he1 he2 hvc hlt hui hk
      go_wp2_with fail
      refine (HVc.out wr).mono ?_
      rintro x w4 ⟨rfl, hb⟩
      have HB4 := Lib.hid (HB.out.trans (hb.mono hsz))
      clear hb HVc HB HRg c2 cA cB
      cases vc
      · go_wp2_with fail
        go_ret
        refine ⟨HB4.out, k + 1, ⟨HUn.out, HA.out, .inr ⟨(es, en), ?_, HMt.out⟩⟩, by rw [HUi.out]; rfl⟩
        rw [show k + 1 - 1 = k by omega]
        exact HHe.out
      · go_wp2_with fail
        go_roundw
        case rel =>
          refine ⟨k, by have := HHk.out; omega, ?_, HB4.out, fun j e' hj he' => ?_⟩
          · first | rfl | go_num
          · by_cases ej : j = k
            · rw [ej, HHe.out] at he'
              injection he' with he'
              rw [← he']
              exact HMt.out
            · exact HA.out j e' (by omega) he'
        case measure => (have := HUi.out; simp [Go.RowKit.intOf]; try omega)
    · obtain rfl : u = 0 := by omega
      go_wp2_with fail
      go_ret
      exact ⟨HB.out, 0, ⟨Nat.zero_le _, HA.out, .inl rfl⟩, rfl⟩
end Go.Proofs.YteaoabppppbkoaaGreatDoor

/- Directories: Find, Turn, Empty. -/
namespace Go.Proofs.YteaoabppppbkoaaGreatDoor
set_option linter.unusedSimpArgs false
set_option linter.unusedVariables false
open Go.RowKit Go.Maps
variable {ln : Lm}
theorem used_zero {E : List En} {u : Nat} (h : isUsed E u) : decide (u = 0) = E.all vacE := by
  obtain ⟨h1, h2, h3⟩ := h
  rw [Bool.eq_iff_iff, decide_eq_true_iff, List.all_eq_true]
  constructor
  · rintro rfl e he
    obtain ⟨j, hj⟩ := List.mem_iff_getElem?.1 he
    exact h2 j e (Nat.zero_le _) hj
  · intro hh
    rcases h3 with h3 | ⟨e, he, hv⟩
    · exact h3
    · rw [hh e (List.mem_of_getElem? he)] at hv
      cases hv
set_option maxHeartbeats 20000000 in
set_option maxRecDepth 2000000 in
theorem dempty_any (q p t m d gg lab B0 P0 M DA NB N K : Nat) (g : Cf.Ge) (Y V : Nat → Nat → Int) (num : Nat) (h1 : 1 ≤ num) (h2 : num ≤ M) (b0 : Nat → Nat) (E : List En) (hD : Dir B0 DA NB Y (V num) b0 E) (hI : Tab P0 M Y V) (hK : K < 190000000) (hg : GG g B0 P0 M DA NB N) (w : World) (h : Gr w q p t m d gg lab g B0 NB N ln Y K) :
    Calls Tryz.prog 28 #[.pointer (some ⟨q, 0, none⟩), .int .i64 num] w fun r w' => r = .returned (.tuple #[.bool (E.all vacE), .int .i64 0]) ∧ Gr w' q p t m d gg lab g B0 NB N ln Y (K + 1001) ∧ Kf w w' [t, m, d, gg] := by
  have HOp := Lib.hid (fun W hW => dopen_in (ln := ln) q p t m d gg lab B0 P0 M DA NB N K g Y V num h1 h2 b0 E hD hI hK hg W hW)
  have HG0 := Lib.hid h
  have hsm := smE_of hD.ok
  have hl := hD.n
  have h0lt : ∀ a ∈ [q, p, t, m, d, gg], a < w.heap.size := fun a ha => by
    obtain ⟨l1, l2, l3, l4, l5, l6⟩ := h.lts
    simp only [List.mem_cons, List.not_mem_nil, or_false] at ha
    rcases ha with rfl | rfl | rfl | rfl | rfl | rfl <;> assumption
  have H0 := Lib.hid h0lt
  have HUs := Lib.hid (fun bd base v W hV hO => used_any q num bd base v E hsm hl W hV hO)
  clear h1 h2 hD hI hK hg h hsm hl h0lt
  go_enter Tryz.func28, Tryz.ntmps28
  go_wp2_with fail
  refine (HOp.out w HG0.out).mono ?_
  rintro e w1 ⟨bd, v, base, rfl, hbd, hbb, hV, hO, hG, hk⟩
  have HV1 := Lib.hid hV
  have HO1 := Lib.hid hO
  have HG1 := Lib.hid hG
  have HK1 := Lib.hid hk
  have hbw : w.heap.size ≤ bd := hbd
  have HND : Hid (bd ∉ [t, m, d, gg]) := Lib.hid (fun ha => by
    have := H0.out bd (by simp only [List.mem_cons, List.not_mem_nil, or_false] at ha ⊢; omega)
    omega)
  clear hV hO hG hk HOp hbd
  go_wp2_with fail
  refine (HUs.out bd base v w1 HV1.out HO1.out).mono ?_
  rintro r w2 ⟨hb, u, hu, rfl⟩
  have HG2 := Lib.hid (HG1.out.keep hb)
  have HK2 := Lib.hid (HK1.out.more hb)
  have hz := used_zero hu
  by_cases hu0 : u = 0
  · subst hu0
    have HZ := Lib.hid hz
    clear hz hb hu
    go_wp2_with fail
    go_ret2
    exact ⟨by rw [← HZ.out]; rfl, HG2.out, HK2.out⟩
  · have hui : ((u : Int) == 0) = false := beq_eq_false_iff_ne.2 (by omega)
    rw [decide_eq_false hu0] at hz
    have HZ := Lib.hid hz
    clear hz hb hu hu0
    go_wp2_with fail
    go_ret2
    exact ⟨by rw [← HZ.out]; rfl, HG2.out, HK2.out⟩
end Go.Proofs.YteaoabppppbkoaaGreatDoor

