import Derived.Test.YtehldpnhdnlljaaDoorPG
import Derived.Test.YtehldpnhdnlljaaDoorPC
/- A path as a text. -/
namespace Go.Proofs.YtehldpnhdnlljaaDoor.Pt
set_option linter.unusedSimpArgs false
set_option linter.unusedVariables false
open Go.RowKit Go.Maps

/-- a part as a text -/
def partT (p : Pr) : List UInt8 := p.1.data.toList ++ (if p.2.toList.isEmpty = true then [] else 64 :: p.2.data.toList)
def txR : List Pr → List UInt8
  | [] => []
  | p :: r => 47 :: partT p ++ txR r
def txB : List Pr → List UInt8
  | [] => []
  | p :: r => partT p ++ txR r
/-- a path as a text -/
def txt (a : Bool) (L : List Pr) : List UInt8 := (if a = true then [47] else []) ++ txB L
theorem txR_snoc (L : List Pr) (p : Pr) : txR (L ++ [p]) = txR L ++ 47 :: partT p := by
  induction L with
  | nil => simp [txR]
  | cons a r ih => simp [txR, ih]
theorem txB_snoc (L : List Pr) (p : Pr) : txB (L ++ [p]) = txB L ++ (if L = [] then [] else [47]) ++ partT p := by
  cases L with
  | nil => simp [txB, txR]
  | cons a r => simp [txB, txR_snoc]
theorem txt_step (a : Bool) (L : List Pr) (k : Nat) (p : Pr) (h : L[k]? = some p) : txt a (L.take (k + 1)) = txt a (L.take k) ++ (if k = 0 then [] else [47]) ++ p.1.data.toList ++ (if p.2.toList.isEmpty = true then [] else 64 :: p.2.data.toList) := by
  rw [List.take_add_one, h]
  unfold txt
  show _ ++ txB (L.take k ++ [p]) = _
  rw [txB_snoc]
  have hk : k < L.length := (List.getElem?_eq_some_iff.1 h).1
  have hz : L.take k = [] ↔ k = 0 := by
    rw [← List.length_eq_zero_iff, List.length_take]
    omega
  by_cases e : k = 0
  · rw [if_pos (hz.2 e), if_pos e]
    simp [partT]
  · rw [if_neg (fun h => e (hz.1 h)), if_neg e]
    simp [partT]
theorem txR_mono (L : List Pr) (k : Nat) : (txR (L.take k)).length ≤ (txR L).length := by
  induction L generalizing k with
  | nil => simp
  | cons a r ih =>
    cases k with
    | zero => simp [txR]
    | succ k =>
      have := ih k
      simp only [List.take_succ_cons, txR, List.length_append, List.length_cons]
      omega
theorem txt_mono (a : Bool) (L : List Pr) (k : Nat) : (txt a (L.take k)).length ≤ (txt a L).length := by
  unfold txt
  rw [List.length_append, List.length_append]
  cases L with
  | nil => simp
  | cons b r =>
    cases k with
    | zero => simp [txB]
    | succ k =>
      have := txR_mono r k
      simp only [List.take_succ_cons, txB, List.length_append]
      omega
theorem txt_room (a : Bool) (L : List Pr) (k : Nat) (p : Pr) (h : L[k]? = some p) : (txt a (L.take k)).length + p.1.size + p.2.size ≤ (txt a L).length := by
  refine Nat.le_trans ?_ (txt_mono a L (k + 1))
  rw [txt_step a L k p h, List.length_append, List.length_append, List.length_append]
  have h1 : p.1.data.toList.length = p.1.size := by simp
  have h2 : p.2.size ≤ (if p.2.toList.isEmpty = true then ([] : List UInt8) else 64 :: p.2.data.toList).length := by
    split
    · rename_i h3
      have h4 := List.isEmpty_iff.1 h3
      rw [ByteArray.toList_eq] at h4
      have h5 := congrArg List.length h4
      simp at h5
      show p.2.data.size ≤ _
      simp [h5]
    · rw [List.length_cons, Array.length_toList]
      show p.2.data.size ≤ _
      omega
  omega
theorem byteCells_app (l m : List UInt8) : Lib.byteCells (l ++ m) = Lib.byteCells l ++ Lib.byteCells m := by simp [Lib.byteCells]
theorem byteCells_str (s : ByteArray) : Lib.byteCells s.data.toList = Lib.strCells s := by rfl
end Go.Proofs.YtehldpnhdnlljaaDoor.Pt
