import Derived.Test.YtgfgdfcedmcjeaaGreatDoorM20
import Derived.Laws.IdiomStrings
import Derived.Laws.AppendOwnNone
import Derived.Test.YtgfgdfcedmcjeaaGreatDoorM15
import Derived.Test.YtgfgdfcedmcjeaaGreatDoorM4
import Derived.Test.YtgfgdfcedmcjeaaGreatDoorM3
import Derived.LoopTactic
import Derived.IntWalk
/- Files: bytes as handed in; as strings; appended. -/
/- Directories: Unpack. -/
/- Files: does a way pass a block. -/
/- Files: what giving blocks leaves (pure). -/
/- Files: giveAt. -/
/- Files: how many blocks a length takes. -/

namespace Go.Proofs.YtgfgdfcedmcjeaaGreatDoor
set_option linter.unusedSimpArgs false
set_option linter.unusedVariables false
open Go.RowKit Go.Maps

def strOf (n : Nat) (s : Nat → Int) : ByteArray := ⟨((List.range n).map fun j => UInt8.ofNat (s j).toNat).toArray⟩
/-- a slice of bytes as handed in: nil, or empty, or some bytes -/
def B8 (w : World) (pa : Option Addr) (n c : Nat) (s : Nat → Int) : Prop :=
  (pa = none ∧ n = 0 ∧ c = 0) ∨ (∃ ad, pa = some ad ∧ n = 0) ∨ ∃ b off, pa = some ⟨b, off, none⟩ ∧ b < w.heap.size ∧ ∀ j, j < n → w.cell? ⟨b, off + j, none⟩ = some (.int .u8 (s j))
theorem B8.keep {w w' : World} {pa : Option Addr} {n c : Nat} {s : Nat → Int} (h : B8 w pa n c s) (hb : Below w.heap.size w w') : B8 w' pa n c s := by
  rcases h with h | h | ⟨b, off, h1, h2, h3⟩
  · exact .inl h
  · exact .inr (.inl h)
  · exact .inr (.inr ⟨b, off, h1, Nat.lt_of_lt_of_le h2 hb.size, fun j hj => (hb.cell (p := ⟨b, off + j, none⟩) h2).trans (h3 j hj)⟩)
theorem u8_back (x : Int) (h0 : 0 ≤ x) (h1 : x < 256) : ((UInt8.ofNat x.toNat).toNat : Int) = x := by
  rw [UInt8.toNat_ofNat']
  omega
set_option maxRecDepth 100000 in
theorem str_cells {w : World} {b off n c : Nat} {s : Nat → Int} (hs : ∀ j, j < n → 0 ≤ s j ∧ s j < 256) (h : ∀ j, j < n → w.cell? ⟨b, off + j, none⟩ = some (.int .u8 (s j))) :
    (convert 27 9 (.slice (some ⟨b, off, none⟩) n c)).run Tryz.prog w = .ok (.string (strOf n s)) w := by
  have := run_convert_bytes_back (P := Tryz.prog) w 27 9 5 ⟨b, off, none⟩ c ((List.range n).map fun j => UInt8.ofNat (s j).toNat) (by kernel_rfl) (by kernel_rfl) (by kernel_rfl) (fun j hj => by
    have hj' : j < n := by simpa using hj
    rw [List.getElem_map, List.getElem_range, u8_back _ (hs j hj').1 (hs j hj').2, Addr.add_lit]
    exact h j hj')
  rw [List.length_map, List.length_range] at this
  exact this
end Go.Proofs.YtgfgdfcedmcjeaaGreatDoor

namespace Go.Proofs.YtgfgdfcedmcjeaaGreatDoor
set_option linter.unusedSimpArgs false
set_option linter.unusedVariables false
open Go.RowKit Go.Maps

theorem yields_conv {P : Program} {ops : Array Oper} {S : World → Prop} {op : Oper} {a : Act} (hw : Region.wanted op (yielded ops a.tmps) = true) (src dst : TypeId) (x : Operand) (ho : op.op = .convert src dst x) (vx v : Value) (hx : a.eval x = vx)
    (hr : ∀ w, S w → (convert src dst vx).run P w = .ok v w) : YieldsIf P ops S op v a :=
  .inl ⟨hw, fun w hS => by
    have hr := hr w hS
    unfold execOp
    simp [ho, hx, hr, Result.andThen]⟩
theorem yields_bld2 {P : Program} {ops : Array Oper} {S : World → Prop} {op : Oper} {a : Act} (hw : Region.wanted op (yielded ops a.tmps) = true) (ty : TypeId) (i j : Nat) (x y : Operand) (ho : op.op = .build ty #[(i, x), (j, y)]) (vx vy : Value) (hx : a.eval x = vx) (hy : a.eval y = vy) (v : Value)
    (hr : ∀ w, (Instr.build ty #[(i, vx), (j, vy)]).run P w = .ok v w) : YieldsIf P ops S op v a :=
  .inl ⟨hw, fun w _ => by
    have hr := hr w
    unfold execOp
    simp [ho, hx, hy, hr, Result.andThen]⟩
/-- an entry that may stand in a directory -/
def okE (e : En) : Prop := 0 < e.2 ∧ e.2 < 65536 ∧ nameC e.1 = 0
theorem nameC_ok {s : ByteArray} (h : nameC s = 0) : 1 ≤ s.size ∧ s.size ≤ 14 ∧ ∀ b ∈ s.data.toList, maySt b = true := by
  unfold nameC at h
  split at h
  · cases h
  · rename_i h1
    split at h
    · cases h
    · split at h
      · rename_i h3
        refine ⟨?_, by omega, fun b hb => List.all_eq_true.1 h3 b hb⟩
        have : ¬ s.size = 0 := fun hh => h1 (.inl hh)
        omega
      · cases h
theorem maySt_ne {b : UInt8} (h : maySt b = true) : b ≠ 0 := by
  rintro rfl
  revert h
  decide
theorem trim_pk (s : ByteArray) (h14 : s.size ≤ 14) (h0 : ∀ b ∈ s.data.toList, b ≠ 0) : (Lib.trimRightB (strOf 14 (btF s)).data.toList 0).toArray = s.data := by
  have hl : (strOf 14 (btF s)).data.toList = (List.range 14).map fun j => UInt8.ofNat (btF s j).toNat := rfl
  have hlen : s.data.toList.length = s.size := (Lib.size_eq s).symm
  have hget : ∀ (j : Nat) (hj : j < s.size), UInt8.ofNat (btF s j).toNat = s.data.toList[j]'(by rw [hlen]; exact hj) := fun j hj => by
    unfold btF
    rw [List.getElem?_eq_getElem (by rw [hlen]; exact hj)]
    simp
  rw [hl, Lib.trimRightB_take _ 0 s.size (by simp; omega) (fun j b hj hb => ?_) (fun b hs hb => ?_)]
  · have : ((List.range 14).map fun j => UInt8.ofNat (btF s j).toNat).take s.size = s.data.toList := by
      refine List.ext_getElem? fun j => ?_
      by_cases hj : j < s.size
      · rw [List.getElem?_take_of_lt hj, List.getElem?_map, List.getElem?_range (by omega), List.getElem?_eq_getElem (by rw [hlen]; exact hj), ← hget j hj]
        rfl
      · rw [List.getElem?_eq_none (by simp; omega), List.getElem?_eq_none (by omega)]
    rw [this]
  · rw [List.getElem?_map] at hb
    by_cases hj2 : j < 14
    · rw [List.getElem?_range hj2] at hb
      simp only [Option.map_some, Option.some.injEq] at hb
      rw [← hb, btF_past s j hj]
      rfl
    · rw [List.getElem?_eq_none (by simp; omega)] at hb
      cases hb
  · rw [List.getElem?_map, List.getElem?_range (by omega)] at hb
    simp only [Option.map_some, Option.some.injEq] at hb
    rw [← hb, hget (s.size - 1) (by omega)]
    exact h0 _ (List.getElem_mem _)
set_option maxHeartbeats 20000000 in
set_option maxRecDepth 100000 in
theorem unpack_ok (e : En) (h : e = zE ∨ okE e) (sb so cap : Nat) (hcap : 16 ≤ cap) (hc2 : cap ≤ 100000) (hso : so ≤ 100000) (w : World) (hS : Sb w sb so 16 (pkF e)) :
    Calls Tryz.prog 72 #[.slice (some ⟨sb, so, none⟩) 16 cap] w fun x w' => x = .returned (.tuple #[.agg (enc e).toArray, .bool true]) ∧ Below w.heap.size w w' := by
  obtain ⟨d, hu, hd⟩ := Tryz.descEn
  have HU := Lib.hid hu
  have HD := Lib.hid hd
  obtain ⟨s, n⟩ := e
  have hb : s.size ≤ 14 ∧ n < 65536 ∧ ∀ b ∈ s.data.toList, b ≠ 0 := by
    rcases h with h | h
    · cases h
      exact ⟨by decide, by decide, fun b hb => by cases hb⟩
    · obtain ⟨h1, h2, h3⟩ := h
      obtain ⟨h4, h5, h6⟩ := nameC_ok h3
      exact ⟨h5, h2, fun b hb => maySt_ne (h6 b hb)⟩
  obtain ⟨h14, hn, hnz⟩ := hb
  have n0 : (0 : Int) ≤ n := by omega
  have n1 : (n : Int) < 65536 := by omega
  have HTr := Lib.hid (trim_pk s h14 hnz)
  have htr := fun W => Tryz.strings_TrimRight_one (strOf 14 (btF s)) 0 (by decide) W (by show (List.map _ _).toArray.size ≤ _; simp)
  rw [trim_pk s h14 hnz] at htr
  have HTR := Lib.hid htr
  have HV := Lib.hid (fun W => vacant_any (s, n) (by show s.size ≤ maxLen; unfold maxLen; omega) hn W)
  have hvac : vacE (s, n) = decide ((s, n) = zE) := rfl
  have HNm : Hid (¬ (s, n) = zE → ¬ ((n : Int) = 0) ∧ nameC s = 0) := Lib.hid (fun hne => by
    rcases h with h | h
    · exact absurd h hne
    · obtain ⟨h1, h2, h3⟩ := h
      have : 0 < n := h1
      exact ⟨by omega, h3⟩)
  have HNa := Lib.hid (fun W => name_any s W)
  have p0 : pkF (s, n) 0 = (n : Int) % 256 := rfl
  have p1 : pkF (s, n) 1 = (n : Int) / 256 := rfl
  have p2 : ∀ j, pkF (s, n) (2 + j) = btF s j := fun j => by
    unfold pkF
    rw [if_neg (by omega), if_neg (by omega), show 2 + j - 2 = j by omega]
  have HP0 := Lib.hid p0
  have HP1 := Lib.hid p1
  have HP2 := Lib.hid p2
  have HSb := Lib.hid hS
  have hor := u16_or8 ((n : Int) % 256) ((n : Int) / 256 * 256) (by omega) (by omega) (by omega) (by omega) (by omega)
  rw [show (n : Int) % 256 + (n : Int) / 256 * 256 = n by omega] at hor
  have HOR := Lib.hid hor
  have HSH := Lib.hid (shl8 ((n : Int) / 256) (by omega) (by omega))
  have HUW := Lib.hid (wraps_u16 ((n : Int) % 256) (by omega) (by omega))
  have HVW := Lib.hid (wraps_u16 ((n : Int) / 256) (by omega) (by omega))
  obtain ⟨P, hP⟩ : ∃ P, pkF (s, n) = P := ⟨_, rfl⟩
  rw [hP] at HP0 HP1 HP2 HSb
  obtain ⟨lo, hlo⟩ : ∃ x : Int, (n : Int) % 256 = x := ⟨_, rfl⟩
  obtain ⟨hi, hhi⟩ : ∃ x : Int, (n : Int) / 256 = x := ⟨_, rfl⟩
  have l0 : 0 ≤ lo ∧ lo < 256 := by omega
  have m0 : 0 ≤ hi ∧ hi < 256 := by omega
  obtain ⟨l0, l1⟩ := l0
  obtain ⟨m0, m1⟩ := m0
  rw [hlo] at HOR HUW HP0
  rw [hhi] at HOR HSH HVW HP1
  obtain ⟨vc, hvc⟩ : ∃ x, vacE (s, n) = x := ⟨_, rfl⟩
  rw [hvc] at HV hvac
  have HVc := Lib.hid hvac
  obtain ⟨ni, hni⟩ : ∃ x : Int, (n : Int) = x := ⟨_, rfl⟩
  rw [hni] at HNm HOR n0 n1
  have HNI := Lib.hid hni
  have hcp : (16 : Int) ≤ cap := by omega
  have hcn : ¬ cap = 2 := by omega
  clear hu hd h h14 hn hnz htr hvac p0 p1 p2 hS hor hP hlo hhi hvc hni
  go_enter Tryz.func72, Tryz.ntmps72
  go_upto_region 3 with (first | (refine wpList_alloc_list (w := w) rfl 58 rfl (enc zE) Tryz.zeroEn ?_; intro w1 F1 hb1 hz1; have HB1 := Lib.hid hb1; have hq1 : w.heap.size < w1.heap.size := (by omega); clear hb1 hz1))
  obtain ⟨b2, hb2⟩ : ∃ b, w.heap.size = b := ⟨_, rfl⟩
  have hsb : sb < b2 := by have := HSb.out.lt; omega
  have HSb1 := Lib.hid (HSb.out.keep HB1.out)
  rw [hb2] at F1 HB1 hq1
  try rw [hb2]
  have HW := Lib.hid hb2
  clear hb2 HSb
  refine wp_region_held (S := fun W => Sb W sb so 16 P) (by kernel_rfl) ?_
  change wpAnyH _ _ _ _ _ _ _ _ (World.drew _)
  have hS0 : (fun W => Sb W sb so 16 P) w1.drew := HSb1.out.keep (Below.refl _ _).drew
  have F2 := Lib.hid (F1.out.keep (Below.refl _ _).drew)
  have HB2 := Lib.hid HB1.out.drew
  have hq2 : b2 < (World.drew w1).heap.size := hq1
  obtain ⟨w2, hw2⟩ : ∃ x, World.drew w1 = x := ⟨_, rfl⟩
  rw [hw2] at hS0 F2 HB2 hq2 ⊢
  clear hw2 F1 HB1 hq1 HSb1
  refine wpAnyH_take (i := 0) (v := ?_) rfl (by kernel_rfl) (by kernel_rfl) (by kernel_rfl) (fun _ _ _ h => h) (Or.inl ⟨by rfl, ?_⟩) hS0 ?_
  rotate_left 1
  · intro W hW
    go_simp
    try with_reducible rfl
  simp only [Act.put, List.getElem_toArray, List.getElem_cons_zero, List.getElem_cons_succ, List.setIfInBounds_toArray, List.set_cons_zero, List.set_cons_succ]
  refine wpAnyH_take (i := 1) (v := ?_) rfl (by kernel_rfl) (by kernel_rfl) (by kernel_rfl) (fun _ _ _ h => h) (Or.inl ⟨by rfl, ?_⟩) hS0 ?_
  rotate_left 1
  · intro W hW
    go_simp
    try with_reducible rfl
  simp only [Act.put, List.getElem_toArray, List.getElem_cons_zero, List.getElem_cons_succ, List.setIfInBounds_toArray, List.set_cons_zero, List.set_cons_succ]
  refine wpAnyH_take (i := 2) (v := .string (strOf 14 (btF s))) rfl (by kernel_rfl) (by kernel_rfl) (by kernel_rfl) (fun _ _ _ h => h) ?_ hS0 ?_
  · exact yields_conv (by rfl) 27 9 (.tmp 10) rfl (.slice (some ⟨sb, so + 2, none⟩) 14 (cap - 2)) _ rfl (fun W hW => str_cells (fun j _ => btF_bd s j) (fun j hj => by
      have := hW.c (2 + j) (by omega)
      rw [HP2.out, ← Nat.add_assoc] at this
      exact this))
  simp only [Act.put, List.getElem_toArray, List.getElem_cons_zero, List.getElem_cons_succ, List.setIfInBounds_toArray, List.set_cons_zero, List.set_cons_succ]
  refine wpAnyH_take (i := 4) (v := ?_) rfl (by kernel_rfl) (by kernel_rfl) (by kernel_rfl) (fun _ _ _ h => h) (Or.inl ⟨by rfl, ?_⟩) hS0 ?_
  rotate_left 1
  · intro W hW
    go_simp
    try with_reducible rfl
  simp only [Act.put, List.getElem_toArray, List.getElem_cons_zero, List.getElem_cons_succ, List.setIfInBounds_toArray, List.set_cons_zero, List.set_cons_succ]
  refine wpAnyH_take (i := 5) (v := ?_) rfl (by kernel_rfl) (by kernel_rfl) (by kernel_rfl) (fun _ _ _ h => h) (Or.inl ⟨by rfl, ?_⟩) hS0 ?_
  rotate_left 1
  · intro W hW
    go_simp
    try with_reducible rfl
  simp only [Act.put, List.getElem_toArray, List.getElem_cons_zero, List.getElem_cons_succ, List.setIfInBounds_toArray, List.set_cons_zero, List.set_cons_succ]
  refine wpAnyH_take (i := 6) (v := ?_) rfl (by kernel_rfl) (by kernel_rfl) (by kernel_rfl) (fun _ _ _ h => h) (Or.inl ⟨by rfl, ?_⟩) hS0 ?_
  rotate_left 1
  · intro W hW
    have c0 : W.cell? ⟨sb, so, none⟩ = some (.int .u8 lo) := by
      have := hW.c 0 (by decide)
      rw [HP0.out] at this
      exact this
    go_simp
    try with_reducible rfl
  simp only [Act.put, List.getElem_toArray, List.getElem_cons_zero, List.getElem_cons_succ, List.setIfInBounds_toArray, List.set_cons_zero, List.set_cons_succ]
  refine wpAnyH_take (i := 7) (v := ?_) rfl (by kernel_rfl) (by kernel_rfl) (by kernel_rfl) (fun _ _ _ h => h) (Or.inl ⟨by rfl, ?_⟩) hS0 ?_
  rotate_left 1
  · intro W hW
    have k3 := HUW.out
    go_simp
    try with_reducible rfl
  simp only [Act.put, List.getElem_toArray, List.getElem_cons_zero, List.getElem_cons_succ, List.setIfInBounds_toArray, List.set_cons_zero, List.set_cons_succ]
  refine wpAnyH_take (i := 8) (v := ?_) rfl (by kernel_rfl) (by kernel_rfl) (by kernel_rfl) (fun _ _ _ h => h) (Or.inl ⟨by rfl, ?_⟩) hS0 ?_
  rotate_left 1
  · intro W hW
    go_simp
    try with_reducible rfl
  simp only [Act.put, List.getElem_toArray, List.getElem_cons_zero, List.getElem_cons_succ, List.setIfInBounds_toArray, List.set_cons_zero, List.set_cons_succ]
  refine wpAnyH_take (i := 9) (v := ?_) rfl (by kernel_rfl) (by kernel_rfl) (by kernel_rfl) (fun _ _ _ h => h) (Or.inl ⟨by rfl, ?_⟩) hS0 ?_
  rotate_left 1
  · intro W hW
    go_simp
    try with_reducible rfl
  simp only [Act.put, List.getElem_toArray, List.getElem_cons_zero, List.getElem_cons_succ, List.setIfInBounds_toArray, List.set_cons_zero, List.set_cons_succ]
  refine wpAnyH_take (i := 10) (v := ?_) rfl (by kernel_rfl) (by kernel_rfl) (by kernel_rfl) (fun _ _ _ h => h) (Or.inl ⟨by rfl, ?_⟩) hS0 ?_
  rotate_left 1
  · intro W hW
    have c1 : W.cell? ⟨sb, so + 1, none⟩ = some (.int .u8 hi) := by
      have := hW.c 1 (by decide)
      rw [HP1.out] at this
      exact this
    go_simp
    try with_reducible rfl
  simp only [Act.put, List.getElem_toArray, List.getElem_cons_zero, List.getElem_cons_succ, List.setIfInBounds_toArray, List.set_cons_zero, List.set_cons_succ]
  refine wpAnyH_take (i := 11) (v := ?_) rfl (by kernel_rfl) (by kernel_rfl) (by kernel_rfl) (fun _ _ _ h => h) (Or.inl ⟨by rfl, ?_⟩) hS0 ?_
  rotate_left 1
  · intro W hW
    have k4 := HVW.out
    go_simp
    try with_reducible rfl
  simp only [Act.put, List.getElem_toArray, List.getElem_cons_zero, List.getElem_cons_succ, List.setIfInBounds_toArray, List.set_cons_zero, List.set_cons_succ]
  refine wpAnyH_take (i := 12) (v := ?_) rfl (by kernel_rfl) (by kernel_rfl) (by kernel_rfl) (fun _ _ _ h => h) (Or.inl ⟨by rfl, ?_⟩) hS0 ?_
  rotate_left 1
  · intro W hW
    have k2 := HSH.out
    go_simp
    try with_reducible rfl
  simp only [Act.put, List.getElem_toArray, List.getElem_cons_zero, List.getElem_cons_succ, List.setIfInBounds_toArray, List.set_cons_zero, List.set_cons_succ]
  refine wpAnyH_take (i := 13) (v := ?_) rfl (by kernel_rfl) (by kernel_rfl) (by kernel_rfl) (fun _ _ _ h => h) (Or.inl ⟨by rfl, ?_⟩) hS0 ?_
  rotate_left 1
  · intro W hW
    have k1 := HOR.out
    go_simp
    try with_reducible rfl
  simp only [Act.put, List.getElem_toArray, List.getElem_cons_zero, List.getElem_cons_succ, List.setIfInBounds_toArray, List.set_cons_zero, List.set_cons_succ]
  refine wpAnyH_ready (rs := [3, 15]) (by kernel_rfl) (by simp) (AllReadyH.cons rfl (fun KK hKK => ?_) (AllReadyH.cons rfl (fun KK hKK => ?_) AllReadyH.nil))
  · go_simp
    refine (HTR.out w2).mono ?_
    rintro e wz ⟨rfl, hwz⟩
    rw [hwz]
    clear hwz
    refine hKK _ _ hS0 ?_
    intro _
    clear hKK KK
    try simp only [Act.put, List.getElem_toArray, List.getElem_cons_zero, List.getElem_cons_succ, List.setIfInBounds_toArray, List.set_cons_zero, List.set_cons_succ]
    refine wpAnyH_take (i := 14) (v := .agg (enc (s, n)).toArray) rfl (by kernel_rfl) (by kernel_rfl) (by kernel_rfl) (fun _ _ _ h => h) ?_ hS0 ?_
    · exact yields_bld2 (by rfl) 58 0 1 (.tmp 12) (.tmp 22) rfl (.string s) (.int .u16 ni) rfl rfl _ (fun W => by
          rw [show (enc (s, n)) = [.string s, .int .u16 ni] from by unfold enc; rw [HNI.out]]
          exact Tryz.buildEn2 s ni W)
    simp only [Act.put, List.getElem_toArray, List.getElem_cons_zero, List.getElem_cons_succ, List.setIfInBounds_toArray, List.set_cons_zero, List.set_cons_succ]
    refine wpAnyH_ready (rs := [15]) (by kernel_rfl) (by simp) (AllReadyH.cons rfl (fun KK hKK => ?_) AllReadyH.nil)
    refine step_alloc_list rfl 58 (enc zE) rfl Tryz.zeroEn ?_
    intro wA FA hbA hzA
    have hS1 : (fun W => Sb W sb so 16 P) wA := hS0.keep hbA
    have GA := Lib.hid (F2.out.keep hbA)
    have HBA := Lib.hid (HB2.out.trans (hbA.mono (by omega)))
    obtain ⟨b4, hb4⟩ : ∃ x, w2.heap.size = x := ⟨_, rfl⟩
    have hq4 : b2 < b4 ∧ b4 < wA.heap.size := by omega
    rw [hb4] at FA
    try rw [hb4]
    clear hS0 hbA hzA hb4 F2 HB2
    have hS0 := hS1
    clear hS1
    refine hKK _ _ hS0 ?_
    intro _
    clear hKK KK
    try simp only [Act.put, List.getElem_toArray, List.getElem_cons_zero, List.getElem_cons_succ, List.setIfInBounds_toArray, List.set_cons_zero, List.set_cons_succ]
    have PF := Lib.hid (FA.out.stored (enc (s, n)) rfl)
    refine wpAnyH_ready (rs := [16]) (by kernel_rfl) (by simp) (AllReadyH.cons rfl (fun KK hKK => ?_) AllReadyH.nil)
    refine step_store_mid rfl 58 _ _ rfl b4 0 (enc (s, n)).toArray rfl rfl (FA.out.there0 2 rfl) (sizeEn _) (all_oneCell_toArray (enc_one _)) ?_
    have hk : Kp wA (wA.setCells b4 0 (enc (s, n))) b4 b4 := (Kp.refl wA b4 b4).setCells b4 0 (.inl rfl) _
    have hS1 : (fun W => Sb W sb so 16 P) (wA.setCells b4 0 (enc (s, n))) := hS0.kp hk (by omega)
    have GB := Lib.hid (GA.out.kp hk (by omega) (by omega))
    have HBB := Lib.hid (HBA.out.trans (hk.below (by omega) (by omega) (by omega)))
    have hqb := hk.size
    obtain ⟨wB, hwB⟩ : ∃ x, wA.setCells b4 0 (enc (s, n)) = x := ⟨_, rfl⟩
    change KK _ (wA.setCells b4 0 (enc (s, n)))
    rw [hwB] at hS1 PF GB HBB hqb ⊢
    clear hS0 hwB hk FA GA HBA
    refine hKK _ _ hS1 ?_
    intro _
    clear hKK KK hS1
    refine wpAnyH_done (by kernel_rfl) ?_ _
    have HR := Lib.hid PF.out.range0
    go_wp2_with (refine wpList_load_mid rfl 58 _ rfl b4 0 rfl (enc (s, n)) d HR.out HU.out HD.out (sizeEn _) ?_)
    refine (HV.out wB).mono ?_
    rintro e wC ⟨rfl, hb⟩
    have PC := Lib.hid (PF.out.keep hb)
    have GC := Lib.hid (GB.out.keep hb)
    have HBC := Lib.hid (HBB.out.trans (hb.mono (by omega)))
    clear hb HV PF GB HBB HR
    have HR := Lib.hid PC.out.range0
    have GS := Lib.hid (GC.out.stored (enc (s, n)) rfl)
    cases vc
    · have hne : ¬ (s, n) = zE := by
        have := HVc.out
        exact of_decide_eq_false this.symm
      obtain ⟨hn0, hnm⟩ := HNm.out hne
      have cN : wC.cell? ⟨b4, 1, none⟩ = some (.int .u16 ni) := by rw [← HNI.out]; exact PC.out.c 1 _ rfl
      have cS := PC.out.c 0 _ rfl
      have HNa2 := HNa.out
      rw [hnm] at HNa2
      have HNa3 := Lib.hid HNa2
      clear hnm HNa2 hne
      go_wp2_with fail
      refine (HNa3.out wC).mono ?_
      rintro e wz ⟨rfl, hwz⟩
      rw [hwz]
      clear hwz
      go_wp2_with (first | (refine wpList_load_mid rfl 58 _ rfl b4 0 rfl (enc (s, n)) d HR.out HU.out HD.out (sizeEn _) ?_) | (refine wpList_store_mid rfl 58 _ _ rfl b2 0 (enc (s, n)).toArray rfl rfl (GC.out.there0 2 rfl) (sizeEn _) (all_oneCell_toArray (enc_one _)) ?_))
      exact bodyPost_ret_by (results_mid_tmp rfl _ _ b2 _ d rfl GS.out.range0 HU.out HD.out (sizeEn _)) rfl ⟨rfl, by rw [HW.out]; exact below_setCells HBC.out b2 0 (by omega) _⟩
    · go_wp2_with (first | (refine wpList_load_mid rfl 58 _ rfl b4 0 rfl (enc (s, n)) d HR.out HU.out HD.out (sizeEn _) ?_) | (refine wpList_store_mid rfl 58 _ _ rfl b2 0 (enc (s, n)).toArray rfl rfl (GC.out.there0 2 rfl) (sizeEn _) (all_oneCell_toArray (enc_one _)) ?_))
      exact bodyPost_ret_by (results_mid_tmp rfl _ _ b2 _ d rfl GS.out.range0 HU.out HD.out (sizeEn _)) rfl ⟨rfl, by rw [HW.out]; exact below_setCells HBC.out b2 0 (by omega) _⟩
  · refine step_alloc_list rfl 58 (enc zE) rfl Tryz.zeroEn ?_
    intro wA FA hbA hzA
    have hS1 : (fun W => Sb W sb so 16 P) wA := hS0.keep hbA
    have GA := Lib.hid (F2.out.keep hbA)
    have HBA := Lib.hid (HB2.out.trans (hbA.mono (by omega)))
    obtain ⟨b4, hb4⟩ : ∃ x, w2.heap.size = x := ⟨_, rfl⟩
    have hq4 : b2 < b4 ∧ b4 < wA.heap.size := by omega
    rw [hb4] at FA
    try rw [hb4]
    clear hS0 hbA hzA hb4 F2 HB2
    have hS0 := hS1
    clear hS1
    refine hKK _ _ hS0 ?_
    intro _
    clear hKK KK
    try simp only [Act.put, List.getElem_toArray, List.getElem_cons_zero, List.getElem_cons_succ, List.setIfInBounds_toArray, List.set_cons_zero, List.set_cons_succ]
    refine wpAnyH_ready (rs := [3]) (by kernel_rfl) (by simp) (AllReadyH.cons rfl (fun KK hKK => ?_) AllReadyH.nil)
    go_simp
    refine (HTR.out wA).mono ?_
    rintro e wz ⟨rfl, hwz⟩
    rw [hwz]
    clear hwz
    refine hKK _ _ hS0 ?_
    intro _
    clear hKK KK
    try simp only [Act.put, List.getElem_toArray, List.getElem_cons_zero, List.getElem_cons_succ, List.setIfInBounds_toArray, List.set_cons_zero, List.set_cons_succ]
    refine wpAnyH_take (i := 14) (v := .agg (enc (s, n)).toArray) rfl (by kernel_rfl) (by kernel_rfl) (by kernel_rfl) (fun _ _ _ h => h) ?_ hS0 ?_
    · exact yields_bld2 (by rfl) 58 0 1 (.tmp 12) (.tmp 22) rfl (.string s) (.int .u16 ni) rfl rfl _ (fun W => by
          rw [show (enc (s, n)) = [.string s, .int .u16 ni] from by unfold enc; rw [HNI.out]]
          exact Tryz.buildEn2 s ni W)
    simp only [Act.put, List.getElem_toArray, List.getElem_cons_zero, List.getElem_cons_succ, List.setIfInBounds_toArray, List.set_cons_zero, List.set_cons_succ]
    have PF := Lib.hid (FA.out.stored (enc (s, n)) rfl)
    refine wpAnyH_ready (rs := [16]) (by kernel_rfl) (by simp) (AllReadyH.cons rfl (fun KK hKK => ?_) AllReadyH.nil)
    refine step_store_mid rfl 58 _ _ rfl b4 0 (enc (s, n)).toArray rfl rfl (FA.out.there0 2 rfl) (sizeEn _) (all_oneCell_toArray (enc_one _)) ?_
    have hk : Kp wA (wA.setCells b4 0 (enc (s, n))) b4 b4 := (Kp.refl wA b4 b4).setCells b4 0 (.inl rfl) _
    have hS1 : (fun W => Sb W sb so 16 P) (wA.setCells b4 0 (enc (s, n))) := hS0.kp hk (by omega)
    have GB := Lib.hid (GA.out.kp hk (by omega) (by omega))
    have HBB := Lib.hid (HBA.out.trans (hk.below (by omega) (by omega) (by omega)))
    have hqb := hk.size
    obtain ⟨wB, hwB⟩ : ∃ x, wA.setCells b4 0 (enc (s, n)) = x := ⟨_, rfl⟩
    change KK _ (wA.setCells b4 0 (enc (s, n)))
    rw [hwB] at hS1 PF GB HBB hqb ⊢
    clear hS0 hwB hk FA GA HBA
    refine hKK _ _ hS1 ?_
    intro _
    clear hKK KK hS1
    refine wpAnyH_done (by kernel_rfl) ?_ _
    have HR := Lib.hid PF.out.range0
    go_wp2_with (refine wpList_load_mid rfl 58 _ rfl b4 0 rfl (enc (s, n)) d HR.out HU.out HD.out (sizeEn _) ?_)
    refine (HV.out wB).mono ?_
    rintro e wC ⟨rfl, hb⟩
    have PC := Lib.hid (PF.out.keep hb)
    have GC := Lib.hid (GB.out.keep hb)
    have HBC := Lib.hid (HBB.out.trans (hb.mono (by omega)))
    clear hb HV PF GB HBB HR
    have HR := Lib.hid PC.out.range0
    have GS := Lib.hid (GC.out.stored (enc (s, n)) rfl)
    cases vc
    · have hne : ¬ (s, n) = zE := by
        have := HVc.out
        exact of_decide_eq_false this.symm
      obtain ⟨hn0, hnm⟩ := HNm.out hne
      have cN : wC.cell? ⟨b4, 1, none⟩ = some (.int .u16 ni) := by rw [← HNI.out]; exact PC.out.c 1 _ rfl
      have cS := PC.out.c 0 _ rfl
      have HNa2 := HNa.out
      rw [hnm] at HNa2
      have HNa3 := Lib.hid HNa2
      clear hnm HNa2 hne
      go_wp2_with fail
      refine (HNa3.out wC).mono ?_
      rintro e wz ⟨rfl, hwz⟩
      rw [hwz]
      clear hwz
      go_wp2_with (first | (refine wpList_load_mid rfl 58 _ rfl b4 0 rfl (enc (s, n)) d HR.out HU.out HD.out (sizeEn _) ?_) | (refine wpList_store_mid rfl 58 _ _ rfl b2 0 (enc (s, n)).toArray rfl rfl (GC.out.there0 2 rfl) (sizeEn _) (all_oneCell_toArray (enc_one _)) ?_))
      exact bodyPost_ret_by (results_mid_tmp rfl _ _ b2 _ d rfl GS.out.range0 HU.out HD.out (sizeEn _)) rfl ⟨rfl, by rw [HW.out]; exact below_setCells HBC.out b2 0 (by omega) _⟩
    · go_wp2_with (first | (refine wpList_load_mid rfl 58 _ rfl b4 0 rfl (enc (s, n)) d HR.out HU.out HD.out (sizeEn _) ?_) | (refine wpList_store_mid rfl 58 _ _ rfl b2 0 (enc (s, n)).toArray rfl rfl (GC.out.there0 2 rfl) (sizeEn _) (all_oneCell_toArray (enc_one _)) ?_))
      exact bodyPost_ret_by (results_mid_tmp rfl _ _ b2 _ d rfl GS.out.range0 HU.out HD.out (sizeEn _)) rfl ⟨rfl, by rw [HW.out]; exact below_setCells HBC.out b2 0 (by omega) _⟩
end Go.Proofs.YtgfgdfcedmcjeaaGreatDoor

namespace Go.Proofs.YtgfgdfcedmcjeaaGreatDoor
set_option linter.unusedSimpArgs false
set_option linter.unusedVariables false
open Go.RowKit Go.Maps

theorem Tryz.arrWy : Tryz.prog.underlying 209 = some (.array 3 3) := by kernel_rfl
theorem Tryz.int3 : Tryz.prog.underlying 3 = some (.int .i64) := by kernel_rfl
theorem Tryz.cells3 : Tryz.prog.cellsOf 3 = 1 := by kernel_rfl
theorem Tryz.guardWy : Tryz.prog.eqGuardType Tryz.prog.depth 209 = false := by kernel_rfl
def eqW (a b c x y z : Int) : Bool := (a == x) && ((b == y) && (c == z))
theorem eqWy (a b c x y z : Int) (w : World) : (Op.equalIn 10000 209 (.agg (wyc a b c).toArray) (.agg (wyc x y z).toArray)).run Tryz.prog w = .ok (eqW a b c x y z) w := by
  obtain ⟨i, hi⟩ : ∃ i, Tryz.prog.info? 3 = some i := by
    have := Tryz.isizeInt
    cases h : Tryz.prog.info? 3 with
    | none => simp [h] at this
    | some i => exact ⟨i, rfl⟩
  rw [run_equalIn_array w 9999 (wyc a b c).toArray (wyc x y z).toArray Tryz.arrWy hi, Tryz.cells3]
  have hag : (isAgg 3).run Tryz.prog w = .ok false w := by
    unfold isAgg
    rw [Sem.run_bind, run_underlying Tryz.int3 w]
    rfl
  have p : ∀ (i : Nat) (v : Value) (a b c : Int), (wyc a b c)[i]? = some v → (part 3 (wyc a b c).toArray (i * 1)).run Tryz.prog w = .ok v w := fun i v a b c h => by
    simp [part, Sem.run_bind, hag, h]
  have q : ∀ (i : Nat) (is : List Nat) (u v : Int), (wyc a b c)[i]? = some (.int .i64 u) → (wyc x y z)[i]? = some (.int .i64 v) → (Op.eqItems 9999 3 1 (wyc a b c).toArray (wyc x y z).toArray (i :: is)).run Tryz.prog w = if (u == v) = true then (Op.eqItems 9999 3 1 (wyc a b c).toArray (wyc x y z).toArray is).run Tryz.prog w else .ok false w := fun i is u v h1 h2 => by
    simp only [Op.eqItems, Sem.run_bind, p i _ _ _ _ h1, p i _ _ _ _ h2, Result.andThen_ok, run_equalIn_int w 9998 3 .i64 .i64 _ _ Tryz.int3]
    cases hb : (u == v) <;> simp
  rw [show List.range 3 = [0, 1, 2] from rfl, q 0 _ a x rfl rfl, q 1 _ b y rfl rfl, q 2 _ c z rfl rfl]
  have h0 : (Op.eqItems 9999 3 1 (wyc a b c).toArray (wyc x y z).toArray []).run Tryz.prog w = .ok true w := by simp [Op.eqItems]
  rw [h0]
  unfold eqW
  cases h1 : (a == x) <;> cases h2 : (b == y) <;> cases h3 : (c == z) <;> rfl
set_option maxHeartbeats 8000000 in
set_option maxRecDepth 100000 in
theorem passes_gen (a b c x y z u1 u2 u3 n : Int)
    (hst : ∀ W, Calls Tryz.prog 126 #[.agg (wyc x y z).toArray] W fun e w' => e = .returned (.int .i64 n) ∧ Below W.heap.size W w')
    (hfi : ∀ W, Calls Tryz.prog 125 #[.agg (wyc a b c).toArray, .int .i64 n] W fun e w' => e = .returned (.agg (wyc u1 u2 u3).toArray) ∧ Below W.heap.size W w') (w : World) :
    Calls Tryz.prog 105 #[.agg (wyc a b c).toArray, .agg (wyc x y z).toArray] w fun e w' => e = .returned (.bool (eqW u1 u2 u3 x y z)) ∧ Below w.heap.size w w' := by
  obtain ⟨d, hu, hd⟩ := Tryz.descWy
  have HU := Lib.hid hu
  have HD := Lib.hid hd
  have HST := Lib.hid hst
  have HFI := Lib.hid hfi
  have HEQ := Lib.hid (fun W => eqWy u1 u2 u3 x y z W)
  obtain ⟨eb, heb⟩ : ∃ e, eqW u1 u2 u3 x y z = e := ⟨_, rfl⟩
  rw [heb] at HEQ ⊢
  clear hu hd hst hfi heb
  go_enter Tryz.func105, Tryz.ntmps105
  go_upto_region 1 with (first | (refine wpList_box_list (w := w) rfl 209 _ rfl (wyc a b c) rfl ?_; intro w1 F1 hb1 hz1; have HB1 := Lib.hid hb1; have hq1 : w.heap.size < w1.heap.size := (by omega); clear hb1 hz1) | (refine wpList_box_list (w := w1) rfl 209 _ rfl (wyc x y z) rfl ?_; intro w2 F2 hb2 hz2; have HB2 := Lib.hid hb2; have hq2 : w1.heap.size < w2.heap.size := (by omega); clear hb2 hz2))
  obtain ⟨b1, hb1⟩ : ∃ b, w.heap.size = b := ⟨_, rfl⟩
  obtain ⟨b2, hb2⟩ : ∃ b, w1.heap.size = b := ⟨_, rfl⟩
  have G1 := Lib.hid (F1.out.keep HB2.out)
  have HB := Lib.hid (HB1.out.trans (HB2.out.mono HB1.out.size))
  rw [hb1, hb2] at hq1
  rw [hb2] at hq2
  rw [hb1] at G1 HB
  rw [hb2] at F2
  have HW := Lib.hid hb1
  try rw [hb1]
  try rw [hb2]
  clear hb1 hb2 HB1 HB2 F1
  refine wp_region_held (S := fun W => Vl W b1 (wyc a b c) ∧ Vl W b2 (wyc x y z) ∧ Below b1 w W) (by kernel_rfl) ?_
  change wpAnyH _ _ _ _ _ _ _ _ (World.drew _)
  have hS0 : (fun W => Vl W b1 (wyc a b c) ∧ Vl W b2 (wyc x y z) ∧ Below b1 w W) w2.drew := ⟨G1.out.keep (Below.refl _ _).drew, F2.out.keep (Below.refl _ _).drew, HB.out.drew⟩
  obtain ⟨w3, hw3⟩ : ∃ x, World.drew w2 = x := ⟨_, rfl⟩
  rw [hw3] at hS0 ⊢
  clear hw3
  refine wpAnyH_take (i := 0) (v := .agg (wyc a b c).toArray) rfl (by kernel_rfl) (by kernel_rfl) (by kernel_rfl) (fun _ _ _ h => h) ?_ hS0 ?_
  · exact yieldsIf_load_mid (by rfl) 209 (.tmp 2) rfl b1 0 rfl (wyc a b c) d (fun W hW => hW.1.range0) HU.out HD.out (sizeWy _ _ _)
  simp only [Act.put, List.getElem_toArray, List.getElem_cons_zero, List.getElem_cons_succ, List.setIfInBounds_toArray, List.set_cons_zero, List.set_cons_succ]
  refine wpAnyH_take (i := 1) (v := .agg (wyc x y z).toArray) rfl (by kernel_rfl) (by kernel_rfl) (by kernel_rfl) (fun _ _ _ h => h) ?_ hS0 ?_
  · exact yieldsIf_load_mid (by rfl) 209 (.tmp 3) rfl b2 0 rfl (wyc x y z) d (fun W hW => hW.2.1.range0) HU.out HD.out (sizeWy _ _ _)
  simp only [Act.put, List.getElem_toArray, List.getElem_cons_zero, List.getElem_cons_succ, List.setIfInBounds_toArray, List.set_cons_zero, List.set_cons_succ]
  refine wpAnyH_take (i := 4) (v := .agg (wyc x y z).toArray) rfl (by kernel_rfl) (by kernel_rfl) (by kernel_rfl) (fun _ _ _ h => h) ?_ hS0 ?_
  · exact yieldsIf_load_mid (by rfl) 209 (.tmp 3) rfl b2 0 rfl (wyc x y z) d (fun W hW => hW.2.1.range0) HU.out HD.out (sizeWy _ _ _)
  simp only [Act.put, List.getElem_toArray, List.getElem_cons_zero, List.getElem_cons_succ, List.setIfInBounds_toArray, List.set_cons_zero, List.set_cons_succ]
  refine wpAnyH_ready (rs := [2]) (by kernel_rfl) (by simp) (AllReadyH.cons rfl (fun KK hKK => ?_) AllReadyH.nil)
  go_simp
  refine (HST.out w3).mono ?_
  rintro e w4 ⟨rfl, hb⟩
  replace hS0 : (fun W => Vl W b1 (wyc a b c) ∧ Vl W b2 (wyc x y z) ∧ Below b1 w W) w4 := ⟨hS0.1.keep hb, hS0.2.1.keep hb, hS0.2.2.trans (hb.mono (Nat.le_of_lt hS0.1.lt))⟩
  clear hb
  refine hKK _ _ hS0 ?_
  intro _
  clear hKK KK
  try simp only [Act.put, List.getElem_toArray, List.getElem_cons_zero, List.getElem_cons_succ, List.setIfInBounds_toArray, List.set_cons_zero, List.set_cons_succ]
  refine wpAnyH_ready (rs := [3]) (by kernel_rfl) (by simp) (AllReadyH.cons rfl (fun KK hKK => ?_) AllReadyH.nil)
  go_simp
  refine (HFI.out w4).mono ?_
  rintro e w5 ⟨rfl, hb⟩
  replace hS0 : (fun W => Vl W b1 (wyc a b c) ∧ Vl W b2 (wyc x y z) ∧ Below b1 w W) w5 := ⟨hS0.1.keep hb, hS0.2.1.keep hb, hS0.2.2.trans (hb.mono (Nat.le_of_lt hS0.1.lt))⟩
  clear hb
  refine hKK _ _ hS0 ?_
  intro _
  clear hKK KK
  try simp only [Act.put, List.getElem_toArray, List.getElem_cons_zero, List.getElem_cons_succ, List.setIfInBounds_toArray, List.set_cons_zero, List.set_cons_succ]
  refine wpAnyH_take (i := 5) (v := .bool eb) rfl (by kernel_rfl) (by kernel_rfl) (by kernel_rfl) (fun _ _ _ h => h) ?_ hS0 ?_
  · exact yields_eql (by rfl) 209 209 (.tmp 8) (.tmp 9) rfl (wyc u1 u2 u3).toArray (wyc x y z).toArray rfl rfl eb Tryz.guardWy (fun W _ => HEQ.out W)
  simp only [Act.put, List.getElem_toArray, List.getElem_cons_zero, List.getElem_cons_succ, List.setIfInBounds_toArray, List.set_cons_zero, List.set_cons_succ]
  refine wpAnyH_take (i := 6) (v := ?_) rfl (by kernel_rfl) (by kernel_rfl) (by kernel_rfl) (fun _ _ _ h => h) (Or.inl ⟨by rfl, ?_⟩) hS0 ?_
  rotate_left 1
  · intro W hW
    go_simp
    try with_reducible rfl
  simp only [Act.put, List.getElem_toArray, List.getElem_cons_zero, List.getElem_cons_succ, List.setIfInBounds_toArray, List.set_cons_zero, List.set_cons_succ]
  refine wpAnyH_done (by kernel_rfl) ?_ _
  have HBz := Lib.hid hS0.2.2
  clear hS0
  go_wp2_with fail
  go_ret
  exact ⟨rfl, by rw [HW.out]; exact HBz.out⟩
theorem passes0 (a b c : Int) (w : World) : Calls Tryz.prog 105 #[.agg (wyc a b c).toArray, .agg (wyc 0 0 0).toArray] w fun e w' => e = .returned (.bool true) ∧ Below w.heap.size w w' :=
  passes_gen a b c 0 0 0 0 0 0 0 (fun W => steps0 W) (fun W => first0 a b c W) w
theorem passes1 (a b c x : Int) (hx : 0 < x) (w : World) : Calls Tryz.prog 105 #[.agg (wyc a b c).toArray, .agg (wyc x 0 0).toArray] w fun e w' => e = .returned (.bool (decide (a = x))) ∧ Below w.heap.size w w' := by
  have := passes_gen a b c x 0 0 a 0 0 1 (fun W => steps1 x hx W) (fun W => first1 a b c W) w
  rwa [show eqW a 0 0 x 0 0 = decide (a = x) from by unfold eqW; simp; rfl] at this
theorem passes2 (a b c x y : Int) (hx : 0 < x) (hy : 0 < y) (w : World) : Calls Tryz.prog 105 #[.agg (wyc a b c).toArray, .agg (wyc x y 0).toArray] w fun e w' => e = .returned (.bool (decide (a = x ∧ b = y))) ∧ Below w.heap.size w w' := by
  have := passes_gen a b c x y 0 a b 0 2 (fun W => steps2 x y hx hy W) (fun W => first2 a b c W) w
  rwa [show eqW a b 0 x y 0 = decide (a = x ∧ b = y) from by unfold eqW; rw [Bool.eq_iff_iff]; simp] at this
theorem passes3 (a b c x y z : Int) (hx : 0 < x) (hy : 0 < y) (hz : 0 < z) (w : World) : Calls Tryz.prog 105 #[.agg (wyc a b c).toArray, .agg (wyc x y z).toArray] w fun e w' => e = .returned (.bool (decide (a = x ∧ b = y ∧ c = z))) ∧ Below w.heap.size w w' := by
  have := passes_gen a b c x y z a b c 3 (fun W => steps3 x y z hx hy hz W) (fun W => first3 a b c W) w
  rwa [show eqW a b c x y z = decide (a = x ∧ b = y ∧ c = z) from by unfold eqW; rw [Bool.eq_iff_iff]; simp] at this
end Go.Proofs.YtgfgdfcedmcjeaaGreatDoor

namespace Go.Proofs.YtgfgdfcedmcjeaaGreatDoor
set_option linter.unusedSimpArgs false
set_option linter.unusedVariables false
open Go.RowKit Go.Maps

/-- a slot that is come to through another one, or is it -/
def dsc (c c' : Nat) : Bool := decide (c' = c) || (!isR c' && (decide (parS c' = c) || (!isR (parS c') && decide (parS (parS c') = c))))
def delN (S : Nat → Bool) (c : Nat) : Nat → Bool := fun c' => S c' && !dsc c c'
theorem dsc_iff (c c' : Nat) : dsc c c' = true ↔ c' = c ∨ (isR c' = false ∧ (parS c' = c ∨ (isR (parS c') = false ∧ parS (parS c') = c))) := by
  unfold dsc
  simp
theorem delN_iff (S : Nat → Bool) (c c' : Nat) : delN S c c' = true ↔ S c' = true ∧ ¬ (c' = c ∨ (isR c' = false ∧ (parS c' = c ∨ (isR (parS c') = false ∧ parS (parS c') = c)))) := by
  unfold delN
  rw [Bool.and_eq_true, Bool.not_eq_true', ← Bool.not_eq_true, dsc_iff]
theorem par_top (c : Nat) (h : okS c = true) (hr : isR c = false) (hr2 : isR (parS c) = false) : isR (parS (parS c)) = true := by
  rw [okS_iff] at h
  rw [isR_no] at hr
  by_cases h1 : c < 38
  · have e : parS c = 2000 := if_pos h1
    rw [e] at hr2
    cases hr2
  · by_cases h2 : c < 1062
    · have e : parS c = 2002 + (c - 38) / 32 := by unfold parS; rw [if_neg h1, if_pos h2]
      rw [e]
      have e2 : parS (2002 + (c - 38) / 32) = 2001 := by unfold parS; rw [if_neg (by omega), if_neg (by omega)]
      rw [e2]
      rfl
    · have e : parS c = 2001 := by unfold parS; rw [if_neg h1, if_neg h2]
      rw [e] at hr2
      cases hr2
theorem Fi.del {DA NB : Nat} {Y : Nat → Nat → Int} {f : Nat → Int} {S : Nat → Bool} {b : Nat → Nat} (h : Fi DA NB Y f S b) (c : Nat) (hS : S c = true) (hNB : NB ≤ 512) :
    Fi DA NB (addY DA Y b c 0) (addF f c 0) (delN S c) b := by
  have hok := h.ok c hS
  refine ⟨fun c' hc => h.ok c' ((delN_iff S c c').1 hc).1, fun c' hc => ?_, fun c' ho hr hq => ?_, fun c' hr hc => ?_, fun c' hc => h.rng c' ((delN_iff S c c').1 hc).1, fun c1 c2 k1 k2 he => h.inj c1 c2 ((delN_iff S c c1).1 k1).1 ((delN_iff S c c2).1 k2).1 he⟩
  · unfold addF
    by_cases hcr : isR c = true
    · rw [if_pos hcr]
      by_cases e : c' = c
      · subst e
        rw [if_pos rfl, if_neg (fun hh => ((delN_iff S c' c').1 hh).2 (.inl rfl))]
        rfl
      · rw [if_neg (fun he => e (rtI_inj c' c hc hcr he)), h.root c' hc]
        have : delN S c c' = S c' := by
          rw [Bool.eq_iff_iff, delN_iff]
          constructor
          · exact fun hh => hh.1
          · refine fun hh => ⟨hh, fun hx => ?_⟩
            rcases hx with hx | ⟨hx, -⟩
            · exact e hx
            · rw [hc] at hx
              cases hx
        rw [this]
    · rw [if_neg hcr]
      have e : c' ≠ c := fun e => hcr (e ▸ hc)
      rw [h.root c' hc]
      have : delN S c c' = S c' := by
        rw [Bool.eq_iff_iff, delN_iff]
        constructor
        · exact fun hh => hh.1
        · refine fun hh => ⟨hh, fun hx => ?_⟩
          rcases hx with hx | ⟨hx, -⟩
          · exact e hx
          · rw [hc] at hx
            cases hx
      rw [this]
  · obtain ⟨hp, hn⟩ := (delN_iff S c (parS c')).1 hq
    have hpc : parS c' ≠ c := fun e => hn (.inl e)
    have hw := h.wrd c' ho hr hp
    have hdl : c' ≠ c → delN S c c' = S c' := fun e => by
      rw [Bool.eq_iff_iff, delN_iff]
      constructor
      · exact fun hh => hh.1
      · refine fun hh => ⟨hh, fun hx => ?_⟩
        rcases hx with hx | ⟨-, hx | ⟨hx1, hx2⟩⟩
        · exact e hx
        · exact hpc hx
        · exact hn (.inr ⟨hx1, .inl hx2⟩)
    unfold addY
    by_cases hcr : isR c = true
    · rw [if_pos hcr, hdl (fun e => by rw [e, hcr] at hr; cases hr)]
      exact hw
    · have hcr' : isR c = false := by simpa using hcr
      have hpS := h.cl c hcr' hS
      rw [if_neg hcr]
      by_cases ep : parS c' = parS c
      · rw [ep, vput_at, putN_wd _ _ _ (by omega)]
        by_cases ei : idxS c' = idxS c
        · obtain rfl := slot_inj c' c ho hr hok hcr' ep ei
          rw [if_pos rfl, if_neg (fun hh => ((delN_iff S c' c').1 hh).2 (.inl rfl))]
          rfl
        · rw [if_neg ei, hdl (fun e' => ei (by rw [e'])), ← ep]
          exact hw
      · have hbb : DA + (b (parS c) - 1) ≠ DA + (b (parS c') - 1) := fun he => by
          have r1 := h.rng _ hpS
          have r2 := h.rng _ hp
          exact ep (h.inj _ _ hp hpS (by omega))
        rw [vput_ne _ _ hbb, hdl (fun e' => ep (by rw [e']))]
        exact hw
  · obtain ⟨h1, h2⟩ := (delN_iff S c c').1 hc
    refine (delN_iff S c (parS c')).2 ⟨h.cl c' hr h1, fun hx => ?_⟩
    rcases hx with hx | ⟨hx1, hx | ⟨hx2, -⟩⟩
    · exact h2 (.inr ⟨hr, .inl hx⟩)
    · exact h2 (.inr ⟨hr, .inr ⟨hx1, hx⟩⟩)
    · have := par_top c' (h.ok c' h1) hr hx1
      rw [this] at hx2
      cases hx2
/-- while blocks are given: R is left, S is what is still told of -/
structure Gv (B0 DA NB : Nat) (Kp : Nat → Bool) (Y0 : Nat → Nat → Int) (f0 : Nat → Int) (S0 : Nat → Bool) (b : Nat → Nat) (Y : Nat → Nat → Int) (f : Nat → Int) (S R : Nat → Bool) : Prop where
  fi : Fi DA NB Y f S b
  rs : ∀ c, R c = true → S c = true
  ss : ∀ c, S c = true → S0 c = true
  st : ∀ c, S c = true → R c = false → isR c = false ∧ Kp (parS c) = false
  kr : ∀ c, Kp c = true → R c = true
  u : ∀ j, j < NB → (bt Y B0 j = true ↔ bt Y0 B0 j = true ∧ ¬ ∃ c, S0 c = true ∧ R c = false ∧ b c = j + 1)
  y : ∀ z, z ≠ B0 → (∀ c, Kp c = true → 2000 ≤ c → z ≠ DA + (b c - 1)) → Y z = Y0 z
  f4 : ∀ i, i < 4 → f i = f0 i
theorem Gv.start {B0 DA NB : Nat} {Kp : Nat → Bool} {Y0 : Nat → Nat → Int} {f0 : Nat → Int} {S0 : Nat → Bool} {b : Nat → Nat} (h : Fi DA NB Y0 f0 S0 b) (hk : ∀ c, Kp c = true → S0 c = true) : Gv B0 DA NB Kp Y0 f0 S0 b Y0 f0 S0 S0 :=
  ⟨h, fun _ h => h, fun _ h => h, fun c h1 h2 => by (rw [h1] at h2; cases h2), hk, fun j _ => ⟨fun h => ⟨h, fun ⟨c, h1, h2, _⟩ => by (rw [h1] at h2; cases h2)⟩, fun h => h.1⟩, fun _ _ _ => rfl, fun _ _ => rfl⟩
theorem Gv.told {B0 DA NB : Nat} {Kp : Nat → Bool} {Y0 : Nat → Nat → Int} {f0 : Nat → Int} {S0 : Nat → Bool} {b : Nat → Nat} {Y : Nat → Nat → Int} {f : Nat → Int} {S R : Nat → Bool} (h : Gv B0 DA NB Kp Y0 f0 S0 b Y f S R) (hus : ∀ c, S0 c = true → bt Y0 B0 (b c - 1) = true) (hinj : ∀ c c', S0 c = true → S0 c' = true → b c = b c' → c = c') (c : Nat) (hc : R c = true) : bt Y B0 (b c - 1) = true := by
  have r := h.fi.rng c (h.rs c hc)
  refine (h.u (b c - 1) (by omega)).2 ⟨hus c (h.ss c (h.rs c hc)), fun ⟨c', h1, h2, h3⟩ => ?_⟩
  obtain rfl := hinj c' c h1 (h.ss c (h.rs c hc)) (by omega)
  rw [hc] at h2
  cases h2
def remN (R : Nat → Bool) (c : Nat) : Nat → Bool := fun c' => R c' && !decide (c' = c)
theorem remN_iff (R : Nat → Bool) (c c' : Nat) : remN R c c' = true ↔ R c' = true ∧ c' ≠ c := by
  unfold remN
  simp
theorem remN_no (R : Nat → Bool) (c c' : Nat) : remN R c c' = false ↔ R c' = false ∨ c' = c := by
  unfold remN
  simp
  cases R c' <;> simp
/-- one block is given; it is told of no more, if what tells of it stays -/
theorem Gv.give {B0 DA NB : Nat} {Kp : Nat → Bool} {Y0 : Nat → Nat → Int} {f0 : Nat → Int} {S0 : Nat → Bool} {b : Nat → Nat} {Y : Nat → Nat → Int} {f : Nat → Int} {S R : Nat → Bool} (h : Gv B0 DA NB Kp Y0 f0 S0 b Y f S R) (hv : ∀ x, Byt (Y x)) (hB : B0 < DA) (hNB : NB ≤ 512) (c : Nat) (hc : R c = true) (hk : Kp c = false) (hch : ∀ c', R c' = true → isR c' = false → parS c' ≠ c) (hcl : ∀ c', R c' = true → isR c' = false → R (parS c') = true)
    (hinj : ∀ c c', S0 c = true → S0 c' = true → b c = b c' → c = c') (hrng : ∀ c, S0 c = true → 1 ≤ b c ∧ b c ≤ NB) (p : Bool) (hp : p = (isR c || Kp (parS c))) :
    Gv B0 DA NB Kp Y0 f0 S0 b (if p = true then addY DA (setV Y B0 (b c - 1) false) b c 0 else setV Y B0 (b c - 1) false) (if p = true then addF f c 0 else f) (if p = true then delN S c else S) (remN R c) := by
  have hS := h.rs c hc
  have r := h.fi.rng c hS
  have hrow : ∀ c', S c' = true → 2000 ≤ c' → setV Y B0 (b c - 1) false (DA + (b c' - 1)) = Y (DA + (b c' - 1)) := fun c' _ _ => setV_ne _ _ _ _ (by omega)
  have hF := h.fi.congr hrow
  have hbit : ∀ j, j < NB → bt (setV Y B0 (b c - 1) false) B0 j = if b c - 1 = j then false else bt Y B0 j := fun j hj => bt_on hv B0 (b c - 1) j false (by omega)
  have hU : ∀ Y', (∀ j, j < NB → bt Y' B0 j = bt (setV Y B0 (b c - 1) false) B0 j) → ∀ j, j < NB → (bt Y' B0 j = true ↔ bt Y0 B0 j = true ∧ ¬ ∃ c', S0 c' = true ∧ remN R c c' = false ∧ b c' = j + 1) := fun Y' hY j hj => by
    rw [hY j hj, hbit j hj]
    by_cases e : b c - 1 = j
    · rw [if_pos e]
      constructor
      · intro hh
        cases hh
      · rintro ⟨-, hh⟩
        exact absurd ⟨c, h.ss c hS, (remN_no R c c).2 (.inr rfl), by omega⟩ hh
    · rw [if_neg e, h.u j hj]
      constructor
      · rintro ⟨h1, h2⟩
        refine ⟨h1, fun ⟨c', k1, k2, k3⟩ => ?_⟩
        rcases (remN_no R c c').1 k2 with k2 | rfl
        · exact h2 ⟨c', k1, k2, k3⟩
        · omega
      · rintro ⟨h1, h2⟩
        exact ⟨h1, fun ⟨c', k1, k2, k3⟩ => h2 ⟨c', k1, (remN_no R c c').2 (.inl k2), k3⟩⟩
  have hkr : ∀ c', Kp c' = true → remN R c c' = true := fun c' hh => (remN_iff R c c').2 ⟨h.kr c' hh, fun e => by rw [e, hk] at hh; cases hh⟩
  have hy1 : ∀ z, z ≠ B0 → (∀ c, Kp c = true → 2000 ≤ c → z ≠ DA + (b c - 1)) → setV Y B0 (b c - 1) false z = Y0 z := fun z h1 h2 => by
    rw [setV_ne _ _ _ _ h1]
    exact h.y z h1 h2
  cases p
  · have hn : isR c = false ∧ Kp (parS c) = false := by simpa using hp.symm
    simp only [Bool.false_eq_true, if_false]
    refine ⟨hF, fun c' hh => h.rs c' ((remN_iff R c c').1 hh).1, h.ss, fun c' h1 h2 => ?_, hkr, hU _ fun _ _ => rfl, hy1, h.f4⟩
    rcases (remN_no R c c').1 h2 with h2 | rfl
    · exact h.st c' h1 h2
    · exact hn
  · simp only [if_true]
    have hbt : ∀ j, j < NB → bt (addY DA (setV Y B0 (b c - 1) false) b c 0) B0 j = bt (setV Y B0 (b c - 1) false) B0 j := fun j hj => by
      unfold addY
      split
      · rfl
      · exact bt_put _ _ _ _ _ (by omega)
    refine ⟨hF.del c hS hNB, fun c' hh => ?_, fun c' hh => h.ss c' ((delN_iff S c c').1 hh).1, fun c' h1 h2 => ?_, hkr, hU _ hbt, fun z h1 h2 => ?_, fun i hi => ?_⟩
    · obtain ⟨h1, h2⟩ := (remN_iff R c c').1 hh
      refine (delN_iff S c c').2 ⟨h.rs c' h1, fun hx => ?_⟩
      rcases hx with hx | ⟨hx1, hx | ⟨hx2, hx3⟩⟩
      · exact h2 hx
      · exact hch c' h1 hx1 hx
      · exact hch _ (hcl c' h1 hx1) hx2 hx3
    · obtain ⟨k1, k2⟩ := (delN_iff S c c').1 h1
      rcases (remN_no R c c').1 h2 with h2 | rfl
      · exact h.st c' k1 h2
      · exact absurd (.inl rfl) k2
    · unfold addY
      split
      · exact hy1 z h1 h2
      · rename_i hcr
        have hcr' : isR c = false := by simpa using hcr
        have hkp : Kp (parS c) = true := by
          rw [hcr'] at hp
          simpa using hp.symm
        have := parS_ok c (h.fi.ok c hS) hcr'
        rw [vput_ne _ _ (fun e => h2 (parS c) hkp this.2.1 e.symm)]
        exact hy1 z h1 h2
    · unfold addF
      split
      · rename_i hcr
        show (if i = rtI c then ((0 : Nat) : Int) else f i) = f0 i
        rw [if_neg (by have := (rtI_lt c hcr).1; omega)]
        exact h.f4 i hi
      · exact h.f4 i hi
end Go.Proofs.YtgfgdfcedmcjeaaGreatDoor

namespace Go.Proofs.YtgfgdfcedmcjeaaGreatDoor
set_option linter.unusedSimpArgs false
set_option linter.unusedVariables false
open Go.RowKit Go.Maps

variable {ln : Lm}
set_option maxHeartbeats 20000000 in
set_option maxRecDepth 100000 in
theorem giveat_any (b q p t m d gg lab B0 P0 M DA NB N K : Nat) (g : Cf.Ge) (Kp0 : Nat → Bool) (Y0 : Nat → Nat → Int) (f0 : Nat → Int) (S0 : Nat → Bool) (b0 : Nat → Nat) (Y : Nat → Nat → Int) (f : Nat → Int) (S R : Nat → Bool) (hG : Gv B0 DA NB Kp0 Y0 f0 S0 b0 Y f S R) (hus : ∀ c, S0 c = true → bt Y0 B0 (b0 c - 1) = true) (hinj : ∀ c c', S0 c = true → S0 c' = true → b0 c = b0 c' → c = c') (hrng : ∀ c, S0 c = true → 1 ≤ b0 c ∧ b0 c ≤ NB)
    (c : Nat) (hc : R c = true) (hk : Kp0 c = false) (hch : ∀ c', R c' = true → isR c' = false → parS c' ≠ c) (hcl : ∀ c', R c' = true → isR c' = false → R (parS c') = true) (hT0 : Has ln B0) (hT : isR c = false → Kp0 (parS c) = true → Has ln (DA + (b0 (parS c) - 1)))
    (s0 s1 s2 : Int) (up : Array Value) (hup : ∀ W, Calls Tryz.prog 106 #[wyS c] W fun e w' => e = .returned (.agg up) ∧ Below W.heap.size W w') (hps : ∀ W, Calls Tryz.prog 105 #[.agg (wyc s0 s1 s2).toArray, .agg up] W fun e w' => e = .returned (.bool (isR c || Kp0 (parS c))) ∧ Below W.heap.size W w')
    (hK : K < 500000000) (hg : GG g B0 P0 M DA NB N) (w : World) (h : Bo w w b q p t m d gg lab g B0 NB N ln Y K f) :
    Calls Tryz.prog 107 #[.pointer (some ⟨b, 0, none⟩), wyS c, .agg (wyc s0 s1 s2).toArray] w fun e w' => ∃ Y' f' S', e = .returned (.int .i64 0) ∧ Bo w w' b q p t m d gg lab g B0 NB N ln Y' (K + 10) f' ∧ Gv B0 DA NB Kp0 Y0 f0 S0 b0 Y' f' S' (remN R c) := by
  obtain ⟨dW, hu, hd⟩ := Tryz.descWy
  have HU := Lib.hid hu
  have HD := Lib.hid hd
  have hS := hG.rs c hc
  have hok := hG.fi.ok c hS
  have hr := hG.fi.rng c hS
  have hN5 := hg.n512
  have hBD : B0 < DA := by have := hg.bp; have := hg.pd; have := hg.m4; omega
  have HAt := Lib.hid (fun W hW => at_slot (ln := ln) b q p t m d gg lab B0 P0 M DA NB N K g Y f S b0 hG.fi c hok (by omega) hg W hW)
  have hv : vS S b0 c = b0 c := if_pos hS
  rw [hv] at HAt
  have HGi := Lib.hid (fun W hW => ggive_ok (ln := ln) q p t m d gg lab B0 P0 M DA NB N (K + 2) g Y (b0 c) hr.1 hr.2 (hG.told hus hinj c hc) hT0 (by omega) hg W hW)
  have hF1 : Fi DA NB (setV Y B0 (b0 c - 1) false) f S b0 := hG.fi.congr (fun c' h1 _ => setV_ne _ _ _ _ (by omega))
  have HPt := Lib.hid (fun (hp : isR c = true ∨ Kp0 (parS c) = true) W hW => fpoint_any b q p t m d gg lab B0 P0 M DA NB N (K + 4) ln g _ f S b0 hF1 c 0 hok (by omega) (hp.imp id fun h1 => hG.rs _ (hG.kr _ h1)) (fun h1 => hT h1 (hp.resolve_left (by rw [h1]; decide))) (by omega) hg W hW)
  have HGv := Lib.hid (hG.give h.gr.rd.vb hBD hN5 c hc hk hch hcl hinj hrng)
  have HUP := Lib.hid hup
  obtain ⟨pb, hpb⟩ : ∃ x, (isR c || Kp0 (parS c)) = x := ⟨_, rfl⟩
  rw [hpb] at hps
  have HPS := Lib.hid hps
  have HPb := Lib.hid hpb
  have HB := Lib.hid h
  obtain ⟨va, vb, vc, hwv⟩ : ∃ x y z : Int, wyS c = .agg (wyc x y z).toArray := ⟨_, _, _, rfl⟩
  rw [hwv] at HAt HPt HUP ⊢
  obtain ⟨yi, hyi⟩ : ∃ z : Int, (b0 c : Int) = z := ⟨_, rfl⟩
  have hy0 : ¬ (yi = 0) := by omega
  have hy1 : 0 ≤ yi := by omega
  rw [hyi] at HAt HGi
  clear hu hd hG hus hinj hrng hc hk hch hcl hT0 hT hup hps hg h hS hok hr hv hF1 hpb hwv hyi
  go_enter Tryz.func107, Tryz.ntmps107
  go_upto_region 1 with (first | (refine wpList_box_list (w := w) rfl 209 _ rfl (wyc va vb vc) rfl ?_; intro w1 F1 hb1 hz1; have HQ1 := Lib.hid hb1; have hq1 : w.heap.size < w1.heap.size := (by omega); clear hb1 hz1) | (refine wpList_box_list (w := w1) rfl 209 _ rfl (wyc s0 s1 s2) rfl ?_; intro w2 F2 hb2 hz2; have HQ2 := Lib.hid hb2; have hq2 : w1.heap.size < w2.heap.size := (by omega); clear hb2 hz2))
  obtain ⟨b1, hb1⟩ : ∃ b, w.heap.size = b := ⟨_, rfl⟩
  obtain ⟨b2, hb2⟩ : ∃ b, w1.heap.size = b := ⟨_, rfl⟩
  have h1w : w.heap.size ≤ b1 := by omega
  have h2w : w.heap.size ≤ b2 := by omega
  have G1 := Lib.hid (F1.out.keep HQ2.out)
  have HB2 := Lib.hid ((HB.out.keep HQ1.out).keep HQ2.out)
  rw [hb1] at G1
  rw [hb2] at F2
  try rw [hb1]
  try rw [hb2]
  clear hb1 hb2 HQ1 HQ2 F1 HB hq1 hq2
  have HR1 := Lib.hid G1.out.range0
  go_wp2_with (refine wpList_load_mid rfl 209 _ rfl b1 0 rfl (wyc va vb vc) dW HR1.out HU.out HD.out (sizeWy _ _ _) ?_)
  refine (HAt.out w2 HB2.out.self).mono ?_
  rintro e w3 ⟨rfl, hB3⟩
  have G3 := Lib.hid (G1.out.kf hB3.kf (fun ha => by have := HB2.out.nin h1w; simp only [List.mem_cons, List.not_mem_nil, or_false, not_or] at this ha; omega))
  have F3 := Lib.hid (F2.out.kf hB3.kf (fun ha => by have := HB2.out.nin h2w; simp only [List.mem_cons, List.not_mem_nil, or_false, not_or] at this ha; omega))
  have HB3 := Lib.hid (HB2.out.trans hB3)
  clear hB3 HAt HB2 G1 F2 HR1
  have hqe := HB3.out.bd.c 0 _ rfl
  go_wp2_with fail
  refine (HGi.out w3 HB3.out.gr).mono ?_
  rintro e w4 ⟨rfl, hG, hkk⟩
  have G4 := Lib.hid (G3.out.kf hkk (fun ha => by have := HB3.out.nin h1w; simp only [List.mem_cons, List.not_mem_nil, or_false, not_or] at this ha; omega))
  have F4 := Lib.hid (F3.out.kf hkk (fun ha => by have := HB3.out.nin h2w; simp only [List.mem_cons, List.not_mem_nil, or_false, not_or] at this ha; omega))
  have HB4 := Lib.hid (HB3.out.call hG hkk)
  clear hG hkk HGi HB3 hqe G3 F3
  go_upto_region 7 with fail
  refine wp_region_held (S := fun W => Vl W b1 (wyc va vb vc) ∧ Vl W b2 (wyc s0 s1 s2)) (by kernel_rfl) ?_
  change wpAnyH _ _ _ _ _ _ _ _ (World.drew _)
  have hS0 : (fun W => Vl W b1 (wyc va vb vc) ∧ Vl W b2 (wyc s0 s1 s2)) w4.drew := ⟨G4.out.keep (Below.refl _ _).drew, F4.out.keep (Below.refl _ _).drew⟩
  have HB5 := Lib.hid (HB4.out.keep (Below.refl _ _).drew)
  obtain ⟨w5, hw5⟩ : ∃ x, World.drew w4 = x := ⟨_, rfl⟩
  rw [hw5] at hS0 HB5 ⊢
  clear hw5 HB4 G4 F4
  refine wpAnyH_take (i := 0) (v := .agg (wyc s0 s1 s2).toArray) rfl (by kernel_rfl) (by kernel_rfl) (by kernel_rfl) (fun _ _ _ h => h) ?_ hS0 ?_
  · exact yieldsIf_load_mid (by rfl) 209 (.tmp 5) rfl b2 0 rfl (wyc s0 s1 s2) dW (fun W hW => hW.2.range0) HU.out HD.out (sizeWy _ _ _)
  simp only [Act.put, List.getElem_toArray, List.getElem_cons_zero, List.getElem_cons_succ, List.setIfInBounds_toArray, List.set_cons_zero, List.set_cons_succ]
  refine wpAnyH_take (i := 1) (v := .agg (wyc va vb vc).toArray) rfl (by kernel_rfl) (by kernel_rfl) (by kernel_rfl) (fun _ _ _ h => h) ?_ hS0 ?_
  · exact yieldsIf_load_mid (by rfl) 209 (.tmp 4) rfl b1 0 rfl (wyc va vb vc) dW (fun W hW => hW.1.range0) HU.out HD.out (sizeWy _ _ _)
  simp only [Act.put, List.getElem_toArray, List.getElem_cons_zero, List.getElem_cons_succ, List.setIfInBounds_toArray, List.set_cons_zero, List.set_cons_succ]
  refine wpAnyH_ready (rs := [2]) (by kernel_rfl) (by simp) (AllReadyH.cons rfl (fun KK hKK => ?_) AllReadyH.nil)
  go_simp
  refine (HUP.out w5).mono ?_
  rintro e w6 ⟨rfl, hb⟩
  have HB6 := Lib.hid (HB5.out.keep hb)
  replace hS0 : (fun W => Vl W b1 (wyc va vb vc) ∧ Vl W b2 (wyc s0 s1 s2)) w6 := ⟨hS0.1.keep hb, hS0.2.keep hb⟩
  clear hb HB5
  refine hKK _ _ hS0 ?_
  intro _
  clear hKK KK
  try simp only [Act.put, List.getElem_toArray, List.getElem_cons_zero, List.getElem_cons_succ, List.setIfInBounds_toArray, List.set_cons_zero, List.set_cons_succ]
  refine wpAnyH_ready (rs := [3]) (by kernel_rfl) (by simp) (AllReadyH.cons rfl (fun KK hKK => ?_) AllReadyH.nil)
  go_simp
  refine (HPS.out w6).mono ?_
  rintro e w7 ⟨rfl, hb⟩
  have HB7 := Lib.hid (HB6.out.keep hb)
  replace hS0 : (fun W => Vl W b1 (wyc va vb vc) ∧ Vl W b2 (wyc s0 s1 s2)) w7 := ⟨hS0.1.keep hb, hS0.2.keep hb⟩
  clear hb HB6
  refine hKK _ _ hS0 ?_
  intro _
  clear hKK KK
  try simp only [Act.put, List.getElem_toArray, List.getElem_cons_zero, List.getElem_cons_succ, List.setIfInBounds_toArray, List.set_cons_zero, List.set_cons_succ]
  refine wpAnyH_take (i := 4) (v := ?_) rfl (by kernel_rfl) (by kernel_rfl) (by kernel_rfl) (fun _ _ _ h => h) (Or.inl ⟨by rfl, ?_⟩) hS0 ?_
  rotate_left 1
  · intro W hW
    go_simp
    try with_reducible rfl
  simp only [Act.put, List.getElem_toArray, List.getElem_cons_zero, List.getElem_cons_succ, List.setIfInBounds_toArray, List.set_cons_zero, List.set_cons_succ]
  refine wpAnyH_done (by kernel_rfl) ?_ _
  have G7 := Lib.hid hS0.1
  clear hS0
  cases pb
  · go_wp2_with fail
    go_ret
    have := HGv.out false HPb.out.symm
    exact ⟨_, _, _, rfl, HB7.out.mono (Lm.le_refl _) (by omega), this⟩
  · have HR7 := Lib.hid G7.out.range0
    have hor := HPb.out
    rw [Bool.or_eq_true] at hor
    have HPt2 := Lib.hid (HPt.out hor w7 HB7.out.self)
    clear hor
    go_wp2_with (refine wpList_load_mid rfl 209 _ rfl b1 0 rfl (wyc va vb vc) dW HR7.out HU.out HD.out (sizeWy _ _ _) ?_)
    refine HPt2.out.mono ?_
    rintro e w8 ⟨rfl, hB8⟩
    have HB8 := Lib.hid (HB7.out.trans hB8)
    clear hB8
    go_wp2_with fail
    go_ret
    have := HGv.out true HPb.out.symm
    exact ⟨_, _, _, rfl, HB8.out.mono (Lm.le_refl _) (by omega), this⟩
end Go.Proofs.YtgfgdfcedmcjeaaGreatDoor

namespace Go.Proofs.YtgfgdfcedmcjeaaGreatDoor
set_option linter.unusedSimpArgs false
set_option linter.unusedVariables false
open Go.RowKit Go.Maps

/-- so many of 64 are begun -/
def dataS (n : Int) : Int := if n ≤ 0 then 0 else (n - 1) / 64 + 1
def ptrS (d : Int) : Int := if d ≤ 6 then 0 else if d ≤ 38 then 1 else 2 + ((d - 38 - 1) / 32 + 1)
theorem parts_neg (n k : Int) (h : n ≤ 0) (w : World) : Calls Tryz.prog 103 #[.int .i64 n, .int .i64 k] w fun e w' => e = .returned (.int .i64 0) ∧ w' = w := by
  go_enter Tryz.func103, Tryz.ntmps103
  go_wp2
  go_ret
  exact ⟨rfl, rfl⟩
theorem parts_64 (n : Int) (h : 0 < n) (h1 : n < 9223372036854775808) (w : World) : Calls Tryz.prog 103 #[.int .i64 n, .int .i64 64] w fun e w' => e = .returned (.int .i64 ((n - 1) / 64 + 1)) ∧ w' = w := by
  have h2 : 0 ≤ n := by omega
  have h3 : 0 ≤ n - 1 := by omega
  have hq : IntKind.i64.wrap ((n - 1) / 64) = (n - 1) / 64 := IntWalk.i64_in _ ⟨by omega, by omega⟩
  have H := Lib.hid h
  clear h
  have hn : decide (n ≤ 0) = false := decide_eq_false (by have := H.out; omega)
  go_enter Tryz.func103, Tryz.ntmps103
  go_wp2
  go_ret
  exact ⟨ret_int (by omega), rfl⟩
theorem parts_32 (n : Int) (h : 0 < n) (h1 : n < 9223372036854775808) (w : World) : Calls Tryz.prog 103 #[.int .i64 n, .int .i64 32] w fun e w' => e = .returned (.int .i64 ((n - 1) / 32 + 1)) ∧ w' = w := by
  have h2 : 0 ≤ n := by omega
  have h3 : 0 ≤ n - 1 := by omega
  go_enter Tryz.func103, Tryz.ntmps103
  go_wp2
  go_ret
  exact ⟨ret_int (by omega), rfl⟩
set_option maxHeartbeats 1000000 in
theorem spread_any (n : Int) (h1 : n < 9223372036854775808) (w : World) : Calls Tryz.prog 77 #[.int .i64 n] w fun e w' => e = .returned (.tuple #[.int .i64 (dataS n), .int .i64 (ptrS (dataS n))]) ∧ w' = w := by
  have HD : Hid (∀ W, Calls Tryz.prog 103 #[.int .i64 n, .int .i64 64] W fun e w' => e = .returned (.int .i64 (dataS n)) ∧ w' = W) := fun W => by
    unfold dataS
    by_cases h : n ≤ 0
    · rw [if_pos h]; exact parts_neg n 64 h W
    · rw [if_neg h]; exact parts_64 n (by omega) h1 W
  have hb : 0 ≤ dataS n ∧ dataS n ≤ 144115188075855872 := by unfold dataS; split <;> omega
  obtain ⟨d, hd⟩ : ∃ d, dataS n = d := ⟨_, rfl⟩
  rw [hd] at HD hb ⊢
  clear hd
  obtain ⟨d0, d1⟩ := hb
  by_cases c1 : d ≤ 6
  · have hp : ptrS d = 0 := by unfold ptrS; rw [if_pos c1]
    rw [hp]
    clear hp
    go_enter Tryz.func77, Tryz.ntmps77
    go_wp2_with fail
    refine (HD.out w).mono ?_
    rintro e wz ⟨rfl, hwz⟩
    rw [hwz]
    clear hwz HD
    go_wp2_with fail
    refine bodyPost_ret (v := .tuple #[.int .i64 d, .int .i64 0]) (by simp [results, Tryz.results77, go_sem]) rfl ⟨rfl, rfl⟩
  · by_cases c2 : d ≤ 38
    · have hp : ptrS d = 1 := by unfold ptrS; rw [if_neg c1, if_pos c2]
      rw [hp]
      clear hp
      have c1' : 6 < d := by omega
      go_enter Tryz.func77, Tryz.ntmps77
      go_wp2_with fail
      refine (HD.out w).mono ?_
      rintro e wz ⟨rfl, hwz⟩
      rw [hwz]
      clear hwz HD
      go_wp2_with fail
      refine bodyPost_ret (v := .tuple #[.int .i64 d, .int .i64 1]) (by simp [results, Tryz.results77, go_sem]) rfl ⟨rfl, rfl⟩
    · have HP : Hid (∀ W, Calls Tryz.prog 103 #[.int .i64 (d - 38), .int .i64 32] W fun e w' => e = .returned (.int .i64 (ptrS d - 2)) ∧ w' = W) := fun W => by
        have hp : ptrS d - 2 = (d - 38 - 1) / 32 + 1 := by unfold ptrS; rw [if_neg c1, if_neg c2]; omega
        rw [hp]
        exact parts_32 (d - 38) (by omega) (by omega) W
      have hb : 2 ≤ ptrS d ∧ ptrS d ≤ 144115188075855872 := by unfold ptrS; rw [if_neg c1, if_neg c2]; omega
      obtain ⟨p, hp⟩ : ∃ p, ptrS d - 2 = p := ⟨_, rfl⟩
      have hp2 : ptrS d = 2 + p := by omega
      rw [hp] at HP
      rw [hp2] at hb ⊢
      clear hp hp2
      obtain ⟨p0, p1⟩ := hb
      have c1' : 6 < d := by omega
      have c2' : 38 < d := by omega
      have q0 : 0 ≤ p := by omega
      have q1 : p ≤ 144115188075855872 := by omega
      clear p0 p1 c1 c2
      go_enter Tryz.func77, Tryz.ntmps77
      go_wp2_with fail
      refine (HD.out w).mono ?_
      rintro e wz ⟨rfl, hwz⟩
      rw [hwz]
      clear hwz HD
      go_wp2_with fail
      refine (HP.out w).mono ?_
      rintro e wz ⟨rfl, hwz⟩
      rw [hwz]
      clear hwz HP
      go_wp2_with fail
      refine bodyPost_ret (v := .tuple #[.int .i64 d, .int .i64 (2 + p)]) (by simp [results, Tryz.results77, go_sem]) rfl ⟨rfl, rfl⟩
end Go.Proofs.YtgfgdfcedmcjeaaGreatDoor
