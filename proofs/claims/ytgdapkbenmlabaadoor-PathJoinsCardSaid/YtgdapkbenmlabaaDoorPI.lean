import Derived.Test.YtgdapkbenmlabaaDoorPH
/- slices.Concat. -/
namespace Go.Proofs.YtgdapkbenmlabaaDoor.Pt
set_option linter.unusedSimpArgs false
set_option linter.unusedVariables false
open Go.RowKit Go.Maps

/-- a slice of slices that can be read -/
def Ss (w : World) (v : Value) (V : List Value) : Prop := (v = .slice none 0 0 ∧ V = []) ∨ ∃ g o cap, v = .slice (some ⟨g, o, none⟩) V.length cap ∧ V.length ≤ cap ∧ ∀ j u, V[j]? = some u → w.cell? ⟨g, o + j, none⟩ = some u
theorem Ss.form {w : World} {v : Value} {V : List Value} (h : Ss w v V) : ∃ pa cap, v = .slice pa V.length cap ∧ ∀ (k : Nat) (e : Value), V[k]? = some e → ∃ g o, pa = some ⟨g, o, none⟩ ∧ w.cell? ⟨g, o + k, none⟩ = some e := by
  rcases h with ⟨h1, h2⟩ | ⟨g, o, cap, h1, h2, h3⟩
  · subst h2
    exact ⟨none, 0, h1, fun k e he => by simp at he⟩
  · exact ⟨_, _, h1, fun k e he => ⟨g, o, rfl, h3 k e he⟩⟩
/-- how many parts the first k lists have -/
def sumL (LL : List (List Pr)) (k : Nat) : Nat := (LL.take k).flatten.length
theorem sumL_succ (LL : List (List Pr)) (k : Nat) (L : List Pr) (h : LL[k]? = some L) : sumL LL (k + 1) = sumL LL k + L.length := by
  unfold sumL
  rw [List.take_add_one, h]
  simp
theorem flat_succ (LL : List (List Pr)) (k : Nat) (L : List Pr) (h : LL[k]? = some L) : (LL.take (k + 1)).flatten = (LL.take k).flatten ++ L := by
  rw [List.take_add_one, h]
  simp
theorem sumL_le (LL : List (List Pr)) (k : Nat) : sumL LL k ≤ LL.flatten.length := by
  unfold sumL
  conv => rhs; rw [← List.take_append_drop k LL]
  rw [List.flatten_append, List.length_append]
  omega
set_option maxHeartbeats 20000000 in
set_option maxRecDepth 100000 in
theorem concat_any (vs : Value) (V : List Value) (LL : List (List Pr)) (hl : V.length = LL.length) (h5 : LL.length ≤ 10) (ht : LL.flatten.length ≤ 1000) (w : World) (hS : Ss w vs V) (hP : ∀ (i : Nat) (v : Value) (L : List Pr), V[i]? = some v → LL[i]? = some L → Ps w v L) :
    Calls Tryd.prog 13 #[vs] w fun e w' => ∃ v, e = .returned v ∧ w'.ownsRow w.heap.size 28 2 v LL.flatten.length (flP LL.flatten) ∧ Below w.heap.size w w' := by
  obtain ⟨iP, hi, hz, hsz, hby⟩ := Tryd.infoPr
  have HI := Lib.hid hi
  have HZ := Lib.hid hz
  have HSZ := Lib.hid hsz
  have HBY := Lib.hid hby
  obtain ⟨pa, cap, rfl, hk⟩ := hS.form
  have HP := Lib.hid hP
  have HK := Lib.hid hk
  have HLe := Lib.hid (fun k => sumL_le LL k)
  obtain ⟨m, hm⟩ : ∃ m, V.length = m := ⟨_, rfl⟩
  have HV := Lib.hid hm
  have HLL := Lib.hid (hl.symm.trans hm)
  have hm10 : m ≤ 10 := by omega
  rw [hm]
  obtain ⟨N, hN⟩ : ∃ N, LL.flatten.length = N := ⟨_, rfl⟩
  rw [hN] at ht HLe
  have HN := Lib.hid hN
  have hmi : (m : Int) ≤ 10 := by omega
  have hm0 : (0 : Int) ≤ m := by omega
  clear hi hz hsz hby hP hk hl h5 hm hS
  go_enter Tryd.func13, Tryd.ntmps13
  go_wp2_with fail
  go_loopw [3, 5, 11] (fun nv _ iv wr => ∃ k : Nat, k ≤ m ∧ iv = .int .i64 k ∧ nv = .int .i64 (sumL LL k) ∧ wr = w) (fun _ _ iv _ => m - (Go.RowKit.intOf iv).toNat)
  case atStart => exact ⟨0, Nat.zero_le _, rfl, by simp [sumL], rfl⟩
  case round =>
    obtain ⟨k, hkm, rfl, rfl, rfl⟩ := hrel
    by_cases hlt : k < m
    · obtain ⟨v, hv⟩ : ∃ v, V[k]? = some v := ⟨_, List.getElem?_eq_getElem (by rw [HV.out]; exact hlt)⟩
      obtain ⟨L, hL⟩ : ∃ L, LL[k]? = some L := ⟨_, List.getElem?_eq_getElem (by rw [HLL.out]; exact hlt)⟩
      obtain ⟨g, o, rfl, hc⟩ := HK.out k v hv
      obtain ⟨p1, c1, rfl⟩ := (HP.out k v L hv hL).slice
      have HSc := Lib.hid (sumL_succ LL k L hL)
      have h1 := HLe.out (k + 1)
      rw [HSc.out] at h1
      have hki : (k : Int) < m := by omega
      have hk0 : (0 : Int) ≤ k := by omega
      obtain ⟨a, ha⟩ : ∃ a, sumL LL k = a := ⟨_, rfl⟩
      obtain ⟨b, hb⟩ : ∃ b, L.length = b := ⟨_, rfl⟩
      rw [ha, hb] at h1
      rw [hb] at hc
      rw [ha]
      have ha' := Lib.hid ha
      have hb' := Lib.hid hb
      have hw1 : IntKind.i64.wrap ((a : Int) + (b : Int)) = ((a + b : Nat) : Int) := by rw [IntKind.wrap_i64]; omega
      have hnn : ¬ (((a + b : Nat) : Int) < 0) := by omega
      have hab : ((a + b : Nat) : Int) ≤ 1000 := by omega
      clear hv hL ha hb h1
      go_wp2_with fail
      go_roundw
      case rel => exact ⟨k + 1, hlt, by go_num, by rw [HSc.out, ha'.out, hb'.out, Int.natCast_add], trivial⟩
      case measure => (simp [Go.RowKit.intOf]; try omega)
    · obtain rfl : k = m := by omega
      have hsN : sumL LL k = N := by
        unfold sumL
        rw [List.take_of_length_le (by rw [HLL.out]; exact Nat.le_refl _)]
        exact HN.out
      rw [hsN]
      clear hlt hkm hsN
      obtain ⟨w0, rfl⟩ : ∃ x, x = wr := ⟨wr, rfl⟩
      go_wp2_with (refine (grow_nil N (by omega) w0).mono ?_; rintro e w1 ⟨gv, rfl, hO, hb1⟩; have HO1 := Lib.hid hO; have HB1 := Lib.hid hb1; clear hO hb1)
      obtain ⟨base, hbase⟩ : ∃ x, w0.heap.size = x := ⟨_, rfl⟩
      rw [hbase] at HO1
      have HW := Lib.hid hbase
      clear hbase
      go_loopw [6, 8, 27] (fun lv _ iv wr => ∃ k2 : Nat, k2 ≤ k ∧ iv = .int .i64 k2 ∧ Below w0.heap.size w0 wr ∧ wr.ownsRow base 28 2 lv (sumL LL k2) (flP (LL.take k2).flatten)) (fun _ _ iv _ => k - (Go.RowKit.intOf iv).toNat)
      case atStart => exact ⟨0, Nat.zero_le _, rfl, HB1.out, by simpa [sumL, flP] using HO1.out⟩
      case round =>
        obtain ⟨k2, hkm2, rfl, hb, hO⟩ := hrel
        have HB := Lib.hid hb
        have HO := Lib.hid hO
        clear hb hO
        by_cases hlt : k2 < k
        · obtain ⟨v, hv⟩ : ∃ v, V[k2]? = some v := ⟨_, List.getElem?_eq_getElem (by rw [HV.out]; exact hlt)⟩
          obtain ⟨L, hL⟩ : ∃ L, LL[k2]? = some L := ⟨_, List.getElem?_eq_getElem (by rw [HLL.out]; exact hlt)⟩
          obtain ⟨g, o, rfl, hc0⟩ := HK.out k2 v hv
          have hp := (HP.out k2 v L hv hL).keep HB.out
          have HA := Lib.hid hp.ag
          obtain ⟨p1, c1, rfl⟩ := hp.slice
          have hc := (HB.out.cell (World.block_lt_of_cell? w0 _ hc0)).trans hc0
          have HSc := Lib.hid (sumL_succ LL k2 L hL)
          have HFl := Lib.hid (flat_succ LL k2 L hL)
          have h1 := HLe.out (k2 + 1)
          rw [HSc.out] at h1
          have hki : (k2 : Int) < k := by omega
          have hk0 : (0 : Int) ≤ k2 := by omega
          obtain ⟨pl, cl, rfl⟩ := ownsRow_form HO.out
          obtain ⟨b, hb⟩ : ∃ b, L.length = b := ⟨_, rfl⟩
          rw [hb] at hc h1 HA
          have HBb := Lib.hid hb
          have hbs : base ≤ wr.heap.size := by have := HW.out; have := HB.out.size; omega
          clear hv hL hb hp hc0
          go_wp2_with (at_builtin; refine wpList_append_any wr rfl _ _ 22 rfl base 28 iP _ 2 32 Tryd.underlying22 HI.out HZ.out HSZ.out HBY.out rfl (by decide) _ (sumL LL k2) _ rfl HO.out _ b (flP L) rfl HA.out (by rw [flP_len, HBb.out]) (flP_one L) (by unfold maxLen; omega) (by omega) hbs ?_; intro v' w' hO' hg; have HO' := Lib.hid hO'; have HB' := Lib.hid (HB.out.grown hg HB.out.size (fun x hx => by have := (HO.out.lt x hx).1; have := HW.out; omega)); clear hO' hg)
          go_roundw
          case rel => exact ⟨k2 + 1, hlt, by go_num, HB'.out, by rw [HSc.out, HFl.out, flP_app, HBb.out]; exact HO'.out⟩
          case measure => (simp [Go.RowKit.intOf]; try omega)
        · obtain rfl : k2 = k := by omega
          have hsN : sumL LL k2 = N := by
            unfold sumL
            rw [List.take_of_length_le (by rw [HLL.out]; exact Nat.le_refl _)]
            exact HN.out
          have hfl : (LL.take k2).flatten = LL.flatten := by rw [List.take_of_length_le (by rw [HLL.out]; exact Nat.le_refl _)]
          have hO2 := HO.out
          rw [hsN, hfl] at hO2
          have HO2 := Lib.hid hO2
          clear hO2 hsN hfl hlt
          go_wp2_with fail
          go_ret
          exact ⟨_, rfl, by rw [HN.out, HW.out]; exact HO2.out, HB.out⟩
end Go.Proofs.YtgdapkbenmlabaaDoor.Pt
