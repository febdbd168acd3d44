import Derived.Test.YtgfgdfcedmcjeaaGreatDoorN25
import Derived.Test.YtgfgdfcedmcjeaaGreatDoorN1
import Derived.Deep.DeepHandedRow
import Derived.Lib.SmallJoins
import Derived.Lib.LaidTab
/- Directories: Awake. -/
/- Directories: an act of the laws. -/
/- A world in which the listed tables hold what their initialisers lay, for the witnesses; an act as handed in. -/
/- Directories: what is none: the walk. -/

namespace Go.Proofs.YtgfgdfcedmcjeaaGreatDoor
set_option linter.unusedSimpArgs false
set_option linter.unusedVariables false
open Go.RowKit Go.Maps

set_option maxHeartbeats 40000000 in
set_option maxRecDepth 200000 in
theorem awake9 (w : World) : Calls Tryz.prog 7 #[] w fun e w' => e = .returned (.bool true) ∧ Below w.heap.size w w' := by
  have hSz := Lib.hid (fun W => Cf.sizeconf_two 0 (by decide) (by decide) (H9 30 10) (H9_ok 30 10 (by decide) (by decide)) (.slice none 0 0) [] (fun x hx => by cases hx) W (u8s_none W) (by decide) rfl)
  have eSz : Cf.sizeVal 0 (H9 30 10) (.slice none 0 0) = (.agg #[.int .u8 0, .int .u8 30, .int .u8 0, .int .u8 0, .int .u8 0, .int .u8 0, .int .u8 10, .int .u8 0, .int .u8 0, .int .u8 0, .int .u8 0, .int .u8 0, .int .u8 0, .int .u8 0, .int .u8 0, .int .u8 0, .int .u8 0, .int .u8 0, .int .u8 0, .int .u8 0, .int .u8 0, .int .u8 0, .int .u8 0, .int .u8 0, .int .u8 0, .int .u8 0, .slice none 0 0]) := by kernel_rfl
  rw [eSz] at hSz
  clear eSz
  obtain ⟨N, g, B0, P0, DA, hc9⟩ := c9 30 10 (by decide) (by decide)
  obtain ⟨R9, hR9⟩ : ∃ x, Cf.sizeRs 2 (H9 30 10) = x := ⟨_, rfl⟩
  rw [hR9] at hSz hc9
  have HC9 := Lib.hid hc9
  have HGG := Lib.hid hc9.gg
  clear hc9 hR9
  go_enter Tryz.func7, Tryz.ntmps7
  go_wp2_with fail
  refine (hSz.out w).mono ?_
  rintro e w2 ⟨n, vr, vm, vg, rfl, -, hb2, hCF⟩
  have HB2 := Lib.hid hb2
  have HCF := Lib.hid hCF
  clear hb2 hCF hSz
  go_wp2_with fail
  refine (fresh9 HC9.out n vr vm vg w2 HCF.out).mono ?_
  rintro e w3 ⟨t, mm, dd, gg, l, Y0, rfl, hFr, hll, hln, hLg, hRd, hTab, hbit, hb3⟩
  have HR3 := Lib.hid hRd
  have HL3 := Lib.hid hLg
  have HS3 := Lib.hid (S1.fresh (P0 := P0) (DA := DA) hTab hbit HGG.out.n512)
  have HTab := Lib.hid hTab
  have HBit := Lib.hid hbit
  have HCF3 := Lib.hid (HCF.out.below hb3)
  have HNl := Lib.hid (show l ∉ [dd, gg] from fun h => hln (by simp only [List.mem_cons, List.not_mem_nil, or_false] at h ⊢; omega))
  have HNt := Lib.hid hln
  have hdd : w2.heap.size ≤ dd := hFr.2.2.1
  have hgg : w2.heap.size ≤ gg := hFr.2.2.2
  have hdt : w2.heap.size ≤ t := hFr.1
  have hdm : w2.heap.size ≤ mm := hFr.2.1
  have hw2 : w.heap.size ≤ w2.heap.size := HB2.out.size
  have hw3 := hb3.size
  have HCFx : Hid (∀ W, Below w2.heap.size w2 W → Cf.CF n W vr vm vg R9 []) := Lib.hid (fun W hk => HCF.out.below hk)
  have HZ3 := Lib.hid hb3
  clear hFr hll hln hLg hRd hTab hbit hb3 HCF
  have HOp := Lib.hid (open9 HC9.out ⟨dl B0 P0 DA (fun _ => 0) (ndS (nbE 0)) L9, Y0⟩ t mm dd gg n 7000 Y0 vr vm vg w3 HCF3.out (HR3.out.wide (Lm.nil_le _ _)))
  go_wp2_with fail
  refine HOp.out.mono ?_
  rintro e w4 ⟨q, p, rfl, hq, hp, hG, hb⟩
  have HG4 := Lib.hid hG
  have HB4 := Lib.hid (HZ3.out.trans (hb.mono hw3))
  have HL4 := Lib.hid (HL3.out.keep hb)
  have hsz4 := HB4.out.size
  clear hG hb HOp HR3 HCF3
  go_upto_region 5 with fail
  have F5 := Lib.hid (Vl.new w4 [.string ⟨#[97]⟩, .string ⟨#[98]⟩, .string ⟨#[99]⟩] 9)
  have hb5 : Below w4.heap.size w4 (w4.alloc (.cells [.string ⟨#[97]⟩, .string ⟨#[98]⟩, .string ⟨#[99]⟩].toArray 9)) := (Below.refl _ _).alloc (Nat.le_refl _) _
  have HG5 := Lib.hid (HG4.out.keep hb5)
  have HB5 := Lib.hid (HB4.out.trans (hb5.mono hsz4))
  obtain ⟨bN, hbN⟩ : ∃ x, w4.heap.size = x := ⟨_, rfl⟩
  have hNw : w2.heap.size ≤ bN := by omega
  have hNt : bN ∉ [t, mm, dd, gg] := hbN ▸ HG4.out.rd.notin (Nat.le_refl _)
  obtain ⟨w5, hw5⟩ : ∃ x, w4.alloc (.cells [.string ⟨#[97]⟩, .string ⟨#[98]⟩, .string ⟨#[99]⟩].toArray 9) = x := ⟨_, rfl⟩
  rw [hw5] at F5 HG5 HB5
  try (change wp _ _ _ _ (w4.alloc (.cells [.string ⟨#[97]⟩, .string ⟨#[98]⟩, .string ⟨#[99]⟩].toArray 9)))
  rw [hw5]
  rw [hbN] at F5
  try rw [hbN]
  have HNt5 := Lib.hid hNt
  clear hw5 hb5 hbN hNt HG4 HB4
  go_loopw [8, 32] (fun _ iv wr => ∃ k : Nat, k ≤ 3 ∧ iv = .int .i64 k ∧ Below w2.heap.size w2 wr ∧ Vl wr bN [.string ⟨#[97]⟩, .string ⟨#[98]⟩, .string ⟨#[99]⟩] ∧ ∃ Y V b, Gr wr q p t mm dd gg 0 g B0 (8 + 30 % 60) N ⟨dl B0 P0 DA b (ndS (nbE k)) L9, Y0⟩ Y (7000 + 30000 * k) ∧ S1 B0 P0 DA (8 + 30 % 60) Y V b (List.take k [(⟨#[97]⟩, 5), (⟨#[98]⟩, 5), (⟨#[99]⟩, 5)])) (fun _ iv _ => 3 - (Go.RowKit.intOf iv).toNat)
  case atStart => exact ⟨0, Nat.zero_le _, rfl, HB5.out, F5.out, Y0, VF 3, fun _ => 0, HG5.out, HS3.out⟩
  case round =>
    obtain ⟨k, hk, rfl, hb, hF, Y, V, b, hG, hS⟩ := hrel
    have HBX := Lib.hid hb
    have FX := Lib.hid hF
    have HGX := Lib.hid hG
    have HSX := Lib.hid hS
    clear hb hF hG hS HB5 F5 HG5
    have hk4 : k = 0 ∨ k = 1 ∨ k = 2 ∨ k = 3 := by omega
    rcases hk4 with rfl | rfl | rfl | rfl
    · have HAd := Lib.hid (add1 HGG.out (by decide) q p t mm dd gg (7000 + 30000 * 0) Y V Y0 b (List.take 0 [(⟨#[97]⟩, 5), (⟨#[98]⟩, 5), (⟨#[99]⟩, 5)]) HSX.out (by decide) (by decide) (⟨#[97]⟩, 5) (by decide) wr HGX.out)
      have ha0 : addC (List.take 0 [(⟨#[97]⟩, 5), (⟨#[98]⟩, 5), (⟨#[99]⟩, 5)]) (⟨#[97]⟩, 5) = 0 := by kernel_rfl
      have he1 : setE (List.take 0 [(⟨#[97]⟩, 5), (⟨#[98]⟩, 5), (⟨#[99]⟩, 5)]) (roomN (List.take 0 [(⟨#[97]⟩, 5), (⟨#[98]⟩, 5), (⟨#[99]⟩, 5)])) (⟨#[97]⟩, 5) = List.take 1 [(⟨#[97]⟩, 5), (⟨#[98]⟩, 5), (⟨#[99]⟩, 5)] := by kernel_rfl
      rw [ha0, he1] at HAd
      have cN := FX.out.c 0 _ rfl
      clear HGX ha0 he1
      go_wp2_with fail
      refine HAd.out.mono ?_
      rintro e w6 ⟨rfl, hk, (⟨hh, -⟩ | ⟨-, Y', V', b', hG, hS⟩)⟩
      · exact absurd trivial hh
      · have HB6 := Lib.hid (HBX.out.trans (hk.below (B := w2.heap.size) (fun a ha => by
          simp only [List.mem_cons, List.not_mem_nil, or_false] at ha
          omega) HBX.out.size))
        have F6 := Lib.hid (FX.out.kf hk HNt5.out)
        have HG6 := Lib.hid hG
        have HS6 := Lib.hid hS
        clear hk hG hS HAd cN
        go_wp2_with fail
        go_roundw
        case rel => exact ⟨1, by decide, by go_num, HB6.out, F6.out, Y', V', b', HG6.out, HS6.out⟩
        case measure => decide
    · have HAd := Lib.hid (add1 HGG.out (by decide) q p t mm dd gg (7000 + 30000 * 1) Y V Y0 b (List.take 1 [(⟨#[97]⟩, 5), (⟨#[98]⟩, 5), (⟨#[99]⟩, 5)]) HSX.out (by decide) (by decide) (⟨#[98]⟩, 5) (by decide) wr HGX.out)
      have ha0 : addC (List.take 1 [(⟨#[97]⟩, 5), (⟨#[98]⟩, 5), (⟨#[99]⟩, 5)]) (⟨#[98]⟩, 5) = 0 := by kernel_rfl
      have he1 : setE (List.take 1 [(⟨#[97]⟩, 5), (⟨#[98]⟩, 5), (⟨#[99]⟩, 5)]) (roomN (List.take 1 [(⟨#[97]⟩, 5), (⟨#[98]⟩, 5), (⟨#[99]⟩, 5)])) (⟨#[98]⟩, 5) = List.take 2 [(⟨#[97]⟩, 5), (⟨#[98]⟩, 5), (⟨#[99]⟩, 5)] := by kernel_rfl
      rw [ha0, he1] at HAd
      have cN := FX.out.c 1 _ rfl
      clear HGX ha0 he1
      go_wp2_with fail
      refine HAd.out.mono ?_
      rintro e w6 ⟨rfl, hk, (⟨hh, -⟩ | ⟨-, Y', V', b', hG, hS⟩)⟩
      · exact absurd trivial hh
      · have HB6 := Lib.hid (HBX.out.trans (hk.below (B := w2.heap.size) (fun a ha => by
          simp only [List.mem_cons, List.not_mem_nil, or_false] at ha
          omega) HBX.out.size))
        have F6 := Lib.hid (FX.out.kf hk HNt5.out)
        have HG6 := Lib.hid hG
        have HS6 := Lib.hid hS
        clear hk hG hS HAd cN
        go_wp2_with fail
        go_roundw
        case rel => exact ⟨2, by decide, by go_num, HB6.out, F6.out, Y', V', b', HG6.out, HS6.out⟩
        case measure => decide
    · have HAd := Lib.hid (add1 HGG.out (by decide) q p t mm dd gg (7000 + 30000 * 2) Y V Y0 b (List.take 2 [(⟨#[97]⟩, 5), (⟨#[98]⟩, 5), (⟨#[99]⟩, 5)]) HSX.out (by decide) (by decide) (⟨#[99]⟩, 5) (by decide) wr HGX.out)
      have ha0 : addC (List.take 2 [(⟨#[97]⟩, 5), (⟨#[98]⟩, 5), (⟨#[99]⟩, 5)]) (⟨#[99]⟩, 5) = 0 := by kernel_rfl
      have he1 : setE (List.take 2 [(⟨#[97]⟩, 5), (⟨#[98]⟩, 5), (⟨#[99]⟩, 5)]) (roomN (List.take 2 [(⟨#[97]⟩, 5), (⟨#[98]⟩, 5), (⟨#[99]⟩, 5)])) (⟨#[99]⟩, 5) = List.take 3 [(⟨#[97]⟩, 5), (⟨#[98]⟩, 5), (⟨#[99]⟩, 5)] := by kernel_rfl
      rw [ha0, he1] at HAd
      have cN := FX.out.c 2 _ rfl
      clear HGX ha0 he1
      go_wp2_with fail
      refine HAd.out.mono ?_
      rintro e w6 ⟨rfl, hk, (⟨hh, -⟩ | ⟨-, Y', V', b', hG, hS⟩)⟩
      · exact absurd trivial hh
      · have HB6 := Lib.hid (HBX.out.trans (hk.below (B := w2.heap.size) (fun a ha => by
          simp only [List.mem_cons, List.not_mem_nil, or_false] at ha
          omega) HBX.out.size))
        have F6 := Lib.hid (FX.out.kf hk HNt5.out)
        have HG6 := Lib.hid hG
        have HS6 := Lib.hid hS
        clear hk hG hS HAd cN
        go_wp2_with fail
        go_roundw
        case rel => exact ⟨3, by decide, by go_num, HB6.out, F6.out, Y', V', b', HG6.out, HS6.out⟩
        case measure => decide
    · have HDr := Lib.hid (drop1 HGG.out q p t mm dd gg (7000 + 30000 * 3) Y V Y0 b [(⟨#[97]⟩, 5), (⟨#[98]⟩, 5), (⟨#[99]⟩, 5)] HSX.out (by decide) (by decide) ⟨#[98]⟩ wr HGX.out)
      have he1 : (List.set [(⟨#[97]⟩, 5), (⟨#[98]⟩, 5), (⟨#[99]⟩, 5)] (findN ⟨#[98]⟩ [(⟨#[97]⟩, 5), (⟨#[98]⟩, 5), (⟨#[99]⟩, 5)]) zE).take (usedN (List.set [(⟨#[97]⟩, 5), (⟨#[98]⟩, 5), (⟨#[99]⟩, 5)] (findN ⟨#[98]⟩ [(⟨#[97]⟩, 5), (⟨#[98]⟩, 5), (⟨#[99]⟩, 5)]) zE)) = [(⟨#[97]⟩, 5), zE, (⟨#[99]⟩, 5)] := by kernel_rfl
      rw [he1] at HDr
      clear HGX he1
      go_wp2_with fail
      refine HDr.out.mono ?_
      rintro e w6 ⟨hk, (⟨hno, -⟩ | ⟨-, rfl, Y', V', b', hG, hS⟩)⟩
      · exact absurd (hno (⟨#[98]⟩, 5) (by simp)) (by decide +kernel)
      have HB6 := Lib.hid (HBX.out.trans (hk.below (B := w2.heap.size) (fun a ha => by
        simp only [List.mem_cons, List.not_mem_nil, or_false] at ha
        omega) HBX.out.size))
      have HG6 := Lib.hid hG
      have HS6 := Lib.hid hS
      clear hk hG hS HDr HBX
      have HAd := Lib.hid (add1 HGG.out (by decide) q p t mm dd gg (7000 + 30000 * 3 + 40000) Y' V' Y0 b' [(⟨#[97]⟩, 5), zE, (⟨#[99]⟩, 5)] HS6.out (by decide) (by decide) (⟨#[100]⟩, 6) (by decide) w6 HG6.out)
      have ha0 : addC [(⟨#[97]⟩, 5), zE, (⟨#[99]⟩, 5)] (⟨#[100]⟩, 6) = 0 := by kernel_rfl
      have he1 : setE [(⟨#[97]⟩, 5), zE, (⟨#[99]⟩, 5)] (roomN [(⟨#[97]⟩, 5), zE, (⟨#[99]⟩, 5)]) (⟨#[100]⟩, 6) = [(⟨#[97]⟩, 5), (⟨#[100]⟩, 6), (⟨#[99]⟩, 5)] := by kernel_rfl
      rw [ha0, he1] at HAd
      clear HG6 ha0 he1
      go_wp2_with fail
      refine HAd.out.mono ?_
      rintro e w7 ⟨rfl, hk, (⟨hh, -⟩ | ⟨-, Y2, V2, b2, hG, hS⟩)⟩
      · exact absurd trivial hh
      have HB7 := Lib.hid (HB6.out.trans (hk.below (B := w2.heap.size) (fun a ha => by
        simp only [List.mem_cons, List.not_mem_nil, or_false] at ha
        omega) HB6.out.size))
      have HLi := Lib.hid (dlist_any (ln := ⟨dl B0 P0 DA b2 (ndS (nbE 3)) L9, Y0⟩) q p t mm dd gg 0 B0 P0 8 DA (8 + 30 % 60) N (7000 + 30000 * 3 + 40000 + 30000) g Y2 V2 1 (by decide) (by decide) b2 [(⟨#[97]⟩, 5), (⟨#[100]⟩, 6), (⟨#[99]⟩, 5)] hS.dir hS.tab (by decide) HGG.out w7 hG)
      have hlv : liveE [(⟨#[97]⟩, 5), (⟨#[100]⟩, 6), (⟨#[99]⟩, 5)] = [(⟨#[97]⟩, 5), (⟨#[100]⟩, 6), (⟨#[99]⟩, 5)] := by kernel_rfl
      rw [hlv] at HLi
      clear hk hG hS HAd HB6 hlv
      go_wp2_with fail
      refine HLi.out.mono ?_
      rintro e w8 ⟨v', base, rfl, hbs, hO, -, hk⟩
      have HB8 := Lib.hid (HB7.out.trans (hk.below (B := w2.heap.size) (fun a ha => by
        simp only [List.mem_cons, List.not_mem_nil, or_false] at ha
        omega) HB7.out.size))
      obtain ⟨pa, cap, hv⟩ := Cf.ownsRow_form hO
      subst hv
      obtain ⟨g0, rfl, -, -⟩ := own_some hO (by decide)
      have hra := own_at hO rfl (k := 1) rfl
      have cA : w8.cell? ⟨g0, 2, none⟩ = some (.string ⟨#[100]⟩) := hra 0 _ rfl
      have cB : w8.cell? ⟨g0, 3, none⟩ = some (.int .u16 6) := hra 1 _ rfl
      clear hk hO hra HLi hbs HB7
      have HEQ := Lib.hid (fun W => eqEn (⟨#[100]⟩, 6) (⟨#[100]⟩, 6) (by decide) (by decide) (by decide) (by decide) W)
      rw [decide_eq_true rfl] at HEQ
      go_wp2_with (first | (refine wpList_yields (.agg (enc (⟨#[100]⟩, 6)).toArray) (yields_bld2 (by rfl) 58 0 1 _ _ rfl (.string ⟨#[100]⟩) (.int .u16 6) rfl rfl _ (fun W => Tryz.buildEn2 ⟨#[100]⟩ 6 W)) ?_) | (refine wpList_yields (.bool true) (yields_eql (by rfl) 58 58 _ _ rfl (enc (⟨#[100]⟩, 6)).toArray (enc (⟨#[100]⟩, 6)).toArray rfl rfl true Tryz.guardEn (fun W _ => HEQ.out W)) ?_))
      go_ret
      exact ⟨rfl, HB2.out.trans (HB8.out.mono hw2)⟩
end Go.Proofs.YtgfgdfcedmcjeaaGreatDoor

namespace Go.Proofs.YtgfgdfcedmcjeaaGreatDoor
set_option linter.unusedSimpArgs false
set_option linter.unusedVariables false
open Go.RowKit Go.Maps

/-- an act's name -/
def nmL9 : List ByteArray := [⟨#[97]⟩, ⟨#[98]⟩, ⟨#[99]⟩, ⟨#[100, 100]⟩, ⟨#[101, 46, 102]⟩, ⟨#[102, 111, 117, 114, 116, 101, 101, 110, 45, 98, 121, 116, 101, 115]⟩, ⟨#[103]⟩, ⟨#[104]⟩]
def actN (nm : Int) (tx : ByteArray) (rw : Bool) : ByteArray := if rw = true then tx else nmL9.getD (nm % 8).toNat ⟨#[]⟩
theorem nmL9_get (k : Nat) (hk : k < 8) : nmL9[k]? = some (nmL9.getD k ⟨#[]⟩) := by
  have : k < nmL9.length := hk
  rw [List.getElem?_eq_getElem this, List.getD_eq_getElem?_getD, List.getElem?_eq_getElem this]
  rfl
def actc (kn nm nu : Int) (tx : ByteArray) (rw : Bool) : List Value := [.int .u8 kn, .int .u8 nm, .int .u16 nu, .string tx, .bool rw]
theorem Tryz.descAct : ∃ d, Tryz.prog.underlying 49 = some d ∧ d.isRow = true := ⟨_, Tryz.underlying49, rfl⟩
theorem Tryz.isizeAct : (Tryz.prog.info? 49).map (·.size) = some 5 := by kernel_rfl
set_option maxHeartbeats 8000000 in
set_option maxRecDepth 200000 in
theorem actname_any (kn nm nu : Int) (tx : ByteArray) (rw : Bool) (h0 : 0 ≤ nm) (h1 : nm < 256) (w : World) : Calls Tryz.prog 15 #[.agg (actc kn nm nu tx rw).toArray] w fun e w' => e = .returned (.string (actN nm tx rw)) ∧ Below w.heap.size w w' := by
  cases rw
  · obtain ⟨k, hk⟩ : ∃ k : Nat, (nm % 8).toNat = k := ⟨_, rfl⟩
    have hk8 : k < 8 := by omega
    have hmk : nm % 8 = (k : Int) := by omega
    have hN : actN nm tx false = nmL9.getD k ⟨#[]⟩ := by
      unfold actN
      rw [if_neg (by decide), hk]
    have hgk := nmL9_get k hk8
    rw [hN]
    obtain ⟨sN, hsN⟩ : ∃ x, nmL9.getD k ⟨#[]⟩ = x := ⟨_, rfl⟩
    rw [hsN] at hgk ⊢
    have HGk := Lib.hid hgk
    have hki : (k : Int) < 8 := by omega
    have hk0 : (0 : Int) ≤ k := by omega
    have htm : nm.tmod 8 = (k : Int) := by rw [Int.tmod_eq_emod_of_nonneg h0]; exact hmk
    have hwu : IntKind.u8.wrap (k : Int) = k := wraps_u8 _ (by omega) (by omega)
    clear hN hk hgk hsN hk8
    go_enter Tryz.func15, Tryz.ntmps15
    go_upto_region 3 with (first | (refine wpList_box_list (w := w) rfl 49 _ rfl (actc kn nm nu tx false) rfl ?_; intro w1 F1 hb1 hz1; have HB1 := Lib.hid hb1; have c4 := F1.out.c 4 _ rfl; have c1 := F1.out.c 1 _ rfl; have c3 := F1.out.c 3 _ rfl; clear hb1))
    have hv1 := Vl.new w1 (nmL9.map Value.string) 9
    have F2 := Lib.hid hv1
    have hcN : (nmL9.map Value.string)[k]? = some (.string sN) := by rw [List.getElem?_map, HGk.out]; rfl
    have cN := F2.out.c k _ hcN
    have hb2 : Below w1.heap.size w1 (w1.alloc (.cells (nmL9.map Value.string).toArray 9)) := (Below.refl _ _).alloc (Nat.le_refl _) _
    have c1' := (F1.out.keep hb2).c 1 _ rfl
    have HB2 := Lib.hid (HB1.out.trans (hb2.mono HB1.out.size))
    simp only [nmL9, List.map_cons, List.map_nil] at cN c1' HB2
    rw [hz1] at cN
    clear hv1 hcN hb2 F2 c1 c3 c4
    go_wp2_with fail
    go_ret
    exact ⟨rfl, HB2.out⟩
  · have hN : actN nm tx true = tx := if_pos rfl
    rw [hN]
    clear hN
    go_enter Tryz.func15, Tryz.ntmps15
    go_wp2_with (first | (refine wpList_box_list (w := w) rfl 49 _ rfl (actc kn nm nu tx true) rfl ?_; intro w1 F1 hb1 hz1; have HB1 := Lib.hid hb1; have c4 := F1.out.c 4 _ rfl; have c3 := F1.out.c 3 _ rfl; clear hb1))
    go_ret
    exact ⟨rfl, HB1.out⟩
end Go.Proofs.YtgfgdfcedmcjeaaGreatDoor

namespace Go.Proofs.YtgfgdfcedmcjeaaGreatDoor
set_option linter.unusedSimpArgs false
set_option linter.unusedVariables false
open Go.ChangeShapes Go.WideShapes Go.ChangeAt Go.RowKit Go.Deep

set_option maxRecDepth 100000 in
theorem Tryz.own : ownKnob Tryz.prog.godebug = none := by kernel_rfl
set_option maxRecDepth 100000 in
theorem Tryz.laidOut : laidOutB Tryz.prog = true := by kernel_rfl
def litV : Lit → Value
  | .int k z => .int k z
  | .string bs => .string ⟨bs.toArray⟩
  | _ => undef
def oneV : DataW Unit → Value
  | .lit l => litV l
  | _ => undef
def rowV : DataW Unit → List Value
  | .agg ds => ds.map oneV
  | _ => []
def gridV : DataW Unit → List Value
  | .agg ds => ds.flatMap rowV
  | _ => []
def putTab (c : Array Value) : Obj → Obj
  | .cells _ t frozen => .cells c t frozen
  | o => o
noncomputable def laidWorld (os : Os) : World :=
  { World.holding Tryz.prog os ⟨#[], #[], []⟩ with heap := (((World.holding Tryz.prog os ⟨#[], #[], []⟩).heap.modify 0 (putTab (rowV Rows.laid_unicode_utf8_first).toArray)).modify 1 (putTab (gridV Rows.laid_unicode_utf8_acceptRanges).toArray)) }

theorem take_oneN {L : List Value} {i : Nat} {v : Value} (h : (L.drop i).take 1 = [v]) : L[i]? = some v := by
  have := congrArg (·[0]?) h
  simpa [List.getElem?_take, List.getElem?_drop] using this
theorem Tryz.cells1s : Tryz.prog.cellsOf 9 = 1 := by kernel_rfl
theorem Tryz.cells1b : Tryz.prog.cellsOf 4 = 1 := by kernel_rfl
theorem Tryz.cellsU16 : Tryz.prog.cellsOf 36 = 1 := by kernel_rfl
theorem Tryz.cellsAct : Tryz.prog.cellsOf 49 = 5 := by kernel_rfl
theorem trod_struct5 {H : Type} {enc : TypeId × Value → H} {P : Program} {w : World} {base : Nat} {spare : Nat → Bool} {held : Bool} {t : TypeId} {f0 f1 f2 f3 f4 : Field} {fuel : Nat} {cs : List Value} {x : DataW H × List MemPlace} (ht : P.underlying t = some (.struct #[f0, f1, f2, f3, f4])) (h : DataW.trod enc P w base spare held fuel t cs = some x) :
    ∃ y0 y1 y2 y3 y4 n, x = (.agg [y0.1, y1.1, y2.1, y3.1, y4.1], y0.2 ++ (y1.2 ++ (y2.2 ++ (y3.2 ++ y4.2)))) ∧ cs.length = P.cellsOf t ∧ DataW.trod enc P w base spare held n f0.type ((cs.drop f0.offset).take (P.cellsOf f0.type)) = some y0 ∧
      DataW.trod enc P w base spare held n f1.type ((cs.drop f1.offset).take (P.cellsOf f1.type)) = some y1 ∧ DataW.trod enc P w base spare held n f2.type ((cs.drop f2.offset).take (P.cellsOf f2.type)) = some y2 ∧
      DataW.trod enc P w base spare held n f3.type ((cs.drop f3.offset).take (P.cellsOf f3.type)) = some y3 ∧ DataW.trod enc P w base spare held n f4.type ((cs.drop f4.offset).take (P.cellsOf f4.type)) = some y4 := by
  obtain ⟨xs, n, _, rfl, hl, hlen, hf⟩ := DataW.trod_struct ht h
  match xs, hlen with
  | [y0, y1, y2, y3, y4], _ => exact ⟨y0, y1, y2, y3, y4, n, by simp, hl, by simpa using hf 0 f0 rfl, by simpa using hf 1 f1 rfl, by simpa using hf 2 f2 rfl, by simpa using hf 3 f3 rfl, by simpa using hf 4 f4 rfl⟩
set_option maxRecDepth 100000 in
/-- what an act's five cells hold -/
theorem act_cells {H : Type} {enc : TypeId × Value → H} {W : World} {fuel : Nat} {L : List Value} {x : DataW H × List MemPlace}
    (hf : DataW.trod enc Tryz.prog W 0 (fun _ => true) true fuel 49 L = some x) : ∃ (kn nm : Int) (nu : Nat) (tx : ByteArray) (rw : Bool), L = actc kn nm (nu : Int) tx rw ∧ 0 ≤ kn ∧ kn < 256 ∧ 0 ≤ nm ∧ nm < 256 ∧ nu < 65536 := by
  obtain ⟨y0, y1, y2, y3, y4, n', -, hl5, t0, t1, t2, t3, t4⟩ := trod_struct5 Tryz.underlying49 hf
  simp only [Tryz.cells5, Tryz.cellsU16, Tryz.cells1s, Tryz.cells1b] at t0 t1 t2 t3 t4
  rw [Tryz.cellsAct] at hl5
  obtain ⟨z0, e0, -, w0⟩ := DataW.trod_int Tryz.underlying5 t0
  obtain ⟨z1, e1, -, w1⟩ := DataW.trod_int Tryz.underlying5 t1
  obtain ⟨z2, e2, -, w2⟩ := DataW.trod_int Tryz.underlying36 t2
  obtain ⟨z3, e3, -⟩ := DataW.trod_string Tryz.underlying9 t3
  obtain ⟨z4, e4, -⟩ := DataW.trod_bool Tryz.underlying4 t4
  have g0 := take_oneN e0
  have g1 := take_oneN e1
  have g2 := take_oneN e2
  have g3 := take_oneN e3
  have g4 := take_oneN e4
  have b0' := bounds_u8 w0
  have b1' := bounds_u8 w1
  have b2' := bounds_u16 w2
  obtain ⟨n2, rfl⟩ := Int.eq_ofNat_of_zero_le b2'.1
  refine ⟨z0, z1, n2, z3, z4, ?_, b0'.1, by omega, b1'.1, by omega, by omega⟩
  match L, hl5 with
  | [a0, a1, a2, a3, a4], _ =>
    simp only [List.getElem?_cons_succ, List.getElem?_cons_zero, Option.some.injEq] at g0 g1 g2 g3 g4
    subst g0 g1 g2 g3 g4
    rfl
set_option maxRecDepth 100000 in
theorem open_act {H : Type} {enc : TypeId × Value → H} {W : World} {b0 : Nat} {v : Value} {d : DataW H} {p : List MemPlace} (hv : Value.okWide Tryz.prog W .any b0 49 v)
    (h : DataW.Trod enc Tryz.prog W 0 (fun _ => true) true 49 v d p) : ∃ (kn nm : Int) (nu : Nat) (tx : ByteArray) (rw : Bool), v = .agg (actc kn nm (nu : Int) tx rw).toArray ∧ 0 ≤ kn ∧ kn < 256 ∧ 0 ≤ nm ∧ nm < 256 ∧ nu < 65536 := by
  obtain ⟨cs, rfl, -⟩ := okWide_struct Tryz.underlying49 hv
  obtain ⟨fuel, hf⟩ := h
  have hc : (Value.agg cs).cells.toList = cs.toList := rfl
  rw [hc] at hf
  obtain ⟨kn, nm, nu, tx, rw, hL, hb⟩ := act_cells hf
  refine ⟨kn, nm, nu, tx, rw, ?_, hb⟩
  rw [← hL]
end Go.Proofs.YtgfgdfcedmcjeaaGreatDoor

namespace Go.Proofs.YtgfgdfcedmcjeaaGreatDoor
set_option linter.unusedSimpArgs false
set_option linter.unusedVariables false
open Go.RowKit Go.Maps

set_option maxHeartbeats 80000000 in
set_option maxRecDepth 400000 in
theorem dirnone_walk (x : Int) (kn nm : Int) (nun : Nat) (tx : ByteArray) (rw : Bool) (hn0 : 0 ≤ nm) (hn1 : nm < 256) (w : World) : Calls Tryz.prog 5 #[.int .i64 x, .agg (actc kn nm (nun : Int) tx rw).toArray] w fun e w' => e = .returned (.bool true) ∧ Below w.heap.size w w' := by
  have hnd9 : ∀ r, (Cf.sizeRs 2 (H9 0 0))[0]? = some r → r.nd = 8 := by
    intro r hr
    injection hr with hr
    rw [← hr]
    rfl
  have hSz := Lib.hid (fun W => Cf.sizeconf_two 0 (by decide) (by decide) (H9 0 0) (H9_ok 0 0 (by decide) (by decide)) (.slice none 0 0) [] (fun x hx => by cases hx) W (u8s_none W) (by decide) rfl)
  have eSz : Cf.sizeVal 0 (H9 0 0) (.slice none 0 0) = (.agg #[.int .u8 0, .int .u8 0, .int .u8 0, .int .u8 0, .int .u8 0, .int .u8 0, .int .u8 0, .int .u8 0, .int .u8 0, .int .u8 0, .int .u8 0, .int .u8 0, .int .u8 0, .int .u8 0, .int .u8 0, .int .u8 0, .int .u8 0, .int .u8 0, .int .u8 0, .int .u8 0, .int .u8 0, .int .u8 0, .int .u8 0, .int .u8 0, .int .u8 0, .int .u8 0, .slice none 0 0]) := by kernel_rfl
  rw [eSz] at hSz
  clear eSz
  obtain ⟨N, g, B0, P0, DA, hc9⟩ := c9 0 0 (by decide) (by decide)
  replace hc9 := (show C9 (Cf.sizeRs 2 (H9 0 0)) 8 N g B0 P0 DA from hc9)
  obtain ⟨R9, hR9⟩ : ∃ x, Cf.sizeRs 2 (H9 0 0) = x := ⟨_, rfl⟩
  rw [hR9] at hSz hc9 hnd9
  have HC9 := Lib.hid hc9
  have HGG := Lib.hid hc9.gg
  clear hc9 hR9
  have HBS : Hid (∀ W, (Instr.build 29 #[]).run Tryz.prog W = .ok (.agg #[.int .u8 0, .int .u8 0, .int .u8 0, .int .u8 0, .int .u8 0, .int .u8 0, .int .u8 0, .int .u8 0, .int .u8 0, .int .u8 0, .int .u8 0, .int .u8 0, .int .u8 0, .int .u8 0, .int .u8 0, .int .u8 0, .int .u8 0, .int .u8 0, .int .u8 0, .int .u8 0, .int .u8 0, .int .u8 0, .int .u8 0, .int .u8 0, .int .u8 0, .int .u8 0, .slice none 0 0]) W) := Lib.hid (fun W => by kernel_rfl)
  have hl2 := HC9.out.l2
  obtain ⟨rg, hrg⟩ : ∃ y, R9[0]'(by rw [hl2]; decide) = y := ⟨_, rfl⟩
  have HRg := Lib.hid hrg
  have HNd9 : Hid (rg.nd = 8) := Lib.hid (hnd9 rg (by rw [List.getElem?_eq_getElem (by rw [hl2]; decide), hrg]))
  obtain ⟨dA, hu, hd⟩ := Tryz.descAct
  have HUA := Lib.hid hu
  have HDA := Lib.hid hd
  have HAn := Lib.hid (fun W => actname_any kn nm (nun : Int) tx rw hn0 hn1 W)
  obtain ⟨sN, hsN⟩ : ∃ y, actN nm tx rw = y := ⟨_, rfl⟩
  rw [hsN] at HAn
  clear hsN hu hd hrg hnd9 hn0 hn1
  go_enter Tryz.func5, Tryz.ntmps5
  go_wp2_with (first | (refine wpList_box_list (w := w) rfl 49 _ rfl (actc kn nm (nun : Int) tx rw) rfl ?_; intro w0 F0 hb0 hz0; have HQ0 := Lib.hid hb0; clear hb0 hz0))
  obtain ⟨bA, hbA⟩ : ∃ y, w.heap.size = y := ⟨_, rfl⟩
  rw [hbA] at F0
  try rw [hbA]
  refine (awake9 w0).mono ?_
  rintro e w1 ⟨rfl, hb⟩
  have FA1 := Lib.hid (F0.out.keep hb)
  have HQ1 := Lib.hid (HQ0.out.trans (hb.mono HQ0.out.size))
  have hA1 := FA1.out.lt
  clear hb F0 HQ0
  go_wp2_with (refine wpList_yields (.agg #[.int .u8 0, .int .u8 0, .int .u8 0, .int .u8 0, .int .u8 0, .int .u8 0, .int .u8 0, .int .u8 0, .int .u8 0, .int .u8 0, .int .u8 0, .int .u8 0, .int .u8 0, .int .u8 0, .int .u8 0, .int .u8 0, .int .u8 0, .int .u8 0, .int .u8 0, .int .u8 0, .int .u8 0, .int .u8 0, .int .u8 0, .int .u8 0, .int .u8 0, .int .u8 0, .slice none 0 0]) (yields_bld0 (by rfl) 29 rfl _ HBS.out) ?_)
  refine (hSz.out w1).mono ?_
  rintro e w2 ⟨n, vr, vm, vg, rfl, -, hb2, hCF⟩
  have HB2 := Lib.hid (HQ1.out.trans (hb2.mono HQ1.out.size))
  have FA2 := Lib.hid (FA1.out.keep hb2)
  have HCF := Lib.hid hCF
  clear hb2 hCF hSz HQ1 FA1
  go_wp2_with fail
  refine (fresh9 HC9.out n vr vm vg w2 HCF.out).mono ?_
  rintro e w3 ⟨t, mm, dd, gg, l, Y0, rfl, hFr, hll, hln, hLg, hRd, hTab, hbit, hb3⟩
  have HR3 := Lib.hid hRd
  have HL3 := Lib.hid hLg
  have HS3 := Lib.hid (S1.fresh (P0 := P0) (DA := DA) hTab hbit HGG.out.n512)
  have HTab := Lib.hid hTab
  have HBit := Lib.hid hbit
  have HCF3 := Lib.hid (HCF.out.below hb3)
  have HNl := Lib.hid (show l ∉ [dd, gg] from fun h => hln (by simp only [List.mem_cons, List.not_mem_nil, or_false] at h ⊢; omega))
  have HNt := Lib.hid hln
  have hdd : w2.heap.size ≤ dd := hFr.2.2.1
  have hgg : w2.heap.size ≤ gg := hFr.2.2.2
  have hdt : w2.heap.size ≤ t := hFr.1
  have hdm : w2.heap.size ≤ mm := hFr.2.1
  have hw2 : w.heap.size ≤ w2.heap.size := HB2.out.size
  have hw3 := hb3.size
  have HCFx : Hid (∀ W, Below w2.heap.size w2 W → Cf.CF n W vr vm vg R9 []) := Lib.hid (fun W hk => HCF.out.below hk)
  have HZ3 := Lib.hid hb3
  clear hFr hll hln hLg hRd hTab hbit hb3 HCF
  have FA3 := Lib.hid (FA2.out.keep HZ3.out)
  have HOp := Lib.hid (open9 HC9.out ⟨dl B0 P0 DA (fun _ => 0) (ndS (nbE 0)) L9, Y0⟩ t mm dd gg n 7000 Y0 vr vm vg w3 HCF3.out (HR3.out.wide (Lm.nil_le _ _)))
  go_wp2_with fail
  refine HOp.out.mono ?_
  rintro e w4 ⟨q, p, rfl, hq, hp, hG, hb⟩
  have HG4 := Lib.hid hG
  have HB4 := Lib.hid (HZ3.out.trans (hb.mono hw3))
  have HL4 := Lib.hid (HL3.out.keep hb)
  have hsz4 := HB4.out.size
  clear hG hb HOp HR3 HCF3
  have FA4 := Lib.hid (FA2.out.below HB4.out FA2.out.lt)
  have hcb := (HCFx.out w4 HB4.out)
  have hrow := Cf.regs_of_row hcb.row
  have hc0 : w4.cell? ⟨n + 3, 0, none⟩ = some vr := hcb.cb.c0
  have hlt : n + 3 < w4.heap.size := by have := hcb.cb.lt; omega
  have hreg := Cf.reg_in (n + 3) vr R9 0 (by rw [hl2]; decide) w4 hlt hc0 hrow
  rw [HRg.out] at hreg
  have HReg := Lib.hid hreg
  clear hcb hrow hc0 hlt hreg FA3
  go_wp2_with fail
  refine HReg.out.mono ?_
  rintro e w5 ⟨rfl, hb⟩
  have HG5 := Lib.hid (HG4.out.keep hb)
  have HB5 := Lib.hid (HB4.out.trans (hb.mono hsz4))
  have FA5 := Lib.hid (FA4.out.keep hb)
  clear hb HReg HG4 HB4 FA4
  go_upto_region 7 with (first | (refine wpList_alloc_list (w := w5) rfl 40 rfl Cf.zeroRg.cells Tryz.zeroReg ?_; intro w6 F6 hb6 hz6; simp only [Act.put, List.getElem_toArray, List.getElem_cons_zero, List.getElem_cons_succ, List.setIfInBounds_toArray, List.set_cons_zero, List.set_cons_succ]; refine wpList_store_list rfl 40 (.tmp 11) (.tmp 42) rfl w5.heap.size Cf.zeroRg.cells rg.cells rfl rfl F6.out rfl (sizeReg _) (reg_one _) ?_; intro w7 F7 HK7; have HQ6 := Lib.hid hb6; clear hb6 F6))
  obtain ⟨bG, hbG⟩ : ∃ y, w5.heap.size = y := ⟨_, rfl⟩
  have hG2 : w2.heap.size ≤ bG := by have := HB5.out.size; omega
  have HG7 := Lib.hid ((HG5.out.keep HQ6.out).kp HK7.out (HG5.out.notin (Nat.le_refl _)))
  have HB7 := Lib.hid ((HB5.out.trans (HQ6.out.mono HB5.out.size)).trans (HK7.out.below (by omega) (by omega) (Nat.le_trans HB5.out.size HQ6.out.size)))
  have FA7 := Lib.hid ((FA5.out.keep HQ6.out).kp HK7.out (by have := FA5.out.lt; omega) (by have := FA5.out.lt; omega))
  rw [hbG] at F7
  try rw [hbG]
  have cN : w7.cell? ⟨bG, 4, none⟩ = some (.int .i64 8) := by rw [← HNd9.out]; exact F7.out.c 4 _ rfl
  clear HQ6 HK7 HG5 HB5 FA5 hbG hz6 F7
  by_cases h1 : x = 1
  · subst h1
    go_wp2_with fail
    go_ret
    exact ⟨rfl, HB2.out.trans (HB7.out.mono hw2)⟩
  by_cases h2 : x = 2
  subst h2
  have HNil := Lib.hid (fun W => dopen_nil 2 W)
  have HErr : Hid (∀ K, K < 400000000 → ∀ W, Gr W q p t mm dd gg 0 g B0 8 N ⟨dl B0 P0 DA (fun _ => 0) (ndS (nbE 0)) L9, Y0⟩ Y0 K → Calls Tryz.prog 39 #[.pointer (some ⟨q, 0, none⟩), .int .i64 2] W fun e w' => e = .returned (.tuple #[.pointer none, .int .i64 5]) ∧ Gr w' q p t mm dd gg 0 g B0 8 N ⟨dl B0 P0 DA (fun _ => 0) (ndS (nbE 0)) L9, Y0⟩ Y0 (K + 1) ∧ Kf W w' [t, mm, dd, gg]) := Lib.hid (fun K hK W hW => by
    exact dopen_not (ln := ⟨dl B0 P0 DA (fun _ => 0) (ndS (nbE 0)) L9, Y0⟩) q p t mm dd gg 0 B0 P0 8 DA 8 N K g Y0 (VF 3) 2 (by decide) (by decide) (by decide) (by decide) (by omega) HTab.out HGG.out W hW
  )
  clear h1
  rotate_left
  by_cases h3 : x = 3
  subst h3
  have HNil := Lib.hid (fun W => dopen_nil 3 W)
  have HErr : Hid (∀ K, K < 400000000 → ∀ W, Gr W q p t mm dd gg 0 g B0 8 N ⟨dl B0 P0 DA (fun _ => 0) (ndS (nbE 0)) L9, Y0⟩ Y0 K → Calls Tryz.prog 39 #[.pointer (some ⟨q, 0, none⟩), .int .i64 3] W fun e w' => e = .returned (.tuple #[.pointer none, .int .i64 5]) ∧ Gr w' q p t mm dd gg 0 g B0 8 N ⟨dl B0 P0 DA (fun _ => 0) (ndS (nbE 0)) L9, Y0⟩ Y0 (K + 1) ∧ Kf W w' [t, mm, dd, gg]) := Lib.hid (fun K hK W hW => by
    exact dopen_not (ln := ⟨dl B0 P0 DA (fun _ => 0) (ndS (nbE 0)) L9, Y0⟩) q p t mm dd gg 0 B0 P0 8 DA 8 N K g Y0 (VF 3) 3 (by decide) (by decide) (by decide) (by decide) (by omega) HTab.out HGG.out W hW
  )
  clear h1 h2
  rotate_left
  by_cases h4 : x < 1
  have HNil := Lib.hid (fun W => dopen_nil x W)
  have HErr : Hid (∀ K, K < 400000000 → ∀ W, Gr W q p t mm dd gg 0 g B0 8 N ⟨dl B0 P0 DA (fun _ => 0) (ndS (nbE 0)) L9, Y0⟩ Y0 K → Calls Tryz.prog 39 #[.pointer (some ⟨q, 0, none⟩), .int .i64 x] W fun e w' => e = .returned (.tuple #[.pointer none, .int .i64 27]) ∧ Gr w' q p t mm dd gg 0 g B0 8 N ⟨dl B0 P0 DA (fun _ => 0) (ndS (nbE 0)) L9, Y0⟩ Y0 (K + 1) ∧ Kf W w' [t, mm, dd, gg]) := Lib.hid (fun K hK W hW => by
    refine (dopen_out (ln := ⟨dl B0 P0 DA (fun _ => 0) (ndS (nbE 0)) L9, Y0⟩) q p t mm dd gg 0 B0 P0 8 DA 8 N K g Y0 x (by omega) HGG.out W hW).mono ?_
    rintro e w' ⟨he, hb⟩
    exact ⟨he, (hW.keep hb).mono (Lm.le_refl _) (by omega), Kf.of_below hb _⟩
  )
  have h3x : ¬ 3 < x := by omega
  have hx23 : (x == 2 || x == 3) = false := by simp [h2, h3]
  rotate_left
  by_cases h5 : 8 < x
  have HNil := Lib.hid (fun W => dopen_nil x W)
  have HErr : Hid (∀ K, K < 400000000 → ∀ W, Gr W q p t mm dd gg 0 g B0 8 N ⟨dl B0 P0 DA (fun _ => 0) (ndS (nbE 0)) L9, Y0⟩ Y0 K → Calls Tryz.prog 39 #[.pointer (some ⟨q, 0, none⟩), .int .i64 x] W fun e w' => e = .returned (.tuple #[.pointer none, .int .i64 27]) ∧ Gr w' q p t mm dd gg 0 g B0 8 N ⟨dl B0 P0 DA (fun _ => 0) (ndS (nbE 0)) L9, Y0⟩ Y0 (K + 1) ∧ Kf W w' [t, mm, dd, gg]) := Lib.hid (fun K hK W hW => by
    refine (dopen_out (ln := ⟨dl B0 P0 DA (fun _ => 0) (ndS (nbE 0)) L9, Y0⟩) q p t mm dd gg 0 B0 P0 8 DA 8 N K g Y0 x (by omega) HGG.out W hW).mono ?_
    rintro e w' ⟨he, hb⟩
    exact ⟨he, (hW.keep hb).mono (Lm.le_refl _) (by omega), Kf.of_below hb _⟩
  )
  have hx23 : (x == 2 || x == 3) = false := by simp [h2, h3]
  have h3x : 3 < x := by omega
  have h8x : ¬ x ≤ 8 := by omega
  rotate_left
  have h3x : 3 < x := by omega
  have hx23 : (x == 2 || x == 3) = false := by simp [h2, h3]
  have h8x : x ≤ 8 := by omega
  have HNil := Lib.hid (fun W => dopen_nil x W)
  have HErr : Hid (∀ K, K < 400000000 → ∀ W, Gr W q p t mm dd gg 0 g B0 8 N ⟨dl B0 P0 DA (fun _ => 0) (ndS (nbE 0)) L9, Y0⟩ Y0 K → Calls Tryz.prog 39 #[.pointer (some ⟨q, 0, none⟩), .int .i64 x] W fun e w' => e = .returned (.tuple #[.pointer none, .int .i64 14]) ∧ Gr w' q p t mm dd gg 0 g B0 8 N ⟨dl B0 P0 DA (fun _ => 0) (ndS (nbE 0)) L9, Y0⟩ Y0 (K + 1) ∧ Kf W w' [t, mm, dd, gg]) := Lib.hid (fun K hK W hW => by
    obtain ⟨k, rfl⟩ := Int.eq_ofNat_of_zero_le (show 0 ≤ x by omega)
    exact dopen_free (ln := ⟨dl B0 P0 DA (fun _ => 0) (ndS (nbE 0)) L9, Y0⟩) q p t mm dd gg 0 B0 P0 8 DA 8 N K g Y0 (VF 3) k (by omega) (by omega) (by unfold VF; rw [if_neg (by omega)]; rfl) (by omega) HTab.out HGG.out W hW
  )
  all_goals (
   go_upto_region 14 with fail
   refine wp_region_held (S := fun W => Vl W bA (actc kn nm (nun : Int) tx rw)) (by kernel_rfl) ?_
   change wpAnyH _ _ _ _ _ _ _ _ (World.drew _)
   have hS0 : (fun W => Vl W bA (actc kn nm (nun : Int) tx rw)) w7.drew := FA7.out.keep (Below.refl _ _).drew
   have hbd3 : Below w7.heap.size w7 w7.drew := (Below.refl _ _).drew
   have HG8 := Lib.hid (HG7.out.keep hbd3)
   have HB8 := Lib.hid (HB7.out.trans (hbd3.mono HB7.out.size))
   obtain ⟨w8, hw8⟩ : ∃ x, World.drew w7 = x := ⟨_, rfl⟩
   rw [hw8] at hS0 HG8 HB8 ⊢
   clear hw8 hbd3 HG7 HB7 FA7
   refine wpAnyH_take (i := 0) (v := .agg (actc kn nm (nun : Int) tx rw).toArray) rfl (by kernel_rfl) (by kernel_rfl) (by kernel_rfl) (fun _ _ _ h => h) ?_ hS0 ?_
   · exact yieldsIf_load_mid (by rfl) 49 (.tmp 3) rfl bA 0 rfl (actc kn nm (nun : Int) tx rw) dA (fun W hW => hW.range0) HUA.out HDA.out Tryz.isizeAct
   simp only [Act.put, List.getElem_toArray, List.getElem_cons_zero, List.getElem_cons_succ, List.setIfInBounds_toArray, List.set_cons_zero, List.set_cons_succ]
   refine wpAnyH_take (i := 2) (v := ?_) rfl (by kernel_rfl) (by kernel_rfl) (by kernel_rfl) (fun _ _ _ h => h) (Or.inl ⟨by rfl, ?_⟩) hS0 ?_
   rotate_left 1
   · intro W hW
     go_simp
     try with_reducible rfl
   simp only [Act.put, List.getElem_toArray, List.getElem_cons_zero, List.getElem_cons_succ, List.setIfInBounds_toArray, List.set_cons_zero, List.set_cons_succ]
   refine wpAnyH_take (i := 3) (v := ?_) rfl (by kernel_rfl) (by kernel_rfl) (by kernel_rfl) (fun _ _ _ h => h) (Or.inl ⟨by rfl, ?_⟩) hS0 ?_
   rotate_left 1
   · intro W hW
     have c2 : W.cell? ⟨bA, 2, none⟩ = some (.int .u16 (nun : Int)) := hW.c 2 _ rfl
     go_simp
     try with_reducible rfl
   simp only [Act.put, List.getElem_toArray, List.getElem_cons_zero, List.getElem_cons_succ, List.setIfInBounds_toArray, List.set_cons_zero, List.set_cons_succ]
   refine wpAnyH_ready (rs := [1, 5]) (by kernel_rfl) (by simp) (AllReadyH.cons rfl (fun KK hKK => ?_) (AllReadyH.cons rfl (fun KK hKK => ?_) AllReadyH.nil))
   go_simp
   refine (HAn.out w8).mono ?_
   rintro r w9 ⟨rfl, hb⟩
   have HG9 := Lib.hid (HG8.out.keep hb)
   have HB9 := Lib.hid (HB8.out.trans (hb.mono HB8.out.size))
   replace hS0 : (fun W => Vl W bA (actc kn nm (nun : Int) tx rw)) w9 := hS0.keep hb
   clear hb HG8 HB8
   refine hKK _ _ hS0 ?_
   intro _
   clear hKK KK
   try simp only [Act.put, List.getElem_toArray, List.getElem_cons_zero, List.getElem_cons_succ, List.setIfInBounds_toArray, List.set_cons_zero, List.set_cons_succ]
   refine wpAnyH_take (i := 4) (v := .agg (enc (sN, nun)).toArray) rfl (by kernel_rfl) (by kernel_rfl) (by kernel_rfl) (fun _ _ _ h => h) ?_ hS0 ?_
   · exact yields_bld2 (by rfl) 58 0 1 (.tmp 64) (.tmp 66) rfl (.string sN) (.int .u16 (nun : Int)) rfl rfl _ (fun W => by
         exact Tryz.buildEn2 sN (nun : Int) W)
   simp only [Act.put, List.getElem_toArray, List.getElem_cons_zero, List.getElem_cons_succ, List.setIfInBounds_toArray, List.set_cons_zero, List.set_cons_succ]
   refine wpAnyH_ready (rs := [5]) (by kernel_rfl) (by simp) (AllReadyH.cons rfl (fun KK hKK => ?_) AllReadyH.nil)
   refine step_alloc_list rfl 58 (enc zE) rfl Tryz.zeroEn ?_
   intro wA FE hbA hzA
   obtain ⟨bE, hbE⟩ : ∃ x, w9.heap.size = x := ⟨_, rfl⟩
   have hE2 : w2.heap.size ≤ bE := by have := HB9.out.size; omega
   have hAE : bA < bE := by have := hS0.lt; omega
   have HNE : Hid (bE ∉ [q, p, t, mm, dd, gg]) := Lib.hid (HG9.out.notin (Nat.le_of_eq hbE))
   have hS1 : (fun W => Vl W bA (actc kn nm (nun : Int) tx rw)) wA := hS0.keep hbA
   have HGA := Lib.hid (HG9.out.keep hbA)
   have HBA := Lib.hid (HB9.out.trans (hbA.mono HB9.out.size))
   rw [hbE] at FE
   try rw [hbE]
   clear hS0 hbA hzA hbE HG9 HB9
   have hS0 := hS1
   clear hS1
   refine hKK _ _ hS0 ?_
   intro _
   clear hKK KK
   try simp only [Act.put, List.getElem_toArray, List.getElem_cons_zero, List.getElem_cons_succ, List.setIfInBounds_toArray, List.set_cons_zero, List.set_cons_succ]
   have PF := Lib.hid (FE.out.stored (enc (sN, nun)) rfl)
   refine wpAnyH_ready (rs := [6]) (by kernel_rfl) (by simp) (AllReadyH.cons rfl (fun KK hKK => ?_) AllReadyH.nil)
   refine step_store_mid rfl 58 _ _ rfl bE 0 (enc (sN, nun)).toArray rfl rfl (FE.out.there0 2 rfl) (sizeEn _) (all_oneCell_toArray (enc_one _)) ?_
   have hk : Kp wA (wA.setCells bE 0 (enc (sN, nun))) bE bE := (Kp.refl wA bE bE).setCells bE 0 (.inl rfl) _
   have hS1 : (fun W => Vl W bA (actc kn nm (nun : Int) tx rw)) (wA.setCells bE 0 (enc (sN, nun))) := hS0.kp hk (by omega) (by omega)
   have HG11 := Lib.hid (HGA.out.kp hk (HNE.out))
   have HB11 := Lib.hid (HBA.out.trans (hk.below (by omega) (by omega) HBA.out.size))
   obtain ⟨w11, hw11⟩ : ∃ x, wA.setCells bE 0 (enc (sN, nun)) = x := ⟨_, rfl⟩
   change KK _ (wA.setCells bE 0 (enc (sN, nun)))
   rw [hw11] at hS1 PF HG11 HB11 ⊢
   clear hw11 hk hS0 FE HGA HBA
   refine hKK _ _ hS1 ?_
   intro _
   clear hKK KK hS1
   refine wpAnyH_done (by kernel_rfl) ?_ _
   rotate_left
   refine step_alloc_list rfl 58 (enc zE) rfl Tryz.zeroEn ?_
   intro wA FE hbA hzA
   obtain ⟨bE, hbE⟩ : ∃ x, w8.heap.size = x := ⟨_, rfl⟩
   have hE2 : w2.heap.size ≤ bE := by have := HB8.out.size; omega
   have hAE : bA < bE := by have := hS0.lt; omega
   have HNE : Hid (bE ∉ [q, p, t, mm, dd, gg]) := Lib.hid (HG8.out.notin (Nat.le_of_eq hbE))
   have hS1 : (fun W => Vl W bA (actc kn nm (nun : Int) tx rw)) wA := hS0.keep hbA
   have HGA := Lib.hid (HG8.out.keep hbA)
   have HBA := Lib.hid (HB8.out.trans (hbA.mono HB8.out.size))
   rw [hbE] at FE
   try rw [hbE]
   clear hS0 hbA hzA hbE HG8 HB8
   have hS0 := hS1
   clear hS1
   refine hKK _ _ hS0 ?_
   intro _
   clear hKK KK
   try simp only [Act.put, List.getElem_toArray, List.getElem_cons_zero, List.getElem_cons_succ, List.setIfInBounds_toArray, List.set_cons_zero, List.set_cons_succ]
   refine wpAnyH_ready (rs := [1]) (by kernel_rfl) (by simp) (AllReadyH.cons rfl (fun KK hKK => ?_) AllReadyH.nil)
   go_simp
   refine (HAn.out wA).mono ?_
   rintro r w9 ⟨rfl, hb⟩
   have HG9 := Lib.hid (HGA.out.keep hb)
   have HB9 := Lib.hid (HBA.out.trans (hb.mono HBA.out.size))
   replace hS0 : (fun W => Vl W bA (actc kn nm (nun : Int) tx rw)) w9 := hS0.keep hb
   replace FE := Lib.hid (FE.out.keep hb)
   have hwA9 := hb.size
   clear hb HGA HBA
   refine hKK _ _ hS0 ?_
   intro _
   clear hKK KK
   try simp only [Act.put, List.getElem_toArray, List.getElem_cons_zero, List.getElem_cons_succ, List.setIfInBounds_toArray, List.set_cons_zero, List.set_cons_succ]
   refine wpAnyH_take (i := 4) (v := .agg (enc (sN, nun)).toArray) rfl (by kernel_rfl) (by kernel_rfl) (by kernel_rfl) (fun _ _ _ h => h) ?_ hS0 ?_
   · exact yields_bld2 (by rfl) 58 0 1 (.tmp 64) (.tmp 66) rfl (.string sN) (.int .u16 (nun : Int)) rfl rfl _ (fun W => by
         exact Tryz.buildEn2 sN (nun : Int) W)
   simp only [Act.put, List.getElem_toArray, List.getElem_cons_zero, List.getElem_cons_succ, List.setIfInBounds_toArray, List.set_cons_zero, List.set_cons_succ]
   have PF := Lib.hid (FE.out.stored (enc (sN, nun)) rfl)
   refine wpAnyH_ready (rs := [6]) (by kernel_rfl) (by simp) (AllReadyH.cons rfl (fun KK hKK => ?_) AllReadyH.nil)
   refine step_store_mid rfl 58 _ _ rfl bE 0 (enc (sN, nun)).toArray rfl rfl (FE.out.there0 2 rfl) (sizeEn _) (all_oneCell_toArray (enc_one _)) ?_
   have hk : Kp w9 (w9.setCells bE 0 (enc (sN, nun))) bE bE := (Kp.refl w9 bE bE).setCells bE 0 (.inl rfl) _
   have hS1 : (fun W => Vl W bA (actc kn nm (nun : Int) tx rw)) (w9.setCells bE 0 (enc (sN, nun))) := hS0.kp hk (by omega) (by omega)
   have HG11 := Lib.hid (HG9.out.kp hk (HNE.out))
   have HB11 := Lib.hid (HB9.out.trans (hk.below (by omega) (by omega) HB9.out.size))
   obtain ⟨w11, hw11⟩ : ∃ x, w9.setCells bE 0 (enc (sN, nun)) = x := ⟨_, rfl⟩
   change KK _ (w9.setCells bE 0 (enc (sN, nun)))
   rw [hw11] at hS1 PF HG11 HB11 ⊢
   clear hw11 hk hS0 FE HG9 HB9
   refine hKK _ _ hS1 ?_
   intro _
   clear hKK KK hS1
   refine wpAnyH_done (by kernel_rfl) ?_ _
   rotate_left
   all_goals (
     have HNEt : Hid (bE ∉ [t, mm, dd, gg]) := Lib.hid (fun ha => HNE.out (by simp only [List.mem_cons, List.not_mem_nil, or_false] at ha ⊢; omega))
     have cE0 : w11.cell? ⟨bE, 0, none⟩ = some (.string sN) := PF.out.c 0 _ rfl
     have cE1 : w11.cell? ⟨bE, 1, none⟩ = some (.int .u16 (nun : Int)) := PF.out.c 1 _ rfl
     have HCl := Lib.hid (dlist_err (.pointer (some ⟨q, 0, none⟩)) _ _ (by decide) (fun W W' => Gr W' q p t mm dd gg 0 g B0 8 N ⟨dl B0 P0 DA (fun _ => 0) (ndS (nbE 0)) L9, Y0⟩ Y0 (7000 + 0 + 1) ∧ Kf W W' [t, mm, dd, gg]) w11 (fun w1 w2 hb hr => ⟨hr.1, (Kf.of_below hb _).trans hr.2⟩) (fun W hb => HErr.out (7000 + 0) (by omega) W (HG11.out.keep hb)))
     go_wp2_with fail
     refine HCl.out.mono ?_
     rintro e w12 ⟨rfl, hG, hk⟩
     have HG12 := Lib.hid hG
     have HP12 := Lib.hid (PF.out.kf hk HNEt.out)
     have HB12 := Lib.hid (HB11.out.trans (hk.below (B := w2.heap.size) (fun a ha => by
         simp only [List.mem_cons, List.not_mem_nil, or_false] at ha
         omega) HB11.out.size))
     clear hk HCl cE0 cE1 PF HG11 HB11 hG
     have cE0 : w12.cell? ⟨bE, 0, none⟩ = some (.string sN) := HP12.out.c 0 _ rfl
     have cE1 : w12.cell? ⟨bE, 1, none⟩ = some (.int .u16 (nun : Int)) := HP12.out.c 1 _ rfl
     have HCl := Lib.hid (dfind_err (.pointer (some ⟨q, 0, none⟩)) _ _ sN (by decide) (fun W W' => Gr W' q p t mm dd gg 0 g B0 8 N ⟨dl B0 P0 DA (fun _ => 0) (ndS (nbE 0)) L9, Y0⟩ Y0 (7000 + 1 + 1) ∧ Kf W W' [t, mm, dd, gg]) w12 (fun w1 w2 hb hr => ⟨hr.1, (Kf.of_below hb _).trans hr.2⟩) (fun W hb => HErr.out (7000 + 1) (by omega) W (HG12.out.keep hb)))
     go_wp2_with fail
     refine HCl.out.mono ?_
     rintro e w13 ⟨rfl, hG, hk⟩
     have HG13 := Lib.hid hG
     have HP13 := Lib.hid (HP12.out.kf hk HNEt.out)
     have HB13 := Lib.hid (HB12.out.trans (hk.below (B := w2.heap.size) (fun a ha => by
         simp only [List.mem_cons, List.not_mem_nil, or_false] at ha
         omega) HB12.out.size))
     clear hk HCl cE0 cE1 HP12 HG12 HB12 hG
     have cE0 : w13.cell? ⟨bE, 0, none⟩ = some (.string sN) := HP13.out.c 0 _ rfl
     have cE1 : w13.cell? ⟨bE, 1, none⟩ = some (.int .u16 (nun : Int)) := HP13.out.c 1 _ rfl
     have HCl := Lib.hid (dempty_err (.pointer (some ⟨q, 0, none⟩)) _ _ (by decide) (fun W W' => Gr W' q p t mm dd gg 0 g B0 8 N ⟨dl B0 P0 DA (fun _ => 0) (ndS (nbE 0)) L9, Y0⟩ Y0 (7000 + 2 + 1) ∧ Kf W W' [t, mm, dd, gg]) w13 (fun w1 w2 hb hr => ⟨hr.1, (Kf.of_below hb _).trans hr.2⟩) (fun W hb => HErr.out (7000 + 2) (by omega) W (HG13.out.keep hb)))
     go_wp2_with fail
     refine HCl.out.mono ?_
     rintro e w14 ⟨rfl, hG, hk⟩
     have HG14 := Lib.hid hG
     have HP14 := Lib.hid (HP13.out.kf hk HNEt.out)
     have HB14 := Lib.hid (HB13.out.trans (hk.below (B := w2.heap.size) (fun a ha => by
         simp only [List.mem_cons, List.not_mem_nil, or_false] at ha
         omega) HB13.out.size))
     clear hk HCl cE0 cE1 HP13 HG13 HB13 hG
     have cE0 : w14.cell? ⟨bE, 0, none⟩ = some (.string sN) := HP14.out.c 0 _ rfl
     have cE1 : w14.cell? ⟨bE, 1, none⟩ = some (.int .u16 (nun : Int)) := HP14.out.c 1 _ rfl
     have HCl := Lib.hid (dlist_err (.pointer none) _ 1 (by decide) (fun W W' => Below W.heap.size W W') w14 (fun w1 w2 hb hr => hb.trans (hr.mono hb.size)) (fun W hb => HNil.out W))
     go_wp2_with fail
     refine HCl.out.mono ?_
     rintro e w15 ⟨rfl, hb⟩
     have hk : Kf w14 w15 [t, mm, dd, gg] := Kf.of_below hb _
     have HG15 := Lib.hid ((HG14.out.keep hb).mono (Lm.le_refl _) (show 7000 + 3 ≤ 7000 + 3 + 1 by omega))
     have HP15 := Lib.hid (HP14.out.kf hk HNEt.out)
     have HB15 := Lib.hid (HB14.out.trans (hk.below (B := w2.heap.size) (fun a ha => by
         simp only [List.mem_cons, List.not_mem_nil, or_false] at ha
         omega) HB14.out.size))
     clear hk HCl cE0 cE1 HP14 HG14 HB14 hb
     have cE0 : w15.cell? ⟨bE, 0, none⟩ = some (.string sN) := HP15.out.c 0 _ rfl
     have cE1 : w15.cell? ⟨bE, 1, none⟩ = some (.int .u16 (nun : Int)) := HP15.out.c 1 _ rfl
     have HCl := Lib.hid (dadd_err (.pointer (some ⟨q, 0, none⟩)) _ _ (sN, nun) (by decide) (fun W W' => Gr W' q p t mm dd gg 0 g B0 8 N ⟨dl B0 P0 DA (fun _ => 0) (ndS (nbE 0)) L9, Y0⟩ Y0 (7000 + 4 + 1) ∧ Kf W W' [t, mm, dd, gg]) w15 (fun w1 w2 hb hr => ⟨hr.1, (Kf.of_below hb _).trans hr.2⟩) (fun W hb => HErr.out (7000 + 4) (by omega) W (HG15.out.keep hb)))
     go_wp2_with fail
     refine HCl.out.mono ?_
     rintro e w16 ⟨rfl, hG, hk⟩
     have HG16 := Lib.hid hG
     have HP16 := Lib.hid (HP15.out.kf hk HNEt.out)
     have HB16 := Lib.hid (HB15.out.trans (hk.below (B := w2.heap.size) (fun a ha => by
         simp only [List.mem_cons, List.not_mem_nil, or_false] at ha
         omega) HB15.out.size))
     clear hk HCl cE0 cE1 HP15 HG15 HB15 hG
     have cE0 : w16.cell? ⟨bE, 0, none⟩ = some (.string sN) := HP16.out.c 0 _ rfl
     have cE1 : w16.cell? ⟨bE, 1, none⟩ = some (.int .u16 (nun : Int)) := HP16.out.c 1 _ rfl
     have HCl := Lib.hid (ddrop_err (.pointer (some ⟨q, 0, none⟩)) _ _ sN (by decide) (fun W W' => Gr W' q p t mm dd gg 0 g B0 8 N ⟨dl B0 P0 DA (fun _ => 0) (ndS (nbE 0)) L9, Y0⟩ Y0 (7000 + 5 + 1) ∧ Kf W W' [t, mm, dd, gg]) w16 (fun w1 w2 hb hr => ⟨hr.1, (Kf.of_below hb _).trans hr.2⟩) (fun W hb => HErr.out (7000 + 5) (by omega) W (HG16.out.keep hb)))
     go_wp2_with fail
     refine HCl.out.mono ?_
     rintro e w17 ⟨rfl, hG, hk⟩
     have HG17 := Lib.hid hG
     have HP17 := Lib.hid (HP16.out.kf hk HNEt.out)
     have HB17 := Lib.hid (HB16.out.trans (hk.below (B := w2.heap.size) (fun a ha => by
         simp only [List.mem_cons, List.not_mem_nil, or_false] at ha
         omega) HB16.out.size))
     clear hk HCl cE0 cE1 HP16 HG16 HB16 hG
     have cE0 : w17.cell? ⟨bE, 0, none⟩ = some (.string sN) := HP17.out.c 0 _ rfl
     have cE1 : w17.cell? ⟨bE, 1, none⟩ = some (.int .u16 (nun : Int)) := HP17.out.c 1 _ rfl
     have HCl := Lib.hid (dturn_err (.pointer (some ⟨q, 0, none⟩)) _ _ (sN, nun) (by decide) (fun W W' => Gr W' q p t mm dd gg 0 g B0 8 N ⟨dl B0 P0 DA (fun _ => 0) (ndS (nbE 0)) L9, Y0⟩ Y0 (7000 + 6 + 1) ∧ Kf W W' [t, mm, dd, gg]) w17 (fun w1 w2 hb hr => ⟨hr.1, (Kf.of_below hb _).trans hr.2⟩) (fun W hb => HErr.out (7000 + 6) (by omega) W (HG17.out.keep hb)))
     go_wp2_with fail
     refine HCl.out.mono ?_
     rintro e w18 ⟨rfl, hG, hk⟩
     have HG18 := Lib.hid hG
     have HP18 := Lib.hid (HP17.out.kf hk HNEt.out)
     have HB18 := Lib.hid (HB17.out.trans (hk.below (B := w2.heap.size) (fun a ha => by
         simp only [List.mem_cons, List.not_mem_nil, or_false] at ha
         omega) HB17.out.size))
     clear hk HCl cE0 cE1 HP17 HG17 HB17 hG
     have cE0 : w18.cell? ⟨bE, 0, none⟩ = some (.string sN) := HP18.out.c 0 _ rfl
     have cE1 : w18.cell? ⟨bE, 1, none⟩ = some (.int .u16 (nun : Int)) := HP18.out.c 1 _ rfl
     have HCl := Lib.hid (dadd_err (.pointer none) _ 1 (sN, nun) (by decide) (fun W W' => Below W.heap.size W W') w18 (fun w1 w2 hb hr => hb.trans (hr.mono hb.size)) (fun W hb => HNil.out W))
     go_wp2_with fail
     refine HCl.out.mono ?_
     rintro e w19 ⟨rfl, hb⟩
     have hk : Kf w18 w19 [t, mm, dd, gg] := Kf.of_below hb _
     have HG19 := Lib.hid ((HG18.out.keep hb).mono (Lm.le_refl _) (show 7000 + 7 ≤ 7000 + 7 + 1 by omega))
     have HP19 := Lib.hid (HP18.out.kf hk HNEt.out)
     have HB19 := Lib.hid (HB18.out.trans (hk.below (B := w2.heap.size) (fun a ha => by
         simp only [List.mem_cons, List.not_mem_nil, or_false] at ha
         omega) HB18.out.size))
     clear hk HCl cE0 cE1 HP18 HG18 HB18 hb
     go_wp2_with fail
     go_ret
     exact ⟨rfl, HB2.out.trans (HB19.out.mono hw2)⟩))
end Go.Proofs.YtgfgdfcedmcjeaaGreatDoor
