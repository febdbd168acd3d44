import Derived.Test.YtgfgdfcedmcjeaaGreatDoorN20
import Derived.Deep.DeepAppendRoom
import Derived.Laws.OwnMore
import Derived.Test.YtgfgdfcedmcjeaaGreatDoorN18
import Derived.Laws.IdiomStrings
import Derived.Laws.AppendOwnNone
import Derived.Test.YtgfgdfcedmcjeaaGreatDoorN15
import Derived.Test.YtgfgdfcedmcjeaaGreatDoorN4
/- Files: Read. -/
/- Files: the laws: a small configuration, Awake. -/
/- Files: Awake. -/
/- Files: bytes as handed in; as strings; appended. -/
/- Directories: Unpack. -/
/- Files: does a way pass a block. -/

namespace Go.Proofs.YtgfgdfcedmcjeaaGreatDoor
set_option linter.unusedSimpArgs false
set_option linter.unusedVariables false
open Go.RowKit Go.Maps

variable {ln : Lm}
theorem ownsRow_kf {w w' : World} {L : List Nat} {base : Nat} {e : TypeId} {size n g c : Nat} {xs : List Value} (h : w.ownsRow base e size (.slice (some ⟨g, 0, none⟩) n c) n xs) (hk : Kf w w' L) (hg : g ∉ L) : w'.ownsRow base e size (.slice (some ⟨g, 0, none⟩) n c) n xs := by
  refine ⟨h.1, ?_⟩
  rcases h.2 with hn | ⟨g', cap, cur, hv, hb, hgg, rest⟩
  · exact .inl hn
  · refine .inr ⟨g', cap, cur, hv, hb, ?_, rest⟩
    injection hv with h1 h2 h3
    injection h1 with h4
    injection h4 with h5
    subst h5
    rw [hk.block g (Array.getElem?_eq_some_iff.1 hgg).1 hg]
    exact hgg
theorem ownsRow_kp {w w' : World} {x base : Nat} {e : TypeId} {size n g c : Nat} {xs : List Value} (h : w.ownsRow base e size (.slice (some ⟨g, 0, none⟩) n c) n xs) (hk : Kp w w' x x) (hg : g ≠ x) : w'.ownsRow base e size (.slice (some ⟨g, 0, none⟩) n c) n xs :=
  ownsRow_kf h (Kf.of_kp hk (L := [x]) (by simp) (by simp)) (by simpa using hg)
theorem Kp.of_grown {w w' : World} {g : Nat} (h : w.grownBy w' (some g)) : Kp w w' g g :=
  ⟨h.os, h.tape, h.output, h.size, fun k hk h1 _ => h.block k hk (by simpa using h1)⟩
theorem ownsRow_lt {w : World} {base : Nat} {e : TypeId} {size n g c : Nat} {xs : List Value} (h : w.ownsRow base e size (.slice (some ⟨g, 0, none⟩) n c) n xs) : base ≤ g ∧ g < w.heap.size := World.ownsRow.lt h g rfl
theorem fl_of_owns {w : World} {base n g c : Nat} {F : Nat → Int} (h : w.ownsRow base 5 1 (.slice (some ⟨g, 0, none⟩) n c) n (byts n F)) : Fl w g n F :=
  ⟨(ownsRow_lt h).2, fun j hj => by
    rw [World.ownsRow.cellAt h j (by omega)]
    exact byts_get F hj, fun j _ => World.ownsRow.frozenAt h j⟩
theorem Tryz.info5i : ∃ i, Tryz.prog.info? 5 = some i ∧ i.zero = some (.int .u8 0) ∧ i.size = 1 ∧ i.bytes = 1 := by
  have h : (Tryz.prog.info? 5).map (fun i => (i.zero, i.size, i.bytes)) = some (some (.int .u8 0), 1, 1) := by kernel_rfl
  obtain ⟨i, hi, he⟩ := Option.map_eq_some_iff.1 h
  simp only [Prod.mk.injEq] at he
  exact ⟨i, hi, he.1, he.2.1, he.2.2⟩
theorem run_make8 (w : World) (c : Nat) (hc : c ≤ 65536) : (Instr.makeSlice 27 (.int .i64 0) (.int .i64 (c : Int))).run Tryz.prog w = .ok (.slice (some ⟨w.heap.size, 0, none⟩) 0 c) (w.alloc (.cells (madeCells #[.int .u8 0] c) 5)) := by
  obtain ⟨i, hi, hz, hs, hb⟩ := Tryz.info5i
  have := run_make (P := Tryz.prog) w 27 5 i _ (by kernel_rfl) hi hz .i64 .i64 0 c (by omega) (by omega) (by rw [hb]; omega) (by omega)
  simp only [hs, Int.toNat_natCast, Int.toNat_zero, Nat.mul_one] at this
  exact this
set_option maxHeartbeats 40000000 in
set_option maxRecDepth 200000 in
theorem fread_in (q p t m d gg lab B0 P0 M DA NB N K : Nat) (g : Cf.Ge) (Y V : Nat → Nat → Int) (num : Nat) (h1 : 1 ≤ num) (h2 : num ≤ M) (hkd : ¬ V num 0 = 0) (sz : Nat) (hsz : V num 3 = sz) (hsz2 : sz ≤ 16384) (b0 : Nat → Nat) (S0 : Nat → Bool)
    (hFu : Fi DA NB Y (V num) S0 b0) (hS0 : ∀ c, 64 * c < sz → S0 c = true) (hI : Tab P0 M Y V) (hK : K < 200000000) (hg : GG g B0 P0 M DA NB N) (w : World) (h : Gr w q p t m d gg lab g B0 NB N ln Y K)
    (off : Nat) (ho : off ≤ 100000) (mi : Int) (m0 : 0 ≤ mi) (m1 : mi < 9223372036854775808) (cnt : Nat) (hcnt : (cnt : Int) = min mi (max ((sz : Int) - off) 0)) :
    Calls Tryz.prog 71 #[.pointer (some ⟨q, 0, none⟩), .int .i64 num, .int .i64 off, .int .i64 mi] w fun e w' => ∃ bR, e = .returned (.tuple #[.slice (some ⟨bR, 0, none⟩) cnt cnt, .int .i64 0]) ∧ w.heap.size ≤ bR ∧ Fl w' bR cnt (fun i => ctF DA Y b0 (off + i)) ∧ Gr w' q p t m d gg lab g B0 NB N ln Y (K + 1000) ∧ Kf w w' [t, m, d, gg] := by
  obtain ⟨i5, hi5, hz5, hs5, hb5⟩ := Tryz.info5i
  have HI5 := Lib.hid hi5
  have HS5 := Lib.hid hs5
  have HO := Lib.hid (fopen_in (ln := ln) q p t m d gg lab B0 P0 M DA NB N K g Y V num h1 h2 hkd (by omega) hI hg w h)
  obtain ⟨f0, hf⟩ : ∃ f, V num = f := ⟨_, rfl⟩
  rw [hf] at HO hsz hFu
  have HSz := Lib.hid (fun b q W hW => size_any b q f0 (by omega) (by omega) W hW)
  rw [hsz] at HSz
  have HRD := Lib.hid (fun b K' o ho' hS hK' W hW => read_slot (ln := ln) b q p t m d gg lab B0 P0 M DA NB N K' g Y f0 S0 b0 hFu o ho' hS hK' hg W hW)
  have HFi := Lib.hid hFu
  have HS0 := Lib.hid hS0
  have h0lt : ∀ a ∈ [q, p, t, m, d, gg], a < w.heap.size := fun a ha => by
    obtain ⟨l1, l2, l3, l4, l5, l6⟩ := h.lts
    simp only [List.mem_cons, List.not_mem_nil, or_false] at ha
    rcases ha with rfl | rfl | rfl | rfl | rfl | rfl <;> assumption
  have H0 := Lib.hid h0lt
  have hcs : cnt ≤ 16384 ∧ (cnt = 0 ∨ off + cnt ≤ sz) := by omega
  have HCN := Lib.hid hcnt
  obtain ⟨zi, hzi⟩ : ∃ z : Int, (sz : Int) = z := ⟨_, rfl⟩
  rw [hzi] at HSz HCN
  have HZI := Lib.hid hzi
  have hz0 : 0 ≤ zi := by omega
  have hz1 : zi ≤ 16384 := by omega
  obtain ⟨oi, hoi⟩ : ∃ z : Int, (off : Int) = z := ⟨_, rfl⟩
  rw [hoi] at HCN ⊢
  have HOI := Lib.hid hoi
  have ho0 : 0 ≤ oi := by omega
  have ho1 : oi ≤ 100000 := by omega
  clear h1 h2 hkd hsz hFu hI hg h hf h0lt hzi hoi hcnt hS0 hi5 hz5 hs5 hb5
  go_enter Tryz.func71, Tryz.ntmps71
  go_wp2_with fail
  refine HO.out.mono ?_
  rintro e w1 ⟨b, rfl, hb, hG, hVb, hk⟩
  have HB1 := Lib.hid (Bo.start H0.out hb hG hVb)
  have HK1 := Lib.hid hk
  have HS1 := Lib.hid (HSz.out b q w1 hVb)
  have hbw := hVb.lt
  clear hG hVb hk HO HSz
  have d1 : decide (oi < 0) = false := decide_eq_false (by omega)
  have d2 : decide (mi < 0) = false := decide_eq_false (by omega)
  go_wp2_with fail
  refine HS1.out.mono ?_
  rintro e wz ⟨rfl, hwz⟩
  rw [hwz]
  clear hwz HS1
  have hcn : min mi (max (zi - oi) 0) = (cnt : Int) := HCN.out.symm
  have hmk := run_make8 w1 cnt (by omega)
  go_upto_region 8 with fail
  have hO2 : (w1.alloc (.cells (madeCells #[.int .u8 0] cnt) 5)).ownsRow w1.heap.size 5 1 (.slice (some ⟨w1.heap.size, 0, none⟩) 0 cnt) 0 [] := World.ownsRow_made w1 _ cnt (Nat.le_refl _) (by unfold maxLen; omega) (by simp [madeCells])
  have hb2 : Below w1.heap.size w1 (w1.alloc (.cells (madeCells #[.int .u8 0] cnt) 5)) := (Below.refl _ _).alloc (Nat.le_refl _) _
  have HB2 := Lib.hid (HB1.out.keep hb2)
  have HO2 := Lib.hid hO2
  obtain ⟨w2, hw2⟩ : ∃ x, w1.alloc (.cells (madeCells #[.int .u8 0] cnt) 5) = x := ⟨_, rfl⟩
  obtain ⟨bR, hbR⟩ : ∃ x, w1.heap.size = x := ⟨_, rfl⟩
  have hR0 : w1.heap.size ≤ bR := Nat.le_of_eq hbR
  rw [hw2] at HB2 HO2
  try rw [hw2]
  rw [hbR] at HO2
  try rw [hbR]
  clear hw2 hmk hcn hO2 hb2 HB1
  have HO3 : Hid (w2.ownsRow bR 5 1 (.slice (some ⟨bR, 0, none⟩) 0 cnt) 0 (byts 0 fun j => ctF DA Y b0 (off + j))) := HO2
  clear HO2
  go_loopw [12, 13, 14, 15, 16, 17] (fun bs _ _ _ _ _ wr => ∃ i : Nat, i ≤ cnt ∧ bs = .slice (some ⟨bR, 0, none⟩) i cnt ∧ (∃ k, Bo w1 wr b q p t m d gg lab g B0 NB N ln Y (K + 1 + 3 * k) f0 ∧ k ≤ (off + i + 63) / 64 - off / 64 ∧ (i = 0 ∧ k = 0 ∨ (off + i) % 64 = 0 ∨ i = cnt)) ∧ wr.ownsRow bR 5 1 (.slice (some ⟨bR, 0, none⟩) i cnt) i (byts i fun j => ctF DA Y b0 (off + j))) (fun bs _ _ _ _ _ _ => cnt - (match bs with | .slice _ n _ => n | _ => 0))
  case atStart => exact ⟨0, Nat.zero_le _, rfl, ⟨0, HB2.out, Nat.zero_le _, .inl ⟨rfl, rfl⟩⟩, HO3.out⟩
  case round =>
    obtain ⟨i, hi, rfl, ⟨k, hB, hk, hk3⟩, hO⟩ := hrel
    have HBr := Lib.hid hB
    have HOr := Lib.hid hO
    clear hB hO HB2 HO3
    have hi0 : (0 : Int) ≤ i := by omega
    have hc0 : (cnt : Int) ≤ 16384 := by omega
    by_cases hlt : i < cnt
    · have hic : (i : Int) < cnt := by omega
      have ha16 : off + i < 16384 := by omega
      have hk258 : k ≤ 257 := by omega
      have hS := HS0.out ((off + i) / 64) (by omega)
      have hRd := HRD.out b (K + 1 + 3 * k) (off + i) ha16 hS (by omega) wr HBr.out.self
      obtain ⟨V, hV⟩ : ∃ V, Y (DA + (b0 ((off + i) / 64) - 1)) = V := ⟨_, rfl⟩
      rw [hV] at hRd
      obtain ⟨ai, hai⟩ : ∃ z : Int, oi + (i : Int) = z := ⟨_, rfl⟩
      have hai2 : ((off + i : Nat) : Int) = ai := by have := HOI.out; omega
      rw [hai2] at hRd
      have HRd := Lib.hid hRd
      have ha0 : 0 ≤ ai := by omega
      have ha1 : ai < 16384 := by omega
      obtain ⟨r, hr⟩ : ∃ r, (off + i) % 64 = r := ⟨_, rfl⟩
      have hr64 : r < 64 := by omega
      have HR : Hid (ai % 64 = (r : Int)) := Lib.hid (by omega)
      obtain ⟨mm, hmm⟩ : ∃ mm, min (64 - r) (cnt - i) = mm := ⟨_, rfl⟩
      have hm1 : mm ≤ 64 - r ∧ mm ≤ cnt - i ∧ 0 < mm ∧ (mm = 64 - r ∨ mm = cnt - i) := by omega
      have HM : Hid (min ((64 - r : Nat) : Int) ((cnt : Int) - i) = (mm : Int)) := Lib.hid (by omega)
      have HV := Lib.hid hV
      have HA2 := Lib.hid hai2
      have HRr := Lib.hid hr
      clear hRd hV hai2 hr hmm hS
      go_wp2_with fail
      clear hai
      refine HRd.out.mono ?_
      rintro e w3 ⟨rfl, hB3⟩
      have HB3 := Lib.hid (HBr.out.trans hB3)
      have hRn : bR ∉ [t, m, d, gg, b] := fun ha => by
        have := HBr.out.nin hR0
        simp only [List.mem_cons, List.not_mem_nil, or_false, not_or] at this ha
        omega
      have HO3 := Lib.hid (ownsRow_kf HOr.out hB3.kf hRn)
      have hs3 : w1.heap.size ≤ w3.heap.size := HB3.out.kf.size
      clear hB3 HRd HBr HOr hRn
      go_upto_region 11 with (first | (refine wpList_alloc_byts (w := w3) rfl 157 64 rfl Tryz.zero36 ?_; intro w5 F5 hb5 hz5; simp only [Act.put, List.getElem_toArray, List.getElem_cons_zero, List.getElem_cons_succ, List.setIfInBounds_toArray, List.set_cons_zero, List.set_cons_succ]) | (refine wpList_store_blk rfl (.tmp 15) (.tmp 55) rfl w3.heap.size 0 64 (fun _ => 0) V F5.out (by omega) rfl rfl ?_; intro w6 F6 HK6; have HB5 := Lib.hid hb5; clear hb5 F5))
      obtain ⟨bB, hbB⟩ : ∃ x, w3.heap.size = x := ⟨_, rfl⟩
      have hB0 : w1.heap.size ≤ bB := by omega
      have hRl := (ownsRow_lt HO3.out).2
      have HB6 := Lib.hid ((HB3.out.keep HB5.out).new HK6.out (by omega))
      have HO6 := Lib.hid (ownsRow_kp (ownsRow_below HO3.out HB5.out) HK6.out (by omega))
      have F6' := Lib.hid (F6.out.congr (fun j hj => upd_zero 64 V j hj _))
      rw [hbB] at F6' hRl
      try rw [hbB]
      clear F6 HK6 HB5 HB3 HO3 hbB hz5 hs3
      have hrr := HR.out
      have hr0 : (0 : Int) ≤ r := by omega
      have hr1 : (r : Int) < 64 := by omega
      have hr2 : (r : Int) ≤ 64 := by omega
      have hmw := HM.out
      have hm0 : (0 : Int) ≤ mm := by omega
      have hm2 : (mm : Int) ≤ ((64 - r : Nat) : Int) := by omega
      have hcl : (byts mm fun j => V (r + j)).length = mm * 1 := by rw [byts_len, Nat.mul_one]
      have hcn : ∀ j u, (byts mm fun j => V (r + j))[j]? = some u → w6.cell? ((⟨bB, r, none⟩ : Addr).add j) = some u := fun j u hj => by
        obtain ⟨h1, rfl⟩ := byts_of hj
        rw [Addr.add_mid]
        exact F6'.out.c (r + j) (by omega)
      have HCL := Lib.hid hcl
      have HCn := Lib.hid hcn
      clear hcl hcn
      have hroom : i + mm ≤ cnt := by omega
      go_wp2_with (at_builtin; refine wpList_append_own_spare _ rfl _ _ 27 rfl bR 5 i5 1 Tryz.sl34 HI5.out HS5.out bR i cnt _ rfl HO6.out ⟨bB, r, none⟩ mm (64 - r) (byts mm fun j => V (r + j)) rfl HCL.out HCn.out (byts_one _ _) hroom ?_; intro w7 hown7 hgr7; have HOw7 := Lib.hid hown7; have HB7 := Lib.hid (HB6.out.new (Kp.of_grown hgr7) hR0); clear hown7 hgr7)
      go_roundw
      case rel =>
        have hrr2 := HRr.out
        refine ⟨i + mm, by omega, rfl, ⟨k + 1, HB7.out.mono (Lm.le_refl _) (by omega), by omega, by omega⟩, ?_⟩
        have hcg : byts mm (fun j => V (r + j)) = byts mm (fun j => ctF DA Y b0 (off + (i + j))) := byts_congr fun j hj => by
          have hrr := HRr.out
          unfold ctF
          rw [show (off + (i + j)) / 64 = (off + i) / 64 by omega, show (off + (i + j)) % 64 = r + j by omega, HV.out]
        rw [byts_append, ← hcg]
        exact HOw7.out
      case measure => simp; omega
    · obtain rfl : i = cnt := by omega
      go_wp2_with fail
      go_ret2
      refine ⟨bR, rfl, by have := HK1.out.size; omega, fl_of_owns HOr.out, HBr.out.gr.mono (Lm.le_refl _) (by omega), HK1.out.join HBr.out.kf (fun a ha => ?_)⟩
      simp only [List.mem_cons, List.not_mem_nil, or_false] at ha ⊢
      omega
end Go.Proofs.YtgfgdfcedmcjeaaGreatDoor

namespace Go.Proofs.YtgfgdfcedmcjeaaGreatDoor
set_option linter.unusedSimpArgs false
set_option linter.unusedVariables false
open Go.RowKit Go.Maps

def H8 : Nat → Nat → Int := fun i j => if i = 0 ∧ j = 0 then 59 else if i = 1 ∧ j = 0 then 10 else 0
theorem H8_ok : Cf.Hok H8 := fun i j _ _ => by
  unfold H8
  split
  · decide
  · split <;> decide
def R8 : List Cf.Rg := Cf.sizeRs 2 H8
theorem R8_len : R8.length = 2 := Cf.sizeRs_len 2 (.inl rfl) H8
theorem R8_small : ∀ r ∈ R8, Cf.Small r := Cf.size_small 2 (.inl rfl) H8 H8_ok
/-- what is known of that configuration, and of its first label's group -/
structure C8 (N : Nat) (g : Cf.Ge) (B0 P0 DA : Nat) : Prop where
  hN : (Cf.layF R8).2 = N
  n0 : 32 ≤ N
  n1 : N ≤ 65536
  hg : (Cf.layF R8).1[0]'(by rw [Cf.lay_len, R8_len]; decide) = g
  gg : GG g B0 P0 8 DA 67 N
theorem c8 : ∃ N g B0 P0 DA, C8 N g B0 P0 DA := by
  have hT := Cf.layF_range R8 R8_small R8.length (Nat.le_refl _)
  rw [List.take_length] at hT
  have hl := R8_len
  obtain ⟨N, hN⟩ := Int.eq_ofNat_of_zero_le (show 0 ≤ (Cf.layF R8).2 by omega)
  obtain ⟨g, hgi⟩ : ∃ g, (Cf.layF R8).1[0]'(by rw [Cf.lay_len, R8_len]; decide) = g := ⟨_, rfl⟩
  obtain ⟨B0, P0, M, DA, NB, hg, hbl, hnd⟩ := geo_gg R8 R8_small (by rw [hl]; decide) N hN 0 (by rw [hl]; decide) g hgi
  have e1 : (R8[0]'(by rw [hl]; decide)).bl = 67 := by kernel_rfl
  have e2 : (R8[0]'(by rw [hl]; decide)).nd = 8 := by kernel_rfl
  rw [e1] at hbl
  rw [e2] at hnd
  obtain rfl : NB = 67 := by omega
  obtain rfl : M = 8 := by omega
  exact ⟨N, g, B0, P0, DA, hN, by omega, by omega, hgi, hg⟩
/-- a node that has no blocks -/
theorem Fu.none (B0 DA NB : Nat) (Y : Nat → Nat → Int) (f : Nat → Int) (b : Nat → Nat) (hf : ∀ i, 4 ≤ i → i < 12 → f i = 0) : Fu B0 DA NB Y f (ndS 0) b := by
  have hno : ∀ c, ndS 0 c = true → False := fun c hc => by
    rw [ndS_iff] at hc
    omega
  refine ⟨⟨fun c hc => (hno c hc).elim, fun c hc => ?_, fun c _ _ hc => (hno _ hc).elim, fun c _ hc => (hno c hc).elim, fun c hc => (hno c hc).elim, fun c c' hc => (hno c hc).elim⟩, fun c hc => (hno c hc).elim⟩
  rw [if_neg (fun hh => hno c hh)]
  exact hf _ (rtI_lt c hc).1 (rtI_lt c hc).2
theorem own_noblocks (k : Int) (i : Nat) (h4 : 4 ≤ i) : own k i = 0 := by
  unfold own
  rw [if_neg (by omega), if_neg (by omega), if_neg (by omega)]
/-- blocks that lack, though few are wanted: that can't be -/
theorem no_space (NB : Nat) (n : Nat → Bool) (B : Nat → Nat) (Ls : List Nat) (hLs : ∀ c, n c = true → c ∈ Ls) (hall : ∀ j, j < NB → ∃ c, n c = true ∧ B c = j + 1) : NB ≤ Ls.length := by
  have hch : ∃ f : Nat → Nat, ∀ j, j < NB → n (f j) = true ∧ B (f j) = j + 1 := by
    refine ⟨fun j => if h : j < NB then Classical.choose (hall j h) else 0, fun j hj => ?_⟩
    simp only [dif_pos hj]
    exact Classical.choose_spec (hall j hj)
  obtain ⟨f, hf⟩ := hch
  have h1 : ((List.range NB).map f).Nodup := by
    unfold List.Nodup
    rw [List.pairwise_map]
    refine List.Pairwise.imp_of_mem (R := fun a b => a ≠ b) (fun {a b} ha hb hab he => hab ?_) (List.nodup_range (n := NB))
    have h1 := (hf a (List.mem_range.1 ha)).2
    have h2 := (hf b (List.mem_range.1 hb)).2
    rw [he] at h1
    omega
  have := nodup_le _ Ls h1 (fun a ha => by
    obtain ⟨j, hj, rfl⟩ := List.mem_map.1 ha
    exact hLs _ (hf j (List.mem_range.1 hj)).1)
  simpa using this
end Go.Proofs.YtgfgdfcedmcjeaaGreatDoor

namespace Go.Proofs.YtgfgdfcedmcjeaaGreatDoor
set_option linter.unusedSimpArgs false
set_option linter.unusedVariables false
open Go.RowKit Go.Maps

theorem Src.made (w : World) (sb n : Nat) (s : Nat → Int) (L : List Nat) (hF : Fl w sb n s) (hn : n ≤ maxLen) (hL : sb ∉ L) : Src w (.slice (some ⟨sb, 0, none⟩) n n) n s L :=
  ⟨_, n, rfl, Nat.le_refl _, hn, fun _ => ⟨sb, 0, rfl, ⟨hF.lt, fun j hj => by rw [Nat.zero_add]; exact hF.c j hj⟩, hL⟩⟩
end Go.Proofs.YtgfgdfcedmcjeaaGreatDoor

namespace Go.Proofs.YtgfgdfcedmcjeaaGreatDoor
set_option linter.unusedSimpArgs false
set_option linter.unusedVariables false
open Go.RowKit Go.Maps

def strOf (n : Nat) (s : Nat → Int) : ByteArray := ⟨((List.range n).map fun j => UInt8.ofNat (s j).toNat).toArray⟩
/-- a slice of bytes as handed in: nil, or empty, or some bytes -/
def B8 (w : World) (pa : Option Addr) (n c : Nat) (s : Nat → Int) : Prop :=
  (pa = none ∧ n = 0 ∧ c = 0) ∨ (∃ ad, pa = some ad ∧ n = 0) ∨ ∃ b off, pa = some ⟨b, off, none⟩ ∧ b < w.heap.size ∧ ∀ j, j < n → w.cell? ⟨b, off + j, none⟩ = some (.int .u8 (s j))
theorem B8.keep {w w' : World} {pa : Option Addr} {n c : Nat} {s : Nat → Int} (h : B8 w pa n c s) (hb : Below w.heap.size w w') : B8 w' pa n c s := by
  rcases h with h | h | ⟨b, off, h1, h2, h3⟩
  · exact .inl h
  · exact .inr (.inl h)
  · exact .inr (.inr ⟨b, off, h1, Nat.lt_of_lt_of_le h2 hb.size, fun j hj => (hb.cell (p := ⟨b, off + j, none⟩) h2).trans (h3 j hj)⟩)
theorem u8_back (x : Int) (h0 : 0 ≤ x) (h1 : x < 256) : ((UInt8.ofNat x.toNat).toNat : Int) = x := by
  rw [UInt8.toNat_ofNat']
  omega
set_option maxRecDepth 100000 in
theorem str_cells {w : World} {b off n c : Nat} {s : Nat → Int} (hs : ∀ j, j < n → 0 ≤ s j ∧ s j < 256) (h : ∀ j, j < n → w.cell? ⟨b, off + j, none⟩ = some (.int .u8 (s j))) :
    (convert 27 9 (.slice (some ⟨b, off, none⟩) n c)).run Tryz.prog w = .ok (.string (strOf n s)) w := by
  have := run_convert_bytes_back (P := Tryz.prog) w 27 9 5 ⟨b, off, none⟩ c ((List.range n).map fun j => UInt8.ofNat (s j).toNat) (by kernel_rfl) (by kernel_rfl) (by kernel_rfl) (fun j hj => by
    have hj' : j < n := by simpa using hj
    rw [List.getElem_map, List.getElem_range, u8_back _ (hs j hj').1 (hs j hj').2, Addr.add_lit]
    exact h j hj')
  rw [List.length_map, List.length_range] at this
  exact this
end Go.Proofs.YtgfgdfcedmcjeaaGreatDoor

namespace Go.Proofs.YtgfgdfcedmcjeaaGreatDoor
set_option linter.unusedSimpArgs false
set_option linter.unusedVariables false
open Go.RowKit Go.Maps

theorem yields_conv {P : Program} {ops : Array Oper} {S : World → Prop} {op : Oper} {a : Act} (hw : Region.wanted op (yielded ops a.tmps) = true) (src dst : TypeId) (x : Operand) (ho : op.op = .convert src dst x) (vx v : Value) (hx : a.eval x = vx)
    (hr : ∀ w, S w → (convert src dst vx).run P w = .ok v w) : YieldsIf P ops S op v a :=
  .inl ⟨hw, fun w hS => by
    have hr := hr w hS
    unfold execOp
    simp [ho, hx, hr, Result.andThen]⟩
theorem yields_bld2 {P : Program} {ops : Array Oper} {S : World → Prop} {op : Oper} {a : Act} (hw : Region.wanted op (yielded ops a.tmps) = true) (ty : TypeId) (i j : Nat) (x y : Operand) (ho : op.op = .build ty #[(i, x), (j, y)]) (vx vy : Value) (hx : a.eval x = vx) (hy : a.eval y = vy) (v : Value)
    (hr : ∀ w, (Instr.build ty #[(i, vx), (j, vy)]).run P w = .ok v w) : YieldsIf P ops S op v a :=
  .inl ⟨hw, fun w _ => by
    have hr := hr w
    unfold execOp
    simp [ho, hx, hy, hr, Result.andThen]⟩
/-- an entry that may stand in a directory -/
def okE (e : En) : Prop := 0 < e.2 ∧ e.2 < 65536 ∧ nameC e.1 = 0
theorem nameC_ok {s : ByteArray} (h : nameC s = 0) : 1 ≤ s.size ∧ s.size ≤ 14 ∧ ∀ b ∈ s.data.toList, maySt b = true := by
  unfold nameC at h
  split at h
  · cases h
  · rename_i h1
    split at h
    · cases h
    · split at h
      · rename_i h3
        refine ⟨?_, by omega, fun b hb => List.all_eq_true.1 h3 b hb⟩
        have : ¬ s.size = 0 := fun hh => h1 (.inl hh)
        omega
      · cases h
theorem maySt_ne {b : UInt8} (h : maySt b = true) : b ≠ 0 := by
  rintro rfl
  revert h
  decide
theorem trim_pk (s : ByteArray) (h14 : s.size ≤ 14) (h0 : ∀ b ∈ s.data.toList, b ≠ 0) : (Lib.trimRightB (strOf 14 (btF s)).data.toList 0).toArray = s.data := by
  have hl : (strOf 14 (btF s)).data.toList = (List.range 14).map fun j => UInt8.ofNat (btF s j).toNat := rfl
  have hlen : s.data.toList.length = s.size := (Lib.size_eq s).symm
  have hget : ∀ (j : Nat) (hj : j < s.size), UInt8.ofNat (btF s j).toNat = s.data.toList[j]'(by rw [hlen]; exact hj) := fun j hj => by
    unfold btF
    rw [List.getElem?_eq_getElem (by rw [hlen]; exact hj)]
    simp
  rw [hl, Lib.trimRightB_take _ 0 s.size (by simp; omega) (fun j b hj hb => ?_) (fun b hs hb => ?_)]
  · have : ((List.range 14).map fun j => UInt8.ofNat (btF s j).toNat).take s.size = s.data.toList := by
      refine List.ext_getElem? fun j => ?_
      by_cases hj : j < s.size
      · rw [List.getElem?_take_of_lt hj, List.getElem?_map, List.getElem?_range (by omega), List.getElem?_eq_getElem (by rw [hlen]; exact hj), ← hget j hj]
        rfl
      · rw [List.getElem?_eq_none (by simp; omega), List.getElem?_eq_none (by omega)]
    rw [this]
  · rw [List.getElem?_map] at hb
    by_cases hj2 : j < 14
    · rw [List.getElem?_range hj2] at hb
      simp only [Option.map_some, Option.some.injEq] at hb
      rw [← hb, btF_past s j hj]
      rfl
    · rw [List.getElem?_eq_none (by simp; omega)] at hb
      cases hb
  · rw [List.getElem?_map, List.getElem?_range (by omega)] at hb
    simp only [Option.map_some, Option.some.injEq] at hb
    rw [← hb, hget (s.size - 1) (by omega)]
    exact h0 _ (List.getElem_mem _)
set_option maxHeartbeats 20000000 in
set_option maxRecDepth 100000 in
theorem unpack_ok (e : En) (h : e = zE ∨ okE e) (sb so cap : Nat) (hcap : 16 ≤ cap) (hc2 : cap ≤ 100000) (hso : so ≤ 100000) (w : World) (hS : Sb w sb so 16 (pkF e)) :
    Calls Tryz.prog 72 #[.slice (some ⟨sb, so, none⟩) 16 cap] w fun x w' => x = .returned (.tuple #[.agg (enc e).toArray, .bool true]) ∧ Below w.heap.size w w' := by
  obtain ⟨d, hu, hd⟩ := Tryz.descEn
  have HU := Lib.hid hu
  have HD := Lib.hid hd
  obtain ⟨s, n⟩ := e
  have hb : s.size ≤ 14 ∧ n < 65536 ∧ ∀ b ∈ s.data.toList, b ≠ 0 := by
    rcases h with h | h
    · cases h
      exact ⟨by decide, by decide, fun b hb => by cases hb⟩
    · obtain ⟨h1, h2, h3⟩ := h
      obtain ⟨h4, h5, h6⟩ := nameC_ok h3
      exact ⟨h5, h2, fun b hb => maySt_ne (h6 b hb)⟩
  obtain ⟨h14, hn, hnz⟩ := hb
  have n0 : (0 : Int) ≤ n := by omega
  have n1 : (n : Int) < 65536 := by omega
  have HTr := Lib.hid (trim_pk s h14 hnz)
  have htr := fun W => Tryz.strings_TrimRight_one (strOf 14 (btF s)) 0 (by decide) W (by show (List.map _ _).toArray.size ≤ _; simp)
  rw [trim_pk s h14 hnz] at htr
  have HTR := Lib.hid htr
  have HV := Lib.hid (fun W => vacant_any (s, n) (by show s.size ≤ maxLen; unfold maxLen; omega) hn W)
  have hvac : vacE (s, n) = decide ((s, n) = zE) := rfl
  have HNm : Hid (¬ (s, n) = zE → ¬ ((n : Int) = 0) ∧ nameC s = 0) := Lib.hid (fun hne => by
    rcases h with h | h
    · exact absurd h hne
    · obtain ⟨h1, h2, h3⟩ := h
      have : 0 < n := h1
      exact ⟨by omega, h3⟩)
  have HNa := Lib.hid (fun W => name_any s W)
  have p0 : pkF (s, n) 0 = (n : Int) % 256 := rfl
  have p1 : pkF (s, n) 1 = (n : Int) / 256 := rfl
  have p2 : ∀ j, pkF (s, n) (2 + j) = btF s j := fun j => by
    unfold pkF
    rw [if_neg (by omega), if_neg (by omega), show 2 + j - 2 = j by omega]
  have HP0 := Lib.hid p0
  have HP1 := Lib.hid p1
  have HP2 := Lib.hid p2
  have HSb := Lib.hid hS
  have hor := u16_or8 ((n : Int) % 256) ((n : Int) / 256 * 256) (by omega) (by omega) (by omega) (by omega) (by omega)
  rw [show (n : Int) % 256 + (n : Int) / 256 * 256 = n by omega] at hor
  have HOR := Lib.hid hor
  have HSH := Lib.hid (shl8 ((n : Int) / 256) (by omega) (by omega))
  have HUW := Lib.hid (wraps_u16 ((n : Int) % 256) (by omega) (by omega))
  have HVW := Lib.hid (wraps_u16 ((n : Int) / 256) (by omega) (by omega))
  obtain ⟨P, hP⟩ : ∃ P, pkF (s, n) = P := ⟨_, rfl⟩
  rw [hP] at HP0 HP1 HP2 HSb
  obtain ⟨lo, hlo⟩ : ∃ x : Int, (n : Int) % 256 = x := ⟨_, rfl⟩
  obtain ⟨hi, hhi⟩ : ∃ x : Int, (n : Int) / 256 = x := ⟨_, rfl⟩
  have l0 : 0 ≤ lo ∧ lo < 256 := by omega
  have m0 : 0 ≤ hi ∧ hi < 256 := by omega
  obtain ⟨l0, l1⟩ := l0
  obtain ⟨m0, m1⟩ := m0
  rw [hlo] at HOR HUW HP0
  rw [hhi] at HOR HSH HVW HP1
  obtain ⟨vc, hvc⟩ : ∃ x, vacE (s, n) = x := ⟨_, rfl⟩
  rw [hvc] at HV hvac
  have HVc := Lib.hid hvac
  obtain ⟨ni, hni⟩ : ∃ x : Int, (n : Int) = x := ⟨_, rfl⟩
  rw [hni] at HNm HOR n0 n1
  have HNI := Lib.hid hni
  have hcp : (16 : Int) ≤ cap := by omega
  have hcn : ¬ cap = 2 := by omega
  clear hu hd h h14 hn hnz htr hvac p0 p1 p2 hS hor hP hlo hhi hvc hni
  go_enter Tryz.func72, Tryz.ntmps72
  go_upto_region 3 with (first | (refine wpList_alloc_list (w := w) rfl 58 rfl (enc zE) Tryz.zeroEn ?_; intro w1 F1 hb1 hz1; have HB1 := Lib.hid hb1; have hq1 : w.heap.size < w1.heap.size := (by omega); clear hb1 hz1))
  obtain ⟨b2, hb2⟩ : ∃ b, w.heap.size = b := ⟨_, rfl⟩
  have hsb : sb < b2 := by have := HSb.out.lt; omega
  have HSb1 := Lib.hid (HSb.out.keep HB1.out)
  rw [hb2] at F1 HB1 hq1
  try rw [hb2]
  have HW := Lib.hid hb2
  clear hb2 HSb
  refine wp_region_held (S := fun W => Sb W sb so 16 P) (by kernel_rfl) ?_
  change wpAnyH _ _ _ _ _ _ _ _ (World.drew _)
  have hS0 : (fun W => Sb W sb so 16 P) w1.drew := HSb1.out.keep (Below.refl _ _).drew
  have F2 := Lib.hid (F1.out.keep (Below.refl _ _).drew)
  have HB2 := Lib.hid HB1.out.drew
  have hq2 : b2 < (World.drew w1).heap.size := hq1
  obtain ⟨w2, hw2⟩ : ∃ x, World.drew w1 = x := ⟨_, rfl⟩
  rw [hw2] at hS0 F2 HB2 hq2 ⊢
  clear hw2 F1 HB1 hq1 HSb1
  refine wpAnyH_take (i := 0) (v := ?_) rfl (by kernel_rfl) (by kernel_rfl) (by kernel_rfl) (fun _ _ _ h => h) (Or.inl ⟨by rfl, ?_⟩) hS0 ?_
  rotate_left 1
  · intro W hW
    go_simp
    try with_reducible rfl
  simp only [Act.put, List.getElem_toArray, List.getElem_cons_zero, List.getElem_cons_succ, List.setIfInBounds_toArray, List.set_cons_zero, List.set_cons_succ]
  refine wpAnyH_take (i := 1) (v := ?_) rfl (by kernel_rfl) (by kernel_rfl) (by kernel_rfl) (fun _ _ _ h => h) (Or.inl ⟨by rfl, ?_⟩) hS0 ?_
  rotate_left 1
  · intro W hW
    go_simp
    try with_reducible rfl
  simp only [Act.put, List.getElem_toArray, List.getElem_cons_zero, List.getElem_cons_succ, List.setIfInBounds_toArray, List.set_cons_zero, List.set_cons_succ]
  refine wpAnyH_take (i := 2) (v := .string (strOf 14 (btF s))) rfl (by kernel_rfl) (by kernel_rfl) (by kernel_rfl) (fun _ _ _ h => h) ?_ hS0 ?_
  · exact yields_conv (by rfl) 27 9 (.tmp 10) rfl (.slice (some ⟨sb, so + 2, none⟩) 14 (cap - 2)) _ rfl (fun W hW => str_cells (fun j _ => btF_bd s j) (fun j hj => by
      have := hW.c (2 + j) (by omega)
      rw [HP2.out, ← Nat.add_assoc] at this
      exact this))
  simp only [Act.put, List.getElem_toArray, List.getElem_cons_zero, List.getElem_cons_succ, List.setIfInBounds_toArray, List.set_cons_zero, List.set_cons_succ]
  refine wpAnyH_take (i := 4) (v := ?_) rfl (by kernel_rfl) (by kernel_rfl) (by kernel_rfl) (fun _ _ _ h => h) (Or.inl ⟨by rfl, ?_⟩) hS0 ?_
  rotate_left 1
  · intro W hW
    go_simp
    try with_reducible rfl
  simp only [Act.put, List.getElem_toArray, List.getElem_cons_zero, List.getElem_cons_succ, List.setIfInBounds_toArray, List.set_cons_zero, List.set_cons_succ]
  refine wpAnyH_take (i := 5) (v := ?_) rfl (by kernel_rfl) (by kernel_rfl) (by kernel_rfl) (fun _ _ _ h => h) (Or.inl ⟨by rfl, ?_⟩) hS0 ?_
  rotate_left 1
  · intro W hW
    go_simp
    try with_reducible rfl
  simp only [Act.put, List.getElem_toArray, List.getElem_cons_zero, List.getElem_cons_succ, List.setIfInBounds_toArray, List.set_cons_zero, List.set_cons_succ]
  refine wpAnyH_take (i := 6) (v := ?_) rfl (by kernel_rfl) (by kernel_rfl) (by kernel_rfl) (fun _ _ _ h => h) (Or.inl ⟨by rfl, ?_⟩) hS0 ?_
  rotate_left 1
  · intro W hW
    have c0 : W.cell? ⟨sb, so, none⟩ = some (.int .u8 lo) := by
      have := hW.c 0 (by decide)
      rw [HP0.out] at this
      exact this
    go_simp
    try with_reducible rfl
  simp only [Act.put, List.getElem_toArray, List.getElem_cons_zero, List.getElem_cons_succ, List.setIfInBounds_toArray, List.set_cons_zero, List.set_cons_succ]
  refine wpAnyH_take (i := 7) (v := ?_) rfl (by kernel_rfl) (by kernel_rfl) (by kernel_rfl) (fun _ _ _ h => h) (Or.inl ⟨by rfl, ?_⟩) hS0 ?_
  rotate_left 1
  · intro W hW
    have k3 := HUW.out
    go_simp
    try with_reducible rfl
  simp only [Act.put, List.getElem_toArray, List.getElem_cons_zero, List.getElem_cons_succ, List.setIfInBounds_toArray, List.set_cons_zero, List.set_cons_succ]
  refine wpAnyH_take (i := 8) (v := ?_) rfl (by kernel_rfl) (by kernel_rfl) (by kernel_rfl) (fun _ _ _ h => h) (Or.inl ⟨by rfl, ?_⟩) hS0 ?_
  rotate_left 1
  · intro W hW
    go_simp
    try with_reducible rfl
  simp only [Act.put, List.getElem_toArray, List.getElem_cons_zero, List.getElem_cons_succ, List.setIfInBounds_toArray, List.set_cons_zero, List.set_cons_succ]
  refine wpAnyH_take (i := 9) (v := ?_) rfl (by kernel_rfl) (by kernel_rfl) (by kernel_rfl) (fun _ _ _ h => h) (Or.inl ⟨by rfl, ?_⟩) hS0 ?_
  rotate_left 1
  · intro W hW
    go_simp
    try with_reducible rfl
  simp only [Act.put, List.getElem_toArray, List.getElem_cons_zero, List.getElem_cons_succ, List.setIfInBounds_toArray, List.set_cons_zero, List.set_cons_succ]
  refine wpAnyH_take (i := 10) (v := ?_) rfl (by kernel_rfl) (by kernel_rfl) (by kernel_rfl) (fun _ _ _ h => h) (Or.inl ⟨by rfl, ?_⟩) hS0 ?_
  rotate_left 1
  · intro W hW
    have c1 : W.cell? ⟨sb, so + 1, none⟩ = some (.int .u8 hi) := by
      have := hW.c 1 (by decide)
      rw [HP1.out] at this
      exact this
    go_simp
    try with_reducible rfl
  simp only [Act.put, List.getElem_toArray, List.getElem_cons_zero, List.getElem_cons_succ, List.setIfInBounds_toArray, List.set_cons_zero, List.set_cons_succ]
  refine wpAnyH_take (i := 11) (v := ?_) rfl (by kernel_rfl) (by kernel_rfl) (by kernel_rfl) (fun _ _ _ h => h) (Or.inl ⟨by rfl, ?_⟩) hS0 ?_
  rotate_left 1
  · intro W hW
    have k4 := HVW.out
    go_simp
    try with_reducible rfl
  simp only [Act.put, List.getElem_toArray, List.getElem_cons_zero, List.getElem_cons_succ, List.setIfInBounds_toArray, List.set_cons_zero, List.set_cons_succ]
  refine wpAnyH_take (i := 12) (v := ?_) rfl (by kernel_rfl) (by kernel_rfl) (by kernel_rfl) (fun _ _ _ h => h) (Or.inl ⟨by rfl, ?_⟩) hS0 ?_
  rotate_left 1
  · intro W hW
    have k2 := HSH.out
    go_simp
    try with_reducible rfl
  simp only [Act.put, List.getElem_toArray, List.getElem_cons_zero, List.getElem_cons_succ, List.setIfInBounds_toArray, List.set_cons_zero, List.set_cons_succ]
  refine wpAnyH_take (i := 13) (v := ?_) rfl (by kernel_rfl) (by kernel_rfl) (by kernel_rfl) (fun _ _ _ h => h) (Or.inl ⟨by rfl, ?_⟩) hS0 ?_
  rotate_left 1
  · intro W hW
    have k1 := HOR.out
    go_simp
    try with_reducible rfl
  simp only [Act.put, List.getElem_toArray, List.getElem_cons_zero, List.getElem_cons_succ, List.setIfInBounds_toArray, List.set_cons_zero, List.set_cons_succ]
  refine wpAnyH_ready (rs := [3, 15]) (by kernel_rfl) (by simp) (AllReadyH.cons rfl (fun KK hKK => ?_) (AllReadyH.cons rfl (fun KK hKK => ?_) AllReadyH.nil))
  · go_simp
    refine (HTR.out w2).mono ?_
    rintro e wz ⟨rfl, hwz⟩
    rw [hwz]
    clear hwz
    refine hKK _ _ hS0 ?_
    intro _
    clear hKK KK
    try simp only [Act.put, List.getElem_toArray, List.getElem_cons_zero, List.getElem_cons_succ, List.setIfInBounds_toArray, List.set_cons_zero, List.set_cons_succ]
    refine wpAnyH_take (i := 14) (v := .agg (enc (s, n)).toArray) rfl (by kernel_rfl) (by kernel_rfl) (by kernel_rfl) (fun _ _ _ h => h) ?_ hS0 ?_
    · exact yields_bld2 (by rfl) 58 0 1 (.tmp 12) (.tmp 22) rfl (.string s) (.int .u16 ni) rfl rfl _ (fun W => by
          rw [show (enc (s, n)) = [.string s, .int .u16 ni] from by unfold enc; rw [HNI.out]]
          exact Tryz.buildEn2 s ni W)
    simp only [Act.put, List.getElem_toArray, List.getElem_cons_zero, List.getElem_cons_succ, List.setIfInBounds_toArray, List.set_cons_zero, List.set_cons_succ]
    refine wpAnyH_ready (rs := [15]) (by kernel_rfl) (by simp) (AllReadyH.cons rfl (fun KK hKK => ?_) AllReadyH.nil)
    refine step_alloc_list rfl 58 (enc zE) rfl Tryz.zeroEn ?_
    intro wA FA hbA hzA
    have hS1 : (fun W => Sb W sb so 16 P) wA := hS0.keep hbA
    have GA := Lib.hid (F2.out.keep hbA)
    have HBA := Lib.hid (HB2.out.trans (hbA.mono (by omega)))
    obtain ⟨b4, hb4⟩ : ∃ x, w2.heap.size = x := ⟨_, rfl⟩
    have hq4 : b2 < b4 ∧ b4 < wA.heap.size := by omega
    rw [hb4] at FA
    try rw [hb4]
    clear hS0 hbA hzA hb4 F2 HB2
    have hS0 := hS1
    clear hS1
    refine hKK _ _ hS0 ?_
    intro _
    clear hKK KK
    try simp only [Act.put, List.getElem_toArray, List.getElem_cons_zero, List.getElem_cons_succ, List.setIfInBounds_toArray, List.set_cons_zero, List.set_cons_succ]
    have PF := Lib.hid (FA.out.stored (enc (s, n)) rfl)
    refine wpAnyH_ready (rs := [16]) (by kernel_rfl) (by simp) (AllReadyH.cons rfl (fun KK hKK => ?_) AllReadyH.nil)
    refine step_store_mid rfl 58 _ _ rfl b4 0 (enc (s, n)).toArray rfl rfl (FA.out.there0 2 rfl) (sizeEn _) (all_oneCell_toArray (enc_one _)) ?_
    have hk : Kp wA (wA.setCells b4 0 (enc (s, n))) b4 b4 := (Kp.refl wA b4 b4).setCells b4 0 (.inl rfl) _
    have hS1 : (fun W => Sb W sb so 16 P) (wA.setCells b4 0 (enc (s, n))) := hS0.kp hk (by omega)
    have GB := Lib.hid (GA.out.kp hk (by omega) (by omega))
    have HBB := Lib.hid (HBA.out.trans (hk.below (by omega) (by omega) (by omega)))
    have hqb := hk.size
    obtain ⟨wB, hwB⟩ : ∃ x, wA.setCells b4 0 (enc (s, n)) = x := ⟨_, rfl⟩
    change KK _ (wA.setCells b4 0 (enc (s, n)))
    rw [hwB] at hS1 PF GB HBB hqb ⊢
    clear hS0 hwB hk FA GA HBA
    refine hKK _ _ hS1 ?_
    intro _
    clear hKK KK hS1
    refine wpAnyH_done (by kernel_rfl) ?_ _
    have HR := Lib.hid PF.out.range0
    go_wp2_with (refine wpList_load_mid rfl 58 _ rfl b4 0 rfl (enc (s, n)) d HR.out HU.out HD.out (sizeEn _) ?_)
    refine (HV.out wB).mono ?_
    rintro e wC ⟨rfl, hb⟩
    have PC := Lib.hid (PF.out.keep hb)
    have GC := Lib.hid (GB.out.keep hb)
    have HBC := Lib.hid (HBB.out.trans (hb.mono (by omega)))
    clear hb HV PF GB HBB HR
    have HR := Lib.hid PC.out.range0
    have GS := Lib.hid (GC.out.stored (enc (s, n)) rfl)
    cases vc
    · have hne : ¬ (s, n) = zE := by
        have := HVc.out
        exact of_decide_eq_false this.symm
      obtain ⟨hn0, hnm⟩ := HNm.out hne
      have cN : wC.cell? ⟨b4, 1, none⟩ = some (.int .u16 ni) := by rw [← HNI.out]; exact PC.out.c 1 _ rfl
      have cS := PC.out.c 0 _ rfl
      have HNa2 := HNa.out
      rw [hnm] at HNa2
      have HNa3 := Lib.hid HNa2
      clear hnm HNa2 hne
      go_wp2_with fail
      refine (HNa3.out wC).mono ?_
      rintro e wz ⟨rfl, hwz⟩
      rw [hwz]
      clear hwz
      go_wp2_with (first | (refine wpList_load_mid rfl 58 _ rfl b4 0 rfl (enc (s, n)) d HR.out HU.out HD.out (sizeEn _) ?_) | (refine wpList_store_mid rfl 58 _ _ rfl b2 0 (enc (s, n)).toArray rfl rfl (GC.out.there0 2 rfl) (sizeEn _) (all_oneCell_toArray (enc_one _)) ?_))
      exact bodyPost_ret_by (results_mid_tmp rfl _ _ b2 _ d rfl GS.out.range0 HU.out HD.out (sizeEn _)) rfl ⟨rfl, by rw [HW.out]; exact below_setCells HBC.out b2 0 (by omega) _⟩
    · go_wp2_with (first | (refine wpList_load_mid rfl 58 _ rfl b4 0 rfl (enc (s, n)) d HR.out HU.out HD.out (sizeEn _) ?_) | (refine wpList_store_mid rfl 58 _ _ rfl b2 0 (enc (s, n)).toArray rfl rfl (GC.out.there0 2 rfl) (sizeEn _) (all_oneCell_toArray (enc_one _)) ?_))
      exact bodyPost_ret_by (results_mid_tmp rfl _ _ b2 _ d rfl GS.out.range0 HU.out HD.out (sizeEn _)) rfl ⟨rfl, by rw [HW.out]; exact below_setCells HBC.out b2 0 (by omega) _⟩
  · refine step_alloc_list rfl 58 (enc zE) rfl Tryz.zeroEn ?_
    intro wA FA hbA hzA
    have hS1 : (fun W => Sb W sb so 16 P) wA := hS0.keep hbA
    have GA := Lib.hid (F2.out.keep hbA)
    have HBA := Lib.hid (HB2.out.trans (hbA.mono (by omega)))
    obtain ⟨b4, hb4⟩ : ∃ x, w2.heap.size = x := ⟨_, rfl⟩
    have hq4 : b2 < b4 ∧ b4 < wA.heap.size := by omega
    rw [hb4] at FA
    try rw [hb4]
    clear hS0 hbA hzA hb4 F2 HB2
    have hS0 := hS1
    clear hS1
    refine hKK _ _ hS0 ?_
    intro _
    clear hKK KK
    try simp only [Act.put, List.getElem_toArray, List.getElem_cons_zero, List.getElem_cons_succ, List.setIfInBounds_toArray, List.set_cons_zero, List.set_cons_succ]
    refine wpAnyH_ready (rs := [3]) (by kernel_rfl) (by simp) (AllReadyH.cons rfl (fun KK hKK => ?_) AllReadyH.nil)
    go_simp
    refine (HTR.out wA).mono ?_
    rintro e wz ⟨rfl, hwz⟩
    rw [hwz]
    clear hwz
    refine hKK _ _ hS0 ?_
    intro _
    clear hKK KK
    try simp only [Act.put, List.getElem_toArray, List.getElem_cons_zero, List.getElem_cons_succ, List.setIfInBounds_toArray, List.set_cons_zero, List.set_cons_succ]
    refine wpAnyH_take (i := 14) (v := .agg (enc (s, n)).toArray) rfl (by kernel_rfl) (by kernel_rfl) (by kernel_rfl) (fun _ _ _ h => h) ?_ hS0 ?_
    · exact yields_bld2 (by rfl) 58 0 1 (.tmp 12) (.tmp 22) rfl (.string s) (.int .u16 ni) rfl rfl _ (fun W => by
          rw [show (enc (s, n)) = [.string s, .int .u16 ni] from by unfold enc; rw [HNI.out]]
          exact Tryz.buildEn2 s ni W)
    simp only [Act.put, List.getElem_toArray, List.getElem_cons_zero, List.getElem_cons_succ, List.setIfInBounds_toArray, List.set_cons_zero, List.set_cons_succ]
    have PF := Lib.hid (FA.out.stored (enc (s, n)) rfl)
    refine wpAnyH_ready (rs := [16]) (by kernel_rfl) (by simp) (AllReadyH.cons rfl (fun KK hKK => ?_) AllReadyH.nil)
    refine step_store_mid rfl 58 _ _ rfl b4 0 (enc (s, n)).toArray rfl rfl (FA.out.there0 2 rfl) (sizeEn _) (all_oneCell_toArray (enc_one _)) ?_
    have hk : Kp wA (wA.setCells b4 0 (enc (s, n))) b4 b4 := (Kp.refl wA b4 b4).setCells b4 0 (.inl rfl) _
    have hS1 : (fun W => Sb W sb so 16 P) (wA.setCells b4 0 (enc (s, n))) := hS0.kp hk (by omega)
    have GB := Lib.hid (GA.out.kp hk (by omega) (by omega))
    have HBB := Lib.hid (HBA.out.trans (hk.below (by omega) (by omega) (by omega)))
    have hqb := hk.size
    obtain ⟨wB, hwB⟩ : ∃ x, wA.setCells b4 0 (enc (s, n)) = x := ⟨_, rfl⟩
    change KK _ (wA.setCells b4 0 (enc (s, n)))
    rw [hwB] at hS1 PF GB HBB hqb ⊢
    clear hS0 hwB hk FA GA HBA
    refine hKK _ _ hS1 ?_
    intro _
    clear hKK KK hS1
    refine wpAnyH_done (by kernel_rfl) ?_ _
    have HR := Lib.hid PF.out.range0
    go_wp2_with (refine wpList_load_mid rfl 58 _ rfl b4 0 rfl (enc (s, n)) d HR.out HU.out HD.out (sizeEn _) ?_)
    refine (HV.out wB).mono ?_
    rintro e wC ⟨rfl, hb⟩
    have PC := Lib.hid (PF.out.keep hb)
    have GC := Lib.hid (GB.out.keep hb)
    have HBC := Lib.hid (HBB.out.trans (hb.mono (by omega)))
    clear hb HV PF GB HBB HR
    have HR := Lib.hid PC.out.range0
    have GS := Lib.hid (GC.out.stored (enc (s, n)) rfl)
    cases vc
    · have hne : ¬ (s, n) = zE := by
        have := HVc.out
        exact of_decide_eq_false this.symm
      obtain ⟨hn0, hnm⟩ := HNm.out hne
      have cN : wC.cell? ⟨b4, 1, none⟩ = some (.int .u16 ni) := by rw [← HNI.out]; exact PC.out.c 1 _ rfl
      have cS := PC.out.c 0 _ rfl
      have HNa2 := HNa.out
      rw [hnm] at HNa2
      have HNa3 := Lib.hid HNa2
      clear hnm HNa2 hne
      go_wp2_with fail
      refine (HNa3.out wC).mono ?_
      rintro e wz ⟨rfl, hwz⟩
      rw [hwz]
      clear hwz
      go_wp2_with (first | (refine wpList_load_mid rfl 58 _ rfl b4 0 rfl (enc (s, n)) d HR.out HU.out HD.out (sizeEn _) ?_) | (refine wpList_store_mid rfl 58 _ _ rfl b2 0 (enc (s, n)).toArray rfl rfl (GC.out.there0 2 rfl) (sizeEn _) (all_oneCell_toArray (enc_one _)) ?_))
      exact bodyPost_ret_by (results_mid_tmp rfl _ _ b2 _ d rfl GS.out.range0 HU.out HD.out (sizeEn _)) rfl ⟨rfl, by rw [HW.out]; exact below_setCells HBC.out b2 0 (by omega) _⟩
    · go_wp2_with (first | (refine wpList_load_mid rfl 58 _ rfl b4 0 rfl (enc (s, n)) d HR.out HU.out HD.out (sizeEn _) ?_) | (refine wpList_store_mid rfl 58 _ _ rfl b2 0 (enc (s, n)).toArray rfl rfl (GC.out.there0 2 rfl) (sizeEn _) (all_oneCell_toArray (enc_one _)) ?_))
      exact bodyPost_ret_by (results_mid_tmp rfl _ _ b2 _ d rfl GS.out.range0 HU.out HD.out (sizeEn _)) rfl ⟨rfl, by rw [HW.out]; exact below_setCells HBC.out b2 0 (by omega) _⟩
end Go.Proofs.YtgfgdfcedmcjeaaGreatDoor

namespace Go.Proofs.YtgfgdfcedmcjeaaGreatDoor
set_option linter.unusedSimpArgs false
set_option linter.unusedVariables false
open Go.RowKit Go.Maps

theorem Tryz.arrWy : Tryz.prog.underlying 209 = some (.array 3 3) := by kernel_rfl
theorem Tryz.int3 : Tryz.prog.underlying 3 = some (.int .i64) := by kernel_rfl
theorem Tryz.cells3 : Tryz.prog.cellsOf 3 = 1 := by kernel_rfl
theorem Tryz.guardWy : Tryz.prog.eqGuardType Tryz.prog.depth 209 = false := by kernel_rfl
def eqW (a b c x y z : Int) : Bool := (a == x) && ((b == y) && (c == z))
theorem eqWy (a b c x y z : Int) (w : World) : (Op.equalIn 10000 209 (.agg (wyc a b c).toArray) (.agg (wyc x y z).toArray)).run Tryz.prog w = .ok (eqW a b c x y z) w := by
  obtain ⟨i, hi⟩ : ∃ i, Tryz.prog.info? 3 = some i := by
    have := Tryz.isizeInt
    cases h : Tryz.prog.info? 3 with
    | none => simp [h] at this
    | some i => exact ⟨i, rfl⟩
  rw [run_equalIn_array w 9999 (wyc a b c).toArray (wyc x y z).toArray Tryz.arrWy hi, Tryz.cells3]
  have hag : (isAgg 3).run Tryz.prog w = .ok false w := by
    unfold isAgg
    rw [Sem.run_bind, run_underlying Tryz.int3 w]
    rfl
  have p : ∀ (i : Nat) (v : Value) (a b c : Int), (wyc a b c)[i]? = some v → (part 3 (wyc a b c).toArray (i * 1)).run Tryz.prog w = .ok v w := fun i v a b c h => by
    simp [part, Sem.run_bind, hag, h]
  have q : ∀ (i : Nat) (is : List Nat) (u v : Int), (wyc a b c)[i]? = some (.int .i64 u) → (wyc x y z)[i]? = some (.int .i64 v) → (Op.eqItems 9999 3 1 (wyc a b c).toArray (wyc x y z).toArray (i :: is)).run Tryz.prog w = if (u == v) = true then (Op.eqItems 9999 3 1 (wyc a b c).toArray (wyc x y z).toArray is).run Tryz.prog w else .ok false w := fun i is u v h1 h2 => by
    simp only [Op.eqItems, Sem.run_bind, p i _ _ _ _ h1, p i _ _ _ _ h2, Result.andThen_ok, run_equalIn_int w 9998 3 .i64 .i64 _ _ Tryz.int3]
    cases hb : (u == v) <;> simp
  rw [show List.range 3 = [0, 1, 2] from rfl, q 0 _ a x rfl rfl, q 1 _ b y rfl rfl, q 2 _ c z rfl rfl]
  have h0 : (Op.eqItems 9999 3 1 (wyc a b c).toArray (wyc x y z).toArray []).run Tryz.prog w = .ok true w := by simp [Op.eqItems]
  rw [h0]
  unfold eqW
  cases h1 : (a == x) <;> cases h2 : (b == y) <;> cases h3 : (c == z) <;> rfl
set_option maxHeartbeats 8000000 in
set_option maxRecDepth 100000 in
theorem passes_gen (a b c x y z u1 u2 u3 n : Int)
    (hst : ∀ W, Calls Tryz.prog 126 #[.agg (wyc x y z).toArray] W fun e w' => e = .returned (.int .i64 n) ∧ Below W.heap.size W w')
    (hfi : ∀ W, Calls Tryz.prog 125 #[.agg (wyc a b c).toArray, .int .i64 n] W fun e w' => e = .returned (.agg (wyc u1 u2 u3).toArray) ∧ Below W.heap.size W w') (w : World) :
    Calls Tryz.prog 105 #[.agg (wyc a b c).toArray, .agg (wyc x y z).toArray] w fun e w' => e = .returned (.bool (eqW u1 u2 u3 x y z)) ∧ Below w.heap.size w w' := by
  obtain ⟨d, hu, hd⟩ := Tryz.descWy
  have HU := Lib.hid hu
  have HD := Lib.hid hd
  have HST := Lib.hid hst
  have HFI := Lib.hid hfi
  have HEQ := Lib.hid (fun W => eqWy u1 u2 u3 x y z W)
  obtain ⟨eb, heb⟩ : ∃ e, eqW u1 u2 u3 x y z = e := ⟨_, rfl⟩
  rw [heb] at HEQ ⊢
  clear hu hd hst hfi heb
  go_enter Tryz.func105, Tryz.ntmps105
  go_upto_region 1 with (first | (refine wpList_box_list (w := w) rfl 209 _ rfl (wyc a b c) rfl ?_; intro w1 F1 hb1 hz1; have HB1 := Lib.hid hb1; have hq1 : w.heap.size < w1.heap.size := (by omega); clear hb1 hz1) | (refine wpList_box_list (w := w1) rfl 209 _ rfl (wyc x y z) rfl ?_; intro w2 F2 hb2 hz2; have HB2 := Lib.hid hb2; have hq2 : w1.heap.size < w2.heap.size := (by omega); clear hb2 hz2))
  obtain ⟨b1, hb1⟩ : ∃ b, w.heap.size = b := ⟨_, rfl⟩
  obtain ⟨b2, hb2⟩ : ∃ b, w1.heap.size = b := ⟨_, rfl⟩
  have G1 := Lib.hid (F1.out.keep HB2.out)
  have HB := Lib.hid (HB1.out.trans (HB2.out.mono HB1.out.size))
  rw [hb1, hb2] at hq1
  rw [hb2] at hq2
  rw [hb1] at G1 HB
  rw [hb2] at F2
  have HW := Lib.hid hb1
  try rw [hb1]
  try rw [hb2]
  clear hb1 hb2 HB1 HB2 F1
  refine wp_region_held (S := fun W => Vl W b1 (wyc a b c) ∧ Vl W b2 (wyc x y z) ∧ Below b1 w W) (by kernel_rfl) ?_
  change wpAnyH _ _ _ _ _ _ _ _ (World.drew _)
  have hS0 : (fun W => Vl W b1 (wyc a b c) ∧ Vl W b2 (wyc x y z) ∧ Below b1 w W) w2.drew := ⟨G1.out.keep (Below.refl _ _).drew, F2.out.keep (Below.refl _ _).drew, HB.out.drew⟩
  obtain ⟨w3, hw3⟩ : ∃ x, World.drew w2 = x := ⟨_, rfl⟩
  rw [hw3] at hS0 ⊢
  clear hw3
  refine wpAnyH_take (i := 0) (v := .agg (wyc a b c).toArray) rfl (by kernel_rfl) (by kernel_rfl) (by kernel_rfl) (fun _ _ _ h => h) ?_ hS0 ?_
  · exact yieldsIf_load_mid (by rfl) 209 (.tmp 2) rfl b1 0 rfl (wyc a b c) d (fun W hW => hW.1.range0) HU.out HD.out (sizeWy _ _ _)
  simp only [Act.put, List.getElem_toArray, List.getElem_cons_zero, List.getElem_cons_succ, List.setIfInBounds_toArray, List.set_cons_zero, List.set_cons_succ]
  refine wpAnyH_take (i := 1) (v := .agg (wyc x y z).toArray) rfl (by kernel_rfl) (by kernel_rfl) (by kernel_rfl) (fun _ _ _ h => h) ?_ hS0 ?_
  · exact yieldsIf_load_mid (by rfl) 209 (.tmp 3) rfl b2 0 rfl (wyc x y z) d (fun W hW => hW.2.1.range0) HU.out HD.out (sizeWy _ _ _)
  simp only [Act.put, List.getElem_toArray, List.getElem_cons_zero, List.getElem_cons_succ, List.setIfInBounds_toArray, List.set_cons_zero, List.set_cons_succ]
  refine wpAnyH_take (i := 4) (v := .agg (wyc x y z).toArray) rfl (by kernel_rfl) (by kernel_rfl) (by kernel_rfl) (fun _ _ _ h => h) ?_ hS0 ?_
  · exact yieldsIf_load_mid (by rfl) 209 (.tmp 3) rfl b2 0 rfl (wyc x y z) d (fun W hW => hW.2.1.range0) HU.out HD.out (sizeWy _ _ _)
  simp only [Act.put, List.getElem_toArray, List.getElem_cons_zero, List.getElem_cons_succ, List.setIfInBounds_toArray, List.set_cons_zero, List.set_cons_succ]
  refine wpAnyH_ready (rs := [2]) (by kernel_rfl) (by simp) (AllReadyH.cons rfl (fun KK hKK => ?_) AllReadyH.nil)
  go_simp
  refine (HST.out w3).mono ?_
  rintro e w4 ⟨rfl, hb⟩
  replace hS0 : (fun W => Vl W b1 (wyc a b c) ∧ Vl W b2 (wyc x y z) ∧ Below b1 w W) w4 := ⟨hS0.1.keep hb, hS0.2.1.keep hb, hS0.2.2.trans (hb.mono (Nat.le_of_lt hS0.1.lt))⟩
  clear hb
  refine hKK _ _ hS0 ?_
  intro _
  clear hKK KK
  try simp only [Act.put, List.getElem_toArray, List.getElem_cons_zero, List.getElem_cons_succ, List.setIfInBounds_toArray, List.set_cons_zero, List.set_cons_succ]
  refine wpAnyH_ready (rs := [3]) (by kernel_rfl) (by simp) (AllReadyH.cons rfl (fun KK hKK => ?_) AllReadyH.nil)
  go_simp
  refine (HFI.out w4).mono ?_
  rintro e w5 ⟨rfl, hb⟩
  replace hS0 : (fun W => Vl W b1 (wyc a b c) ∧ Vl W b2 (wyc x y z) ∧ Below b1 w W) w5 := ⟨hS0.1.keep hb, hS0.2.1.keep hb, hS0.2.2.trans (hb.mono (Nat.le_of_lt hS0.1.lt))⟩
  clear hb
  refine hKK _ _ hS0 ?_
  intro _
  clear hKK KK
  try simp only [Act.put, List.getElem_toArray, List.getElem_cons_zero, List.getElem_cons_succ, List.setIfInBounds_toArray, List.set_cons_zero, List.set_cons_succ]
  refine wpAnyH_take (i := 5) (v := .bool eb) rfl (by kernel_rfl) (by kernel_rfl) (by kernel_rfl) (fun _ _ _ h => h) ?_ hS0 ?_
  · exact yields_eql (by rfl) 209 209 (.tmp 8) (.tmp 9) rfl (wyc u1 u2 u3).toArray (wyc x y z).toArray rfl rfl eb Tryz.guardWy (fun W _ => HEQ.out W)
  simp only [Act.put, List.getElem_toArray, List.getElem_cons_zero, List.getElem_cons_succ, List.setIfInBounds_toArray, List.set_cons_zero, List.set_cons_succ]
  refine wpAnyH_take (i := 6) (v := ?_) rfl (by kernel_rfl) (by kernel_rfl) (by kernel_rfl) (fun _ _ _ h => h) (Or.inl ⟨by rfl, ?_⟩) hS0 ?_
  rotate_left 1
  · intro W hW
    go_simp
    try with_reducible rfl
  simp only [Act.put, List.getElem_toArray, List.getElem_cons_zero, List.getElem_cons_succ, List.setIfInBounds_toArray, List.set_cons_zero, List.set_cons_succ]
  refine wpAnyH_done (by kernel_rfl) ?_ _
  have HBz := Lib.hid hS0.2.2
  clear hS0
  go_wp2_with fail
  go_ret
  exact ⟨rfl, by rw [HW.out]; exact HBz.out⟩
theorem passes0 (a b c : Int) (w : World) : Calls Tryz.prog 105 #[.agg (wyc a b c).toArray, .agg (wyc 0 0 0).toArray] w fun e w' => e = .returned (.bool true) ∧ Below w.heap.size w w' :=
  passes_gen a b c 0 0 0 0 0 0 0 (fun W => steps0 W) (fun W => first0 a b c W) w
theorem passes1 (a b c x : Int) (hx : 0 < x) (w : World) : Calls Tryz.prog 105 #[.agg (wyc a b c).toArray, .agg (wyc x 0 0).toArray] w fun e w' => e = .returned (.bool (decide (a = x))) ∧ Below w.heap.size w w' := by
  have := passes_gen a b c x 0 0 a 0 0 1 (fun W => steps1 x hx W) (fun W => first1 a b c W) w
  rwa [show eqW a 0 0 x 0 0 = decide (a = x) from by unfold eqW; simp; rfl] at this
theorem passes2 (a b c x y : Int) (hx : 0 < x) (hy : 0 < y) (w : World) : Calls Tryz.prog 105 #[.agg (wyc a b c).toArray, .agg (wyc x y 0).toArray] w fun e w' => e = .returned (.bool (decide (a = x ∧ b = y))) ∧ Below w.heap.size w w' := by
  have := passes_gen a b c x y 0 a b 0 2 (fun W => steps2 x y hx hy W) (fun W => first2 a b c W) w
  rwa [show eqW a b 0 x y 0 = decide (a = x ∧ b = y) from by unfold eqW; rw [Bool.eq_iff_iff]; simp] at this
theorem passes3 (a b c x y z : Int) (hx : 0 < x) (hy : 0 < y) (hz : 0 < z) (w : World) : Calls Tryz.prog 105 #[.agg (wyc a b c).toArray, .agg (wyc x y z).toArray] w fun e w' => e = .returned (.bool (decide (a = x ∧ b = y ∧ c = z))) ∧ Below w.heap.size w w' := by
  have := passes_gen a b c x y z a b c 3 (fun W => steps3 x y z hx hy hz W) (fun W => first3 a b c W) w
  rwa [show eqW a b c x y z = decide (a = x ∧ b = y ∧ c = z) from by unfold eqW; rw [Bool.eq_iff_iff]; simp] at this
end Go.Proofs.YtgfgdfcedmcjeaaGreatDoor
