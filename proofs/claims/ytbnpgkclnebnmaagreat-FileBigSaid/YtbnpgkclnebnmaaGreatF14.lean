import Derived.Test.YtbnpgkclnebnmaaGreatF13
import Derived.Deep.DeepAppendRoom
import Derived.Laws.OwnMore
/- Files: Read. -/
namespace Go.Proofs.YtbnpgkclnebnmaaGreat
set_option linter.unusedSimpArgs false
set_option linter.unusedVariables false
open Go.RowKit Go.Maps

variable {ln : Lm}
theorem ownsRow_kf {w w' : World} {L : List Nat} {base : Nat} {e : TypeId} {size n g c : Nat} {xs : List Value} (h : w.ownsRow base e size (.slice (some ⟨g, 0, none⟩) n c) n xs) (hk : Kf w w' L) (hg : g ∉ L) : w'.ownsRow base e size (.slice (some ⟨g, 0, none⟩) n c) n xs := by
  refine ⟨h.1, ?_⟩
  rcases h.2 with hn | ⟨g', cap, cur, hv, hb, hgg, rest⟩
  · exact .inl hn
  · refine .inr ⟨g', cap, cur, hv, hb, ?_, rest⟩
    injection hv with h1 h2 h3
    injection h1 with h4
    injection h4 with h5
    subst h5
    rw [hk.block g (Array.getElem?_eq_some_iff.1 hgg).1 hg]
    exact hgg
theorem ownsRow_kp {w w' : World} {x base : Nat} {e : TypeId} {size n g c : Nat} {xs : List Value} (h : w.ownsRow base e size (.slice (some ⟨g, 0, none⟩) n c) n xs) (hk : Kp w w' x x) (hg : g ≠ x) : w'.ownsRow base e size (.slice (some ⟨g, 0, none⟩) n c) n xs :=
  ownsRow_kf h (Kf.of_kp hk (L := [x]) (by simp) (by simp)) (by simpa using hg)
theorem Kp.of_grown {w w' : World} {g : Nat} (h : w.grownBy w' (some g)) : Kp w w' g g :=
  ⟨h.os, h.tape, h.output, h.size, fun k hk h1 _ => h.block k hk (by simpa using h1)⟩
theorem ownsRow_lt {w : World} {base : Nat} {e : TypeId} {size n g c : Nat} {xs : List Value} (h : w.ownsRow base e size (.slice (some ⟨g, 0, none⟩) n c) n xs) : base ≤ g ∧ g < w.heap.size := World.ownsRow.lt h g rfl
theorem fl_of_owns {w : World} {base n g c : Nat} {F : Nat → Int} (h : w.ownsRow base 5 1 (.slice (some ⟨g, 0, none⟩) n c) n (byts n F)) : Fl w g n F :=
  ⟨(ownsRow_lt h).2, fun j hj => by
    rw [World.ownsRow.cellAt h j (by omega)]
    exact byts_get F hj, fun j _ => World.ownsRow.frozenAt h j⟩
theorem Tryz.info5i : ∃ i, Tryz.prog.info? 5 = some i ∧ i.zero = some (.int .u8 0) ∧ i.size = 1 ∧ i.bytes = 1 := by
  have h : (Tryz.prog.info? 5).map (fun i => (i.zero, i.size, i.bytes)) = some (some (.int .u8 0), 1, 1) := by kernel_rfl
  obtain ⟨i, hi, he⟩ := Option.map_eq_some_iff.1 h
  simp only [Prod.mk.injEq] at he
  exact ⟨i, hi, he.1, he.2.1, he.2.2⟩
theorem run_make8 (w : World) (c : Nat) (hc : c ≤ 65536) : (Instr.makeSlice 24 (.int .i64 0) (.int .i64 (c : Int))).run Tryz.prog w = .ok (.slice (some ⟨w.heap.size, 0, none⟩) 0 c) (w.alloc (.cells (madeCells #[.int .u8 0] c) 5)) := by
  obtain ⟨i, hi, hz, hs, hb⟩ := Tryz.info5i
  have := run_make (P := Tryz.prog) w 24 5 i _ (by kernel_rfl) hi hz .i64 .i64 0 c (by omega) (by omega) (by rw [hb]; omega) (by omega)
  simp only [hs, Int.toNat_natCast, Int.toNat_zero, Nat.mul_one] at this
  exact this
set_option maxHeartbeats 40000000 in
set_option maxRecDepth 200000 in
theorem fread_in (q p t m d gg lab B0 P0 M DA NB N K : Nat) (g : Cf.Ge) (Y V : Nat → Nat → Int) (num : Nat) (h1 : 1 ≤ num) (h2 : num ≤ M) (hkd : ¬ V num 0 = 0) (sz : Nat) (hsz : V num 3 = sz) (hsz2 : sz ≤ 16384) (b0 : Nat → Nat) (S0 : Nat → Bool)
    (hFu : Fi DA NB Y (V num) S0 b0) (hS0 : ∀ c, 64 * c < sz → S0 c = true) (hI : Tab P0 M Y V) (hK : K < 200000000) (hg : GG g B0 P0 M DA NB N) (w : World) (h : Gr w q p t m d gg lab g B0 NB N ln Y K)
    (off : Nat) (ho : off ≤ 100000) (mi : Int) (m0 : 0 ≤ mi) (m1 : mi < 9223372036854775808) (cnt : Nat) (hcnt : (cnt : Int) = min mi (max ((sz : Int) - off) 0)) :
    Calls Tryz.prog 31 #[.pointer (some ⟨q, 0, none⟩), .int .i64 num, .int .i64 off, .int .i64 mi] w fun e w' => ∃ bR, e = .returned (.tuple #[.slice (some ⟨bR, 0, none⟩) cnt cnt, .int .i64 0]) ∧ w.heap.size ≤ bR ∧ Fl w' bR cnt (fun i => ctF DA Y b0 (off + i)) ∧ Gr w' q p t m d gg lab g B0 NB N ln Y (K + 1000) ∧ Kf w w' [t, m, d, gg] := by
  obtain ⟨i5, hi5, hz5, hs5, hb5⟩ := Tryz.info5i
  have HI5 := Lib.hid hi5
  have HS5 := Lib.hid hs5
  have HO := Lib.hid (fopen_in (ln := ln) q p t m d gg lab B0 P0 M DA NB N K g Y V num h1 h2 hkd (by omega) hI hg w h)
  obtain ⟨f0, hf⟩ : ∃ f, V num = f := ⟨_, rfl⟩
  rw [hf] at HO hsz hFu
  have HSz := Lib.hid (fun b q W hW => size_any b q f0 (by omega) (by omega) W hW)
  rw [hsz] at HSz
  have HRD := Lib.hid (fun b K' o ho' hS hK' W hW => read_slot (ln := ln) b q p t m d gg lab B0 P0 M DA NB N K' g Y f0 S0 b0 hFu o ho' hS hK' hg W hW)
  have HFi := Lib.hid hFu
  have HS0 := Lib.hid hS0
  have h0lt : ∀ a ∈ [q, p, t, m, d, gg], a < w.heap.size := fun a ha => by
    obtain ⟨l1, l2, l3, l4, l5, l6⟩ := h.lts
    simp only [List.mem_cons, List.not_mem_nil, or_false] at ha
    rcases ha with rfl | rfl | rfl | rfl | rfl | rfl <;> assumption
  have H0 := Lib.hid h0lt
  have hcs : cnt ≤ 16384 ∧ (cnt = 0 ∨ off + cnt ≤ sz) := by omega
  have HCN := Lib.hid hcnt
  obtain ⟨zi, hzi⟩ : ∃ z : Int, (sz : Int) = z := ⟨_, rfl⟩
  rw [hzi] at HSz HCN
  have HZI := Lib.hid hzi
  have hz0 : 0 ≤ zi := by omega
  have hz1 : zi ≤ 16384 := by omega
  obtain ⟨oi, hoi⟩ : ∃ z : Int, (off : Int) = z := ⟨_, rfl⟩
  rw [hoi] at HCN ⊢
  have HOI := Lib.hid hoi
  have ho0 : 0 ≤ oi := by omega
  have ho1 : oi ≤ 100000 := by omega
  clear h1 h2 hkd hsz hFu hI hg h hf h0lt hzi hoi hcnt hS0 hi5 hz5 hs5 hb5
  go_enter Tryz.func31, Tryz.ntmps31
  go_wp2_with fail
  refine HO.out.mono ?_
  rintro e w1 ⟨b, rfl, hb, hG, hVb, hk⟩
  have HB1 := Lib.hid (Bo.start H0.out hb hG hVb)
  have HK1 := Lib.hid hk
  have HS1 := Lib.hid (HSz.out b q w1 hVb)
  have hbw := hVb.lt
  clear hG hVb hk HO HSz
  have d1 : decide (oi < 0) = false := decide_eq_false (by omega)
  have d2 : decide (mi < 0) = false := decide_eq_false (by omega)
  go_wp2_with fail
  refine HS1.out.mono ?_
  rintro e wz ⟨rfl, hwz⟩
  rw [hwz]
  clear hwz HS1
  have hcn : min mi (max (zi - oi) 0) = (cnt : Int) := HCN.out.symm
  have hmk := run_make8 w1 cnt (by omega)
  go_upto_region 8 with fail
  have hO2 : (w1.alloc (.cells (madeCells #[.int .u8 0] cnt) 5)).ownsRow w1.heap.size 5 1 (.slice (some ⟨w1.heap.size, 0, none⟩) 0 cnt) 0 [] := World.ownsRow_made w1 _ cnt (Nat.le_refl _) (by unfold maxLen; omega) (by simp [madeCells])
  have hb2 : Below w1.heap.size w1 (w1.alloc (.cells (madeCells #[.int .u8 0] cnt) 5)) := (Below.refl _ _).alloc (Nat.le_refl _) _
  have HB2 := Lib.hid (HB1.out.keep hb2)
  have HO2 := Lib.hid hO2
  obtain ⟨w2, hw2⟩ : ∃ x, w1.alloc (.cells (madeCells #[.int .u8 0] cnt) 5) = x := ⟨_, rfl⟩
  obtain ⟨bR, hbR⟩ : ∃ x, w1.heap.size = x := ⟨_, rfl⟩
  have hR0 : w1.heap.size ≤ bR := Nat.le_of_eq hbR
  rw [hw2] at HB2 HO2
  try rw [hw2]
  rw [hbR] at HO2
  try rw [hbR]
  clear hw2 hmk hcn hO2 hb2 HB1
  have HO3 : Hid (w2.ownsRow bR 5 1 (.slice (some ⟨bR, 0, none⟩) 0 cnt) 0 (byts 0 fun j => ctF DA Y b0 (off + j))) := HO2
  clear HO2
  go_loopw [12, 13, 14, 15, 16, 17] (fun bs _ _ _ _ _ wr => ∃ i : Nat, i ≤ cnt ∧ bs = .slice (some ⟨bR, 0, none⟩) i cnt ∧ (∃ k, Bo w1 wr b q p t m d gg lab g B0 NB N ln Y (K + 1 + 3 * k) f0 ∧ k ≤ (off + i + 63) / 64 - off / 64 ∧ (i = 0 ∧ k = 0 ∨ (off + i) % 64 = 0 ∨ i = cnt)) ∧ wr.ownsRow bR 5 1 (.slice (some ⟨bR, 0, none⟩) i cnt) i (byts i fun j => ctF DA Y b0 (off + j))) (fun bs _ _ _ _ _ _ => cnt - (match bs with | .slice _ n _ => n | _ => 0))
  case atStart => exact ⟨0, Nat.zero_le _, rfl, ⟨0, HB2.out, Nat.zero_le _, .inl ⟨rfl, rfl⟩⟩, HO3.out⟩
  case round =>
    obtain ⟨i, hi, rfl, ⟨k, hB, hk, hk3⟩, hO⟩ := hrel
    have HBr := Lib.hid hB
    have HOr := Lib.hid hO
    clear hB hO HB2 HO3
    have hi0 : (0 : Int) ≤ i := by omega
    have hc0 : (cnt : Int) ≤ 16384 := by omega
    by_cases hlt : i < cnt
    · have hic : (i : Int) < cnt := by omega
      have ha16 : off + i < 16384 := by omega
      have hk258 : k ≤ 257 := by omega
      have hS := HS0.out ((off + i) / 64) (by omega)
      have hRd := HRD.out b (K + 1 + 3 * k) (off + i) ha16 hS (by omega) wr HBr.out.self
      obtain ⟨V, hV⟩ : ∃ V, Y (DA + (b0 ((off + i) / 64) - 1)) = V := ⟨_, rfl⟩
      rw [hV] at hRd
      obtain ⟨ai, hai⟩ : ∃ z : Int, oi + (i : Int) = z := ⟨_, rfl⟩
      have hai2 : ((off + i : Nat) : Int) = ai := by have := HOI.out; omega
      rw [hai2] at hRd
      have HRd := Lib.hid hRd
      have ha0 : 0 ≤ ai := by omega
      have ha1 : ai < 16384 := by omega
      obtain ⟨r, hr⟩ : ∃ r, (off + i) % 64 = r := ⟨_, rfl⟩
      have hr64 : r < 64 := by omega
      have HR : Hid (ai % 64 = (r : Int)) := Lib.hid (by omega)
      obtain ⟨mm, hmm⟩ : ∃ mm, min (64 - r) (cnt - i) = mm := ⟨_, rfl⟩
      have hm1 : mm ≤ 64 - r ∧ mm ≤ cnt - i ∧ 0 < mm ∧ (mm = 64 - r ∨ mm = cnt - i) := by omega
      have HM : Hid (min ((64 - r : Nat) : Int) ((cnt : Int) - i) = (mm : Int)) := Lib.hid (by omega)
      have HV := Lib.hid hV
      have HA2 := Lib.hid hai2
      have HRr := Lib.hid hr
      clear hRd hV hai2 hr hmm hS
      go_wp2_with fail
      clear hai
      refine HRd.out.mono ?_
      rintro e w3 ⟨rfl, hB3⟩
      have HB3 := Lib.hid (HBr.out.trans hB3)
      have hRn : bR ∉ [t, m, d, gg, b] := fun ha => by
        have := HBr.out.nin hR0
        simp only [List.mem_cons, List.not_mem_nil, or_false, not_or] at this ha
        omega
      have HO3 := Lib.hid (ownsRow_kf HOr.out hB3.kf hRn)
      have hs3 : w1.heap.size ≤ w3.heap.size := HB3.out.kf.size
      clear hB3 HRd HBr HOr hRn
      go_upto_region 11 with (first | (refine wpList_alloc_byts (w := w3) rfl 59 64 rfl Tryz.zero36 ?_; intro w5 F5 hb5 hz5; simp only [Act.put, List.getElem_toArray, List.getElem_cons_zero, List.getElem_cons_succ, List.setIfInBounds_toArray, List.set_cons_zero, List.set_cons_succ]) | (refine wpList_store_blk rfl (.tmp 15) (.tmp 55) rfl w3.heap.size 0 64 (fun _ => 0) V F5.out (by omega) rfl rfl ?_; intro w6 F6 HK6; have HB5 := Lib.hid hb5; clear hb5 F5))
      obtain ⟨bB, hbB⟩ : ∃ x, w3.heap.size = x := ⟨_, rfl⟩
      have hB0 : w1.heap.size ≤ bB := by omega
      have hRl := (ownsRow_lt HO3.out).2
      have HB6 := Lib.hid ((HB3.out.keep HB5.out).new HK6.out (by omega))
      have HO6 := Lib.hid (ownsRow_kp (ownsRow_below HO3.out HB5.out) HK6.out (by omega))
      have F6' := Lib.hid (F6.out.congr (fun j hj => upd_zero 64 V j hj _))
      rw [hbB] at F6' hRl
      try rw [hbB]
      clear F6 HK6 HB5 HB3 HO3 hbB hz5 hs3
      have hrr := HR.out
      have hr0 : (0 : Int) ≤ r := by omega
      have hr1 : (r : Int) < 64 := by omega
      have hr2 : (r : Int) ≤ 64 := by omega
      have hmw := HM.out
      have hm0 : (0 : Int) ≤ mm := by omega
      have hm2 : (mm : Int) ≤ ((64 - r : Nat) : Int) := by omega
      have hcl : (byts mm fun j => V (r + j)).length = mm * 1 := by rw [byts_len, Nat.mul_one]
      have hcn : ∀ j u, (byts mm fun j => V (r + j))[j]? = some u → w6.cell? ((⟨bB, r, none⟩ : Addr).add j) = some u := fun j u hj => by
        obtain ⟨h1, rfl⟩ := byts_of hj
        rw [Addr.add_mid]
        exact F6'.out.c (r + j) (by omega)
      have HCL := Lib.hid hcl
      have HCn := Lib.hid hcn
      clear hcl hcn
      have hroom : i + mm ≤ cnt := by omega
      go_wp2_with (at_builtin; refine wpList_append_own_spare _ rfl _ _ 24 rfl bR 5 i5 1 Tryz.sl34 HI5.out HS5.out bR i cnt _ rfl HO6.out ⟨bB, r, none⟩ mm (64 - r) (byts mm fun j => V (r + j)) rfl HCL.out HCn.out (byts_one _ _) hroom ?_; intro w7 hown7 hgr7; have HOw7 := Lib.hid hown7; have HB7 := Lib.hid (HB6.out.new (Kp.of_grown hgr7) hR0); clear hown7 hgr7)
      go_roundw
      case rel =>
        have hrr2 := HRr.out
        refine ⟨i + mm, by omega, rfl, ⟨k + 1, HB7.out.mono (Lm.le_refl _) (by omega), by omega, by omega⟩, ?_⟩
        have hcg : byts mm (fun j => V (r + j)) = byts mm (fun j => ctF DA Y b0 (off + (i + j))) := byts_congr fun j hj => by
          have hrr := HRr.out
          unfold ctF
          rw [show (off + (i + j)) / 64 = (off + i) / 64 by omega, show (off + (i + j)) % 64 = r + j by omega, HV.out]
        rw [byts_append, ← hcg]
        exact HOw7.out
      case measure => simp; omega
    · obtain rfl : i = cnt := by omega
      go_wp2_with fail
      go_ret2
      refine ⟨bR, rfl, by have := HK1.out.size; omega, fl_of_owns HOr.out, HBr.out.gr.mono (Lm.le_refl _) (by omega), HK1.out.join HBr.out.kf (fun a ha => ?_)⟩
      simp only [List.mem_cons, List.not_mem_nil, or_false] at ha ⊢
      omega
end Go.Proofs.YtbnpgkclnebnmaaGreat
