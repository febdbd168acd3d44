import Derived.Test.YtbnpgkclnebnmaaGreatZ19
import Derived.Deep.DeepAppendRoom
import Derived.Laws.OwnMore
import Derived.Test.YtbnpgkclnebnmaaGreatZ4
import Derived.OwnWalk
import Derived.Test.YtbnpgkclnebnmaaGreatZ18
import Derived.Laws.IdiomStrings
import Derived.Laws.AppendOwnNone
/- Files: Read. -/
/- The reference: nodes of files; New of a group of eight nodes. -/
/- The reference: files' nodes in memory (bytes, no entries), how many blocks they take. -/
/- Files: the laws: a small configuration, Awake. -/
/- Files: Awake. -/
/- Files: bytes as handed in; as strings; appended. -/

namespace Go.Proofs.YtbnpgkclnebnmaaGreat
set_option linter.unusedSimpArgs false
set_option linter.unusedVariables false
open Go.RowKit Go.Maps

variable {ln : Lm}
theorem ownsRow_kf {w w' : World} {L : List Nat} {base : Nat} {e : TypeId} {size n g c : Nat} {xs : List Value} (h : w.ownsRow base e size (.slice (some ⟨g, 0, none⟩) n c) n xs) (hk : Kf w w' L) (hg : g ∉ L) : w'.ownsRow base e size (.slice (some ⟨g, 0, none⟩) n c) n xs := by
  refine ⟨h.1, ?_⟩
  rcases h.2 with hn | ⟨g', cap, cur, hv, hb, hgg, rest⟩
  · exact .inl hn
  · refine .inr ⟨g', cap, cur, hv, hb, ?_, rest⟩
    injection hv with h1 h2 h3
    injection h1 with h4
    injection h4 with h5
    subst h5
    rw [hk.block g (Array.getElem?_eq_some_iff.1 hgg).1 hg]
    exact hgg
theorem ownsRow_kp {w w' : World} {x base : Nat} {e : TypeId} {size n g c : Nat} {xs : List Value} (h : w.ownsRow base e size (.slice (some ⟨g, 0, none⟩) n c) n xs) (hk : Kp w w' x x) (hg : g ≠ x) : w'.ownsRow base e size (.slice (some ⟨g, 0, none⟩) n c) n xs :=
  ownsRow_kf h (Kf.of_kp hk (L := [x]) (by simp) (by simp)) (by simpa using hg)
theorem Kp.of_grown {w w' : World} {g : Nat} (h : w.grownBy w' (some g)) : Kp w w' g g :=
  ⟨h.os, h.tape, h.output, h.size, fun k hk h1 _ => h.block k hk (by simpa using h1)⟩
theorem ownsRow_lt {w : World} {base : Nat} {e : TypeId} {size n g c : Nat} {xs : List Value} (h : w.ownsRow base e size (.slice (some ⟨g, 0, none⟩) n c) n xs) : base ≤ g ∧ g < w.heap.size := World.ownsRow.lt h g rfl
theorem fl_of_owns {w : World} {base n g c : Nat} {F : Nat → Int} (h : w.ownsRow base 5 1 (.slice (some ⟨g, 0, none⟩) n c) n (byts n F)) : Fl w g n F :=
  ⟨(ownsRow_lt h).2, fun j hj => by
    rw [World.ownsRow.cellAt h j (by omega)]
    exact byts_get F hj, fun j _ => World.ownsRow.frozenAt h j⟩
theorem Tryz.info5i : ∃ i, Tryz.prog.info? 5 = some i ∧ i.zero = some (.int .u8 0) ∧ i.size = 1 ∧ i.bytes = 1 := by
  have h : (Tryz.prog.info? 5).map (fun i => (i.zero, i.size, i.bytes)) = some (some (.int .u8 0), 1, 1) := by kernel_rfl
  obtain ⟨i, hi, he⟩ := Option.map_eq_some_iff.1 h
  simp only [Prod.mk.injEq] at he
  exact ⟨i, hi, he.1, he.2.1, he.2.2⟩
theorem run_make8 (w : World) (c : Nat) (hc : c ≤ 65536) : (Instr.makeSlice 24 (.int .i64 0) (.int .i64 (c : Int))).run Tryz.prog w = .ok (.slice (some ⟨w.heap.size, 0, none⟩) 0 c) (w.alloc (.cells (madeCells #[.int .u8 0] c) 5)) := by
  obtain ⟨i, hi, hz, hs, hb⟩ := Tryz.info5i
  have := run_make (P := Tryz.prog) w 24 5 i _ (by kernel_rfl) hi hz .i64 .i64 0 c (by omega) (by omega) (by rw [hb]; omega) (by omega)
  simp only [hs, Int.toNat_natCast, Int.toNat_zero, Nat.mul_one] at this
  exact this
set_option maxHeartbeats 40000000 in
set_option maxRecDepth 200000 in
theorem fread_in (q p t m d gg lab B0 P0 M DA NB N K : Nat) (g : Cf.Ge) (Y V : Nat → Nat → Int) (num : Nat) (h1 : 1 ≤ num) (h2 : num ≤ M) (hkd : ¬ V num 0 = 0) (sz : Nat) (hsz : V num 3 = sz) (hsz2 : sz ≤ 16384) (b0 : Nat → Nat) (S0 : Nat → Bool)
    (hFu : Fi DA NB Y (V num) S0 b0) (hS0 : ∀ c, 64 * c < sz → S0 c = true) (hI : Tab P0 M Y V) (hK : K < 200000000) (hg : GG g B0 P0 M DA NB N) (w : World) (h : Gr w q p t m d gg lab g B0 NB N ln Y K)
    (off : Nat) (ho : off ≤ 100000) (mi : Int) (m0 : 0 ≤ mi) (m1 : mi < 9223372036854775808) (cnt : Nat) (hcnt : (cnt : Int) = min mi (max ((sz : Int) - off) 0)) :
    Calls Tryz.prog 31 #[.pointer (some ⟨q, 0, none⟩), .int .i64 num, .int .i64 off, .int .i64 mi] w fun e w' => ∃ bR, e = .returned (.tuple #[.slice (some ⟨bR, 0, none⟩) cnt cnt, .int .i64 0]) ∧ w.heap.size ≤ bR ∧ Fl w' bR cnt (fun i => ctF DA Y b0 (off + i)) ∧ Gr w' q p t m d gg lab g B0 NB N ln Y (K + 1000) ∧ Kf w w' [t, m, d, gg] := by
  obtain ⟨i5, hi5, hz5, hs5, hb5⟩ := Tryz.info5i
  have HI5 := Lib.hid hi5
  have HS5 := Lib.hid hs5
  have HO := Lib.hid (fopen_in (ln := ln) q p t m d gg lab B0 P0 M DA NB N K g Y V num h1 h2 hkd (by omega) hI hg w h)
  obtain ⟨f0, hf⟩ : ∃ f, V num = f := ⟨_, rfl⟩
  rw [hf] at HO hsz hFu
  have HSz := Lib.hid (fun b q W hW => size_any b q f0 (by omega) (by omega) W hW)
  rw [hsz] at HSz
  have HRD := Lib.hid (fun b K' o ho' hS hK' W hW => read_slot (ln := ln) b q p t m d gg lab B0 P0 M DA NB N K' g Y f0 S0 b0 hFu o ho' hS hK' hg W hW)
  have HFi := Lib.hid hFu
  have HS0 := Lib.hid hS0
  have h0lt : ∀ a ∈ [q, p, t, m, d, gg], a < w.heap.size := fun a ha => by
    obtain ⟨l1, l2, l3, l4, l5, l6⟩ := h.lts
    simp only [List.mem_cons, List.not_mem_nil, or_false] at ha
    rcases ha with rfl | rfl | rfl | rfl | rfl | rfl <;> assumption
  have H0 := Lib.hid h0lt
  have hcs : cnt ≤ 16384 ∧ (cnt = 0 ∨ off + cnt ≤ sz) := by omega
  have HCN := Lib.hid hcnt
  obtain ⟨zi, hzi⟩ : ∃ z : Int, (sz : Int) = z := ⟨_, rfl⟩
  rw [hzi] at HSz HCN
  have HZI := Lib.hid hzi
  have hz0 : 0 ≤ zi := by omega
  have hz1 : zi ≤ 16384 := by omega
  obtain ⟨oi, hoi⟩ : ∃ z : Int, (off : Int) = z := ⟨_, rfl⟩
  rw [hoi] at HCN ⊢
  have HOI := Lib.hid hoi
  have ho0 : 0 ≤ oi := by omega
  have ho1 : oi ≤ 100000 := by omega
  clear h1 h2 hkd hsz hFu hI hg h hf h0lt hzi hoi hcnt hS0 hi5 hz5 hs5 hb5
  go_enter Tryz.func31, Tryz.ntmps31
  go_wp2_with fail
  refine HO.out.mono ?_
  rintro e w1 ⟨b, rfl, hb, hG, hVb, hk⟩
  have HB1 := Lib.hid (Bo.start H0.out hb hG hVb)
  have HK1 := Lib.hid hk
  have HS1 := Lib.hid (HSz.out b q w1 hVb)
  have hbw := hVb.lt
  clear hG hVb hk HO HSz
  have d1 : decide (oi < 0) = false := decide_eq_false (by omega)
  have d2 : decide (mi < 0) = false := decide_eq_false (by omega)
  go_wp2_with fail
  refine HS1.out.mono ?_
  rintro e wz ⟨rfl, hwz⟩
  rw [hwz]
  clear hwz HS1
  have hcn : min mi (max (zi - oi) 0) = (cnt : Int) := HCN.out.symm
  have hmk := run_make8 w1 cnt (by omega)
  go_upto_region 8 with fail
  have hO2 : (w1.alloc (.cells (madeCells #[.int .u8 0] cnt) 5)).ownsRow w1.heap.size 5 1 (.slice (some ⟨w1.heap.size, 0, none⟩) 0 cnt) 0 [] := World.ownsRow_made w1 _ cnt (Nat.le_refl _) (by unfold maxLen; omega) (by simp [madeCells])
  have hb2 : Below w1.heap.size w1 (w1.alloc (.cells (madeCells #[.int .u8 0] cnt) 5)) := (Below.refl _ _).alloc (Nat.le_refl _) _
  have HB2 := Lib.hid (HB1.out.keep hb2)
  have HO2 := Lib.hid hO2
  obtain ⟨w2, hw2⟩ : ∃ x, w1.alloc (.cells (madeCells #[.int .u8 0] cnt) 5) = x := ⟨_, rfl⟩
  obtain ⟨bR, hbR⟩ : ∃ x, w1.heap.size = x := ⟨_, rfl⟩
  have hR0 : w1.heap.size ≤ bR := Nat.le_of_eq hbR
  rw [hw2] at HB2 HO2
  try rw [hw2]
  rw [hbR] at HO2
  try rw [hbR]
  clear hw2 hmk hcn hO2 hb2 HB1
  have HO3 : Hid (w2.ownsRow bR 5 1 (.slice (some ⟨bR, 0, none⟩) 0 cnt) 0 (byts 0 fun j => ctF DA Y b0 (off + j))) := HO2
  clear HO2
  go_loopw [12, 13, 14, 15, 16, 17] (fun bs _ _ _ _ _ wr => ∃ i : Nat, i ≤ cnt ∧ bs = .slice (some ⟨bR, 0, none⟩) i cnt ∧ (∃ k, Bo w1 wr b q p t m d gg lab g B0 NB N ln Y (K + 1 + 3 * k) f0 ∧ k ≤ (off + i + 63) / 64 - off / 64 ∧ (i = 0 ∧ k = 0 ∨ (off + i) % 64 = 0 ∨ i = cnt)) ∧ wr.ownsRow bR 5 1 (.slice (some ⟨bR, 0, none⟩) i cnt) i (byts i fun j => ctF DA Y b0 (off + j))) (fun bs _ _ _ _ _ _ => cnt - (match bs with | .slice _ n _ => n | _ => 0))
  case atStart => exact ⟨0, Nat.zero_le _, rfl, ⟨0, HB2.out, Nat.zero_le _, .inl ⟨rfl, rfl⟩⟩, HO3.out⟩
  case round =>
    obtain ⟨i, hi, rfl, ⟨k, hB, hk, hk3⟩, hO⟩ := hrel
    have HBr := Lib.hid hB
    have HOr := Lib.hid hO
    clear hB hO HB2 HO3
    have hi0 : (0 : Int) ≤ i := by omega
    have hc0 : (cnt : Int) ≤ 16384 := by omega
    by_cases hlt : i < cnt
    · have hic : (i : Int) < cnt := by omega
      have ha16 : off + i < 16384 := by omega
      have hk258 : k ≤ 257 := by omega
      have hS := HS0.out ((off + i) / 64) (by omega)
      have hRd := HRD.out b (K + 1 + 3 * k) (off + i) ha16 hS (by omega) wr HBr.out.self
      obtain ⟨V, hV⟩ : ∃ V, Y (DA + (b0 ((off + i) / 64) - 1)) = V := ⟨_, rfl⟩
      rw [hV] at hRd
      obtain ⟨ai, hai⟩ : ∃ z : Int, oi + (i : Int) = z := ⟨_, rfl⟩
      have hai2 : ((off + i : Nat) : Int) = ai := by have := HOI.out; omega
      rw [hai2] at hRd
      have HRd := Lib.hid hRd
      have ha0 : 0 ≤ ai := by omega
      have ha1 : ai < 16384 := by omega
      obtain ⟨r, hr⟩ : ∃ r, (off + i) % 64 = r := ⟨_, rfl⟩
      have hr64 : r < 64 := by omega
      have HR : Hid (ai % 64 = (r : Int)) := Lib.hid (by omega)
      obtain ⟨mm, hmm⟩ : ∃ mm, min (64 - r) (cnt - i) = mm := ⟨_, rfl⟩
      have hm1 : mm ≤ 64 - r ∧ mm ≤ cnt - i ∧ 0 < mm ∧ (mm = 64 - r ∨ mm = cnt - i) := by omega
      have HM : Hid (min ((64 - r : Nat) : Int) ((cnt : Int) - i) = (mm : Int)) := Lib.hid (by omega)
      have HV := Lib.hid hV
      have HA2 := Lib.hid hai2
      have HRr := Lib.hid hr
      clear hRd hV hai2 hr hmm hS
      go_wp2_with fail
      clear hai
      refine HRd.out.mono ?_
      rintro e w3 ⟨rfl, hB3⟩
      have HB3 := Lib.hid (HBr.out.trans hB3)
      have hRn : bR ∉ [t, m, d, gg, b] := fun ha => by
        have := HBr.out.nin hR0
        simp only [List.mem_cons, List.not_mem_nil, or_false, not_or] at this ha
        omega
      have HO3 := Lib.hid (ownsRow_kf HOr.out hB3.kf hRn)
      have hs3 : w1.heap.size ≤ w3.heap.size := HB3.out.kf.size
      clear hB3 HRd HBr HOr hRn
      go_upto_region 11 with (first | (refine wpList_alloc_byts (w := w3) rfl 59 64 rfl Tryz.zero36 ?_; intro w5 F5 hb5 hz5; simp only [Act.put, List.getElem_toArray, List.getElem_cons_zero, List.getElem_cons_succ, List.setIfInBounds_toArray, List.set_cons_zero, List.set_cons_succ]) | (refine wpList_store_blk rfl (.tmp 15) (.tmp 55) rfl w3.heap.size 0 64 (fun _ => 0) V F5.out (by omega) rfl rfl ?_; intro w6 F6 HK6; have HB5 := Lib.hid hb5; clear hb5 F5))
      obtain ⟨bB, hbB⟩ : ∃ x, w3.heap.size = x := ⟨_, rfl⟩
      have hB0 : w1.heap.size ≤ bB := by omega
      have hRl := (ownsRow_lt HO3.out).2
      have HB6 := Lib.hid ((HB3.out.keep HB5.out).new HK6.out (by omega))
      have HO6 := Lib.hid (ownsRow_kp (ownsRow_below HO3.out HB5.out) HK6.out (by omega))
      have F6' := Lib.hid (F6.out.congr (fun j hj => upd_zero 64 V j hj _))
      rw [hbB] at F6' hRl
      try rw [hbB]
      clear F6 HK6 HB5 HB3 HO3 hbB hz5 hs3
      have hrr := HR.out
      have hr0 : (0 : Int) ≤ r := by omega
      have hr1 : (r : Int) < 64 := by omega
      have hr2 : (r : Int) ≤ 64 := by omega
      have hmw := HM.out
      have hm0 : (0 : Int) ≤ mm := by omega
      have hm2 : (mm : Int) ≤ ((64 - r : Nat) : Int) := by omega
      have hcl : (byts mm fun j => V (r + j)).length = mm * 1 := by rw [byts_len, Nat.mul_one]
      have hcn : ∀ j u, (byts mm fun j => V (r + j))[j]? = some u → w6.cell? ((⟨bB, r, none⟩ : Addr).add j) = some u := fun j u hj => by
        obtain ⟨h1, rfl⟩ := byts_of hj
        rw [Addr.add_mid]
        exact F6'.out.c (r + j) (by omega)
      have HCL := Lib.hid hcl
      have HCn := Lib.hid hcn
      clear hcl hcn
      have hroom : i + mm ≤ cnt := by omega
      go_wp2_with (at_builtin; refine wpList_append_own_spare _ rfl _ _ 24 rfl bR 5 i5 1 Tryz.sl34 HI5.out HS5.out bR i cnt _ rfl HO6.out ⟨bB, r, none⟩ mm (64 - r) (byts mm fun j => V (r + j)) rfl HCL.out HCn.out (byts_one _ _) hroom ?_; intro w7 hown7 hgr7; have HOw7 := Lib.hid hown7; have HB7 := Lib.hid (HB6.out.new (Kp.of_grown hgr7) hR0); clear hown7 hgr7)
      go_roundw
      case rel =>
        have hrr2 := HRr.out
        refine ⟨i + mm, by omega, rfl, ⟨k + 1, HB7.out.mono (Lm.le_refl _) (by omega), by omega, by omega⟩, ?_⟩
        have hcg : byts mm (fun j => V (r + j)) = byts mm (fun j => ctF DA Y b0 (off + (i + j))) := byts_congr fun j hj => by
          have hrr := HRr.out
          unfold ctF
          rw [show (off + (i + j)) / 64 = (off + i) / 64 by omega, show (off + (i + j)) % 64 = r + j by omega, HV.out]
        rw [byts_append, ← hcg]
        exact HOw7.out
      case measure => simp; omega
    · obtain rfl : i = cnt := by omega
      go_wp2_with fail
      go_ret2
      refine ⟨bR, rfl, by have := HK1.out.size; omega, fl_of_owns HOr.out, HBr.out.gr.mono (Lm.le_refl _) (by omega), HK1.out.join HBr.out.kf (fun a ha => ?_)⟩
      simp only [List.mem_cons, List.not_mem_nil, or_false] at ha ⊢
      omega
end Go.Proofs.YtbnpgkclnebnmaaGreat

namespace Go.Proofs.YtbnpgkclnebnmaaGreat
set_option linter.unusedSimpArgs false
set_option linter.unusedVariables false
open Go.RowKit Go.Maps

/-- a file's node of the reference: its kind, its links, its generation, how many bytes it has (it has no entries) -/
structure Rf where
  k : Int
  l : Int
  g : Int
  n : Nat
def rfc (x : Rf) (bv pv : Value) : List Value := [.int .u8 x.k, .int .i64 x.l, .int .u16 x.g, bv, pv]
theorem Tryz.zeroNd : (Tryz.prog.info? 91).map (fun i => i.zero) = some (some (.agg (rfc ⟨0, 0, 0, 0⟩ (.slice none 0 0) (.slice none 0 0)).toArray)) := by kernel_rfl
theorem Tryz.isizeNd : (Tryz.prog.info? 91).map (·.size) = some 5 := by kernel_rfl
theorem Tryz.descNd : ∃ d, Tryz.prog.underlying 91 = some d ∧ d.isRow = true := ⟨_, Tryz.underlying91, rfl⟩
theorem Tryz.descGr : ∃ d, Tryz.prog.underlying 82 = some d ∧ d.isRow = true := ⟨_, Tryz.underlying82, rfl⟩
theorem Tryz.isizeGr : (Tryz.prog.info? 82).map (·.size) = some 3 := by kernel_rfl
theorem Tryz.zeroGr : (Tryz.prog.info? 82).map (fun i => i.zero) = some (some (.agg [Value.slice none 0 0, .slice none 0 0, .int .i64 0].toArray)) := by kernel_rfl
theorem Tryz.infoNd : ∃ i, Tryz.prog.info? 91 = some i ∧ i.zero = some (.agg (rfc ⟨0, 0, 0, 0⟩ (.slice none 0 0) (.slice none 0 0)).toArray) ∧ i.size = 5 ∧ i.bytes = 72 := by
  have h : (Tryz.prog.info? 91).map (fun i => (i.zero, i.size, i.bytes)) = some (some (.agg (rfc ⟨0, 0, 0, 0⟩ (.slice none 0 0) (.slice none 0 0)).toArray), 5, 72) := by kernel_rfl
  obtain ⟨i, hi, he⟩ := Option.map_eq_some_iff.1 h
  simp only [Prod.mk.injEq] at he
  exact ⟨i, hi, he.1, he.2.1, he.2.2⟩
theorem rfc_one (x : Rf) (pa pb : Option Addr) (n c n' c' : Nat) : ∀ v ∈ rfc x (.slice pa n c) (.slice pb n' c'), v.oneCell' = true := by
  intro v hv
  simp only [rfc, List.mem_cons, List.not_mem_nil, or_false] at hv
  rcases hv with rfl | rfl | rfl | rfl | rfl <;> rfl
/-- a file's node with its bytes, and its two slices -/
abbrev Mf := Rf × (Nat → Int) × Value × Value
def fcc (m : Mf) : List Value := rfc m.1 m.2.2.1 m.2.2.2
def flF (M : List Mf) : List Value := M.flatMap fcc
theorem flF_cons (a : Mf) (E : List Mf) : flF (a :: E) = .int .u8 a.1.k :: .int .i64 a.1.l :: .int .u16 a.1.g :: a.2.2.1 :: a.2.2.2 :: flF E := rfl
theorem flF_len (M : List Mf) : (flF M).length = M.length * 5 := by
  induction M with
  | nil => rfl
  | cons e E ih => rw [flF_cons]; simp only [List.length_cons, ih]; omega
theorem flF_set (M : List Mf) (i : Nat) (hi : i < M.length) (m : Mf) : ((((((flF M).set (i * 5) (.int .u8 m.1.k)).set (i * 5 + 1) (.int .i64 m.1.l)).set (i * 5 + 2) (.int .u16 m.1.g)).set (i * 5 + 3) m.2.2.1).set (i * 5 + 4) m.2.2.2) = flF (M.set i m) := by
  induction M generalizing i with
  | nil => simp at hi
  | cons a E ih =>
    cases i with
    | zero => rw [List.set_cons_zero, flF_cons, flF_cons]; rfl
    | succ i =>
      rw [List.set_cons_succ, flF_cons, flF_cons, show (i + 1) * 5 = i * 5 + 1 + 1 + 1 + 1 + 1 by omega]
      simp only [List.set_cons_succ]
      rw [← ih i (by simpa using hi)]
/-- a node set -/
theorem Vl.setF {w : World} {g : Nat} {M : List Mf} (h : Vl w g (flF M)) (i : Nat) (hi : i < M.length) (m : Mf) : Vl (w.setCells g (i * 5) (fcc m)) g (flF (M.set i m)) := by
  have hl := flF_len M
  have h1 := h.set (i * 5) (by omega) (.int .u8 m.1.k)
  have h2 := h1.set (i * 5 + 1) (by rw [List.length_set]; omega) (.int .i64 m.1.l)
  have h3 := h2.set (i * 5 + 2) (by rw [List.length_set, List.length_set]; omega) (.int .u16 m.1.g)
  have h4 := h3.set (i * 5 + 3) (by rw [List.length_set, List.length_set, List.length_set]; omega) m.2.2.1
  have h5 := h4.set (i * 5 + 4) (by rw [List.length_set, List.length_set, List.length_set, List.length_set]; omega) m.2.2.2
  rw [flF_set M i hi m] at h5
  exact h5
theorem Vl.thereF {w : World} {g : Nat} {M : List Mf} (h : Vl w g (flF M)) (i : Nat) (hi : i < M.length) : w.there g (i * 5) 5 := fun j hj => by
  have hl := flF_len M
  have hj' : i * 5 + j < (flF M).length := by omega
  refine ⟨?_, h.z _ hj'⟩
  rw [h.c (i * 5 + j) _ (List.getElem?_eq_getElem hj')]
  rfl
def z0F : Mf := (⟨0, 0, 0, 0⟩, fun _ => 0, .slice none 0 0, .slice none 0 0)
def d0F : Mf := (⟨2, 1, 1, 0⟩, fun _ => 0, .slice none 0 0, .slice none 0 0)
def n0F : Mf := (⟨1, 1, 1, 0⟩, fun _ => 0, .slice none 0 0, .slice none 0 0)
/-- the nodes of a new group of eight -/
def newF8 : List Mf := [z0F, d0F, n0F, n0F, z0F, z0F, z0F, z0F, z0F]
theorem made_flF : (madeCells (fcc z0F).toArray (9 * 5)).toList = flF (List.replicate 9 z0F) := by kernel_rfl
set_option maxHeartbeats 40000000 in
set_option maxRecDepth 200000 in
theorem rnew8 (bl : Int) (w : World) :
    Calls Tryz.prog 26 #[.int .i64 bl, .int .i64 8] w fun e w' => ∃ g, e = .returned (.agg #[.slice (some ⟨g, 0, none⟩) 9 9, .slice none 0 0, .int .i64 bl]) ∧ Vl w' g (flF newF8) ∧ w.heap.size ≤ g ∧ Below w.heap.size w w' := by
  obtain ⟨dN, hu, hd⟩ := Tryz.descNd
  have HU := Lib.hid hu
  have HD := Lib.hid hd
  obtain ⟨dG, hug, hdg⟩ := Tryz.descGr
  have HUG := Lib.hid hug
  have HDG := Lib.hid hdg
  obtain ⟨iN, hiN, hzN, hsN, hbN⟩ := Tryz.infoNd
  have HIN := Lib.hid hiN
  have HZN := Lib.hid hzN
  have HSND := Lib.hid hsN
  have HBN := Lib.hid hbN
  clear hu hd hug hdg hiN hzN hsN hbN
  go_enter Tryz.func26, Tryz.ntmps26
  go_upto_region 2 with (first | (refine wpList_alloc_list (w := w) rfl 82 rfl [.slice none 0 0, .slice none 0 0, .int .i64 0] Tryz.zeroGr ?_; intro w1 F1 hb1 hz1; have HB1 := Lib.hid hb1; clear hb1 hz1) | (refine wpList_make_full w1 rfl _ _ 79 rfl w1.heap.size 91 iN _ 5 Tryz.underlying79 HIN.out HZN.out HSND.out .i64 .i64 _ _ 9 rfl rfl (by omega) (by omega) (by rw [HBN.out]; omega) (by unfold maxLen; omega) (Nat.le_refl _) ?_; intro w2 hown2 hgrow2; have HO2 := Lib.hid hown2; have HB2 := Lib.hid (Below.grown (Below.refl w1.heap.size w1) hgrow2 (Nat.le_refl _) (fun k hk => by cases hk)); clear hown2 hgrow2) | (refine wpList_alloc_list (w := w2) rfl 82 rfl [.slice none 0 0, .slice none 0 0, .int .i64 0] Tryz.zeroGr ?_; intro w3 F3 hb3 hz3; have HB3 := Lib.hid hb3; clear hb3 hz3; simp only [Act.put, List.getElem_toArray, List.getElem_cons_zero, List.getElem_cons_succ, List.setIfInBounds_toArray, List.set_cons_zero, List.set_cons_succ]) | (refine wpList_store_list rfl 82 (.tmp 5) (.tmp 10) rfl w2.heap.size [.slice none 0 0, .slice none 0 0, .int .i64 0] [.slice (some ⟨w1.heap.size, 0, none⟩) 9 9, .slice none 0 0, .int .i64 bl] rfl rfl F3.out rfl Tryz.isizeGr (by simp [Value.oneCell']) ?_; intro w4 F4 HK4))
  have hl1 := F1.out.lt
  have hg2 : w1.heap.size < w2.heap.size := (World.ownsRow.lt HO2.out w1.heap.size rfl).2
  have hO2 : Vl w2 w1.heap.size (flF (List.replicate 9 z0F)) := by
    have h9 := HO2.out
    refine ⟨hg2, fun j v hj => ?_, fun j _ => World.ownsRow.frozenAt h9 j⟩
    have hj5 : j < 45 := (List.getElem?_eq_some_iff.1 hj).1
    rw [World.ownsRow.cellAt h9 j hj5]
    rw [← made_flF] at hj
    exact hj
  have HP0 := Lib.hid ((hO2.keep HB3.out).kp HK4.out (by omega) (by omega))
  have HR0 := Lib.hid ((((F1.out.keep HB2.out).keep HB3.out).kp HK4.out (by omega) (by omega)))
  have HB4 := Lib.hid (((HB1.out.trans (HB2.out.mono (Nat.le_of_lt hl1))).trans (HB3.out.mono (by omega))).trans (HK4.out.below (by omega) (by omega) (by have := HB3.out.size; omega)))
  obtain ⟨b4, hb4⟩ : ∃ x, w.heap.size = x := ⟨_, rfl⟩
  obtain ⟨gn, hgn⟩ : ∃ x, w1.heap.size = x := ⟨_, rfl⟩
  obtain ⟨bT, hbT⟩ : ∃ x, w2.heap.size = x := ⟨_, rfl⟩
  rw [hb4] at HR0 HB4 hl1
  rw [hgn] at HP0 F4 hl1 hg2
  rw [hbT] at F4 hg2
  try rw [hb4]
  try rw [hgn]
  try rw [hbT]
  have hne1 : b4 ≠ gn := by omega
  have hne2 : bT ≠ gn := by omega
  have hle : b4 ≤ gn := by omega
  have hM0 : (List.replicate 9 z0F).length = 9 := List.length_replicate
  have HF0 : Hid (Vl w4 bT [.slice (some ⟨gn, 0, none⟩) 9 9, .slice none 0 0, .int .i64 bl]) := F4
  have hwb : b4 < w4.heap.size := HR0.out.lt
  have HBE := Lib.hid hb4
  have HM0 := Lib.hid hM0
  clear hO2 HO2 HB2 HB3 HK4 F1 F3 F4 HB1 hgn hbT hg2 hl1 hb4 hwb hM0
  have HTh1 := Lib.hid (HP0.out.thereF 1 (by rw [HM0.out]; omega))
  have q1 := HF0.out.c 0 _ rfl
  go_upto_region 3 with (refine wpList_store_mid rfl 91 _ _ rfl gn (1 * 5) (fcc d0F).toArray rfl rfl HTh1.out Tryz.isizeNd (all_oneCell_toArray (rfc_one _ none none 0 0 0 0)) ?_)
  have hk1 : Kp w4 (w4.setCells gn (1 * 5) (fcc d0F)) gn gn := (Kp.refl w4 gn gn).setCells gn (1 * 5) (.inl rfl) _
  have HP1 := Lib.hid (Vl.setF HP0.out 1 (by rw [HM0.out]; omega) d0F)
  have HF1 := Lib.hid (HF0.out.kp hk1 hne2 hne2)
  have HR1 := Lib.hid (HR0.out.kp hk1 hne1 hne1)
  have HB5 := Lib.hid (HB4.out.trans (hk1.below hle hle (Nat.le_of_lt HR0.out.lt)))
  have HM1 : Hid (((List.replicate 9 z0F).set 1 d0F).length = 9) := Lib.hid (by rw [List.length_set, HM0.out])
  obtain ⟨y1, hy1⟩ : ∃ z, w4.setCells gn (1 * 5) (fcc d0F) = z := ⟨_, rfl⟩
  rw [hy1] at HP1 HF1 HR1 HB5
  try rw [hy1]
  try (change Code.wp _ _ _ _ (w4.setCells gn (1 * 5) (fcc d0F)); rw [hy1])
  clear hy1 hk1 q1 HTh1 HP0 HF0 HR0 HB4
  have HTh2 := Lib.hid (HP1.out.thereF 2 (by rw [HM1.out]; omega))
  have q2 := HF1.out.c 0 _ rfl
  go_upto_region 4 with (refine wpList_store_mid rfl 91 _ _ rfl gn (2 * 5) (fcc n0F).toArray rfl rfl HTh2.out Tryz.isizeNd (all_oneCell_toArray (rfc_one _ none none 0 0 0 0)) ?_)
  have hk2 : Kp y1 (y1.setCells gn (2 * 5) (fcc n0F)) gn gn := (Kp.refl y1 gn gn).setCells gn (2 * 5) (.inl rfl) _
  have HP2 := Lib.hid (Vl.setF HP1.out 2 (by rw [HM1.out]; omega) n0F)
  have HF2 := Lib.hid (HF1.out.kp hk2 hne2 hne2)
  have HR2 := Lib.hid (HR1.out.kp hk2 hne1 hne1)
  have HB6 := Lib.hid (HB5.out.trans (hk2.below hle hle (Nat.le_of_lt HR1.out.lt)))
  have HM2 : Hid ((((List.replicate 9 z0F).set 1 d0F).set 2 n0F).length = 9) := Lib.hid (by rw [List.length_set, HM1.out])
  obtain ⟨y2, hy2⟩ : ∃ z, y1.setCells gn (2 * 5) (fcc n0F) = z := ⟨_, rfl⟩
  rw [hy2] at HP2 HF2 HR2 HB6
  try rw [hy2]
  try (change Code.wp _ _ _ _ (y1.setCells gn (2 * 5) (fcc n0F)); rw [hy2])
  clear hy2 hk2 q2 HTh2 HP1 HF1 HR1 HB5
  have HTh3 := Lib.hid (HP2.out.thereF 3 (by rw [HM2.out]; omega))
  have q3 := HF2.out.c 0 _ rfl
  go_upto_region 5 with (refine wpList_store_mid rfl 91 _ _ rfl gn (3 * 5) (fcc n0F).toArray rfl rfl HTh3.out Tryz.isizeNd (all_oneCell_toArray (rfc_one _ none none 0 0 0 0)) ?_)
  have hk3 : Kp y2 (y2.setCells gn (3 * 5) (fcc n0F)) gn gn := (Kp.refl y2 gn gn).setCells gn (3 * 5) (.inl rfl) _
  have HP3 := Lib.hid (Vl.setF HP2.out 3 (by rw [HM2.out]; omega) n0F)
  have HF3 := Lib.hid (HF2.out.kp hk3 hne2 hne2)
  have HR3 := Lib.hid (HR2.out.kp hk3 hne1 hne1)
  have HB7 := Lib.hid (HB6.out.trans (hk3.below hle hle (Nat.le_of_lt HR2.out.lt)))
  have HM3 : Hid (((((List.replicate 9 z0F).set 1 d0F).set 2 n0F).set 3 n0F).length = 9) := Lib.hid (by rw [List.length_set, HM2.out])
  obtain ⟨y3, hy3⟩ : ∃ z, y2.setCells gn (3 * 5) (fcc n0F) = z := ⟨_, rfl⟩
  rw [hy3] at HP3 HF3 HR3 HB7
  try rw [hy3]
  try (change Code.wp _ _ _ _ (y2.setCells gn (3 * 5) (fcc n0F)); rw [hy3])
  clear hy3 hk3 q3 HTh3 HP2 HF2 HR2 HB6
  have HRT := Lib.hid HF3.out.range0
  go_wp2_with (first | (refine wpList_load_mid rfl 82 _ rfl bT 0 rfl [.slice (some ⟨gn, 0, none⟩) 9 9, .slice none 0 0, .int .i64 bl] dG HRT.out HUG.out HDG.out Tryz.isizeGr ?_) | (refine wpList_store_list rfl 82 (.tmp 4) (.tmp 23) rfl b4 [.slice none 0 0, .slice none 0 0, .int .i64 0] [.slice (some ⟨gn, 0, none⟩) 9 9, .slice none 0 0, .int .i64 bl] rfl rfl HR3.out rfl Tryz.isizeGr (by simp [Value.oneCell']) ?_; intro w9 F9 HK9))
  have hres := HP3.out.kp HK9.out (by omega) (by omega)
  have HB9 := Lib.hid (HB7.out.trans (HK9.out.below (Nat.le_refl _) (Nat.le_refl _) (Nat.le_of_lt HR3.out.lt)))
  exact bodyPost_ret_by (results_mid rfl _ _ b4 _ dG rfl F9.out.range0 HUG.out HDG.out Tryz.isizeGr) rfl ⟨gn, rfl, hres, by rw [HBE.out]; exact hle, by rw [HBE.out]; exact HB9.out⟩
end Go.Proofs.YtbnpgkclnebnmaaGreat

namespace Go.Proofs.YtbnpgkclnebnmaaGreat
set_option linter.unusedSimpArgs false
set_option linter.unusedVariables false
open Go.RowKit Go.Maps

structure Nf (w : World) (nb n : Nat) (L : List Rf) (bp : Nat → Value × Value) : Prop where
  lt : nb < w.heap.size
  len : L.length = n
  nd : ∀ (i : Nat) (x : Rf), L[i]? = some x → w.rangeAt nb (i * 5) (rfc x (bp i).1 (bp i).2)
  bs : ∀ (i : Nat) (x : Rf), L[i]? = some x → ∃ pa c, (bp i).1 = .slice pa x.n c
  es : ∀ i, i < n → ∃ pb c, (bp i).2 = .slice pb 0 c
  z : ∀ j, j < 5 * n → w.frozen? ⟨nb, j, none⟩ = false
theorem Nf.keep {w w' : World} {nb n : Nat} {L : List Rf} {bp : Nat → Value × Value} (h : Nf w nb n L bp) (hb : Below w.heap.size w w') : Nf w' nb n L bp :=
  ⟨Nat.lt_of_lt_of_le h.lt hb.size, h.len, fun i x hx j v hj => (hb.cell (p := ⟨nb, i * 5 + j, none⟩) h.lt).trans (h.nd i x hx j v hj), h.bs, h.es, fun j hj => (hb.frozen (p := ⟨nb, j, none⟩) h.lt).trans (h.z j hj)⟩
theorem sizeNf (x : Rf) (a b : Value) : (Tryz.prog.info? 91).map (·.size) = some (rfc x a b).length := Tryz.isizeNd
/-- how long a node is -/
def szF (x : Rf) : Int := if x.k = 2 then 0 else (x.n : Int)
set_option maxHeartbeats 20000000 in
set_option maxRecDepth 200000 in
theorem fsize_any (x : Rf) (pa pb : Option Addr) (c c' : Nat) (hE : x.n ≤ 16384) (w : World) : Calls Tryz.prog 111 #[.agg (rfc x (.slice pa x.n c) (.slice pb 0 c')).toArray] w fun e w' => e = .returned (.int .i64 (szF x)) ∧ Below w.heap.size w w' := by
  have hsz : szF x = if x.k = 2 then 0 else (x.n : Int) := rfl
  obtain ⟨k, l, g, m⟩ := x
  simp only at hsz hE ⊢
  have HS := Lib.hid hsz
  have hm0 : (0 : Int) ≤ m := by omega
  have hm1 : (m : Int) ≤ 16384 := by omega
  clear hsz hE
  go_enter Tryz.func111, Tryz.ntmps111
  go_upto_region 1 with (first | (refine wpList_box_list (w := w) rfl 91 _ rfl (rfc ⟨k, l, g, m⟩ (.slice pa m c) (.slice pb 0 c')) rfl ?_; intro w1 F1 hb1 hz1; have HB1 := Lib.hid hb1; clear hb1 hz1))
  have c0 := F1.out.c 0 _ rfl
  have c3 := F1.out.c 3 _ rfl
  have c4 := F1.out.c 4 _ rfl
  by_cases hk : k = 2
  · have HE : Hid (szF ⟨k, l, g, m⟩ = 0) := Lib.hid (by rw [HS.out, if_pos hk])
    subst hk
    go_wp2_with fail
    go_ret
    exact ⟨by rw [HE.out]; rfl, HB1.out⟩
  · have HE : Hid (szF ⟨k, l, g, m⟩ = (m : Int)) := Lib.hid (by rw [HS.out, if_neg hk])
    have hkb : (k == 2) = false := beq_eq_false_iff_ne.2 hk
    clear hk
    go_wp2_with fail
    go_ret
    exact ⟨by rw [HE.out]; rfl, HB1.out⟩
/-- how many blocks a node takes: of the second the table's -/
def bkF (tl i : Nat) (x : Rf) : Int := if x.k = 0 then 0 else dataS (if i = 2 then 8 * (tl : Int) else szF x) + ptrS (dataS (if i = 2 then 8 * (tl : Int) else szF x))
def f0R : Rf := ⟨0, 0, 0, 0⟩
/-- of the first i nodes, the very first one aside: their blocks, how many aren't free -/
def uBF (tl : Nat) (L : List Rf) : Nat → Int
  | 0 => 0
  | i + 1 => if i = 0 then 0 else uBF tl L i + bkF tl i (L.getD i f0R)
def uNF (L : List Rf) : Nat → Int
  | 0 => 0
  | i + 1 => if i = 0 then 0 else uNF L i + if (L.getD i f0R).k = 0 then 0 else 1
theorem bkF_bd (tl i : Nat) (x : Rf) (ht : tl ≤ 1024) (hE : x.n ≤ 16384) : 0 ≤ bkF tl i x ∧ bkF tl i x ≤ 300 := by
  unfold bkF szF dataS ptrS
  repeat' split
  all_goals omega
theorem uBF_bd (tl : Nat) (L : List Rf) (ht : tl ≤ 1024) (hE : ∀ x ∈ L, x.n ≤ 16384) : ∀ i, 0 ≤ uBF tl L i ∧ uBF tl L i ≤ 300 * i
  | 0 => ⟨Int.le_refl _, Int.le_refl _⟩
  | i + 1 => by
    have h := uBF_bd tl L ht hE i
    have hx : (L.getD i f0R).n ≤ 16384 := by
      rw [List.getD_eq_getElem?_getD]
      cases hg : L[i]? with
      | none => exact Nat.zero_le _
      | some x => exact hE x (List.mem_of_getElem? hg)
    have hb := bkF_bd tl i (L.getD i f0R) ht hx
    unfold uBF
    split
    · omega
    · omega
theorem uNF_bd (L : List Rf) : ∀ i, 0 ≤ uNF L i ∧ uNF L i ≤ i
  | 0 => ⟨Int.le_refl _, Int.le_refl _⟩
  | i + 1 => by
    have h := uNF_bd L i
    unfold uNF
    repeat' split
    all_goals omega
set_option maxHeartbeats 40000000 in
set_option maxRecDepth 200000 in
theorem fused_any (nb n cap tl tc : Nat) (ta : Option Addr) (bk : Int) (L : List Rf) (bp : Nat → Value × Value) (hn : 1 ≤ n) (hn2 : n ≤ 200) (ht : tl ≤ 1024) (hE : ∀ x ∈ L, x.n ≤ 16384) (w : World) (h : Nf w nb n L bp) :
    Calls Tryz.prog 76 #[.agg #[.slice (some ⟨nb, 0, none⟩) n cap, .slice ta tl tc, .int .i64 bk]] w fun e w' => e = .returned (.tuple #[.int .i64 (uBF tl L n), .int .i64 (uNF L n)]) ∧ Below w.heap.size w w' := by
  obtain ⟨dN, hu, hd⟩ := Tryz.descNd
  have HU := Lib.hid hu
  have HD := Lib.hid hd
  have HN := Lib.hid h
  have HE := Lib.hid hE
  have HUB := Lib.hid (uBF_bd tl L ht hE)
  have HUN := Lib.hid (uNF_bd L)
  have hn0 : (1 : Int) ≤ n := by omega
  have hn1 : (n : Int) ≤ 200 := by omega
  have ht0 : (0 : Int) ≤ tl := by omega
  have ht1 : (tl : Int) ≤ 1024 := by omega
  have hwt : IntKind.i64.wrap (8 * (tl : Int)) = 8 * tl := IntWalk.i64_in _ (by omega)
  clear hu hd h hE
  go_enter Tryz.func76, Tryz.ntmps76
  go_upto_region 1 with (first | (refine wpList_box_list (w := w) rfl 82 _ rfl [.slice (some ⟨nb, 0, none⟩) n cap, .slice ta tl tc, .int .i64 bk] rfl ?_; intro w1 F1 hb1 hz1; have HB1 := Lib.hid hb1; have hs1 := hb1.size; clear hb1 hz1))
  obtain ⟨bG, hbG⟩ : ∃ y, w.heap.size = y := ⟨_, rfl⟩
  rw [hbG] at F1
  try rw [hbG]
  have HBG := Lib.hid hbG
  clear hbG
  go_wp2_with fail
  go_loopw [4, 5, 6, 7, 8, 9, 10] (fun bv nv iv _ _ _ _ wr => ∃ i : Nat, 1 ≤ i ∧ i ≤ n ∧ iv = .int .i64 i ∧ bv = .int .i64 (uBF tl L i) ∧ nv = .int .i64 (uNF L i) ∧ Below w.heap.size w wr ∧ Vl wr bG [.slice (some ⟨nb, 0, none⟩) n cap, .slice ta tl tc, .int .i64 bk]) (fun _ _ iv _ _ _ _ _ => n - (Go.RowKit.intOf iv).toNat)
  case atStart => exact ⟨1, Nat.le_refl _, hn, rfl, rfl, rfl, HB1.out, F1.out⟩
  case round =>
    obtain ⟨i, hi1, hi2, rfl, rfl, rfl, hb, hV⟩ := hrel
    have HB := Lib.hid hb
    have HV := Lib.hid hV
    have hszr := hb.size
    clear hb hV F1 HB1
    have c0 := HV.out.c 0 _ rfl
    by_cases hlt : i < n
    · have hi0 : (1 : Int) ≤ i := by omega
      have hin : (i : Int) < n := by omega
      have HNr := Lib.hid (HN.out.keep HB.out)
      have hil : i < L.length := by rw [HN.out.len]; exact hlt
      obtain ⟨x, hx⟩ : ∃ x, L[i]? = some x := ⟨_, List.getElem?_eq_getElem hil⟩
      have hxE := HE.out x (List.mem_of_getElem? hx)
      obtain ⟨pa, ca, hpa⟩ := HNr.out.bs i x hx
      obtain ⟨pb, cb, hpb⟩ := HNr.out.es i hlt
      have hnd := HNr.out.nd i x hx
      rw [hpa, hpb] at hnd
      have HRg := Lib.hid hnd
      have hgx : L.getD i f0R = x := by rw [List.getD_eq_getElem?_getD, hx]; rfl
      have hub : uBF tl L (i + 1) = uBF tl L i + bkF tl i x := by
        rw [← hgx]
        show (if i = 0 then (0 : Int) else _) = _
        rw [if_neg (by omega)]
      have hun : uNF L (i + 1) = uNF L i + if x.k = 0 then 0 else 1 := by
        rw [← hgx]
        show (if i = 0 then (0 : Int) else _) = _
        rw [if_neg (by omega)]
      have HUb := Lib.hid hub
      have HUn := Lib.hid hun
      have HSz := Lib.hid (fun W => fsize_any x pa pb ca cb hxE W)
      have b1 := HUB.out i
      have b2 := HUN.out i
      have b3 := bkF_bd tl i x ht hxE
      have hbk : bkF tl i x = if x.k = 0 then 0 else dataS (if i = 2 then 8 * (tl : Int) else szF x) + ptrS (dataS (if i = 2 then 8 * (tl : Int) else szF x)) := rfl
      have HBk := Lib.hid hbk
      obtain ⟨ub, hubv⟩ : ∃ z, uBF tl L i = z := ⟨_, rfl⟩
      obtain ⟨un, hunv⟩ : ∃ z, uNF L i = z := ⟨_, rfl⟩
      rw [hubv] at HUb b1 ⊢
      rw [hunv] at HUn b2 ⊢
      obtain ⟨xk, hxk⟩ : ∃ z, x.k = z := ⟨_, rfl⟩
      rw [hxk] at HUn HBk
      have HC0 : Hid ((rfc x (.slice pa x.n ca) (.slice pb 0 cb))[0]? = some (.int .u8 xk)) := Lib.hid (by rw [← hxk]; rfl)
      have HOne := Lib.hid (rfc_one x pa pb x.n ca 0 cb)
      have HSn := Lib.hid (sizeNf x (.slice pa x.n ca) (.slice pb 0 cb))
      obtain ⟨cs, hcs⟩ : ∃ z, rfc x (.slice pa x.n ca) (.slice pb 0 cb) = z := ⟨_, rfl⟩
      have HL5 : Hid (cs.length = 5) := Lib.hid (hcs ▸ rfl)
      rw [hcs] at HRg HSz HC0 HOne HSn
      have hSz0 : 0 ≤ szF x ∧ szF x ≤ 16384 := by
        unfold szF
        split
        · decide
        · omega
      obtain ⟨sz, hszv⟩ : ∃ z, szF x = z := ⟨_, rfl⟩
      rw [hszv] at HSz HBk hSz0
      have hsz1 := hSz0.2
      clear hil hx hxE hpa hpb hnd hgx hub hun hbk hubv hunv hxk hcs hszv HNr hlt
      go_upto_region 6 with (first | (refine wpList_load_mid rfl 91 _ rfl nb (i * 5) rfl cs dN HRg.out HU.out HD.out HSn.out ?_) | (refine wpList_alloc_list (w := wr) rfl 91 rfl (rfc ⟨0, 0, 0, 0⟩ (.slice none 0 0) (.slice none 0 0)) Tryz.zeroNd ?_; intro w2 F2 hb2 hz2; simp only [Act.put, List.getElem_toArray, List.getElem_cons_zero, List.getElem_cons_succ, List.setIfInBounds_toArray, List.set_cons_zero, List.set_cons_succ]) | (refine wpList_store_list rfl 91 (.tmp 7) (.tmp 22) rfl wr.heap.size (rfc ⟨0, 0, 0, 0⟩ (.slice none 0 0) (.slice none 0 0)) cs rfl rfl F2.out (by rw [HL5.out]; rfl) HSn.out HOne.out ?_; intro w3 F3 HK3; have HQ2 := Lib.hid hb2; clear hb2 F2))
      obtain ⟨bx, hbx⟩ : ∃ y, wr.heap.size = y := ⟨_, rfl⟩
      have hVl := HV.out.lt
      have HB3 := Lib.hid ((HB.out.trans (HQ2.out.mono hszr)).trans (HK3.out.below hszr hszr (Nat.le_trans hszr HQ2.out.size)))
      have HV3 := Lib.hid ((HV.out.keep HQ2.out).kp HK3.out (by omega) (by omega))
      rw [hbx] at F3
      try rw [hbx]
      clear HQ2 HK3 HB HV hbx hz2 HRg hVl c0
      have d0 := F3.out.c 0 _ HC0.out
      by_cases hk0 : xk = 0
      · subst hk0
        have e1 : Hid (uBF tl L (i + 1) = ub) := Lib.hid (by rw [HUb.out, HBk.out, if_pos rfl]; omega)
        have e2 : Hid (uNF L (i + 1) = un) := Lib.hid (by rw [HUn.out, if_pos rfl]; omega)
        clear b1 b2 b3 hSz0 hsz1
        go_wp2_with fail
        go_roundw
        case rel => exact ⟨i + 1, by omega, by omega, by go_num, by rw [e1.out], by rw [e2.out], HB3.out, HV3.out⟩
        case measure => (simp [Go.RowKit.intOf]; try omega)
      · have hkb : (xk == 0) = false := beq_eq_false_iff_ne.2 hk0
        have e2 : Hid (uNF L (i + 1) = un + 1) := Lib.hid (by rw [HUn.out, if_neg hk0])
        have hbk2 : bkF tl i x = dataS (if i = 2 then 8 * (tl : Int) else sz) + ptrS (dataS (if i = 2 then 8 * (tl : Int) else sz)) := by rw [HBk.out, if_neg hk0]
        have hwn : IntKind.i64.wrap (un + 1) = un + 1 := IntWalk.i64_in _ (by omega)
        have HRx := Lib.hid F3.out.range0
        clear hk0
        go_wp2_with (refine wpList_load_mid rfl 91 _ rfl bx 0 rfl cs dN HRx.out HU.out HD.out HSn.out ?_)
        refine (HSz.out w3).mono ?_
        rintro e w4 ⟨rfl, hb⟩
        have HB4 := Lib.hid (HB3.out.trans (hb.mono HB3.out.size))
        have HV4 := Lib.hid (HV3.out.keep hb)
        clear hb HSz HB3 HV3 F3 HRx d0
        by_cases hi2' : i = 2
        · rw [if_pos hi2'] at hbk2
          have HSp := Lib.hid (fun W => rspread_any (8 * (tl : Int)) (by omega) W)
          obtain ⟨da, hda⟩ : ∃ z, dataS (8 * (tl : Int)) = z := ⟨_, rfl⟩
          obtain ⟨pt, hpt⟩ : ∃ z, ptrS da = z := ⟨_, rfl⟩
          rw [hda, hpt] at HSp hbk2
          have hda0 : 0 ≤ da ∧ da ≤ 300 := by rw [← hda]; unfold dataS; split <;> omega
          have e1 : Hid (uBF tl L (i + 1) = ub + da + pt) := Lib.hid (by rw [HUb.out, hbk2]; omega)
          have hw1 : IntKind.i64.wrap (ub + da) = ub + da := IntWalk.i64_in _ (by omega)
          have hw2 : IntKind.i64.wrap (ub + da + pt) = ub + da + pt := IntWalk.i64_in _ (by omega)
          have c1 := HV4.out.c 1 _ rfl
          have hi2i : (i : Int) = 2 := by omega
          clear hbk2 hda hpt hda0 b1 b2 b3 hSz0 hsz1
          go_wp2_with fail
          refine (HSp.out w4).mono ?_
          rintro e wz ⟨rfl, hwz⟩
          rw [hwz]
          clear hwz HSp c1
          go_wp2_with fail
          go_roundw
          case rel => exact ⟨i + 1, by omega, by omega, by go_num, by rw [e1.out], by rw [e2.out], HB4.out, HV4.out⟩
          case measure => (simp [Go.RowKit.intOf]; try omega)
        · rw [if_neg hi2'] at hbk2
          have HSp := Lib.hid (fun W => rspread_any sz (by omega) W)
          obtain ⟨da, hda⟩ : ∃ z, dataS sz = z := ⟨_, rfl⟩
          obtain ⟨pt, hpt⟩ : ∃ z, ptrS da = z := ⟨_, rfl⟩
          rw [hda, hpt] at HSp hbk2
          have hda0 : 0 ≤ da ∧ da ≤ 300 := by rw [← hda]; unfold dataS; split <;> omega
          have e1 : Hid (uBF tl L (i + 1) = ub + da + pt) := Lib.hid (by rw [HUb.out, hbk2]; omega)
          have hw1 : IntKind.i64.wrap (ub + da) = ub + da := IntWalk.i64_in _ (by omega)
          have hw2 : IntKind.i64.wrap (ub + da + pt) = ub + da + pt := IntWalk.i64_in _ (by omega)
          have hi2b : ((i : Int) == 2) = false := beq_eq_false_iff_ne.2 (by omega)
          clear hbk2 hda hpt hda0 b1 b2 b3 hSz0 hsz1 hi2'
          go_wp2_with fail
          refine (HSp.out w4).mono ?_
          rintro e wz ⟨rfl, hwz⟩
          rw [hwz]
          clear hwz HSp
          go_wp2_with fail
          go_roundw
          case rel => exact ⟨i + 1, by omega, by omega, by go_num, by rw [e1.out], by rw [e2.out], HB4.out, HV4.out⟩
          case measure => (simp [Go.RowKit.intOf]; try omega)
    · obtain rfl : i = n := by omega
      go_wp2_with fail
      go_ret2
      exact ⟨rfl, HB.out⟩
set_option maxHeartbeats 20000000 in
set_option maxRecDepth 200000 in
theorem ffull_any (nb n cap tl tc : Nat) (ta : Option Addr) (bk : Int) (L : List Rf) (bp : Nat → Value × Value) (hn : 1 ≤ n) (hn2 : n ≤ 200) (ht : tl ≤ 1024) (hE : ∀ x ∈ L, x.n ≤ 16384) (w : World) (h : Nf w nb n L bp) :
    Calls Tryz.prog 75 #[.agg #[.slice (some ⟨nb, 0, none⟩) n cap, .slice ta tl tc, .int .i64 bk]] w fun e w' => e = .returned (.bool (decide (bk < uBF tl L n))) ∧ Below w.heap.size w w' := by
  obtain ⟨dG, hu, hd⟩ := Tryz.descGr
  have HU := Lib.hid hu
  have HD := Lib.hid hd
  have HUs := Lib.hid (fun W hW => fused_any nb n cap tl tc ta bk L bp hn hn2 ht hE W hW)
  have HN := Lib.hid h
  obtain ⟨ub, hub⟩ : ∃ z, uBF tl L n = z := ⟨_, rfl⟩
  rw [hub] at HUs ⊢
  clear hu hd h hE hub
  go_enter Tryz.func75, Tryz.ntmps75
  go_upto_region 1 with (first | (refine wpList_box_list (w := w) rfl 82 _ rfl [.slice (some ⟨nb, 0, none⟩) n cap, .slice ta tl tc, .int .i64 bk] rfl ?_; intro w1 F1 hb1 hz1; have HB1 := Lib.hid hb1; have hs1 := hb1.size; clear hb1 hz1))
  have HRx := Lib.hid F1.out.range0
  go_wp2_with (refine wpList_load_mid rfl 82 _ rfl w.heap.size 0 rfl [.slice (some ⟨nb, 0, none⟩) n cap, .slice ta tl tc, .int .i64 bk] dG HRx.out HU.out HD.out Tryz.isizeGr ?_)
  refine (HUs.out w1 (HN.out.keep HB1.out)).mono ?_
  rintro e w2 ⟨rfl, hb⟩
  have HB2 := Lib.hid (HB1.out.trans (hb.mono hs1))
  have F2 := Lib.hid (F1.out.keep hb)
  clear hb HUs HRx HB1 F1
  have c2 := F2.out.c 2 _ rfl
  go_wp2_with fail
  go_ret
  exact ⟨rfl, HB2.out⟩
end Go.Proofs.YtbnpgkclnebnmaaGreat

namespace Go.Proofs.YtbnpgkclnebnmaaGreat
set_option linter.unusedSimpArgs false
set_option linter.unusedVariables false
open Go.RowKit Go.Maps

def H8 : Nat → Nat → Int := fun i j => if i = 0 ∧ j = 0 then 59 else if i = 1 ∧ j = 0 then 10 else 0
theorem H8_ok : Cf.Hok H8 := fun i j _ _ => by
  unfold H8
  split
  · decide
  · split <;> decide
def R8 : List Cf.Rg := Cf.sizeRs 2 H8
theorem R8_len : R8.length = 2 := Cf.sizeRs_len 2 (.inl rfl) H8
theorem R8_small : ∀ r ∈ R8, Cf.Small r := Cf.size_small 2 (.inl rfl) H8 H8_ok
theorem small_any (w : World) : Calls Tryz.prog 66 #[] w fun e w' => ∃ n vr vm vg, e = .returned (.pointer (some ⟨n + 3, 0, none⟩)) ∧ w.heap.size ≤ n ∧ Below w.heap.size w w' ∧ Cf.CF n w' vr vm vg R8 [] := by
  have hP := Lib.hid (fun W => Cf.sizeconf_two 0 (by decide) (by decide) H8 H8_ok (.slice none 0 0) [] (fun x hx => by cases hx) W (u8s_none W) (by decide) rfl)
  have e : Cf.sizeVal 0 H8 (.slice none 0 0) = .agg #[.int .u8 0, .int .u8 59, .int .u8 0, .int .u8 0, .int .u8 0, .int .u8 0, .int .u8 10, .int .u8 0, .int .u8 0, .int .u8 0, .int .u8 0, .int .u8 0, .int .u8 0, .int .u8 0, .int .u8 0, .int .u8 0, .int .u8 0, .int .u8 0, .int .u8 0, .int .u8 0, .int .u8 0, .int .u8 0, .int .u8 0, .int .u8 0, .int .u8 0, .int .u8 0, .slice none 0 0] := by kernel_rfl
  rw [e] at hP
  clear e
  go_enter Tryz.func66, Tryz.ntmps66
  go_wp2_with fail
  refine (hP.out w).mono ?_
  rintro e w1 ⟨n, vr, vm, vg, rfl, hn, hb, hCF⟩
  have HCF := Lib.hid hCF
  have HB := Lib.hid hb
  clear hCF hb hP
  go_wp2_with fail
  go_ret
  exact ⟨n, vr, vm, vg, rfl, hn, HB.out, HCF.out⟩
/-- what is known of that configuration, and of its first label's group -/
structure C8 (N : Nat) (g : Cf.Ge) (B0 P0 DA : Nat) : Prop where
  hN : (Cf.layF R8).2 = N
  n0 : 32 ≤ N
  n1 : N ≤ 65536
  hg : (Cf.layF R8).1[0]'(by rw [Cf.lay_len, R8_len]; decide) = g
  gg : GG g B0 P0 8 DA 67 N
theorem c8 : ∃ N g B0 P0 DA, C8 N g B0 P0 DA := by
  have hT := Cf.layF_range R8 R8_small R8.length (Nat.le_refl _)
  rw [List.take_length] at hT
  have hl := R8_len
  obtain ⟨N, hN⟩ := Int.eq_ofNat_of_zero_le (show 0 ≤ (Cf.layF R8).2 by omega)
  obtain ⟨g, hgi⟩ : ∃ g, (Cf.layF R8).1[0]'(by rw [Cf.lay_len, R8_len]; decide) = g := ⟨_, rfl⟩
  obtain ⟨B0, P0, M, DA, NB, hg, hbl, hnd⟩ := geo_gg R8 R8_small (by rw [hl]; decide) N hN 0 (by rw [hl]; decide) g hgi
  have e1 : (R8[0]'(by rw [hl]; decide)).bl = 67 := by kernel_rfl
  have e2 : (R8[0]'(by rw [hl]; decide)).nd = 8 := by kernel_rfl
  rw [e1] at hbl
  rw [e2] at hnd
  obtain rfl : NB = 67 := by omega
  obtain rfl : M = 8 := by omega
  exact ⟨N, g, B0, P0, DA, hN, by omega, by omega, hgi, hg⟩
theorem fresh8 {N : Nat} {g : Cf.Ge} {B0 P0 DA : Nat} (hc : C8 N g B0 P0 DA) (n : Nat) (vr vm vg : Value) (w : World) (h : Cf.CF n w vr vm vg R8 []) :
    Calls Tryz.prog 25 #[.pointer (some ⟨n + 3, 0, none⟩)] w fun e w' => ∃ t m d g' l Y, e = .returned (.tuple #[.pointer (some ⟨d, 0, none⟩), .pointer (some ⟨l, 0, none⟩), .pointer (some ⟨t, 0, none⟩)]) ∧ From w.heap.size t m d g' ∧ w.heap.size ≤ l ∧ l ∉ [t, m, d, g'] ∧ Lg w' l d 1 ∧ Rd w' t m d g' N ⟨[], Y⟩ Y 7000 ∧ Tab P0 8 Y (VF 3) ∧ (∀ j, j < 512 → bt Y B0 j = false) ∧ Below w.heap.size w w' := by
  have hl := R8_len
  refine (fresh_any n vr vm vg R8 [] R8_small (by rw [hl]; decide) (by rw [hl]; decide) N hc.hN hc.n0 hc.n1 w h).mono ?_
  rintro e w' ⟨t, m, d, g', l, Y, he, h1, h2, h3, h4, h5, h6, h7⟩
  have h8 := h6.done 0 (by rw [hl]; decide) (by rw [hl]; decide)
  rw [hc.hg] at h8
  obtain ⟨h9, h10⟩ := h8 B0 P0 8 DA 67 hc.gg
  exact ⟨t, m, d, g', l, Y, he, h1, h2, h3, h4, h5, h9, h10, h7⟩
theorem open8 {N : Nat} {g : Cf.Ge} {B0 P0 DA : Nat} (hc : C8 N g B0 P0 DA) (ln : Lm) (t m d gg n K : Nat) (Y : Nat → Nat → Int) (vr vm vg : Value) (w : World) (h : Cf.CF n w vr vm vg R8 []) (hr : Rd w t m d gg N ln Y K) :
    Calls Tryz.prog 13 #[.pointer (some ⟨t, 0, none⟩), .pointer (some ⟨n + 3, 0, none⟩), .int .i64 0] w fun e w' => ∃ q p, e = .returned (.tuple #[.pointer (some ⟨q, 0, none⟩), .int .i64 0]) ∧ w.heap.size ≤ q ∧ w.heap.size ≤ p ∧ Gr w' q p t m d gg 0 g B0 67 N ln Y K ∧ Below w.heap.size w w' :=
  gopen_in (ln := ln) t m d gg n B0 P0 8 DA 67 N K Y vr vm vg R8 [] 0 (by rw [R8_len]; decide) g hc.hg hc.gg w h hr
/-- a node that has no blocks -/
theorem Fu.none (B0 DA NB : Nat) (Y : Nat → Nat → Int) (f : Nat → Int) (b : Nat → Nat) (hf : ∀ i, 4 ≤ i → i < 12 → f i = 0) : Fu B0 DA NB Y f (ndS 0) b := by
  have hno : ∀ c, ndS 0 c = true → False := fun c hc => by
    rw [ndS_iff] at hc
    omega
  refine ⟨⟨fun c hc => (hno c hc).elim, fun c hc => ?_, fun c _ _ hc => (hno _ hc).elim, fun c _ hc => (hno c hc).elim, fun c hc => (hno c hc).elim, fun c c' hc => (hno c hc).elim⟩, fun c hc => (hno c hc).elim⟩
  rw [if_neg (fun hh => hno c hh)]
  exact hf _ (rtI_lt c hc).1 (rtI_lt c hc).2
theorem own_noblocks (k : Int) (i : Nat) (h4 : 4 ≤ i) : own k i = 0 := by
  unfold own
  rw [if_neg (by omega), if_neg (by omega), if_neg (by omega)]
theorem VF3 : VF 3 3 = own 1 := by
  unfold VF
  rw [if_pos (by decide)]
  rfl
/-- blocks that lack, though few are wanted: that can't be -/
theorem no_space (NB : Nat) (n : Nat → Bool) (B : Nat → Nat) (Ls : List Nat) (hLs : ∀ c, n c = true → c ∈ Ls) (hall : ∀ j, j < NB → ∃ c, n c = true ∧ B c = j + 1) : NB ≤ Ls.length := by
  have hch : ∃ f : Nat → Nat, ∀ j, j < NB → n (f j) = true ∧ B (f j) = j + 1 := by
    refine ⟨fun j => if h : j < NB then Classical.choose (hall j h) else 0, fun j hj => ?_⟩
    simp only [dif_pos hj]
    exact Classical.choose_spec (hall j hj)
  obtain ⟨f, hf⟩ := hch
  have h1 : ((List.range NB).map f).Nodup := by
    unfold List.Nodup
    rw [List.pairwise_map]
    refine List.Pairwise.imp_of_mem (R := fun a b => a ≠ b) (fun {a b} ha hb hab he => hab ?_) (List.nodup_range (n := NB))
    have h1 := (hf a (List.mem_range.1 ha)).2
    have h2 := (hf b (List.mem_range.1 hb)).2
    rw [he] at h1
    omega
  have := nodup_le _ Ls h1 (fun a ha => by
    obtain ⟨j, hj, rfl⟩ := List.mem_map.1 ha
    exact hLs _ (hf j (List.mem_range.1 hj)).1)
  simpa using this
end Go.Proofs.YtbnpgkclnebnmaaGreat

namespace Go.Proofs.YtbnpgkclnebnmaaGreat
set_option linter.unusedSimpArgs false
set_option linter.unusedVariables false
open Go.RowKit Go.Maps

theorem own1_mb (z : Nat) (hz : z ≤ 16384) : mbl (own 1 0) (z : Nat) = true := by
  show mbl 1 ((z : Nat) : Int) = true
  unfold mbl
  rw [if_pos rfl]
  exact decide_eq_true (by omega)
theorem Src.made (w : World) (sb n : Nat) (s : Nat → Int) (L : List Nat) (hF : Fl w sb n s) (hn : n ≤ maxLen) (hL : sb ∉ L) : Src w (.slice (some ⟨sb, 0, none⟩) n n) n s L :=
  ⟨_, n, rfl, Nat.le_refl _, hn, fun _ => ⟨sb, 0, rfl, ⟨hF.lt, fun j hj => by rw [Nat.zero_add]; exact hF.c j hj⟩, hL⟩⟩
theorem run_make100 (w : World) : (Instr.makeSlice 24 (.int .i64 100) (.int .i64 100)).run Tryz.prog w = .ok (.slice (some ⟨w.heap.size, 0, none⟩) 100 100) (w.alloc (.cells (madeCells #[.int .u8 0] 100) 5)) := by
  obtain ⟨i, hi, hz, hs, hb⟩ := Tryz.info5i
  have := run_make (P := Tryz.prog) w 24 5 i _ (by kernel_rfl) hi hz .i64 .i64 100 100 (by omega) (by omega) (by rw [hb]; omega) (by omega)
  simp only [hs] at this
  exact this
theorem Fl.zeros (w : World) (c : Nat) : Fl (w.alloc (.cells (madeCells #[.int .u8 0] c) 5)) w.heap.size c (fun _ => 0) := by
  refine ⟨by simp, fun j hj => ?_, fun j _ => by simp⟩
  rw [World.cell?_alloc_at _ _ _ _ rfl]
  simp [madeCells, hj, Nat.mod_one]
/-- the slots that these laws touch -/
def L8 : List Nat := 2000 :: List.range 19
theorem L8_mem (c : Nat) : c ∈ L8 ↔ c = 2000 ∨ c < 19 := by
  unfold L8
  simp
theorem L8_len : L8.length = 20 := rfl
theorem L8_has (c : Nat) (hc : c < 19) (i : Nat) (hi : i ≤ lenC c) : chS c i ∈ L8 := by
  have := (chS_cases c (by omega) (chS c i)).1 ⟨i, hi, rfl⟩
  rw [L8_mem]
  omega
theorem L8_nd (n c : Nat) (hn : n ≤ 19) (h : ndS n c = true) : c ∈ L8 := by
  rw [ndS_iff] at h
  rw [L8_mem]
  omega
/-- a write into a fresh file, from its beginning on -/
theorem write8 {N : Nat} {g : Cf.Ge} {B0 P0 DA : Nat} (hc : C8 N g B0 P0 DA) (q p t m d gg K : Nat) (Y0 D : Nat → Nat → Int) (b0 : Nat → Nat) (hI : Tab P0 8 Y0 (VF 3)) (hbit : ∀ j, j < 512 → bt Y0 B0 j = false) (hK : K < 260000000) (w : World) (h : Gr w q p t m d gg 0 g B0 67 N ⟨dl B0 (P0 + 1) DA b0 (ndS 0) L8, D⟩ Y0 K)
    (len : Nat) (hl : len ≤ 1216) (v : Value) (s : Nat → Int) (hs : ∀ j, j < len → 0 ≤ s j ∧ s j < 256) (hv : Src w v len s [t, m, d, gg]) :
    Calls Tryz.prog 35 #[.pointer (some ⟨q, 0, none⟩), .int .i64 3, .int .i64 0, v] w fun e w' => ∃ (Y : Nat → Nat → Int) (f : Nat → Int) (B : Nat → Nat), e = .returned (.int .i64 0) ∧ Gr w' q p t m d gg 0 g B0 67 N ⟨dl B0 (P0 + 1) DA B (ndS ((len + 63) / 64)) L8, D⟩ Y (K + 25000) ∧ Kf w w' [t, m, d, gg] ∧ Tab P0 8 Y (vput 3 f (VF 3)) ∧ Fu B0 DA 67 Y f (ndS ((len + 63) / 64)) B
      ∧ f 0 = 1 ∧ f 1 = 1 ∧ f 3 = len ∧ (∀ i, i < 64 * ((len + 63) / 64) → ctF DA Y B i = if i < len then s i else 0) ∧ (∀ j, j < 67 → (bt Y B0 j = true ↔ ∃ c, ndS ((len + 63) / 64) c = true ∧ B c = j + 1)) := by
  have hmax : max 0 (0 + len) = len := by omega
  have := fwrite_in q p t m d gg 0 B0 P0 8 DA 67 N K (P0 + 1) g Y0 (VF 3) b0 L8 D (by rw [L8_len]; decide) 3 rfl (by decide) (by decide) (by rw [VF3]; decide) (by rw [VF3]; decide) 0 (by rw [VF3]; rfl)
    (by rw [VF3]; exact Fu.none B0 DA 67 Y0 (own 1) b0 (fun i h4 _ => own_noblocks 1 i h4)) hI hK hc.gg w h 0 len (Nat.le_refl _) (by omega) (by omega) (by decide) (by rw [VF3, hmax]; exact own1_mb len (by omega)) (fun c _ hc2 i hi => L8_has c (by omega) i hi) v s hs hv
  rw [hmax] at this
  refine this.mono ?_
  rintro e w' (⟨Y, f, B, rfl, hG, hk, hT, hF, h0, h1, -, h3, hB, hy, hu, hfr, hct⟩ | ⟨Y, ln, B, n, -, -, -, -, hall, hn1, -, -, -, -, hu, -⟩)
  · refine ⟨Y, f, B, rfl, hG, hk, hT, hF, by rw [h0, VF3]; rfl, by rw [h1, VF3]; rfl, h3, fun i hi => ?_, fun j hj => ?_⟩
    · rw [hct i hi]
      by_cases e : i < len
      · rw [if_pos ⟨Nat.zero_le _, by omega⟩, if_pos e]
        rfl
      · rw [if_neg (by omega), if_neg e, if_neg (by omega)]
    · rw [hu j hj, hbit j (by omega)]
      constructor
      · rintro (h | ⟨c, h1, -, h2⟩)
        · cases h
        · exact ⟨c, h1, h2⟩
      · rintro ⟨c, h1, h2⟩
        exact .inr ⟨c, h1, (ndS_no _ _).2 (by omega), h2⟩
  · exfalso
    have := no_space 67 n B L8 (fun c hc2 => L8_nd _ c (by omega) (hn1 c hc2)) (fun j hj => by
      have := (hu j hj).1 (hall j hj)
      rw [hbit j (by omega)] at this
      rcases this with h | ⟨c, h1, -, h2⟩
      · cases h
      · exact ⟨c, h1, h2⟩)
    rw [L8_len] at this
    omega
set_option maxHeartbeats 40000000 in
set_option maxRecDepth 200000 in
theorem awake8 (w : World) : Calls Tryz.prog 24 #[] w fun e w' => e = .returned (.bool true) ∧ Below w.heap.size w w' := by
  go_enter Tryz.func24, Tryz.ntmps24
  obtain ⟨N, g, B0, P0, DA, hc8⟩ := c8
  have HC8 := Lib.hid hc8
  have HG := Lib.hid hc8.gg
  clear hc8
  go_wp2_with fail
  refine (small_any w).mono ?_
  rintro e w2 ⟨n, vr, vm, vg, rfl, -, hb2, hCF⟩
  have HB2 := Lib.hid (hb2)
  have HCF := Lib.hid hCF
  clear hb2 hCF
  go_wp2_with fail
  refine (fresh8 HC8.out n vr vm vg w2 HCF.out).mono ?_
  rintro e w3 ⟨t, mm, dd, gg, l, Y0, rfl, hFr, hll, hln, hLg, hRd, hTab, hbit, hb3⟩
  have HR3 := Lib.hid hRd
  have HL3 := Lib.hid hLg
  have HTab := Lib.hid hTab
  have HBit := Lib.hid hbit
  have HCF3 := Lib.hid (HCF.out.below hb3)
  have HB3 := Lib.hid (HB2.out.trans (hb3.mono HB2.out.size))
  have HNl := Lib.hid (show l ∉ [dd, gg] from fun h => hln (by simp only [List.mem_cons, List.not_mem_nil, or_false] at h ⊢; omega))
  have HNt := Lib.hid hln
  have hdd : w2.heap.size ≤ dd := hFr.2.2.1
  have hgg : w2.heap.size ≤ gg := hFr.2.2.2
  have hdt : w2.heap.size ≤ t := hFr.1
  have hdm : w2.heap.size ≤ mm := hFr.2.1
  have hw2 : w.heap.size ≤ w2.heap.size := HB2.out.size
  have hw3 := hb3.size
  have HCFx : Hid (∀ W, Below w2.heap.size w2 W → Cf.CF n W vr vm vg R8 []) := Lib.hid (fun W hk => HCF.out.below hk)
  have HZ3 := Lib.hid hb3
  clear hFr hll hln hLg hRd hTab hbit hb3 HCF
  have HOp := Lib.hid (open8 HC8.out ⟨dl B0 (P0 + 1) DA (fun _ => 0) (ndS 0) L8, Y0⟩ t mm dd gg n 7000 Y0 vr vm vg w3 HCF3.out (HR3.out.wide (Lm.nil_le _ _)))
  go_wp2_with fail
  refine HOp.out.mono ?_
  rintro e w4 ⟨q, p, rfl, hq, hp, hG, hb⟩
  have HG4 := Lib.hid hG
  have HB4 := Lib.hid (HZ3.out.trans (hb.mono hw3))
  have HL4 := Lib.hid (HL3.out.keep hb)
  clear hG hb HOp HR3 HCF3
  have hmk := run_make100 w4
  go_upto_region 5 with fail
  clear hmk
  have F5 := Lib.hid (Fl.zeros w4 100)
  have hb5 : Below w4.heap.size w4 (w4.alloc (.cells (madeCells #[.int .u8 0] 100) 5)) := (Below.refl _ _).alloc (Nat.le_refl _) _
  have HG5 := Lib.hid (HG4.out.keep hb5)
  have HL5 := Lib.hid (HL4.out.keep hb5)
  have HB5 := Lib.hid (HB4.out.trans (hb5.mono HB4.out.size))
  have hS5 : w4.heap.size ∉ [t, mm, dd, gg] := HG4.out.rd.notin (Nat.le_refl _)
  obtain ⟨w5, hw5⟩ : ∃ x, w4.alloc (.cells (madeCells #[.int .u8 0] 100) 5) = x := ⟨_, rfl⟩
  rw [hw5] at F5 HG5 HL5 HB5 ⊢
  have HW := Lib.hid (write8 HC8.out q p t mm dd gg 7000 Y0 Y0 (fun _ => 0) HTab.out HBit.out (by decide) w5 HG5.out 100 (by decide) _ (fun _ => 0) (fun j hj => by decide) (Src.made w5 w4.heap.size 100 (fun _ => 0) [t, mm, dd, gg] F5.out (by decide) hS5))
  clear hw5 hb5 hS5 HG4 HL4 HB4
  refine HW.out.mono ?_
  rintro e w6 ⟨Y1, f1, B1, rfl, hG6, hk6, hT6, hF6, hf0, hf1, hf3, hct6, hbt6⟩
  have HG6 := Lib.hid hG6
  have HK6 := Lib.hid hk6
  have HT6 := Lib.hid hT6
  have HF6 := Lib.hid hF6
  have Hf0 := Lib.hid hf0
  have Hf3 := Lib.hid hf3
  have hsz5 := HB5.out.size
  have HB6 : Hid (Below w2.heap.size w2 w6) := Lib.hid (HB5.out.trans (hk6.below (B := w2.heap.size) (fun a ha => by
    simp only [List.mem_cons, List.not_mem_nil, or_false] at ha
    omega) hsz5))
  have HL6 := Lib.hid (HL5.out.kf hk6 HNt.out)
  clear hG6 hk6 hT6 hF6 hf0 hf1 hf3 hct6 hbt6 HW HG5 HL5 HB5 F5
  have HCm := Lib.hid (commit7 t mm dd gg (7000 + 25000) Y1 (Ly.len L8 (by decide) _ _ _ _ _) (by decide) w6 HG6.out.rd)
  go_wp2_with fail
  refine HCm.out.mono ?_
  rintro e w7 ⟨rfl, hR7, hk7⟩
  have HR7 := Lib.hid hR7
  have hsz6 := HB6.out.size
  have HB7 : Hid (Below w2.heap.size w2 w7) := Lib.hid (HB6.out.trans (hk7.below (B := w2.heap.size) (fun a ha => by
    simp only [List.mem_cons, List.not_mem_nil, or_false] at ha
    omega) hsz6))
  have HL7 := Lib.hid (HL6.out.kf hk7 HNt.out)
  clear hR7 hk7 HCm HG6 HL6 HB6
  have HBg := Lib.hid (begin7 l t mm dd gg _ Y1 w7 HR7.out HL7.out)
  go_wp2_with fail
  refine HBg.out.mono ?_
  rintro e w8 ⟨t2, m2, rfl, ht2, hm2, hR8, hb8⟩
  have HR8 := Lib.hid hR8
  have HB8 := Lib.hid (HB7.out.trans (hb8.mono HB7.out.size))
  have hsz7 := HB7.out.size
  have hsz8 := HB8.out.size
  clear hR8 hb8 HBg HR7 HL7 HB7
  have HO2 := Lib.hid (open8 HC8.out _ t2 m2 dd gg n _ Y1 vr vm vg w8 (HCFx.out w8 HB8.out) HR8.out)
  go_wp2_with fail
  refine HO2.out.mono ?_
  rintro e w9 ⟨q2, p2, rfl, hq2, hp2, hG9, hb9⟩
  have HG9 := Lib.hid hG9
  have HB9 := Lib.hid (HB8.out.trans (hb9.mono HB8.out.size))
  clear hG9 hb9 HO2 HR8 HB8
  have hv1 : vput 3 f1 (VF 3) 3 = f1 := vput_at _ _ _
  have HRd := Lib.hid (fread_in q2 p2 t2 m2 dd gg 0 B0 P0 8 DA 67 N _ g Y1 (vput 3 f1 (VF 3)) 3 (by decide) (by decide) (by rw [hv1, Hf0.out]; decide) 100 (by rw [hv1]; exact Hf3.out) (by decide) B1 (ndS ((100 + 63) / 64)) (by rw [hv1]; exact HF6.out.fi) (fun c hc => (ndS_iff _ _).2 (by omega)) HT6.out (by decide) HC8.out.gg w9 HG9.out 90 (by decide) 99 (by decide) (by decide) 10 (by decide))
  clear hv1
  go_wp2_with fail
  refine HRd.out.mono ?_
  rintro e w10 ⟨bR, rfl, hbR, hF10, hG10, hk10⟩
  have hsz9 := HB9.out.size
  have HB10 : Hid (Below w2.heap.size w2 w10) := Lib.hid (HB9.out.trans (hk10.below (B := w2.heap.size) (fun a ha => by
    simp only [List.mem_cons, List.not_mem_nil, or_false] at ha
    omega) hsz9))
  clear hF10 hG10 hk10 HRd
  go_wp2_with fail
  go_ret
  exact ⟨rfl, HB2.out.trans (HB10.out.mono hw2)⟩
end Go.Proofs.YtbnpgkclnebnmaaGreat

namespace Go.Proofs.YtbnpgkclnebnmaaGreat
set_option linter.unusedSimpArgs false
set_option linter.unusedVariables false
open Go.RowKit Go.Maps

def strOf (n : Nat) (s : Nat → Int) : ByteArray := ⟨((List.range n).map fun j => UInt8.ofNat (s j).toNat).toArray⟩
/-- a slice of bytes as handed in: nil, or empty, or some bytes -/
def B8 (w : World) (pa : Option Addr) (n c : Nat) (s : Nat → Int) : Prop :=
  (pa = none ∧ n = 0 ∧ c = 0) ∨ (∃ ad, pa = some ad ∧ n = 0) ∨ ∃ b off, pa = some ⟨b, off, none⟩ ∧ b < w.heap.size ∧ ∀ j, j < n → w.cell? ⟨b, off + j, none⟩ = some (.int .u8 (s j))
theorem B8.keep {w w' : World} {pa : Option Addr} {n c : Nat} {s : Nat → Int} (h : B8 w pa n c s) (hb : Below w.heap.size w w') : B8 w' pa n c s := by
  rcases h with h | h | ⟨b, off, h1, h2, h3⟩
  · exact .inl h
  · exact .inr (.inl h)
  · exact .inr (.inr ⟨b, off, h1, Nat.lt_of_lt_of_le h2 hb.size, fun j hj => (hb.cell (p := ⟨b, off + j, none⟩) h2).trans (h3 j hj)⟩)
theorem u8_back (x : Int) (h0 : 0 ≤ x) (h1 : x < 256) : ((UInt8.ofNat x.toNat).toNat : Int) = x := by
  rw [UInt8.toNat_ofNat']
  omega
set_option maxRecDepth 100000 in
theorem str_cells {w : World} {b off n c : Nat} {s : Nat → Int} (hs : ∀ j, j < n → 0 ≤ s j ∧ s j < 256) (h : ∀ j, j < n → w.cell? ⟨b, off + j, none⟩ = some (.int .u8 (s j))) :
    (convert 24 9 (.slice (some ⟨b, off, none⟩) n c)).run Tryz.prog w = .ok (.string (strOf n s)) w := by
  have := run_convert_bytes_back (P := Tryz.prog) w 24 9 5 ⟨b, off, none⟩ c ((List.range n).map fun j => UInt8.ofNat (s j).toNat) (by kernel_rfl) (by kernel_rfl) (by kernel_rfl) (fun j hj => by
    have hj' : j < n := by simpa using hj
    rw [List.getElem_map, List.getElem_range, u8_back _ (hs j hj').1 (hs j hj').2, Addr.add_lit]
    exact h j hj')
  rw [List.length_map, List.length_range] at this
  exact this
set_option maxRecDepth 100000 in
theorem B8.str {w : World} {pa : Option Addr} {n c : Nat} {s : Nat → Int} (h : B8 w pa n c s) (hs : ∀ j, j < n → 0 ≤ s j ∧ s j < 256) :
    (convert 24 9 (.slice pa n c)).run Tryz.prog w = .ok (.string (strOf n s)) w := by
  rcases h with ⟨rfl, rfl, rfl⟩ | ⟨ad, rfl, rfl⟩ | ⟨b, off, rfl, h2, h3⟩
  · rw [run_convert_bytes_string w 24 9 5 none 0 0 (by kernel_rfl) (by kernel_rfl) (by kernel_rfl)]
    rfl
  · exact run_convert_bytes_back (P := Tryz.prog) w 24 9 5 ad c [] (by kernel_rfl) (by kernel_rfl) (by kernel_rfl) (fun j hj => absurd hj (Nat.not_lt_zero _))
  · exact str_cells hs h3
/-- these bytes appended to a slice of one's own -/
theorem wpList_append_b8 {P : Program} (w : World) {ops : Array Oper} {rest : List Oper} {o : Oper} {a : Act} {Q : Exit → Act → World → Prop} (hgd : o.guard = none) (s x : Operand) (t : TypeId)
    (ho : o.op = .call { callee := .builtin .append, args := #[s, x], argTypes := #[t, t] })
    (base : Nat) (e : TypeId) (i : TypeInfo) (z : Value) (ht : P.underlying t = some (.slice e)) (hi : P.info? e = some i) (hz : i.zero = some z)
    (hsize : i.size = 1) (hby : i.bytes = 1) (hzs : z.cells.size = 1)
    (g n cap : Nat) (xs : List Value) (hs : a.eval s = .slice (some ⟨g, 0, none⟩) n cap) (hown : w.ownsRow base e 1 (.slice (some ⟨g, 0, none⟩) n cap) n xs)
    (pa : Option Addr) (m c N : Nat) (hN : n + m = N) (f : Nat → Int) (hx : a.eval x = .slice pa m c) (hB : B8 w pa m c f) (h63 : n + m ≤ 100000) (hbase : base ≤ w.heap.size)
    (h : ∀ g' cap' w', w'.ownsRow base e 1 (.slice (some ⟨g', 0, none⟩) N cap') N (xs ++ byts m f) → w.grownBy w' (some g) → wpList P ops Q rest (a.put o.dst (.slice (some ⟨g', 0, none⟩) N cap')) w') : wpList P ops Q (o :: rest) a w := by
  subst hN
  have key : ∀ ad : Addr, pa = some ad → (∀ j u, (byts m f)[j]? = some u → w.cell? (ad.add j) = some u) → wpList P ops Q (o :: rest) a w := fun ad hpa hcl => by
    subst hpa
    refine wpList_append_own w hgd s x t ho base e i z 1 1 ht hi hz hsize hby hzs (by decide) _ n xs hs hown ad m c (byts m f) hx (by rw [byts_len]; omega) hcl (byts_one _ _) (by unfold maxLen; omega) (by omega) hbase ?_
    intro v' w' h1 h2 h3
    rcases h1.2 with ⟨hv, -⟩ | ⟨g', cap', cur, hv, -⟩
    · exact absurd (h3.1 hv).1 (by intro hh; cases hh)
    · subst hv
      exact h g' cap' w' h1 h2
  rcases hB with ⟨rfl, rfl, rfl⟩ | ⟨ad, rfl, rfl⟩ | ⟨b, off, rfl, h2, h3⟩
  · refine wpList_append_own_none hgd s x t ho base e i 1 ht hi _ n xs hs hown hx ?_
    exact h g cap w (by simpa [byts] using hown) (World.grownBy.refl _ _)
  · exact key ad rfl (fun j u hu => absurd (byts_of hu).1 (Nat.not_lt_zero _))
  · refine key _ rfl (fun j u hu => ?_)
    obtain ⟨h4, rfl⟩ := byts_of hu
    rw [Addr.add_lit]
    exact h3 j h4
end Go.Proofs.YtbnpgkclnebnmaaGreat
