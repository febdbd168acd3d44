import Derived.Test.YtbnpgkclnebnmaaGreatF3
import Derived.Test.YtbnpgkclnebnmaaGreatQ5
import Derived.Test.YtbnpgkclnebnmaaGreatQ6
/- Files: a body in its group; at. -/
namespace Go.Proofs.YtbnpgkclnebnmaaGreat
set_option linter.unusedSimpArgs false
set_option linter.unusedVariables false
open Go.RowKit Go.Maps

variable {ln : Lm}
/-- a body b of an opened group, as it was, from world w0 on, but for what is of the transaction, and the body -/
structure Bo (w0 w : World) (b q p t m d gg lab : Nat) (g : Cf.Ge) (B0 NB N : Nat) (ln : Lm) (Y : Nat → Nat → Int) (K : Nat) (f : Nat → Int) : Prop where
  gr : Gr w q p t m d gg lab g B0 NB N ln Y K
  bd : Vl w b (bdc q f)
  nb : b ∉ [q, p, t, m, d, gg]
  kf : Kf w0 w [t, m, d, gg, b]
  lt : ∀ a ∈ [b, q, p, t, m, d, gg], a < w0.heap.size
theorem Bo.keep {w0 w w' : World} {b q p t m d gg lab B0 NB N K : Nat} {ln : Lm} {g : Cf.Ge} {Y : Nat → Nat → Int} {f : Nat → Int} (h : Bo w0 w b q p t m d gg lab g B0 NB N ln Y K f) (hb : Below w.heap.size w w') : Bo w0 w' b q p t m d gg lab g B0 NB N ln Y K f :=
  ⟨h.gr.keep hb, h.bd.keep hb, h.nb, h.kf.trans (Kf.of_below hb _), h.lt⟩
theorem Bo.self {w0 w : World} {b q p t m d gg lab B0 NB N K : Nat} {ln : Lm} {g : Cf.Ge} {Y : Nat → Nat → Int} {f : Nat → Int} (h : Bo w0 w b q p t m d gg lab g B0 NB N ln Y K f) : Bo w w b q p t m d gg lab g B0 NB N ln Y K f :=
  ⟨h.gr, h.bd, h.nb, Kf.refl _ _, fun a ha => Nat.lt_of_lt_of_le (h.lt a ha) h.kf.size⟩
theorem Bo.trans {w0 w w' : World} {b q p t m d gg lab B0 NB N K : Nat} {ln : Lm} {g : Cf.Ge} {Y : Nat → Nat → Int} {f : Nat → Int} {Y' : Nat → Nat → Int} {f' : Nat → Int} {K' : Nat} {ln' : Lm} (h : Bo w0 w b q p t m d gg lab g B0 NB N ln Y K f) (k : Bo w w' b q p t m d gg lab g B0 NB N ln' Y' K' f') : Bo w0 w' b q p t m d gg lab g B0 NB N ln' Y' K' f' :=
  ⟨k.gr, k.bd, h.nb, h.kf.trans k.kf, h.lt⟩
theorem Bo.nin {w0 w : World} {b q p t m d gg lab B0 NB N K : Nat} {ln : Lm} {g : Cf.Ge} {Y : Nat → Nat → Int} {f : Nat → Int} (h : Bo w0 w b q p t m d gg lab g B0 NB N ln Y K f) {x : Nat} (hx : w0.heap.size ≤ x) : x ∉ [b, q, p, t, m, d, gg] := fun ha => by
  have := h.lt x ha
  omega
theorem Bo.call {w0 w w' : World} {b q p t m d gg lab B0 NB N K : Nat} {ln : Lm} {g : Cf.Ge} {Y : Nat → Nat → Int} {f : Nat → Int} {Y' : Nat → Nat → Int} {K' : Nat} {ln' : Lm} (h : Bo w0 w b q p t m d gg lab g B0 NB N ln Y K f) (hG : Gr w' q p t m d gg lab g B0 NB N ln' Y' K') (hk : Kf w w' [t, m, d, gg]) : Bo w0 w' b q p t m d gg lab g B0 NB N ln' Y' K' f := by
  have hn := h.nb
  simp only [List.mem_cons, List.not_mem_nil, or_false, not_or] at hn
  refine ⟨hG, h.bd.kf hk (by simp only [List.mem_cons, List.not_mem_nil, or_false]; omega), h.nb, h.kf.trans (hk.wide fun k hk => ?_), h.lt⟩
  simp only [List.mem_cons, List.not_mem_nil, or_false] at hk ⊢
  omega
theorem Bo.new {w0 w w' : World} {b q p t m d gg lab B0 NB N K : Nat} {ln : Lm} {g : Cf.Ge} {Y : Nat → Nat → Int} {f : Nat → Int} (h : Bo w0 w b q p t m d gg lab g B0 NB N ln Y K f) {x : Nat} (hk : Kp w w' x x) (hx : w0.heap.size ≤ x) : Bo w0 w' b q p t m d gg lab g B0 NB N ln Y K f := by
  have hn := h.nin hx
  simp only [List.mem_cons, List.not_mem_nil, or_false, not_or] at hn
  exact ⟨h.gr.kp hk (by simp only [List.mem_cons, List.not_mem_nil, or_false]; omega), h.bd.kp hk (by omega) (by omega), h.nb, h.kf.new hk hx, h.lt⟩
theorem Bo.mono {w0 w : World} {b q p t m d gg lab B0 NB N K : Nat} {ln : Lm} {g : Cf.Ge} {Y : Nat → Nat → Int} {f : Nat → Int} {K' : Nat} {ln' : Lm} (h : Bo w0 w b q p t m d gg lab g B0 NB N ln Y K f) (hl : Lm.Le ln ln') (hk : K ≤ K') : Bo w0 w b q p t m d gg lab g B0 NB N ln' Y K' f :=
  ⟨h.gr.mono hl hk, h.bd, h.nb, h.kf, h.lt⟩
theorem Bo.set {w0 w : World} {b q p t m d gg lab B0 NB N K : Nat} {ln : Lm} {g : Cf.Ge} {Y : Nat → Nat → Int} {f : Nat → Int} (h : Bo w0 w b q p t m d gg lab g B0 NB N ln Y K f) (i : Nat) (hi : i < 12) (v : Value) (f' : Nat → Int) (hv : (bdc q f).set (1 + i) v = bdc q f') : Bo w0 (w.setCell ⟨b, 1 + i, none⟩ v) b q p t m d gg lab g B0 NB N ln Y K f' := by
  have hk : Kp w (w.setCell ⟨b, 1 + i, none⟩ v) b b := (Kp.refl w b b).setA (1 + i) v
  have hb := h.bd.set (1 + i) (by show 1 + i < 13; omega) v
  rw [hv] at hb
  exact ⟨h.gr.kp hk h.nb, hb, h.nb, h.kf.trans (Kf.of_kp hk (by simp) (by simp)), h.lt⟩
theorem run0 (pv : Nat → Nat) (n : Nat) (h : ∀ k, k < n → pv k = 0 → pv (k + 1) = 0) (k : Nat) (hk : pv k = 0) : ∀ j, k + j ≤ n → pv (k + j) = 0
  | 0, _ => hk
  | j + 1, hj => h (k + j) (by omega) (run0 pv n h k hk j (by omega))
theorem Tryz.descBlk : ∃ d, Tryz.prog.underlying 59 = some d ∧ d.isRow = true := ⟨_, Tryz.arr36, rfl⟩
set_option maxRecDepth 100000 in
theorem Tryz.sliceWy (b n : Nat) (hn : n ≤ 2) (w : World) : (Instr.sliceAt 181 (.pointer (some ⟨b, 0, none⟩)) (some (.int .i64 1)) (some (.int .i64 ((n : Int) + 1))) none).run Tryz.prog w = .ok (.slice (some ⟨b, 1, none⟩) n 2) w := by
  have hc : n = 0 ∨ n = 1 ∨ n = 2 := by omega
  rcases hc with rfl | rfl | rfl <;> rfl
set_option maxHeartbeats 20000000 in
set_option maxRecDepth 100000 in
theorem at_gen (b q p t m d gg lab B0 P0 M DA NB N K : Nat) (g : Cf.Ge) (Y : Nat → Nat → Int) (f : Nat → Int) (a o : Nat) (n : Nat) (hn : n ≤ 2) (s1 s2 : Int) (sk pv : Nat → Nat)
    (HOW : ∀ W, Calls Tryz.prog 117 #[.pointer (some ⟨b, 0, none⟩), .int .i64 a] W fun e w' => e = .returned (.pointer (some ⟨b, 1 + o, none⟩)) ∧ w' = W)
    (HST : ∀ W, Calls Tryz.prog 118 #[.agg (wyc a s1 s2).toArray] W fun e w' => e = .returned (.int .i64 (n + 1)) ∧ Below W.heap.size W w')
    (ho : (ndc f)[o]? = some (.int .u16 (pv 0))) (hs : ∀ k, k < n → (wyc a s1 s2)[1 + k]? = some (.int .i64 (sk k + 1)) ∧ sk k < 32)
    (hpv : ∀ k, k < n → (pv k = 0 → pv (k + 1) = 0) ∧ (pv k ≠ 0 → pv k ≤ NB ∧ (pv (k + 1) : Int) = wd (Y (DA + (pv k - 1))) (sk k)))
    (hK : K < 600000000) (hg : GG g B0 P0 M DA NB N) (w : World) (h : Bo w w b q p t m d gg lab g B0 NB N ln Y K f) :
    Calls Tryz.prog 84 #[.pointer (some ⟨b, 0, none⟩), .agg (wyc a s1 s2).toArray] w fun e w' => e = .returned (.tuple #[.int .u16 (pv n), .int .i64 0]) ∧ Bo w w' b q p t m d gg lab g B0 NB N ln Y (K + 2) f := by
  obtain ⟨dB, hu, hd⟩ := Tryz.descBlk
  have HUB := Lib.hid hu
  have HDB := Lib.hid hd
  clear hu hd
  obtain ⟨dW, hu, hd⟩ := Tryz.descWy
  have HU := Lib.hid hu
  have HD := Lib.hid hd
  have HB := Lib.hid h
  have HO := Lib.hid HOW
  have HS := Lib.hid HST
  have HC := Lib.hid ho
  have HN := Lib.hid hs
  have HP := Lib.hid hpv
  have HG := Lib.hid hg
  have hN5 := hg.n512
  clear hu hd h HOW HST ho hs hpv hg
  go_enter Tryz.func84, Tryz.ntmps84
  go_upto_region 1 with (first | (refine wpList_box_list (w := w) rfl 181 _ rfl (wyc a s1 s2) rfl ?_; intro w1 F1 hb1 hz1; have HQ1 := Lib.hid hb1; clear hb1))
  obtain ⟨bW, hbW⟩ : ∃ x, w.heap.size = x := ⟨_, rfl⟩
  have HB1 := Lib.hid (HB.out.keep HQ1.out)
  have hW0 : w.heap.size ≤ bW := Nat.le_of_eq hbW
  have hW1 : bW < w1.heap.size := by omega
  rw [hbW] at F1
  try rw [hbW]
  clear hz1 HQ1 HB hbW
  have c0 := F1.out.c 0 _ rfl
  go_wp2_with fail
  refine (HO.out w1).mono ?_
  rintro e wz ⟨rfl, hwz⟩
  rw [hwz]
  clear hwz c0 HO
  have cb : w1.cell? ⟨b, 1 + o, none⟩ = some (.int .u16 (pv 0)) := HB1.out.bd.c (1 + o) _ (by rw [Nat.add_comm]; exact HC.out)
  have HR1 := Lib.hid F1.out.range0
  go_wp2_with (refine wpList_load_mid rfl 181 _ rfl bW 0 rfl (wyc a s1 s2) dW HR1.out HU.out HD.out (sizeWy _ _ _) ?_)
  clear cb
  refine (HS.out w1).mono ?_
  rintro e w2 ⟨rfl, hb⟩
  have HB2 := Lib.hid (HB1.out.keep hb)
  have F2 := Lib.hid (F1.out.keep hb)
  clear hb HS HR1 F1 HB1 HC
  have hn0 : (0 : Int) ≤ n := by omega
  have hn2 : (n : Int) ≤ 2 := by omega
  have hsl := Tryz.sliceWy bW n hn w2
  go_wp2_with fail
  clear hsl
  go_loopw [6, 8, 9, 10, 21] (fun v _ _ _ i wr => ∃ k : Nat, k ≤ n ∧ i = .int .i64 k ∧ v = .int .u16 (pv k) ∧ Bo w wr b q p t m d gg lab g B0 NB N ln Y (K + k) f ∧ Vl wr bW (wyc a s1 s2)) (fun _ _ _ _ i _ => n - (Go.RowKit.intOf i).toNat)
  case atStart => exact ⟨0, Nat.zero_le _, rfl, rfl, HB2.out, F2.out⟩
  case round =>
    obtain ⟨k, hk, rfl, rfl, hB, hF⟩ := hrel
    have HBr := Lib.hid hB
    have HFr := Lib.hid hF
    clear hB hF HB2 F2
    by_cases hlt : k < n
    · have hk0 : (0 : Int) ≤ k := by omega
      have hkk : (k : Int) < n := by omega
      have ck := HFr.out.c (1 + k) _ (HN.out k hlt).1
      have hsk := (HN.out k hlt).2
      by_cases hz : pv k = 0
      · have hR : pv n = 0 := by
          have := run0 pv n (fun j hj => (HP.out j hj).1) k hz (n - k) (by omega)
          rwa [show k + (n - k) = n by omega] at this
        have HR := Lib.hid hR
        have HZ := Lib.hid hz
        rw [hz]
        clear hR hz
        go_wp2_with fail
        go_ret2
        exact ⟨by rw [HR.out]; rfl, HBr.out.mono (Lm.le_refl _) (by omega)⟩
      · obtain ⟨hp1, hp2⟩ := (HP.out k hlt).2 hz
        obtain ⟨x, hx⟩ : ∃ x, pv k = x := ⟨_, rfl⟩
        obtain ⟨y, hy⟩ : ∃ y, pv (k + 1) = y := ⟨_, rfl⟩
        rw [hx] at hz hp1 hp2
        rw [hy] at hp2
        have hby := HBr.out.gr.rd.vb (DA + (x - 1))
        obtain ⟨V, hV⟩ : ∃ V, Y (DA + (x - 1)) = V := ⟨_, rfl⟩
        rw [hV] at hp2 hby
        have HGt := Lib.hid (gget_in q p t m d gg lab B0 P0 M DA NB N (K + k) g Y x (by omega) hp1 (by omega) HG.out wr HBr.out.gr)
        rw [hV] at HGt
        have HNu := Lib.hid (fun W => num_any V hby (sk k) hsk (sk k + 1) rfl W)
        rw [← hp2] at HNu
        rw [hx]
        have HY := Lib.hid hy
        have hx0 : ¬ ((x : Int) = 0) := by omega
        have hx1 : (0 : Int) ≤ x := by omega
        have hx2 : (x : Int) < 65536 := by omega
        have hqe := HBr.out.bd.c 0 _ rfl
        have HX := Lib.hid hx
        obtain ⟨xi, hxi⟩ : ∃ xi : Int, (x : Int) = xi := ⟨_, rfl⟩
        rw [hxi] at hx0 hx1 hx2 HGt ⊢
        clear hp2 hby hV hx hy hsk hxi hp1 hz
        go_wp2_with fail
        refine HGt.out.mono ?_
        rintro e w3 ⟨rfl, hG, hkk2⟩
        have HB3 := Lib.hid (HBr.out.call hG hkk2)
        have HF3 : Hid (Vl w3 bW (wyc a s1 s2)) := Lib.hid (HFr.out.kf hkk2 (fun ha => by have := HBr.out.nin hW0; simp only [List.mem_cons, List.not_mem_nil, or_false, not_or] at this ha; omega))
        have hs3 : w.heap.size ≤ w3.heap.size := HB3.out.kf.size
        clear hG hkk2 HGt HBr HFr hqe ck
        go_upto_region 7 with (first | (refine wpList_alloc_byts (w := w3) rfl 59 64 rfl Tryz.zero36 ?_; intro w5 F5 hb5 hz5; simp only [Act.put, List.getElem_toArray, List.getElem_cons_zero, List.getElem_cons_succ, List.setIfInBounds_toArray, List.set_cons_zero, List.set_cons_succ]; refine wpList_store_blk rfl (.tmp 9) (.tmp 34) rfl w3.heap.size 0 64 (fun _ => 0) V F5.out (by omega) rfl rfl ?_; intro w6 F6 HK6; have HB5 := Lib.hid hb5; clear hb5 F5))
        obtain ⟨bB, hbB⟩ : ∃ x, w3.heap.size = x := ⟨_, rfl⟩
        have hB0 : w.heap.size ≤ bB := by omega
        have HB6 := Lib.hid ((HB3.out.keep HB5.out).new HK6.out (by omega))
        have HF6 := Lib.hid ((HF3.out.keep HB5.out).kp HK6.out (by have := HF3.out.lt; omega) (by have := HF3.out.lt; omega))
        have F6' := Lib.hid (F6.out.congr (fun j hj => upd_zero 64 V j hj _))
        rw [hbB] at F6'
        try rw [hbB]
        have HR6 := Lib.hid F6'.out.range0
        clear F6 HK6 HB5 HB3 HF3 hbB hz5 hs3 F6'
        go_wp2_with (refine wpList_load_mid rfl 59 _ rfl bB 0 rfl (byts 64 V) dB HR6.out HUB.out HDB.out (size36 _) ?_)
        refine (HNu.out w6).mono ?_
        rintro e w7 ⟨rfl, hb⟩
        have HB7 := Lib.hid (HB6.out.keep hb)
        have HF7 := Lib.hid (HF6.out.keep hb)
        clear hb HNu HB6 HF6 HR6
        go_wp2_with fail
        go_roundw
        case rel => exact ⟨k + 1, by omega, by go_num, by rw [HY.out], HB7.out.mono (Lm.le_refl _) (by omega), HF7.out⟩
        case measure => simp [Go.RowKit.intOf]; omega
    · obtain rfl : k = n := by omega
      go_wp2_with fail
      go_ret2
      exact ⟨rfl, HBr.out.mono (Lm.le_refl _) (by omega)⟩
end Go.Proofs.YtbnpgkclnebnmaaGreat
