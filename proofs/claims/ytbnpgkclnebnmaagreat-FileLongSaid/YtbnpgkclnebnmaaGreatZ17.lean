import Derived.Test.YtbnpgkclnebnmaaGreatZ14
import Derived.Test.YtbnpgkclnebnmaaGreatZ16
import Derived.Deep.CutBlock
import Derived.Deep.DeepCutAuto
/- Files: a body in its group; at. -/
/- Files: which blocks a node has (slots): the pure side of taking one. -/
/- Files: at and point, by slots. -/
/- Files: point, by slots. -/
/- A group: Make; Usage; a disk as an image. -/
/- A group: MakeLink; Fresh: a disk whose groups have their own nodes. -/

namespace Go.Proofs.YtbnpgkclnebnmaaGreat
set_option linter.unusedSimpArgs false
set_option linter.unusedVariables false
open Go.RowKit Go.Maps

variable {ln : Lm}
/-- a body b of an opened group, as it was, from world w0 on, but for what is of the transaction, and the body -/
structure Bo (w0 w : World) (b q p t m d gg lab : Nat) (g : Cf.Ge) (B0 NB N : Nat) (ln : Lm) (Y : Nat → Nat → Int) (K : Nat) (f : Nat → Int) : Prop where
  gr : Gr w q p t m d gg lab g B0 NB N ln Y K
  bd : Vl w b (bdc q f)
  nb : b ∉ [q, p, t, m, d, gg]
  kf : Kf w0 w [t, m, d, gg, b]
  lt : ∀ a ∈ [b, q, p, t, m, d, gg], a < w0.heap.size
theorem Bo.keep {w0 w w' : World} {b q p t m d gg lab B0 NB N K : Nat} {ln : Lm} {g : Cf.Ge} {Y : Nat → Nat → Int} {f : Nat → Int} (h : Bo w0 w b q p t m d gg lab g B0 NB N ln Y K f) (hb : Below w.heap.size w w') : Bo w0 w' b q p t m d gg lab g B0 NB N ln Y K f :=
  ⟨h.gr.keep hb, h.bd.keep hb, h.nb, h.kf.trans (Kf.of_below hb _), h.lt⟩
theorem Bo.self {w0 w : World} {b q p t m d gg lab B0 NB N K : Nat} {ln : Lm} {g : Cf.Ge} {Y : Nat → Nat → Int} {f : Nat → Int} (h : Bo w0 w b q p t m d gg lab g B0 NB N ln Y K f) : Bo w w b q p t m d gg lab g B0 NB N ln Y K f :=
  ⟨h.gr, h.bd, h.nb, Kf.refl _ _, fun a ha => Nat.lt_of_lt_of_le (h.lt a ha) h.kf.size⟩
theorem Bo.trans {w0 w w' : World} {b q p t m d gg lab B0 NB N K : Nat} {ln : Lm} {g : Cf.Ge} {Y : Nat → Nat → Int} {f : Nat → Int} {Y' : Nat → Nat → Int} {f' : Nat → Int} {K' : Nat} {ln' : Lm} (h : Bo w0 w b q p t m d gg lab g B0 NB N ln Y K f) (k : Bo w w' b q p t m d gg lab g B0 NB N ln' Y' K' f') : Bo w0 w' b q p t m d gg lab g B0 NB N ln' Y' K' f' :=
  ⟨k.gr, k.bd, h.nb, h.kf.trans k.kf, h.lt⟩
theorem Bo.nin {w0 w : World} {b q p t m d gg lab B0 NB N K : Nat} {ln : Lm} {g : Cf.Ge} {Y : Nat → Nat → Int} {f : Nat → Int} (h : Bo w0 w b q p t m d gg lab g B0 NB N ln Y K f) {x : Nat} (hx : w0.heap.size ≤ x) : x ∉ [b, q, p, t, m, d, gg] := fun ha => by
  have := h.lt x ha
  omega
theorem Bo.call {w0 w w' : World} {b q p t m d gg lab B0 NB N K : Nat} {ln : Lm} {g : Cf.Ge} {Y : Nat → Nat → Int} {f : Nat → Int} {Y' : Nat → Nat → Int} {K' : Nat} {ln' : Lm} (h : Bo w0 w b q p t m d gg lab g B0 NB N ln Y K f) (hG : Gr w' q p t m d gg lab g B0 NB N ln' Y' K') (hk : Kf w w' [t, m, d, gg]) : Bo w0 w' b q p t m d gg lab g B0 NB N ln' Y' K' f := by
  have hn := h.nb
  simp only [List.mem_cons, List.not_mem_nil, or_false, not_or] at hn
  refine ⟨hG, h.bd.kf hk (by simp only [List.mem_cons, List.not_mem_nil, or_false]; omega), h.nb, h.kf.trans (hk.wide fun k hk => ?_), h.lt⟩
  simp only [List.mem_cons, List.not_mem_nil, or_false] at hk ⊢
  omega
theorem Bo.new {w0 w w' : World} {b q p t m d gg lab B0 NB N K : Nat} {ln : Lm} {g : Cf.Ge} {Y : Nat → Nat → Int} {f : Nat → Int} (h : Bo w0 w b q p t m d gg lab g B0 NB N ln Y K f) {x : Nat} (hk : Kp w w' x x) (hx : w0.heap.size ≤ x) : Bo w0 w' b q p t m d gg lab g B0 NB N ln Y K f := by
  have hn := h.nin hx
  simp only [List.mem_cons, List.not_mem_nil, or_false, not_or] at hn
  exact ⟨h.gr.kp hk (by simp only [List.mem_cons, List.not_mem_nil, or_false]; omega), h.bd.kp hk (by omega) (by omega), h.nb, h.kf.new hk hx, h.lt⟩
theorem Bo.mono {w0 w : World} {b q p t m d gg lab B0 NB N K : Nat} {ln : Lm} {g : Cf.Ge} {Y : Nat → Nat → Int} {f : Nat → Int} {K' : Nat} {ln' : Lm} (h : Bo w0 w b q p t m d gg lab g B0 NB N ln Y K f) (hl : Lm.Le ln ln') (hk : K ≤ K') : Bo w0 w b q p t m d gg lab g B0 NB N ln' Y K' f :=
  ⟨h.gr.mono hl hk, h.bd, h.nb, h.kf, h.lt⟩
theorem Bo.set {w0 w : World} {b q p t m d gg lab B0 NB N K : Nat} {ln : Lm} {g : Cf.Ge} {Y : Nat → Nat → Int} {f : Nat → Int} (h : Bo w0 w b q p t m d gg lab g B0 NB N ln Y K f) (i : Nat) (hi : i < 12) (v : Value) (f' : Nat → Int) (hv : (bdc q f).set (1 + i) v = bdc q f') : Bo w0 (w.setCell ⟨b, 1 + i, none⟩ v) b q p t m d gg lab g B0 NB N ln Y K f' := by
  have hk : Kp w (w.setCell ⟨b, 1 + i, none⟩ v) b b := (Kp.refl w b b).setA (1 + i) v
  have hb := h.bd.set (1 + i) (by show 1 + i < 13; omega) v
  rw [hv] at hb
  exact ⟨h.gr.kp hk h.nb, hb, h.nb, h.kf.trans (Kf.of_kp hk (by simp) (by simp)), h.lt⟩
theorem run0 (pv : Nat → Nat) (n : Nat) (h : ∀ k, k < n → pv k = 0 → pv (k + 1) = 0) (k : Nat) (hk : pv k = 0) : ∀ j, k + j ≤ n → pv (k + j) = 0
  | 0, _ => hk
  | j + 1, hj => h (k + j) (by omega) (run0 pv n h k hk j (by omega))
theorem Tryz.descBlk : ∃ d, Tryz.prog.underlying 59 = some d ∧ d.isRow = true := ⟨_, Tryz.arr36, rfl⟩
set_option maxRecDepth 100000 in
theorem Tryz.sliceWy (b n : Nat) (hn : n ≤ 2) (w : World) : (Instr.sliceAt 181 (.pointer (some ⟨b, 0, none⟩)) (some (.int .i64 1)) (some (.int .i64 ((n : Int) + 1))) none).run Tryz.prog w = .ok (.slice (some ⟨b, 1, none⟩) n 2) w := by
  have hc : n = 0 ∨ n = 1 ∨ n = 2 := by omega
  rcases hc with rfl | rfl | rfl <;> rfl
set_option maxHeartbeats 20000000 in
set_option maxRecDepth 100000 in
theorem at_gen (b q p t m d gg lab B0 P0 M DA NB N K : Nat) (g : Cf.Ge) (Y : Nat → Nat → Int) (f : Nat → Int) (a o : Nat) (n : Nat) (hn : n ≤ 2) (s1 s2 : Int) (sk pv : Nat → Nat)
    (HOW : ∀ W, Calls Tryz.prog 117 #[.pointer (some ⟨b, 0, none⟩), .int .i64 a] W fun e w' => e = .returned (.pointer (some ⟨b, 1 + o, none⟩)) ∧ w' = W)
    (HST : ∀ W, Calls Tryz.prog 118 #[.agg (wyc a s1 s2).toArray] W fun e w' => e = .returned (.int .i64 (n + 1)) ∧ Below W.heap.size W w')
    (ho : (ndc f)[o]? = some (.int .u16 (pv 0))) (hs : ∀ k, k < n → (wyc a s1 s2)[1 + k]? = some (.int .i64 (sk k + 1)) ∧ sk k < 32)
    (hpv : ∀ k, k < n → (pv k = 0 → pv (k + 1) = 0) ∧ (pv k ≠ 0 → pv k ≤ NB ∧ (pv (k + 1) : Int) = wd (Y (DA + (pv k - 1))) (sk k)))
    (hK : K < 600000000) (hg : GG g B0 P0 M DA NB N) (w : World) (h : Bo w w b q p t m d gg lab g B0 NB N ln Y K f) :
    Calls Tryz.prog 84 #[.pointer (some ⟨b, 0, none⟩), .agg (wyc a s1 s2).toArray] w fun e w' => e = .returned (.tuple #[.int .u16 (pv n), .int .i64 0]) ∧ Bo w w' b q p t m d gg lab g B0 NB N ln Y (K + 2) f := by
  obtain ⟨dB, hu, hd⟩ := Tryz.descBlk
  have HUB := Lib.hid hu
  have HDB := Lib.hid hd
  clear hu hd
  obtain ⟨dW, hu, hd⟩ := Tryz.descWy
  have HU := Lib.hid hu
  have HD := Lib.hid hd
  have HB := Lib.hid h
  have HO := Lib.hid HOW
  have HS := Lib.hid HST
  have HC := Lib.hid ho
  have HN := Lib.hid hs
  have HP := Lib.hid hpv
  have HG := Lib.hid hg
  have hN5 := hg.n512
  clear hu hd h HOW HST ho hs hpv hg
  go_enter Tryz.func84, Tryz.ntmps84
  go_upto_region 1 with (first | (refine wpList_box_list (w := w) rfl 181 _ rfl (wyc a s1 s2) rfl ?_; intro w1 F1 hb1 hz1; have HQ1 := Lib.hid hb1; clear hb1))
  obtain ⟨bW, hbW⟩ : ∃ x, w.heap.size = x := ⟨_, rfl⟩
  have HB1 := Lib.hid (HB.out.keep HQ1.out)
  have hW0 : w.heap.size ≤ bW := Nat.le_of_eq hbW
  have hW1 : bW < w1.heap.size := by omega
  rw [hbW] at F1
  try rw [hbW]
  clear hz1 HQ1 HB hbW
  have c0 := F1.out.c 0 _ rfl
  go_wp2_with fail
  refine (HO.out w1).mono ?_
  rintro e wz ⟨rfl, hwz⟩
  rw [hwz]
  clear hwz c0 HO
  have cb : w1.cell? ⟨b, 1 + o, none⟩ = some (.int .u16 (pv 0)) := HB1.out.bd.c (1 + o) _ (by rw [Nat.add_comm]; exact HC.out)
  have HR1 := Lib.hid F1.out.range0
  go_wp2_with (refine wpList_load_mid rfl 181 _ rfl bW 0 rfl (wyc a s1 s2) dW HR1.out HU.out HD.out (sizeWy _ _ _) ?_)
  clear cb
  refine (HS.out w1).mono ?_
  rintro e w2 ⟨rfl, hb⟩
  have HB2 := Lib.hid (HB1.out.keep hb)
  have F2 := Lib.hid (F1.out.keep hb)
  clear hb HS HR1 F1 HB1 HC
  have hn0 : (0 : Int) ≤ n := by omega
  have hn2 : (n : Int) ≤ 2 := by omega
  have hsl := Tryz.sliceWy bW n hn w2
  go_wp2_with fail
  clear hsl
  go_loopw [6, 8, 9, 10, 21] (fun v _ _ _ i wr => ∃ k : Nat, k ≤ n ∧ i = .int .i64 k ∧ v = .int .u16 (pv k) ∧ Bo w wr b q p t m d gg lab g B0 NB N ln Y (K + k) f ∧ Vl wr bW (wyc a s1 s2)) (fun _ _ _ _ i _ => n - (Go.RowKit.intOf i).toNat)
  case atStart => exact ⟨0, Nat.zero_le _, rfl, rfl, HB2.out, F2.out⟩
  case round =>
    obtain ⟨k, hk, rfl, rfl, hB, hF⟩ := hrel
    have HBr := Lib.hid hB
    have HFr := Lib.hid hF
    clear hB hF HB2 F2
    by_cases hlt : k < n
    · have hk0 : (0 : Int) ≤ k := by omega
      have hkk : (k : Int) < n := by omega
      have ck := HFr.out.c (1 + k) _ (HN.out k hlt).1
      have hsk := (HN.out k hlt).2
      by_cases hz : pv k = 0
      · have hR : pv n = 0 := by
          have := run0 pv n (fun j hj => (HP.out j hj).1) k hz (n - k) (by omega)
          rwa [show k + (n - k) = n by omega] at this
        have HR := Lib.hid hR
        have HZ := Lib.hid hz
        rw [hz]
        clear hR hz
        go_wp2_with fail
        go_ret2
        exact ⟨by rw [HR.out]; rfl, HBr.out.mono (Lm.le_refl _) (by omega)⟩
      · obtain ⟨hp1, hp2⟩ := (HP.out k hlt).2 hz
        obtain ⟨x, hx⟩ : ∃ x, pv k = x := ⟨_, rfl⟩
        obtain ⟨y, hy⟩ : ∃ y, pv (k + 1) = y := ⟨_, rfl⟩
        rw [hx] at hz hp1 hp2
        rw [hy] at hp2
        have hby := HBr.out.gr.rd.vb (DA + (x - 1))
        obtain ⟨V, hV⟩ : ∃ V, Y (DA + (x - 1)) = V := ⟨_, rfl⟩
        rw [hV] at hp2 hby
        have HGt := Lib.hid (gget_in q p t m d gg lab B0 P0 M DA NB N (K + k) g Y x (by omega) hp1 (by omega) HG.out wr HBr.out.gr)
        rw [hV] at HGt
        have HNu := Lib.hid (fun W => num_any V hby (sk k) hsk (sk k + 1) rfl W)
        rw [← hp2] at HNu
        rw [hx]
        have HY := Lib.hid hy
        have hx0 : ¬ ((x : Int) = 0) := by omega
        have hx1 : (0 : Int) ≤ x := by omega
        have hx2 : (x : Int) < 65536 := by omega
        have hqe := HBr.out.bd.c 0 _ rfl
        have HX := Lib.hid hx
        obtain ⟨xi, hxi⟩ : ∃ xi : Int, (x : Int) = xi := ⟨_, rfl⟩
        rw [hxi] at hx0 hx1 hx2 HGt ⊢
        clear hp2 hby hV hx hy hsk hxi hp1 hz
        go_wp2_with fail
        refine HGt.out.mono ?_
        rintro e w3 ⟨rfl, hG, hkk2⟩
        have HB3 := Lib.hid (HBr.out.call hG hkk2)
        have HF3 : Hid (Vl w3 bW (wyc a s1 s2)) := Lib.hid (HFr.out.kf hkk2 (fun ha => by have := HBr.out.nin hW0; simp only [List.mem_cons, List.not_mem_nil, or_false, not_or] at this ha; omega))
        have hs3 : w.heap.size ≤ w3.heap.size := HB3.out.kf.size
        clear hG hkk2 HGt HBr HFr hqe ck
        go_upto_region 7 with (first | (refine wpList_alloc_byts (w := w3) rfl 59 64 rfl Tryz.zero36 ?_; intro w5 F5 hb5 hz5; simp only [Act.put, List.getElem_toArray, List.getElem_cons_zero, List.getElem_cons_succ, List.setIfInBounds_toArray, List.set_cons_zero, List.set_cons_succ]; refine wpList_store_blk rfl (.tmp 9) (.tmp 34) rfl w3.heap.size 0 64 (fun _ => 0) V F5.out (by omega) rfl rfl ?_; intro w6 F6 HK6; have HB5 := Lib.hid hb5; clear hb5 F5))
        obtain ⟨bB, hbB⟩ : ∃ x, w3.heap.size = x := ⟨_, rfl⟩
        have hB0 : w.heap.size ≤ bB := by omega
        have HB6 := Lib.hid ((HB3.out.keep HB5.out).new HK6.out (by omega))
        have HF6 := Lib.hid ((HF3.out.keep HB5.out).kp HK6.out (by have := HF3.out.lt; omega) (by have := HF3.out.lt; omega))
        have F6' := Lib.hid (F6.out.congr (fun j hj => upd_zero 64 V j hj _))
        rw [hbB] at F6'
        try rw [hbB]
        have HR6 := Lib.hid F6'.out.range0
        clear F6 HK6 HB5 HB3 HF3 hbB hz5 hs3 F6'
        go_wp2_with (refine wpList_load_mid rfl 59 _ rfl bB 0 rfl (byts 64 V) dB HR6.out HUB.out HDB.out (size36 _) ?_)
        refine (HNu.out w6).mono ?_
        rintro e w7 ⟨rfl, hb⟩
        have HB7 := Lib.hid (HB6.out.keep hb)
        have HF7 := Lib.hid (HF6.out.keep hb)
        clear hb HNu HB6 HF6 HR6
        go_wp2_with fail
        go_roundw
        case rel => exact ⟨k + 1, by omega, by go_num, by rw [HY.out], HB7.out.mono (Lm.le_refl _) (by omega), HF7.out⟩
        case measure => simp [Go.RowKit.intOf]; omega
    · obtain rfl : k = n := by omega
      go_wp2_with fail
      go_ret2
      exact ⟨rfl, HBr.out.mono (Lm.le_refl _) (by omega)⟩
end Go.Proofs.YtbnpgkclnebnmaaGreat

namespace Go.Proofs.YtbnpgkclnebnmaaGreat
set_option linter.unusedSimpArgs false
set_option linter.unusedVariables false
open Go.RowKit Go.Maps

/-- slots: data blocks from 0 on; 2000: Single; 2001: Double; from 2002 on: the rows of Double -/
def isR (c : Nat) : Bool := decide (c < 6) || decide (c = 2000) || decide (c = 2001)
def rtI (c : Nat) : Nat := if c = 2000 then 10 else if c = 2001 then 11 else 4 + c
def parS (c : Nat) : Nat := if c < 38 then 2000 else if c < 1062 then 2002 + (c - 38) / 32 else 2001
def idxS (c : Nat) : Nat := if c < 38 then c - 6 else if c < 1062 then (c - 38) % 32 else c - 2002
def okS (c : Nat) : Bool := decide (c < 1062) || (decide (2000 ≤ c) && decide (c < 2034))
theorem isR_iff (c : Nat) : isR c = true ↔ c < 6 ∨ c = 2000 ∨ c = 2001 := by
  unfold isR
  simp [or_assoc]
theorem isR_no (c : Nat) : isR c = false ↔ ¬ (c < 6 ∨ c = 2000 ∨ c = 2001) := by
  rw [← isR_iff]
  simp
theorem okS_iff (c : Nat) : okS c = true ↔ c < 1062 ∨ 2000 ≤ c ∧ c < 2034 := by
  unfold okS
  simp
theorem parS_ok (c : Nat) (h : okS c = true) (hr : isR c = false) : okS (parS c) = true ∧ 2000 ≤ parS c ∧ parS c ≠ c := by
  rw [okS_iff] at h ⊢
  rw [isR_no] at hr
  unfold parS
  split
  · omega
  · split <;> omega
theorem idxS_lt (c : Nat) (h : okS c = true) (hr : isR c = false) : idxS c < 32 := by
  rw [okS_iff] at h
  rw [isR_no] at hr
  unfold idxS
  split
  · omega
  · split <;> omega
theorem slot_inj (c c' : Nat) (h : okS c = true) (hr : isR c = false) (h' : okS c' = true) (hr' : isR c' = false) (hp : parS c = parS c') (hi : idxS c = idxS c') : c = c' := by
  rw [okS_iff] at h h'
  rw [isR_no] at hr hr'
  unfold parS at hp
  unfold idxS at hi
  split at hp <;> split at hp <;> (try split at hp) <;> (try split at hp) <;> simp_all <;> omega
theorem rtI_inj (c c' : Nat) (hr : isR c = true) (hr' : isR c' = true) (h : rtI c = rtI c') : c = c' := by
  rw [isR_iff] at hr hr'
  unfold rtI at h
  split at h <;> split at h <;> (try split at h) <;> (try split at h) <;> omega
theorem rtI_lt (c : Nat) (hr : isR c = true) : 4 ≤ rtI c ∧ rtI c < 12 := by
  rw [isR_iff] at hr
  unfold rtI
  split
  · omega
  · split <;> omega
theorem putN_wd (f : Nat → Int) (k q : Nat) (hq : q < 65536) (k' : Nat) : wd (putN f (2 * k) q) k' = if k' = k then (q : Int) else wd f k' := by
  unfold wd putN
  by_cases e : k' = k
  · subst e
    rw [if_pos rfl, if_neg (by omega), if_pos rfl, if_pos rfl]
    omega
  · rw [if_neg e, if_neg (by omega), if_neg (by omega), if_neg (by omega), if_neg (by omega)]
theorem putN_byt {f : Nat → Int} (hf : Byt f) (k q : Nat) : Byt (putN f k q) := fun j hj => by
  unfold putN
  split
  · omega
  · split
    · omega
    · exact hf j hj
/-- what a node with the numbers f has: the slots N, slot c's block b c; its blocks of pointers say so -/
structure Fi (DA NB : Nat) (Y : Nat → Nat → Int) (f : Nat → Int) (N : Nat → Bool) (b : Nat → Nat) : Prop where
  ok : ∀ c, N c = true → okS c = true
  root : ∀ c, isR c = true → f (rtI c) = if N c = true then (b c : Int) else 0
  wrd : ∀ c, okS c = true → isR c = false → N (parS c) = true → wd (Y (DA + (b (parS c) - 1))) (idxS c) = if N c = true then (b c : Int) else 0
  cl : ∀ c, isR c = false → N c = true → N (parS c) = true
  rng : ∀ c, N c = true → 1 ≤ b c ∧ b c ≤ NB
  inj : ∀ c c', N c = true → N c' = true → b c = b c' → c = c'
def addN (N : Nat → Bool) (c : Nat) : Nat → Bool := fun c' => decide (c' = c) || N c'
def addB (b : Nat → Nat) (c x : Nat) : Nat → Nat := fun c' => if c' = c then x else b c'
def addF (f : Nat → Int) (c x : Nat) : Nat → Int := if isR c = true then fun i => if i = rtI c then (x : Int) else f i else f
def addY (DA : Nat) (Y : Nat → Nat → Int) (b : Nat → Nat) (c x : Nat) : Nat → Nat → Int := if isR c = true then Y else vput (DA + (b (parS c) - 1)) (putN (Y (DA + (b (parS c) - 1))) (2 * idxS c) x) Y
theorem addN_self (N : Nat → Bool) (c : Nat) : addN N c c = true := by
  unfold addN
  simp
theorem addN_ne (N : Nat → Bool) {c c' : Nat} (h : c' ≠ c) : addN N c c' = N c' := by
  unfold addN
  rw [decide_eq_false h]
  rfl
theorem addN_of (N : Nat → Bool) {c c' : Nat} (h : addN N c c' = true) : c' = c ∨ N c' = true := by
  unfold addN at h
  simpa using h
theorem addN_old (N : Nat → Bool) (c : Nat) {c' : Nat} (h : N c' = true) : addN N c c' = true := by
  unfold addN
  rw [h]
  simp
theorem addB_self (b : Nat → Nat) (c x : Nat) : addB b c x c = x := if_pos rfl
theorem addB_ne (b : Nat → Nat) {c c' : Nat} (x : Nat) (h : c' ≠ c) : addB b c x c' = b c' := if_neg h
theorem Fi.add {DA NB B0 : Nat} {Y Y1 : Nat → Nat → Int} {f : Nat → Int} {N : Nat → Bool} {b : Nat → Nat} (h : Fi DA NB Y f N b) (hB : B0 < DA) (c : Nat) (hok : okS c = true) (hN : N c = false) (hp : isR c = true ∨ N (parS c) = true) (x : Nat) (hx1 : 1 ≤ x) (hx2 : x ≤ NB) (hNB : NB ≤ 512)
    (hfr : ∀ c', N c' = true → b c' ≠ x) (h1 : ∀ z, z ≠ B0 → z ≠ DA + (x - 1) → Y1 z = Y z) (h2 : Y1 (DA + (x - 1)) = fun _ => 0) :
    Fi DA NB (addY DA Y1 b c x) (addF f c x) (addN N c) (addB b c x) := by
  have hd : ∀ c', N c' = true → DA + (b c' - 1) ≠ DA + (x - 1) := fun c' hc => by
    have := hfr c' hc
    have := h.rng c' hc
    omega
  have hY1 : ∀ c', N c' = true → Y1 (DA + (b c' - 1)) = Y (DA + (b c' - 1)) := fun c' hc => h1 _ (by omega) (hd c' hc)
  refine ⟨fun c' hc => ?_, fun c' hc => ?_, fun c' ho hr hq => ?_, fun c' hr hc => ?_, fun c' hc => ?_, fun c1 c2 k1 k2 he => ?_⟩
  · rcases addN_of N hc with rfl | hc
    · exact hok
    · exact h.ok c' hc
  · unfold addF
    by_cases hcr : isR c = true
    · rw [if_pos hcr]
      by_cases e : c' = c
      · subst e
        rw [if_pos rfl, if_pos (addN_self N c'), addB_self]
      · rw [if_neg (fun he => e (rtI_inj c' c hc hcr he)), addN_ne N e, addB_ne b x e]
        exact h.root c' hc
    · rw [if_neg hcr]
      have e : c' ≠ c := fun e => hcr (e ▸ hc)
      rw [addN_ne N e, addB_ne b x e]
      exact h.root c' hc
  · by_cases e : parS c' = c
    · -- below the new one: nothing
      have hne : c' ≠ c := fun e' => (parS_ok c' ho hr).2.2 (e.trans e'.symm)
      have hno : N c' = false := by
        cases hh : N c'
        · rfl
        · have := h.cl c' hr hh
          rw [e, hN] at this
          cases this
      rw [e, addB_self, addN_ne N hne, hno, if_neg (by decide)]
      have : addY DA Y1 b c x (DA + (x - 1)) = fun _ => 0 := by
        unfold addY
        split
        · exact h2
        · rename_i hcr
          have hpc : N (parS c) = true := hp.resolve_left hcr
          rw [vput_ne _ _ (hd (parS c) hpc)]
          exact h2
      rw [this]
      rfl
    · have hpo : N (parS c') = true := by rwa [addN_ne N e] at hq
      rw [addB_ne b x e]
      unfold addY
      by_cases hcr : isR c = true
      · rw [if_pos hcr, hY1 _ hpo]
        have hne : c' ≠ c := fun e' => by rw [e', hcr] at hr; cases hr
        rw [addN_ne N hne, addB_ne b x hne]
        exact h.wrd c' ho hr hpo
      · have hcr' : isR c = false := by simpa using hcr
        have hpc : N (parS c) = true := hp.resolve_left hcr
        rw [if_neg hcr]
        by_cases ep : parS c' = parS c
        · rw [ep, vput_at, putN_wd _ _ _ (by omega), hY1 _ hpc]
          by_cases ei : idxS c' = idxS c
          · obtain rfl := slot_inj c' c ho hr hok hcr' ep ei
            rw [if_pos rfl, if_pos (addN_self N c'), addB_self]
          · have hne : c' ≠ c := fun e' => ei (by rw [e'])
            rw [if_neg ei, addN_ne N hne, addB_ne b x hne, ← ep]
            exact h.wrd c' ho hr hpo
        · have hne : c' ≠ c := fun e' => ep (by rw [e'])
          have hbb : DA + (b (parS c) - 1) ≠ DA + (b (parS c') - 1) := fun he => by
            have r1 := h.rng _ hpc
            have r2 := h.rng _ hpo
            exact ep (h.inj _ _ hpo hpc (by omega))
          rw [vput_ne _ _ hbb, hY1 _ hpo, addN_ne N hne, addB_ne b x hne]
          exact h.wrd c' ho hr hpo
  · rcases addN_of N hc with rfl | hc
    · rcases hp with hp | hp
      · rw [hp] at hr
        cases hr
      · exact addN_old N _ hp
    · exact addN_old N _ (h.cl c' hr hc)
  · by_cases e : c' = c
    · rw [e, addB_self]
      exact ⟨hx1, hx2⟩
    · rw [addB_ne b x e]
      exact h.rng c' (by rwa [addN_ne N e] at hc)
  · by_cases e1 : c1 = c
    · by_cases e2 : c2 = c
      · rw [e1, e2]
      · rw [e1, addB_self, addB_ne b x e2] at he
        exact absurd he.symm (hfr c2 (by rwa [addN_ne N e2] at k2))
    · by_cases e2 : c2 = c
      · rw [e2, addB_self, addB_ne b x e1] at he
        exact absurd he (hfr c1 (by rwa [addN_ne N e1] at k1))
      · rw [addB_ne b x e1, addB_ne b x e2] at he
        exact h.inj c1 c2 (by rwa [addN_ne N e1] at k1) (by rwa [addN_ne N e2] at k2) he
end Go.Proofs.YtbnpgkclnebnmaaGreat

namespace Go.Proofs.YtbnpgkclnebnmaaGreat
set_option linter.unusedSimpArgs false
set_option linter.unusedVariables false
open Go.RowKit Go.Maps

variable {ln : Lm}
def wy1 (c : Nat) : Nat := if c < 6 then c + 1 else if c < 38 ∨ c = 2000 then 7 else 8
def wy2 (c : Nat) : Nat := if c < 6 ∨ c = 2000 ∨ c = 2001 then 0 else if c < 38 then c - 5 else if c < 1062 then (c - 38) / 32 + 1 else c - 2002 + 1
def wy3 (c : Nat) : Nat := if 38 ≤ c ∧ c < 1062 then (c - 38) % 32 + 1 else 0
/-- a slot's way -/
def wyS (c : Nat) : Value := .agg (wyc (wy1 c) (wy2 c) (wy3 c)).toArray
def vS (N : Nat → Bool) (b : Nat → Nat) (c : Nat) : Nat := if N c = true then b c else 0
theorem vS_link {DA NB : Nat} {Y : Nat → Nat → Int} {f : Nat → Int} {S : Nat → Bool} {B : Nat → Nat} (h : Fi DA NB Y f S B) (c : Nat) (ho : okS c = true) (hr : isR c = false) :
    (vS S B (parS c) = 0 → vS S B c = 0) ∧ (vS S B (parS c) ≠ 0 → vS S B (parS c) ≤ NB ∧ (vS S B c : Int) = wd (Y (DA + (vS S B (parS c) - 1))) (idxS c)) := by
  unfold vS
  constructor
  · intro h0
    split
    · rename_i hc
      have hp := h.cl c hr hc
      rw [if_pos hp] at h0
      have := h.rng _ hp
      omega
    · rfl
  · intro h0
    have hp : S (parS c) = true := by
      by_cases e : S (parS c) = true
      · exact e
      · rw [if_neg e] at h0
        exact absurd rfl h0
    rw [if_pos hp]
    refine ⟨(h.rng _ hp).2, ?_⟩
    rw [h.wrd c ho hr hp]
    split <;> rfl
theorem ndc_ptr (f : Nat → Int) (i : Nat) (h4 : 4 ≤ i) (h12 : i < 12) : (ndc f)[i]? = some (.int .u16 (f i)) := by
  have hc : i = 4 ∨ i = 5 ∨ i = 6 ∨ i = 7 ∨ i = 8 ∨ i = 9 ∨ i = 10 ∨ i = 11 := by omega
  rcases hc with rfl | rfl | rfl | rfl | rfl | rfl | rfl | rfl <;> rfl
theorem bdc_set (q : Nat) (f : Nat → Int) (i x : Nat) (h4 : 4 ≤ i) (h12 : i < 12) : (bdc q f).set (1 + i) (.int .u16 x) = bdc q (fun j => if j = i then (x : Int) else f j) := by
  have hc : i = 4 ∨ i = 5 ∨ i = 6 ∨ i = 7 ∨ i = 8 ∨ i = 9 ∨ i = 10 ∨ i = 11 := by omega
  rcases hc with rfl | rfl | rfl | rfl | rfl | rfl | rfl | rfl <;> rfl
theorem own_slot (b c : Nat) (hr : isR c = true) (W : World) : Calls Tryz.prog 117 #[.pointer (some ⟨b, 0, none⟩), .int .i64 (wy1 c)] W fun e w' => e = .returned (.pointer (some ⟨b, 1 + rtI c, none⟩)) ∧ w' = W := by
  rw [isR_iff] at hr
  rcases hr with hr | rfl | rfl
  · have := own_dir b (c + 1) (by omega) (by omega) W
    unfold wy1 rtI
    rw [if_pos hr, if_neg (by omega), if_neg (by omega), show 1 + (4 + c) = 5 + (c + 1 - 1) by omega]
    exact this
  · exact own_sin b W
  · exact own_dbl b W
theorem wy_root (c : Nat) (hr : isR c = true) : 1 ≤ wy1 c ∧ wy2 c = 0 ∧ wy3 c = 0 := by
  rw [isR_iff] at hr
  unfold wy1 wy2 wy3
  refine ⟨?_, if_pos hr, if_neg (by omega)⟩
  split
  · omega
  · split <;> decide
theorem at_slot (b q p t m d gg lab B0 P0 M DA NB N K : Nat) (g : Cf.Ge) (Y : Nat → Nat → Int) (f : Nat → Int) (S : Nat → Bool) (B : Nat → Nat) (hF : Fi DA NB Y f S B) (c : Nat) (hc : okS c = true)
    (hK : K < 600000000) (hg : GG g B0 P0 M DA NB N) (w : World) (h : Bo w w b q p t m d gg lab g B0 NB N ln Y K f) :
    Calls Tryz.prog 84 #[.pointer (some ⟨b, 0, none⟩), wyS c] w fun e w' => e = .returned (.tuple #[.int .u16 (vS S B c), .int .i64 0]) ∧ Bo w w' b q p t m d gg lab g B0 NB N ln Y (K + 2) f := by
  have hroot : ∀ c, isR c = true → (ndc f)[rtI c]? = some (.int .u16 (vS S B c)) := fun c hr => by
    have hl := rtI_lt c hr
    rw [ndc_ptr f _ hl.1 hl.2, hF.root c hr]
    unfold vS
    split <;> rfl
  have hoo := okS_iff c
  rw [hc] at hoo
  have hoo := hoo.1 rfl
  cases hr : isR c
  · have hn := (isR_no c).1 hr
    have hl := vS_link hF c hc hr
    by_cases h3 : 38 ≤ c ∧ c < 1062
    · have e1 : wy1 c = 8 := by unfold wy1; rw [if_neg (by omega), if_neg (by omega)]
      have e2 : wy2 c = (c - 38) / 32 + 1 := by unfold wy2; rw [if_neg (by omega), if_neg (by omega), if_pos (by omega)]
      have e3 : wy3 c = (c - 38) % 32 + 1 := by unfold wy3; rw [if_pos h3]
      have ep : parS c = 2002 + (c - 38) / 32 := by unfold parS; rw [if_neg (by omega), if_pos (by omega)]
      have ei : idxS c = (c - 38) % 32 := by unfold idxS; rw [if_neg (by omega), if_pos (by omega)]
      have hpo : okS (2002 + (c - 38) / 32) = true := (okS_iff _).2 (by omega)
      have hpr : isR (2002 + (c - 38) / 32) = false := (isR_no _).2 (by omega)
      have ep2 : parS (2002 + (c - 38) / 32) = 2001 := by unfold parS; rw [if_neg (by omega), if_neg (by omega)]
      have ei2 : idxS (2002 + (c - 38) / 32) = (c - 38) / 32 := by unfold idxS; rw [if_neg (by omega), if_neg (by omega)]; omega
      have hl2 := vS_link hF _ hpo hpr
      rw [ep2, ei2] at hl2
      rw [ep, ei] at hl
      have := at_gen (ln := ln) b q p t m d gg lab B0 P0 M DA NB N K g Y f 8 11 2 (by decide) ((wy2 c : Nat) : Int) ((wy3 c : Nat) : Int) (fun k => if k = 0 then (c - 38) / 32 else (c - 38) % 32) (fun k => if k = 0 then vS S B 2001 else if k = 1 then vS S B (2002 + (c - 38) / 32) else vS S B c)
        (fun W => own_slot b 2001 rfl W) (fun W => steps3 8 _ _ (by decide) (by rw [e2]; omega) (by rw [e3]; omega) W) (hroot 2001 rfl) (fun k hk => by
          have hk2 : k = 0 ∨ k = 1 := by omega
          rcases hk2 with rfl | rfl
          · refine ⟨?_, ?_⟩
            · show some (Value.int .i64 ((wy2 c : Nat) : Int)) = some (.int .i64 (((c - 38) / 32 : Nat) + 1))
              rw [e2]
              rfl
            · show (c - 38) / 32 < 32
              omega
          · refine ⟨?_, ?_⟩
            · show some (Value.int .i64 ((wy3 c : Nat) : Int)) = some (.int .i64 (((c - 38) % 32 : Nat) + 1))
              rw [e3]
              rfl
            · show (c - 38) % 32 < 32
              omega) (fun k hk => by
          have hk2 : k = 0 ∨ k = 1 := by omega
          rcases hk2 with rfl | rfl
          · exact hl2
          · exact hl) hK hg w h
      unfold wyS
      rw [e1]
      exact this
    · have e3 : wy3 c = 0 := by unfold wy3; rw [if_neg h3]
      have e2 : wy2 c = idxS c + 1 := by
        unfold wy2 idxS
        rw [if_neg hn]
        split
        · omega
        · rw [if_neg (by omega), if_neg (by omega)]
      have hpr : isR (parS c) = true := (isR_iff _).2 (by
        unfold parS
        split
        · omega
        · rw [if_neg (by omega)]
          omega)
      have e1 : wy1 c = wy1 (parS c) := by
        unfold wy1 parS
        by_cases e : c < 38
        · rw [if_neg (by omega), if_pos (.inl e), if_pos e]
          rfl
        · rw [if_neg (by omega), if_neg (by omega), if_neg e, if_neg (show ¬ c < 1062 by omega)]
          rfl
      have hwr := wy_root (parS c) hpr
      have := at_gen (ln := ln) b q p t m d gg lab B0 P0 M DA NB N K g Y f (wy1 (parS c)) (rtI (parS c)) 1 (by decide) ((wy2 c : Nat) : Int) 0 (fun _ => idxS c) (fun k => if k = 0 then vS S B (parS c) else vS S B c)
        (fun W => own_slot b (parS c) hpr W) (fun W => steps2 _ _ (by omega) (by rw [e2]; omega) W) (hroot _ hpr) (fun k hk => by
          obtain rfl : k = 0 := by omega
          refine ⟨?_, idxS_lt c hc hr⟩
          show some (Value.int .i64 ((wy2 c : Nat) : Int)) = some (.int .i64 ((idxS c : Nat) + 1))
          rw [e2]
          rfl) (fun k hk => by
          obtain rfl : k = 0 := by omega
          exact hl) hK hg w h
      unfold wyS
      rw [e1, e3]
      exact this
  · have hwr := wy_root c hr
    have := at_gen (ln := ln) b q p t m d gg lab B0 P0 M DA NB N K g Y f (wy1 c) (rtI c) 0 (by decide) 0 0 (fun _ => 0) (fun _ => vS S B c)
      (fun W => own_slot b c hr W) (fun W => steps1 _ (by omega) W) (hroot c hr) (fun k hk => absurd hk (Nat.not_lt_zero _)) (fun k hk => absurd hk (Nat.not_lt_zero _)) hK hg w h
    unfold wyS
    rw [hwr.2.1, hwr.2.2]
    exact this
end Go.Proofs.YtbnpgkclnebnmaaGreat

namespace Go.Proofs.YtbnpgkclnebnmaaGreat
set_option linter.unusedSimpArgs false
set_option linter.unusedVariables false
open Go.RowKit Go.Maps

variable {ln : Lm}
set_option maxHeartbeats 8000000 in
set_option maxRecDepth 100000 in
theorem point_root (b q p t m d gg lab B0 P0 M DA NB N K : Nat) (g : Cf.Ge) (Y : Nat → Nat → Int) (f : Nat → Int) (c x : Nat) (hr : isR c = true) (hx : x < 65536) (w : World) (h : Bo w w b q p t m d gg lab g B0 NB N ln Y K f) :
    Calls Tryz.prog 130 #[.pointer (some ⟨b, 0, none⟩), wyS c, .int .u16 x] w fun e w' => e = .returned (.int .i64 0) ∧ Bo w w' b q p t m d gg lab g B0 NB N ln Y K (addF f c x) := by
  obtain ⟨dW, hu, hd⟩ := Tryz.descWy
  have HU := Lib.hid hu
  have HD := Lib.hid hd
  have hl := rtI_lt c hr
  have hwr := wy_root c hr
  have HB := Lib.hid h
  have HO := Lib.hid (fun W => own_slot b c hr W)
  have HS := Lib.hid (fun W => steps1 (wy1 c) (by omega) W)
  have HC := Lib.hid (bdc_set q f (rtI c) x hl.1 hl.2)
  have HCc := Lib.hid (show (bdc q f)[1 + rtI c]? = some (.int .u16 (f (rtI c))) from by rw [Nat.add_comm]; exact ndc_ptr f _ hl.1 hl.2)
  have HFe : Hid (addF f c x = fun i => if i = rtI c then (x : Int) else f i) := Lib.hid (if_pos hr)
  have hl12 : rtI c < 12 := hl.2
  unfold wyS
  rw [hwr.2.1, hwr.2.2]
  obtain ⟨a, ha⟩ : ∃ a, wy1 c = a := ⟨_, rfl⟩
  obtain ⟨o, ho⟩ : ∃ o, rtI c = o := ⟨_, rfl⟩
  rw [ha] at HO HS ⊢
  rw [ho] at HO HC HCc HFe hl12
  obtain ⟨xi, hxi⟩ : ∃ y : Int, (x : Int) = y := ⟨_, rfl⟩
  rw [hxi] at HC HFe ⊢
  clear hu hd h hr hl hwr ha ho hxi hx
  go_enter Tryz.func130, Tryz.ntmps130
  go_upto_region 1 with (first | (refine wpList_box_list (w := w) rfl 181 _ rfl (wyc a 0 0) rfl ?_; intro w1 F1 hb1 hz1; have HQ1 := Lib.hid hb1; clear hb1))
  obtain ⟨bW, hbW⟩ : ∃ x, w.heap.size = x := ⟨_, rfl⟩
  have HB1 := Lib.hid (HB.out.keep HQ1.out)
  rw [hbW] at F1
  try rw [hbW]
  clear hz1 HQ1 HB hbW
  have HR1 := Lib.hid F1.out.range0
  go_wp2_with (refine wpList_load_mid rfl 181 _ rfl bW 0 rfl (wyc a 0 0) dW HR1.out HU.out HD.out (sizeWy _ _ _) ?_)
  refine (HS.out w1).mono ?_
  rintro e w2 ⟨rfl, hb⟩
  have HB2 := Lib.hid (HB1.out.keep hb)
  have F2 := Lib.hid (F1.out.keep hb)
  clear hb HS HR1 F1 HB1
  have c0 := F2.out.c 0 _ rfl
  go_wp2_with fail
  refine (HO.out w2).mono ?_
  rintro e wz ⟨rfl, hwz⟩
  rw [hwz]
  clear hwz c0 HO
  have cb := HB2.out.bd.c (1 + o) _ HCc.out
  have zb := HB2.out.bd.z (1 + o) (by show 1 + o < 13; omega)
  go_wp2_with fail
  go_ret
  refine ⟨rfl, ?_⟩
  rw [HFe.out]
  exact HB2.out.set o hl12 (.int .u16 xi) _ HC.out
set_option maxHeartbeats 20000000 in
set_option maxRecDepth 100000 in
theorem point_gen (b q p t m d gg lab B0 P0 M DA NB N K : Nat) (g : Cf.Ge) (Y : Nat → Nat → Int) (f : Nat → Int) (s0 s1 s2 : Int) (u : Array Value) (n k x qn : Nat) (hn : n = 1 ∨ n = 2) (hk : k < 32) (hx : x < 65536) (hq1 : 1 ≤ qn) (hq2 : qn ≤ NB) (hT : Has ln (DA + (qn - 1)))
    (HST : ∀ W, Calls Tryz.prog 118 #[.agg (wyc s0 s1 s2).toArray] W fun e w' => e = .returned (.int .i64 (n + 1)) ∧ Below W.heap.size W w')
    (HUP : ∀ W, Calls Tryz.prog 107 #[.agg (wyc s0 s1 s2).toArray] W fun e w' => e = .returned (.agg u) ∧ Below W.heap.size W w')
    (HAT : ∀ W, Bo W W b q p t m d gg lab g B0 NB N ln Y K f → Calls Tryz.prog 84 #[.pointer (some ⟨b, 0, none⟩), .agg u] W fun e w' => e = .returned (.tuple #[.int .u16 qn, .int .i64 0]) ∧ Bo W w' b q p t m d gg lab g B0 NB N ln Y (K + 2) f)
    (hcell : (wyc s0 s1 s2)[n]? = some (.int .i64 (k + 1))) (hK : K < 600000000) (hg : GG g B0 P0 M DA NB N) (w : World) (h : Bo w w b q p t m d gg lab g B0 NB N ln Y K f) :
    Calls Tryz.prog 130 #[.pointer (some ⟨b, 0, none⟩), .agg (wyc s0 s1 s2).toArray, .int .u16 x] w fun e w' => e = .returned (.int .i64 0) ∧ Bo w w' b q p t m d gg lab g B0 NB N ln (vput (DA + (qn - 1)) (putN (Y (DA + (qn - 1))) (2 * k) x) Y) (K + 3) f := by
  obtain ⟨dW, hu, hd⟩ := Tryz.descWy
  have HU := Lib.hid hu
  have HD := Lib.hid hd
  have HB := Lib.hid h
  have HS := Lib.hid HST
  have HP := Lib.hid HUP
  have HA := Lib.hid HAT
  have HC := Lib.hid hcell
  have HG := Lib.hid hg
  have hN5 := hg.n512
  have hby := h.gr.rd.vb (DA + (qn - 1))
  have HGt := Lib.hid (fun W hW => gget_in (ln := ln) q p t m d gg lab B0 P0 M DA NB N (K + 2) g Y qn hq1 hq2 (by omega) hg W hW)
  obtain ⟨V, hV⟩ : ∃ V, Y (DA + (qn - 1)) = V := ⟨_, rfl⟩
  rw [hV] at hby HGt ⊢
  have HPn := Lib.hid (fun gb W hW => putnum8 gb V k hk (k + 1) rfl x hx W hW)
  obtain ⟨V2, hV2⟩ : ∃ V2, putN V (2 * k) x = V2 := ⟨_, rfl⟩
  have hby2 : Byt V2 := by rw [← hV2]; exact putN_byt hby _ _
  rw [hV2] at HPn ⊢
  have HPu := Lib.hid (fun W hW => gput_in (ln := ln) q p t m d gg lab B0 P0 M DA NB N (K + 3) g Y qn hq1 hq2 V2 hby2 hT hg W hW)
  obtain ⟨xi, hxi⟩ : ∃ y : Int, (x : Int) = y := ⟨_, rfl⟩
  obtain ⟨qi, hqi⟩ : ∃ y : Int, (qn : Int) = y := ⟨_, rfl⟩
  rw [hxi] at HPn ⊢
  rw [hqi] at HA HGt HPu
  have hk0 : (0 : Int) ≤ k := by omega
  have hk1 : (k : Int) < 32 := by omega
  obtain ⟨ki, hki⟩ : ∃ y : Int, (k : Int) + 1 = y := ⟨_, rfl⟩
  rw [hki] at HPn HC
  have hn1 : ((n : Int) + 1 - 1) = n := by omega
  have hne : ¬ ((n : Int) = 0) := by omega
  have hnn : (n : Int) = 1 ∨ (n : Int) = 2 := by omega
  clear hu hd h HST HUP HAT hcell hg hby hV hV2 hxi hqi hki hT hby2 hq1 hq2
  rcases hn with rfl | rfl
  all_goals
    clear hnn hne hn1
    go_enter Tryz.func130, Tryz.ntmps130
    go_upto_region 1 with (first | (refine wpList_box_list (w := w) rfl 181 _ rfl (wyc s0 s1 s2) rfl ?_; intro w1 F1 hb1 hz1; have HQ1 := Lib.hid hb1; clear hb1))
    obtain ⟨bW, hbW⟩ : ∃ x, w.heap.size = x := ⟨_, rfl⟩
    have HB1 := Lib.hid (HB.out.keep HQ1.out)
    have hW0 : w.heap.size ≤ bW := Nat.le_of_eq hbW
    rw [hbW] at F1
    try rw [hbW]
    clear hz1 HQ1 HB hbW
    have HR1 := Lib.hid F1.out.range0
    go_wp2_with (refine wpList_load_mid rfl 181 _ rfl bW 0 rfl (wyc s0 s1 s2) dW HR1.out HU.out HD.out (sizeWy _ _ _) ?_)
    refine (HS.out w1).mono ?_
    rintro e w2 ⟨rfl, hb⟩
    have HB2 := Lib.hid (HB1.out.keep hb)
    have F2 := Lib.hid (F1.out.keep hb)
    clear hb HS HR1 F1 HB1
    have HR2 := Lib.hid F2.out.range0
    go_wp2_with (refine wpList_load_mid rfl 181 _ rfl bW 0 rfl (wyc s0 s1 s2) dW HR2.out HU.out HD.out (sizeWy _ _ _) ?_)
    refine (HP.out w2).mono ?_
    rintro e w3 ⟨rfl, hb⟩
    have HB3 := Lib.hid (HB2.out.keep hb)
    have F3 := Lib.hid (F2.out.keep hb)
    clear hb HP HR2 F2 HB2
    go_wp2_with fail
    refine (HA.out w3 HB3.out.self).mono ?_
    rintro e w4 ⟨rfl, hB4⟩
    have HB4 := Lib.hid (HB3.out.trans hB4)
    have F4 : Hid (Vl w4 bW (wyc s0 s1 s2)) := Lib.hid (F3.out.kf hB4.kf (fun ha => by have := HB3.out.nin hW0; simp only [List.mem_cons, List.not_mem_nil, or_false, not_or] at this ha; omega))
    clear hB4 HA HB3 F3
    have hqe := HB4.out.bd.c 0 _ rfl
    go_wp2_with fail
    refine (HGt.out w4 HB4.out.gr).mono ?_
    rintro e w5 ⟨rfl, hG, hkk⟩
    have HB5 := Lib.hid (HB4.out.call hG hkk)
    have F5 : Hid (Vl w5 bW (wyc s0 s1 s2)) := Lib.hid (F4.out.kf hkk (fun ha => by have := HB4.out.nin hW0; simp only [List.mem_cons, List.not_mem_nil, or_false, not_or] at this ha; omega))
    have hs5 : w.heap.size ≤ w5.heap.size := HB5.out.kf.size
    clear hG hkk HGt HB4 F4 hqe
    go_upto_region 9 with (first | (refine wpList_alloc_byts (w := w5) rfl 59 64 rfl Tryz.zero36 ?_; intro w6 F6 hb6 hz6; simp only [Act.put, List.getElem_toArray, List.getElem_cons_zero, List.getElem_cons_succ, List.setIfInBounds_toArray, List.set_cons_zero, List.set_cons_succ]; refine wpList_store_blk rfl (.tmp 10) (.tmp 39) rfl w5.heap.size 0 64 (fun _ => 0) V F6.out (by omega) rfl rfl ?_; intro w7 F7 HK7; have HB6 := Lib.hid hb6; clear hb6 F6))
    obtain ⟨bB, hbB⟩ : ∃ x, w5.heap.size = x := ⟨_, rfl⟩
    have hB0 : w.heap.size ≤ bB := by omega
    have hF5l := F5.out.lt
    have HB7 := Lib.hid ((HB5.out.keep HB6.out).new HK7.out (by omega))
    have G7 := Lib.hid ((F5.out.keep HB6.out).kp HK7.out (by omega) (by omega))
    have F7' := Lib.hid (F7.out.congr (fun j hj => upd_zero 64 V j hj _))
    rw [hbB] at F7' hF5l
    try rw [hbB]
    clear F7 HK7 HB6 HB5 F5 hbB hz6 hs5
    have ck := G7.out.c _ _ HC.out
    go_wp2_with fail
    refine (HPn.out bB w7 F7'.out).mono ?_
    rintro e w8 ⟨rfl, hF8, hk8⟩
    have HB8 := Lib.hid (HB7.out.new hk8 hB0)
    have F8 := Lib.hid hF8
    clear hF8 hk8 HPn HB7 F7' ck G7
    have hqe := HB8.out.bd.c 0 _ rfl
    go_upto_region 12 with fail
    refine wp_region_held (S := fun W => Fl W bB 64 V2 ∧ W.cell? ⟨b, 0, none⟩ = some (.pointer (some ⟨q, 0, none⟩))) (by kernel_rfl) ?_
    change wpAnyH _ _ _ _ _ _ _ _ (World.drew _)
    have hS0 : (fun W => Fl W bB 64 V2 ∧ W.cell? ⟨b, 0, none⟩ = some (.pointer (some ⟨q, 0, none⟩))) w8.drew := ⟨F8.out.below (Below.refl _ _).drew F8.out.lt, (HB8.out.keep (Below.refl _ _).drew).bd.c 0 _ rfl⟩
    have HB9 := Lib.hid (HB8.out.keep (Below.refl _ _).drew)
    obtain ⟨w9, hw9⟩ : ∃ x, World.drew w8 = x := ⟨_, rfl⟩
    rw [hw9] at hS0 HB9 ⊢
    clear hw9
    refine wpAnyH_take (i := 0) (v := ?_) rfl (by kernel_rfl) (by kernel_rfl) (by kernel_rfl) (fun _ _ _ h => h) (Or.inl ⟨by rfl, ?_⟩) hS0 ?_
    rotate_left 1
    · intro W hW
      go_simp
      try with_reducible rfl
    simp only [Act.put, List.getElem_toArray, List.getElem_cons_zero, List.getElem_cons_succ, List.setIfInBounds_toArray, List.set_cons_zero, List.set_cons_succ]
    refine wpAnyH_take (i := 1) (v := ?_) rfl (by kernel_rfl) (by kernel_rfl) (by kernel_rfl) (fun _ _ _ h => h) (Or.inl ⟨by rfl, ?_⟩) hS0 ?_
    rotate_left 1
    · intro W hW
      go_simp
      try with_reducible rfl
    simp only [Act.put, List.getElem_toArray, List.getElem_cons_zero, List.getElem_cons_succ, List.setIfInBounds_toArray, List.set_cons_zero, List.set_cons_succ]
    refine wpAnyH_take (i := 2) (v := ?_) rfl (by kernel_rfl) (by kernel_rfl) (by kernel_rfl) (fun _ _ _ h => h) (Or.inl ⟨by rfl, ?_⟩) hS0 ?_
    rotate_left 1
    · intro W hW
      go_simp
      try with_reducible rfl
    simp only [Act.put, List.getElem_toArray, List.getElem_cons_zero, List.getElem_cons_succ, List.setIfInBounds_toArray, List.set_cons_zero, List.set_cons_succ]
    refine wpAnyH_take (i := 3) (v := ?_) rfl (by kernel_rfl) (by kernel_rfl) (by kernel_rfl) (fun _ _ _ h => h) (Or.inl ⟨by rfl, ?_⟩) hS0 ?_
    rotate_left 1
    · intro W hW
      have c0 := hW.2
      go_simp
      try with_reducible rfl
    simp only [Act.put, List.getElem_toArray, List.getElem_cons_zero, List.getElem_cons_succ, List.setIfInBounds_toArray, List.set_cons_zero, List.set_cons_succ]
    refine wpAnyH_take (i := 4) (v := ?_) rfl (by kernel_rfl) (by kernel_rfl) (by kernel_rfl) (fun _ _ _ h => h) (Or.inl ⟨by rfl, ?_⟩) hS0 ?_
    rotate_left 1
    · intro W hW
      go_simp
      try with_reducible rfl
    simp only [Act.put, List.getElem_toArray, List.getElem_cons_zero, List.getElem_cons_succ, List.setIfInBounds_toArray, List.set_cons_zero, List.set_cons_succ]
    refine wpAnyH_take (i := 5) (v := .agg (byts 64 V2).toArray) rfl (by kernel_rfl) (by kernel_rfl) (by kernel_rfl) (fun _ _ _ h => h) ?_ hS0 ?_
    · exact yieldsIf_load_mid (by rfl) 59 (.tmp 10) rfl bB 0 rfl (byts 64 V2) (.array 64 5) (fun W hW => hW.1.range0) Tryz.arr36 rfl (size36 _)
    simp only [Act.put, List.getElem_toArray, List.getElem_cons_zero, List.getElem_cons_succ, List.setIfInBounds_toArray, List.set_cons_zero, List.set_cons_succ]
    refine wpAnyH_ready (rs := [6]) (by kernel_rfl) (by simp) (AllReadyH.cons rfl (fun KK hKK => ?_) AllReadyH.nil)
    go_simp
    refine (HPu.out w9 HB9.out.gr).mono ?_
    rintro e w10 ⟨rfl, hG, hkk⟩
    have HB10 := Lib.hid (HB9.out.call hG hkk)
    replace hS0 : (fun W => Fl W bB 64 V2 ∧ W.cell? ⟨b, 0, none⟩ = some (.pointer (some ⟨q, 0, none⟩))) w10 := ⟨hS0.1.kf hkk (fun ha => by have := HB9.out.nin hB0; simp only [List.mem_cons, List.not_mem_nil, or_false, not_or] at this ha; omega), HB10.out.bd.c 0 _ rfl⟩
    clear hG hkk
    refine hKK _ _ hS0 ?_
    intro _
    clear hKK KK
    try simp only [Act.put, List.getElem_toArray, List.getElem_cons_zero, List.getElem_cons_succ, List.setIfInBounds_toArray, List.set_cons_zero, List.set_cons_succ]
    refine wpAnyH_take (i := 7) (v := ?_) rfl (by kernel_rfl) (by kernel_rfl) (by kernel_rfl) (fun _ _ _ h => h) (Or.inl ⟨by rfl, ?_⟩) hS0 ?_
    rotate_left 1
    · intro W hW
      go_simp
      try with_reducible rfl
    simp only [Act.put, List.getElem_toArray, List.getElem_cons_zero, List.getElem_cons_succ, List.setIfInBounds_toArray, List.set_cons_zero, List.set_cons_succ]
    refine wpAnyH_done (by kernel_rfl) ?_ _
    clear hS0
    go_wp2_with fail
    go_ret
    exact ⟨rfl, HB10.out⟩
theorem wy_three (c : Nat) (h : 38 ≤ c ∧ c < 1062) : wy1 c = 8 ∧ wy2 c = (c - 38) / 32 + 1 ∧ wy3 c = (c - 38) % 32 + 1 ∧ parS c = 2002 + (c - 38) / 32 ∧ idxS c = (c - 38) % 32 := by
  unfold wy1 wy2 wy3 parS idxS
  rw [if_neg (by omega), if_neg (by omega), if_neg (by omega), if_neg (by omega), if_pos (by omega), if_pos h, if_neg (by omega), if_pos (by omega), if_neg (by omega), if_pos (by omega)]
  exact ⟨rfl, rfl, rfl, rfl, rfl⟩
theorem wy_two (c : Nat) (hc : okS c = true) (hr : isR c = false) (h3 : ¬ (38 ≤ c ∧ c < 1062)) : wy1 c = wy1 (parS c) ∧ wy2 c = idxS c + 1 ∧ wy3 c = 0 ∧ isR (parS c) = true := by
  have hn := (isR_no c).1 hr
  have hoo := (okS_iff c).1 hc
  refine ⟨?_, ?_, by unfold wy3; rw [if_neg h3], (isR_iff _).2 ?_⟩
  · unfold wy1 parS
    by_cases e : c < 38
    · rw [if_neg (by omega), if_pos (.inl e), if_pos e]
      rfl
    · rw [if_neg (by omega), if_neg (by omega), if_neg e, if_neg (show ¬ c < 1062 by omega)]
      rfl
  · unfold wy2 idxS
    rw [if_neg hn]
    split
    · omega
    · rw [if_neg (by omega), if_neg (by omega)]
  · unfold parS
    split
    · omega
    · rw [if_neg (by omega)]
      omega
theorem wy_par3 (c : Nat) (h : 38 ≤ c ∧ c < 1062) : wyS (parS c) = .agg (wyc 8 (((c - 38) / 32 + 1 : Nat) : Int) 0).toArray := by
  have e := (wy_three c h).2.2.2.1
  unfold wyS
  rw [e]
  have e1 : wy1 (2002 + (c - 38) / 32) = 8 := by unfold wy1; rw [if_neg (by omega), if_neg (by omega)]
  have e2 : wy2 (2002 + (c - 38) / 32) = (c - 38) / 32 + 1 := by unfold wy2; rw [if_neg (by omega), if_neg (by omega), if_neg (by omega)]; omega
  have e3 : wy3 (2002 + (c - 38) / 32) = 0 := by unfold wy3; rw [if_neg (by omega)]
  rw [e1, e2, e3]
  rfl
/-- a slot whose block of pointers is there is pointed to -/
theorem point_in (b q p t m d gg lab B0 P0 M DA NB N K : Nat) (g : Cf.Ge) (Y : Nat → Nat → Int) (f : Nat → Int) (S : Nat → Bool) (B : Nat → Nat) (hF : Fi DA NB Y f S B) (c x : Nat) (hc : okS c = true) (hr : isR c = false) (hp : S (parS c) = true) (hx : x < 65536) (hT : Has ln (DA + (B (parS c) - 1)))
    (hK : K < 600000000) (hg : GG g B0 P0 M DA NB N) (w : World) (h : Bo w w b q p t m d gg lab g B0 NB N ln Y K f) :
    Calls Tryz.prog 130 #[.pointer (some ⟨b, 0, none⟩), wyS c, .int .u16 x] w fun e w' => e = .returned (.int .i64 0) ∧ Bo w w' b q p t m d gg lab g B0 NB N ln (addY DA Y B c x) (K + 3) f := by
  have hrg := hF.rng _ hp
  have hpo := (parS_ok c hc hr).1
  have hAt := fun W hW => at_slot (ln := ln) b q p t m d gg lab B0 P0 M DA NB N K g Y f S B hF (parS c) hpo hK hg W hW
  have hv : vS S B (parS c) = B (parS c) := if_pos hp
  rw [hv] at hAt
  have hY : addY DA Y B c x = vput (DA + (B (parS c) - 1)) (putN (Y (DA + (B (parS c) - 1))) (2 * idxS c) x) Y := by
    unfold addY
    rw [if_neg (by rw [hr]; decide)]
  rw [hY]
  have hi := idxS_lt c hc hr
  by_cases h3 : 38 ≤ c ∧ c < 1062
  · obtain ⟨e1, e2, e3, e4, e5⟩ := wy_three c h3
    have hpw := wy_par3 c h3
    rw [hpw] at hAt
    unfold wyS
    rw [e1, e2, e3]
    refine point_gen (ln := ln) b q p t m d gg lab B0 P0 M DA NB N K g Y f 8 (((c - 38) / 32 + 1 : Nat) : Int) (((c - 38) % 32 + 1 : Nat) : Int) _ 2 (idxS c) x (B (parS c)) (.inr rfl) hi hx hrg.1 hrg.2 hT
      (fun W => steps3 8 _ _ (by decide) (by omega) (by omega) W) (fun W => up3 8 _ _ (by decide) (by omega) (by omega) W) hAt ?_ hK hg w h
    rw [e5]
    rfl
  · obtain ⟨e1, e2, e3, hpr⟩ := wy_two c hc hr h3
    have hwr := wy_root (parS c) hpr
    have hpw : wyS (parS c) = .agg (wyc (wy1 c) 0 0).toArray := by
      unfold wyS
      rw [hwr.2.1, hwr.2.2, e1]
      rfl
    rw [hpw] at hAt
    have h1 : 1 ≤ wy1 c := by rw [e1]; exact hwr.1
    unfold wyS
    rw [e2, e3]
    refine point_gen (ln := ln) b q p t m d gg lab B0 P0 M DA NB N K g Y f (wy1 c) ((idxS c + 1 : Nat) : Int) 0 _ 1 (idxS c) x (B (parS c)) (.inl rfl) hi hx hrg.1 hrg.2 hT
      (fun W => steps2 _ _ (by omega) (by omega) W) (fun W => up2 _ _ (by omega) (by omega) W) hAt ?_ hK hg w h
    rfl
end Go.Proofs.YtbnpgkclnebnmaaGreat

namespace Go.Proofs.YtbnpgkclnebnmaaGreat
set_option linter.unusedSimpArgs false
set_option linter.unusedVariables false
open Go.RowKit Go.Maps

variable {ln : Lm}
theorem wpList_bld2 {P : Program} {ops : Array Oper} {rest : List Oper} {op : Oper} {a : Act} {w : World} {Q : Exit → Act → World → Prop} (hgd : op.guard = none) (ty : TypeId) (i0 i1 : Nat) (x0 x1 : Operand) (ho : op.op = .build ty #[(i0, x0), (i1, x1)]) (v0 v1 : Value) (h0 : a.eval x0 = v0) (h1 : a.eval x1 = v1) (v : Value)
    (hr : (Instr.build ty #[(i0, v0), (i1, v1)]).run P w = .ok v w) (h : wpList P ops Q rest (a.put op.dst v) w) : wpList P ops Q (op :: rest) a w := by
  refine wpList_plain hgd fun K' hK' => ?_
  unfold Oper.wp
  simp [execOp, ho, h0, h1, hr, Result.andThen]
  exact hK' _ _ h
/-! ### Make -/
/-! ### how many nodes aren't free -/
def cN (V : Nat → Nat → Int) : Nat → Nat
  | 0 => 0
  | k + 1 => cN V k + if V (k + 1) 0 = 0 then 0 else 1
theorem cN_le (V : Nat → Nat → Int) : ∀ k, cN V k ≤ k
  | 0 => Nat.le_refl _
  | k + 1 => by
    have := cN_le V k
    unfold cN
    split <;> omega
set_option maxHeartbeats 20000000 in
set_option maxRecDepth 100000 in
theorem gcountn (q p t m d gg lab B0 P0 M DA NB N K : Nat) (g : Cf.Ge) (Y : Nat → Nat → Int) (V : Nat → Nat → Int) (hK : K < 500000000) (hI : Tab P0 M Y V) (hg : GG g B0 P0 M DA NB N) (w : World) (h : Gr w q p t m d gg lab g B0 NB N ln Y K) :
    Calls Tryz.prog 82 #[.pointer (some ⟨q, 0, none⟩)] w fun e w' => e = .returned (.tuple #[.int .i64 (cN V M : Nat), .int .i64 0]) ∧ Gr w' q p t m d gg lab g B0 NB N ln Y (K + 200) ∧ Kf w w' [t, m, d, gg] := by
  have HG := Lib.hid h
  have HI := Lib.hid hI
  have hM8 := hg.m128
  have HGG := Lib.hid hg
  have HNd := Lib.hid hg.nd
  have hM := Lib.hid (cN_le V)
  have c7 := h.gb.c 7 _ rfl
  rw [HNd.out] at c7
  clear h hI hg
  go_enter Tryz.func82, Tryz.ntmps82
  go_wp2_with fail
  clear c7
  go_loopw [4, 13] (fun x y wr => ∃ k : Nat, k ≤ M ∧ y = .int .i64 k ∧ x = .int .i64 (cN V k : Nat) ∧ Gr wr q p t m d gg lab g B0 NB N ln Y (K + k) ∧ Kf w wr [t, m, d, gg]) (fun _ y _ => M - (Go.RowKit.intOf y).toNat)
  case atStart => exact ⟨0, Nat.zero_le _, rfl, rfl, HG.out, Kf.refl _ _⟩
  case round =>
    obtain ⟨k, hk, rfl, rfl, hGr, hkf⟩ := hrel
    have HGr := Lib.hid hGr
    have HKf := Lib.hid hkf
    clear hGr hkf HG
    by_cases hlt : k < M
    · have HNo : Hid (Calls Tryz.prog 57 #[.pointer (some ⟨q, 0, none⟩), .int .i64 ((k : Int) + 1)] wr fun e w' => e = .returned (.tuple #[.agg (ndc (V (k + 1))).toArray, .int .i64 0]) ∧ Gr w' q p t m d gg lab g B0 NB N ln Y (K + k + 1) ∧ Kf wr w' [t, m, d, gg]) := by
        have := gnode_in (ln := ln) q p t m d gg lab B0 P0 M DA NB N (K + k) g Y V (k + 1) (by omega) (by omega) (by omega) HI.out HGG.out wr HGr.out
        rwa [show ((k + 1 : Nat) : Int) = (k : Int) + 1 by omega] at this
      have hcl := hM.out k
      have hsu : Hid (cN V (k + 1) = cN V k + if V (k + 1) 0 = 0 then 0 else 1) := rfl
      obtain ⟨cc, hcc⟩ : ∃ c, cN V k = c := ⟨_, rfl⟩
      rw [hcc] at hcl hsu ⊢
      obtain ⟨v, hv⟩ : ∃ v, V (k + 1) = v := ⟨_, rfl⟩
      rw [hv] at HNo hsu
      have hk0 : (0 : Int) ≤ k := by omega
      have hk1 : (k : Int) < M := by omega
      have hc0 : (0 : Int) ≤ cc := by omega
      have hc1 : (cc : Int) ≤ 200 := by omega
      have hM2 : (M : Int) ≤ 128 := by omega
      clear hcc hv
      go_wp2_with fail
      refine HNo.out.mono ?_
      rintro e u1 ⟨rfl, hGr, hkk⟩
      have HG2 := Lib.hid hGr
      have HK2 := Lib.hid (HKf.out.trans hkk)
      clear hGr hkk HNo HGr HKf
      go_upto_region 6 with (first | (refine wpList_alloc_list (w := u1) rfl 68 rfl (ndc zpt) Tryz.zero27 ?_; intro u2 G2 hb2 hz2; simp only [Act.put, List.getElem_toArray, List.getElem_cons_zero, List.getElem_cons_succ, List.setIfInBounds_toArray, List.set_cons_zero, List.set_cons_succ]; refine wpList_store_list rfl 68 (.tmp 6) (.tmp 21) rfl u1.heap.size (ndc zpt) (ndc v) rfl rfl G2.out rfl (size27 _) (ndc_one _) ?_; intro u3 F3 HP3; have HQ2 := Lib.hid hb2; clear hb2 hz2 G2))
      obtain ⟨c, hc⟩ : ∃ c, u1.heap.size = c := ⟨_, rfl⟩
      have HK3 := Lib.hid ((HK2.out.more HQ2.out).new HP3.out HK2.out.size)
      have HG3 := Lib.hid ((HG2.out.keep HQ2.out).kp HP3.out (HG2.out.notin (Nat.le_refl _)))
      rw [hc] at F3
      try rw [hc]
      clear hc HQ2 HP3 HK2 HG2
      have e0 := F3.out.c 0 _ rfl
      by_cases hz : v 0 = 0
      · rw [hz] at e0
        go_wp2_with fail
        go_roundw
        case rel => exact ⟨k + 1, by omega, by go_num, by rw [hsu.out, if_pos hz]; rfl, HG3.out.mono (Lm.le_refl _) (by omega), HK3.out⟩
        case measure => simp [Go.RowKit.intOf]; omega
      · go_wp2_with fail
        go_roundw
        case rel => exact ⟨k + 1, by omega, by go_num, by rw [hsu.out, if_neg hz]; go_num, HG3.out.mono (Lm.le_refl _) (by omega), HK3.out⟩
        case measure => simp [Go.RowKit.intOf]; omega
    · obtain rfl : k = M := by omega
      go_wp2_with fail
      exact bodyPost_ret (v := .tuple #[.int .i64 (cN V k : Nat), .int .i64 0]) (by simp [results, Tryz.results82, go_sem]) rfl ⟨rfl, HGr.out.mono (Lm.le_refl _) (by omega), HKf.out⟩
theorem gcount (q p t m d gg lab B0 P0 M DA NB N K : Nat) (g : Cf.Ge) (Y : Nat → Nat → Int) (hK : K < 600000000) (hg : GG g B0 P0 M DA NB N) (w : World) (h : Gr w q p t m d gg lab g B0 NB N ln Y K) :
    Calls Tryz.prog 81 #[.pointer (some ⟨p, 0, none⟩)] w fun e w' => e = .returned (.tuple #[.int .i64 (setL (bt Y B0) NB).length, .int .i64 0]) ∧ Gr w' q p t m d gg lab g B0 NB N ln Y (K + 200) ∧ Kf w w' [t, m, d, gg] := by
  have hN := h.rd.hN
  have h1 := hg.dn
  have h2 := hg.pd
  have h3 := hg.bp
  have h4 := hg.n512
  refine (count_any p t m d gg B0 NB K Y (by omega) (by omega) (fun i hi => by omega) hK w h.mb h.rd h.np).mono ?_
  rintro e w' ⟨he, hR, hk⟩
  exact ⟨he, h.call hR hk, hk⟩
set_option maxHeartbeats 20000000 in
set_option maxRecDepth 100000 in
theorem gusage (q p t m d gg lab B0 P0 M DA NB N K : Nat) (g : Cf.Ge) (Y : Nat → Nat → Int) (V : Nat → Nat → Int) (cb : Nat) (hcb : (setL (bt Y B0) NB).length = cb) (cn : Nat) (hcn : cN V M = cn) (hK : K < 400000000) (hI : Tab P0 M Y V) (hg : GG g B0 P0 M DA NB N) (w : World) (h : Gr w q p t m d gg lab g B0 NB N ln Y K) :
    Calls Tryz.prog 39 #[.pointer (some ⟨q, 0, none⟩)] w fun e w' => e = .returned (.tuple #[.int .i64 cb, .int .i64 cn, .int .i64 0]) ∧ Gr w' q p t m d gg lab g B0 NB N ln Y (K + 400) ∧ Kf w w' [t, m, d, gg] := by
  have HC := Lib.hid (gcount q p t m d gg lab B0 P0 M DA NB N K g Y (by omega) hg w h)
  rw [hcb] at HC
  have HN := Lib.hid (fun W hW => gcountn (ln := ln) q p t m d gg lab B0 P0 M DA NB N (K + 200) g Y V (by omega) hI hg W hW)
  rw [hcn] at HN
  have c8 := h.gb.c 8 _ rfl
  clear hcb hcn hI hg h
  go_enter Tryz.func39, Tryz.ntmps39
  go_wp2_with fail
  refine HC.out.mono ?_
  rintro e u1 ⟨rfl, hG, hk⟩
  have HG1 := Lib.hid hG
  have HK1 := Lib.hid hk
  clear hG hk HC c8
  go_wp2_with fail
  refine (HN.out u1 HG1.out).mono ?_
  rintro e u2 ⟨rfl, hG, hk⟩
  have HG2 := Lib.hid hG
  have HK2 := Lib.hid (HK1.out.trans hk)
  clear hG hk HN HG1 HK1
  go_wp2_with fail
  exact bodyPost_ret (v := .tuple #[.int .i64 cb, .int .i64 cn, .int .i64 0]) (by simp [results, Tryz.results39, go_sem]) rfl ⟨rfl, HG2.out.mono (Lm.le_refl _) (by omega), HK2.out⟩
/-! ### a disk as an image -/
/-- a slice of N blocks in block b, those behind the log as Y says -/
def Img (w : World) (b N : Nat) (Y : Nat → Nat → Int) : Prop := ∃ F, Fl w b (N * 64) F ∧ ∀ x, 32 ≤ x → x < N → ∀ j, j < 64 → F (x * 64 + j) = Y x j
theorem Img.kf {w w' : World} {b N : Nat} {Y : Nat → Nat → Int} {L : List Nat} (h : Img w b N Y) (hk : Kf w w' L) (hb : b ∉ L) : Img w' b N Y := by
  obtain ⟨F, h1, h2⟩ := h
  exact ⟨F, h1.kf hk hb, h2⟩
theorem Img.lt {w : World} {b N : Nat} {Y : Nat → Nat → Int} (h : Img w b N Y) : b < w.heap.size := by
  obtain ⟨F, h1, h2⟩ := h
  exact h1.lt
end Go.Proofs.YtbnpgkclnebnmaaGreat

namespace Go.Proofs.YtbnpgkclnebnmaaGreat
set_option linter.unusedSimpArgs false
set_option linter.unusedVariables false
open Go.RowKit Go.Maps

variable {ln : Lm}
theorem wpList_bld3 {P : Program} {ops : Array Oper} {rest : List Oper} {op : Oper} {a : Act} {w : World} {Q : Exit → Act → World → Prop} (hgd : op.guard = none) (ty : TypeId) (i0 i1 i2 : Nat) (x0 x1 x2 : Operand) (ho : op.op = .build ty #[(i0, x0), (i1, x1), (i2, x2)]) (v0 v1 v2 : Value) (h0 : a.eval x0 = v0) (h1 : a.eval x1 = v1) (h2 : a.eval x2 = v2) (v : Value)
    (hr : (Instr.build ty #[(i0, v0), (i1, v1), (i2, v2)]).run P w = .ok v w) (h : wpList P ops Q rest (a.put op.dst v) w) : wpList P ops Q (op :: rest) a w := by
  refine wpList_plain hgd fun K' hK' => ?_
  unfold Oper.wp
  simp [execOp, ho, h0, h1, h2, hr, Result.andThen]
  exact hK' _ _ h
/-! ### Fresh -/
/-- a group's own nodes: a directory, two files -/
def own (k : Int) : Nat → Int := fun i => if i = 0 then k else if i = 1 then 1 else if i = 2 then 1 else 0
def kd (n : Nat) : Int := if n = 1 then 2 else 1
def VF (j : Nat) : Nat → Nat → Int := fun n => if 1 ≤ n ∧ n ≤ j then own (kd n) else zpt
theorem kd_in (n : Nat) : kd n = 1 ∨ kd n = 2 := by unfold kd; split <;> simp
theorem own_ok (n : Nat) : NdOk (own (kd n)) := by
  rcases kd_in n with h | h <;> rw [h] <;> exact ⟨by decide, by decide, by decide, by decide, fun i h2 h3 => by unfold own; rw [if_neg (by omega), if_neg (by omega), if_neg (by omega)]; exact ⟨Int.le_refl _, by decide⟩⟩
theorem own_code (n : Nat) : codeN (own (kd n)) = 0 := by
  rcases kd_in n with h | h <;> rw [h] <;> decide
theorem VF_zero : VF 0 = fun _ => zpt := by
  funext n
  unfold VF
  rw [if_neg (by omega)]
theorem VF_put (j : Nat) : vput (j + 1) (own (kd (j + 1))) (VF j) = VF (j + 1) := by
  funext n
  unfold vput VF
  by_cases c : j + 1 = n
  · subst c
    rw [if_pos rfl, if_pos ⟨by omega, by omega⟩]
  · rw [if_neg c]
    by_cases c2 : 1 ≤ n ∧ n ≤ j
    · rw [if_pos c2, if_pos ⟨c2.1, by omega⟩]
    · rw [if_neg c2, if_neg (by omega)]
theorem Tryz.build27_own (k : Int) (w : World) : (Instr.build 68 #[(0, .int .u8 k), (1, .int .u8 1), (2, .int .u16 1)]).run Tryz.prog w = .ok (.agg (ndc (own k)).toArray) w := by kernel_rfl
/-- a group is fresh: its three nodes, no block taken -/
def FreshG (g : Cf.Ge) (N : Nat) (Y : Nat → Nat → Int) : Prop := ∀ B0 P0 M DA NB : Nat, GG g B0 P0 M DA NB N → Tab P0 M Y (VF 3) ∧ ∀ j, j < 512 → bt Y B0 j = false
/-- the first k groups are fresh, from the next one on all is nought -/
structure FreshK (R : List Cf.Rg) (N k : Nat) (Y : Nat → Nat → Int) : Prop where
  done : ∀ (i : Nat) (hi : i < R.length), i < k → FreshG ((Cf.layF R).1[i]'(by rw [Cf.lay_len]; exact hi)) N Y
  rest : ∀ x : Nat, (Cf.layF (R.take k)).2 ≤ x → Y x = fun _ => 0
theorem FreshK.zero (R : List Cf.Rg) (N : Nat) : FreshK R N 0 (fun _ _ => 0) := ⟨fun i hi h => absurd h (by omega), fun _ _ => rfl⟩
/-- writing its nodes makes the next group fresh -/
theorem FreshK.next {R : List Cf.Rg} {N k : Nat} {Y Y' : Nat → Nat → Int} (h : FreshK R N k Y) (hs : ∀ r ∈ R, Cf.Small r) (h64 : R.length ≤ 64) (hN : (Cf.layF R).2 = N) (hk : k < R.length) (B0 P0 M DA NB : Nat)
    (hg : GG ((Cf.layF R).1[k]'(by rw [Cf.lay_len]; exact hk)) B0 P0 M DA NB N) (hT : Tab P0 M Y' (VF 3)) (hY : ∀ x : Nat, x < P0 ∨ P0 + 2 ≤ x → Y' x = Y x) : FreshK R N (k + 1) Y' := by
  have h1 := Cf.lay_nth R k hk
  have h2 := Cf.lay_fin R k hk
  obtain ⟨g, hgk⟩ : ∃ g, (Cf.layF R).1[k]'(by rw [Cf.lay_len]; exact hk) = g := ⟨_, rfl⟩
  rw [hgk] at h1 h2 hg
  have hb : (Cf.layF (R.take k)).2 = B0 := by
    rw [← hg.base, h1]
    rfl
  have hf : (Cf.layF (R.take (k + 1))).2 = ((DA + NB : Nat) : Int) := by
    rw [← h2]
    have := hg.da
    have := hg.bl
    unfold Cf.Ge.fin
    omega
  have hbp := hg.bp
  have hpd := hg.pd
  have hm4 := hg.m4
  refine ⟨fun i hi hik => ?_, fun x hx => ?_⟩
  · by_cases e : i = k
    · subst e
      rw [hgk]
      intro B1 P1 M1 DA1 NB1 hg1
      have e1 : B1 = B0 := by have := hg.base; have := hg1.base; omega
      have e2 : P1 = P0 := by have := hg.tab; have := hg1.tab; omega
      have e3 : M1 = M := by have := hg.nd; have := hg1.nd; omega
      subst e1 e2 e3
      refine ⟨hT, fun j hj => ?_⟩
      unfold bt
      rw [hY _ (by omega), h.rest _ (by rw [hb]; omega)]
      exact bitOf_zero _
    · intro B1 P1 M1 DA1 NB1 hg1
      have hlt : i < k := by omega
      obtain ⟨g1, g2⟩ := h.done i hi hlt B1 P1 M1 DA1 NB1 hg1
      have q1 := Cf.lay_fin R i hi
      have q2 := layF_le R hs (i + 1) k (by omega) (by omega)
      have q3 : ((Cf.layF R).1[i]'(by rw [Cf.lay_len]; exact hi)).fin = ((DA1 + NB1 : Nat) : Int) := by
        have := hg1.da
        have := hg1.bl
        unfold Cf.Ge.fin
        omega
      have q4 : DA1 + NB1 ≤ B0 := by rw [← q1, q3, hb] at q2; omega
      have p1 := hg1.bp
      have p2 := hg1.pd
      have p4 := hg1.n4
      refine ⟨g1.congr fun x hx1 hx2 => hY x (by omega), fun j hj => ?_⟩
      have := g2 j hj
      unfold bt at this ⊢
      rwa [hY _ (by omega)]
  · rw [hf] at hx
    rw [hY x (by omega), h.rest x (by rw [hb]; omega)]
end Go.Proofs.YtbnpgkclnebnmaaGreat
