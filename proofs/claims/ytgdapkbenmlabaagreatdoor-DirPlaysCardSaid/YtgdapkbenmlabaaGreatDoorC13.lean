import Derived.Test.YtgdapkbenmlabaaGreatDoorC12
/- Files: a body in its group; at. -/
set_option linter.unusedSimpArgs false
set_option linter.unusedVariables false
set_option maxHeartbeats 40000000
set_option maxRecDepth 100000
namespace Go.Proofs.YtgdapkbenmlabaaGreatDoor
open Go.RowKit Go.Maps
variable {ln : Lm}
structure Bo (w0 w : World) (b q p t m d gg lab : Nat) (g : Cf.Ge) (B0 NB N : Nat) (ln : Lm) (Y : Nat → Nat → Int) (K : Nat) (f : Nat → Int) : Prop where
 gr : Gr w q p t m d gg lab g B0 NB N ln Y K
 bd : Vl w b (bdc q f)
 nb : b ∉ [q, p, t, m, d, gg]
 kf : Kf w0 w [t, m, d, gg, b]
 lt : ∀ a ∈ [b, q, p, t, m, d, gg], a < w0.heap.size
theorem Bo.keep {w0 w w' : World} {b q p t m d gg lab B0 NB N K : Nat} {ln : Lm} {g : Cf.Ge} {Y : Nat → Nat → Int} {f : Nat → Int} (h : Bo w0 w b q p t m d gg lab g B0 NB N ln Y K f) (hb : Below w.heap.size w w') : Bo w0 w' b q p t m d gg lab g B0 NB N ln Y K f :=
 ⟨h.gr.keep hb, h.bd.keep hb, h.nb, h.kf.trans (Kf.of_below hb _), h.lt⟩
theorem Bo.self {w0 w : World} {b q p t m d gg lab B0 NB N K : Nat} {ln : Lm} {g : Cf.Ge} {Y : Nat → Nat → Int} {f : Nat → Int} (h : Bo w0 w b q p t m d gg lab g B0 NB N ln Y K f) : Bo w w b q p t m d gg lab g B0 NB N ln Y K f :=
 ⟨h.gr, h.bd, h.nb, Kf.refl _ _, fun a ha => Nat.lt_of_lt_of_le (h.lt a ha) h.kf.size⟩
theorem Bo.trans {w0 w w' : World} {b q p t m d gg lab B0 NB N K : Nat} {ln : Lm} {g : Cf.Ge} {Y : Nat → Nat → Int} {f : Nat → Int} {Y' : Nat → Nat → Int} {f' : Nat → Int} {K' : Nat} {ln' : Lm} (h : Bo w0 w b q p t m d gg lab g B0 NB N ln Y K f) (k : Bo w w' b q p t m d gg lab g B0 NB N ln' Y' K' f') : Bo w0 w' b q p t m d gg lab g B0 NB N ln' Y' K' f' :=
 ⟨k.gr, k.bd, h.nb, h.kf.trans k.kf, h.lt⟩
theorem Bo.nin {w0 w : World} {b q p t m d gg lab B0 NB N K : Nat} {ln : Lm} {g : Cf.Ge} {Y : Nat → Nat → Int} {f : Nat → Int} (h : Bo w0 w b q p t m d gg lab g B0 NB N ln Y K f) {x : Nat} (hx : w0.heap.size ≤ x) : x ∉ [b, q, p, t, m, d, gg] := fun ha => by
 have := h.lt x ha;omega
theorem Bo.call {w0 w w' : World} {b q p t m d gg lab B0 NB N K : Nat} {ln : Lm} {g : Cf.Ge} {Y : Nat → Nat → Int} {f : Nat → Int} {Y' : Nat → Nat → Int} {K' : Nat} {ln' : Lm} (h : Bo w0 w b q p t m d gg lab g B0 NB N ln Y K f) (hG : Gr w' q p t m d gg lab g B0 NB N ln' Y' K') (hk : Kf w w' [t, m, d, gg]) : Bo w0 w' b q p t m d gg lab g B0 NB N ln' Y' K' f := by
 have hn := h.nb;simp only [List.mem_cons, List.not_mem_nil, or_false, not_or] at hn;refine ⟨hG, h.bd.kf hk (by simp only [List.mem_cons, List.not_mem_nil, or_false]; omega), h.nb, h.kf.trans (hk.wide fun k hk => ?_), h.lt⟩;simp only [List.mem_cons, List.not_mem_nil, or_false] at hk ⊢;omega
theorem Bo.new {w0 w w' : World} {b q p t m d gg lab B0 NB N K : Nat} {ln : Lm} {g : Cf.Ge} {Y : Nat → Nat → Int} {f : Nat → Int} (h : Bo w0 w b q p t m d gg lab g B0 NB N ln Y K f) {x : Nat} (hk : Kp w w' x x) (hx : w0.heap.size ≤ x) : Bo w0 w' b q p t m d gg lab g B0 NB N ln Y K f := by
 have hn := h.nin hx;simp only [List.mem_cons, List.not_mem_nil, or_false, not_or] at hn;exact ⟨h.gr.kp hk (by simp only [List.mem_cons, List.not_mem_nil, or_false]; omega), h.bd.kp hk (by omega) (by omega), h.nb, h.kf.new hk hx, h.lt⟩
theorem Bo.mono {w0 w : World} {b q p t m d gg lab B0 NB N K : Nat} {ln : Lm} {g : Cf.Ge} {Y : Nat → Nat → Int} {f : Nat → Int} {K' : Nat} {ln' : Lm} (h : Bo w0 w b q p t m d gg lab g B0 NB N ln Y K f) (hl : Lm.Le ln ln') (hk : K ≤ K') : Bo w0 w b q p t m d gg lab g B0 NB N ln' Y K' f :=
 ⟨h.gr.mono hl hk, h.bd, h.nb, h.kf, h.lt⟩
theorem Bo.set {w0 w : World} {b q p t m d gg lab B0 NB N K : Nat} {ln : Lm} {g : Cf.Ge} {Y : Nat → Nat → Int} {f : Nat → Int} (h : Bo w0 w b q p t m d gg lab g B0 NB N ln Y K f) (i : Nat) (hi : i < 12) (v : Value) (f' : Nat → Int) (hv : (bdc q f).set (1 + i) v = bdc q f') : Bo w0 (w.setCell ⟨b, 1 + i, none⟩ v) b q p t m d gg lab g B0 NB N ln Y K f' := by
 have hk : Kp w (w.setCell ⟨b, 1 + i, none⟩ v) b b := (Kp.refl w b b).setA (1 + i) v;have hb := h.bd.set (1 + i) (by show 1 + i < 13; omega) v;rw [hv] at hb;exact ⟨h.gr.kp hk h.nb, hb, h.nb, h.kf.trans (Kf.of_kp hk (by simp) (by simp)), h.lt⟩
theorem run0 (pv : Nat → Nat) (n : Nat) (h : ∀ k, k < n → pv k = 0 → pv (k + 1) = 0) (k : Nat) (hk : pv k = 0) : ∀ j, k + j ≤ n → pv (k + j) = 0
 | 0, _ => hk
 | j + 1, hj => h (k + j) (by omega) (run0 pv n h k hk j (by omega))
theorem Tryz.descBlk : ∃ d, Tryz.prog.underlying 162 = some d ∧ d.isRow = true := ⟨_, Tryz.arr36, rfl⟩
theorem Tryz.sliceWy (b n : Nat) (hn : n ≤ 2) (w : World) : (Instr.sliceAt 325 (.pointer (some ⟨b, 0, none⟩)) (some (.int .i64 1)) (some (.int .i64 ((n : Int) + 1))) none).run Tryz.prog w = .ok (.slice (some ⟨b, 1, none⟩) n 2) w := by
 have hc : n = 0 ∨ n = 1 ∨ n = 2 := by omega
 rcases hc with rfl | rfl | rfl <;> rfl
theorem at_gen (b q p t m d gg lab B0 P0 M DA NB N K : Nat) (g : Cf.Ge) (Y : Nat → Nat → Int) (f : Nat → Int) (a o : Nat) (n : Nat) (hn : n ≤ 2) (s1 s2 : Int) (sk pv : Nat → Nat)
  (HOW : ∀ W, Calls Tryz.prog 260 #[.pointer (some ⟨b, 0, none⟩), .int .i64 a] W fun e w' => e = .returned (.pointer (some ⟨b, 1 + o, none⟩)) ∧ w' = W)
  (HST : ∀ W, Calls Tryz.prog 227 #[.agg (wyc a s1 s2).toArray] W fun e w' => e = .returned (.int .i64 (n + 1)) ∧ Below W.heap.size W w')
  (ho : (ndc f)[o]? = some (.int .u16 (pv 0))) (hs : ∀ k, k < n → (wyc a s1 s2)[1 + k]? = some (.int .i64 (sk k + 1)) ∧ sk k < 32)
  (hpv : ∀ k, k < n → (pv k = 0 → pv (k + 1) = 0) ∧ (pv k ≠ 0 → pv k ≤ NB ∧ (pv (k + 1) : Int) = wd (Y (DA + (pv k - 1))) (sk k)))
  (hK : K < 600000000) (hg : GG g B0 P0 M DA NB N) (w : World) (h : Bo w w b q p t m d gg lab g B0 NB N ln Y K f) :
  Calls Tryz.prog 225 #[.pointer (some ⟨b, 0, none⟩), .agg (wyc a s1 s2).toArray] w fun e w' => e = .returned (.tuple #[.int .u16 (pv n), .int .i64 0]) ∧ Bo w w' b q p t m d gg lab g B0 NB N ln Y (K + 2) f := by
 obtain ⟨dB, hu, hd⟩ := Tryz.descBlk;have HUB := jh hu;have HDB := jh hd;clear hu hd;obtain ⟨dW, hu, hd⟩ := Tryz.descWy;have HU := jh hu;have HD := jh hd;have HB := jh h;have HO := jh HOW;have HS := jh HST;have HC := jh ho;have HN := jh hs;have HP := jh hpv;have HG := jh hg;have hN5 := hg.n512;clear hu hd h HOW HST ho hs hpv hg
 go_enter Tryz.func225, Tryz.ntmps225
 go_upto_region 1 with (first | (refine wpList_box_list (w := w) rfl 325 _ rfl (wyc a s1 s2) rfl ?_; intro w1 F1 hb1 hz1; have HQ1 := jh hb1; clear hb1))
 obtain ⟨bW, hbW⟩ : ∃ x, w.heap.size = x := ⟨_, rfl⟩
 have HB1 := jh (HB.out.keep HQ1.out);have hW0 : w.heap.size ≤ bW := Nat.le_of_eq hbW
 have hW1 : bW < w1.heap.size := by omega
 rw [hbW] at F1
 try rw [hbW]
 clear hz1 HQ1 HB hbW;have c0 := F1.out.c 0 _ rfl
 go_wp2_with fail
 refine (HO.out w1).mono ?_;rintro e wz ⟨rfl, hwz⟩;rw [hwz];clear hwz c0 HO;have cb : w1.cell? ⟨b, 1 + o, none⟩ = some (.int .u16 (pv 0)) := HB1.out.bd.c (1 + o) _ (by rw [Nat.add_comm]; exact HC.out);have HR1 := jh F1.out.range0
 go_wp2_with (refine wpList_load_mid rfl 325 _ rfl bW 0 rfl (wyc a s1 s2) dW HR1.out HU.out HD.out (sizeWy _ _ _) ?_)
 clear cb;refine (HS.out w1).mono ?_;rintro e w2 ⟨rfl, hb⟩;have HB2 := jh (HB1.out.keep hb);have F2 := jh (F1.out.keep hb);clear hb HS HR1 F1 HB1 HC
 have hn0 : (0 : Int) ≤ n := by omega
 have hn2 : (n : Int) ≤ 2 := by omega
 have hsl := Tryz.sliceWy bW n hn w2
 go_wp2_with fail
 clear hsl
 go_loopw [6, 8, 9, 10, 21] (fun v _ _ _ i wr => ∃ k : Nat, k ≤ n ∧ i = .int .i64 k ∧ v = .int .u16 (pv k) ∧ Bo w wr b q p t m d gg lab g B0 NB N ln Y (K + k) f ∧ Vl wr bW (wyc a s1 s2)) (fun _ _ _ _ i _ => n - (Go.RowKit.intOf i).toNat)
 case atStart => exact ⟨0, Nat.zero_le _, rfl, rfl, HB2.out, F2.out⟩
 case round =>
  obtain ⟨k, hk, rfl, rfl, hB, hF⟩ := hrel;have HBr := jh hB;have HFr := jh hF;clear hB hF HB2 F2
  by_cases hlt : k < n
  ·have hk0 : (0 : Int) ≤ k := by omega
   have hkk : (k : Int) < n := by omega
   have ck := HFr.out.c (1 + k) _ (HN.out k hlt).1;have hsk := (HN.out k hlt).2
   by_cases hz : pv k = 0
   ·have hR : pv n = 0 := by
     have := run0 pv n (fun j hj => (HP.out j hj).1) k hz (n - k) (by omega)
     rwa [show k + (n - k) = n by omega] at this
    have HR := jh hR;have HZ := jh hz;rw [hz];clear hR hz
    go_wp2_with fail
    go_ret2
    exact ⟨by rw [HR.out]; rfl, HBr.out.mono (Lm.le_refl _) (by omega)⟩
   ·obtain ⟨hp1, hp2⟩ := (HP.out k hlt).2 hz
    obtain ⟨x, hx⟩ : ∃ x, pv k = x := ⟨_, rfl⟩
    obtain ⟨y, hy⟩ : ∃ y, pv (k + 1) = y := ⟨_, rfl⟩
    rw [hx] at hz hp1 hp2;rw [hy] at hp2;have hby := HBr.out.gr.rd.vb (DA + (x - 1))
    obtain ⟨V, hV⟩ : ∃ V, Y (DA + (x - 1)) = V := ⟨_, rfl⟩
    rw [hV] at hp2 hby;have HGt := jh (gget_in q p t m d gg lab B0 P0 M DA NB N (K + k) g Y x (by omega) hp1 (by omega) HG.out wr HBr.out.gr);rw [hV] at HGt;have HNu := jh (fun W => num_any V hby (sk k) hsk (sk k + 1) rfl W);rw [← hp2] at HNu;rw [hx];have HY := jh hy
    have hx0 : ¬ ((x : Int) = 0) := by omega
    have hx1 : (0 : Int) ≤ x := by omega
    have hx2 : (x : Int) < 65536 := by omega
    have hqe := HBr.out.bd.c 0 _ rfl;have HX := jh hx
    obtain ⟨xi, hxi⟩ : ∃ xi : Int, (x : Int) = xi := ⟨_, rfl⟩
    rw [hxi] at hx0 hx1 hx2 HGt ⊢;clear hp2 hby hV hx hy hsk hxi hp1 hz
    go_wp2_with fail
    refine HGt.out.mono ?_;rintro e w3 ⟨rfl, hG, hkk2⟩;have HB3 := jh (HBr.out.call hG hkk2);have HF3 : Hid (Vl w3 bW (wyc a s1 s2)) := jh (HFr.out.kf hkk2 (fun ha => by have := HBr.out.nin hW0; simp only [List.mem_cons, List.not_mem_nil, or_false, not_or] at this ha; omega));have hs3 : w.heap.size ≤ w3.heap.size := HB3.out.kf.size;clear hG hkk2 HGt HBr HFr hqe ck
    go_upto_region 7 with (first | (refine wpList_alloc_byts (w := w3) rfl 162 64 rfl Tryz.zero36 ?_; intro w5 F5 hb5 hz5; simp only [Act.put,j1,j2,j3,j4,j5,j6]; refine wpList_store_blk rfl (.tmp 9) (.tmp 34) rfl w3.heap.size 0 64 (fun _ => 0) V F5.out (by omega) rfl rfl ?_; intro w6 F6 HK6; have HB5 := jh hb5; clear hb5 F5))
    obtain ⟨bB, hbB⟩ : ∃ x, w3.heap.size = x := ⟨_, rfl⟩
    have hB0 : w.heap.size ≤ bB := by omega
    have HB6 := jh ((HB3.out.keep HB5.out).new HK6.out (by omega));have HF6 := jh ((HF3.out.keep HB5.out).kp HK6.out (by have := HF3.out.lt; omega) (by have := HF3.out.lt; omega));have F6' := jh (F6.out.congr (fun j hj => upd_zero 64 V j hj _));rw [hbB] at F6'
    try rw [hbB]
    have HR6 := jh F6'.out.range0;clear F6 HK6 HB5 HB3 HF3 hbB hz5 hs3 F6'
    go_wp2_with (refine wpList_load_mid rfl 162 _ rfl bB 0 rfl (byts 64 V) dB HR6.out HUB.out HDB.out (size36 _) ?_)
    refine (HNu.out w6).mono ?_;rintro e w7 ⟨rfl, hb⟩;have HB7 := jh (HB6.out.keep hb);have HF7 := jh (HF6.out.keep hb);clear hb HNu HB6 HF6 HR6
    go_wp2_with fail
    go_roundw
    case rel => exact ⟨k + 1, by omega, by go_num, by rw [HY.out], HB7.out.mono (Lm.le_refl _) (by omega), HF7.out⟩
    case measure => simp [Go.RowKit.intOf]; omega
  ·obtain rfl : k = n := by omega
   go_wp2_with fail
   go_ret2
   exact ⟨rfl, HBr.out.mono (Lm.le_refl _) (by omega)⟩
end Go.Proofs.YtgdapkbenmlabaaGreatDoor
namespace Go.Proofs.YtgdapkbenmlabaaGreatDoor
open Go.RowKit Go.Maps
def isR (c : Nat) : Bool := decide (c < 6) || decide (c = 2000) || decide (c = 2001)
def rtI (c : Nat) : Nat := if c = 2000 then 10 else if c = 2001 then 11 else 4 + c
def parS (c : Nat) : Nat := if c < 38 then 2000 else if c < 1062 then 2002 + (c - 38) / 32 else 2001
def idxS (c : Nat) : Nat := if c < 38 then c - 6 else if c < 1062 then (c - 38) % 32 else c - 2002
def okS (c : Nat) : Bool := decide (c < 1062) || (decide (2000 ≤ c) && decide (c < 2034))
theorem isR_iff (c : Nat) : isR c = true ↔ c < 6 ∨ c = 2000 ∨ c = 2001 := by
 unfold isR
 simp [or_assoc]
theorem isR_no (c : Nat) : isR c = false ↔ ¬ (c < 6 ∨ c = 2000 ∨ c = 2001) := by
 rw [← isR_iff]
 simp
theorem okS_iff (c : Nat) : okS c = true ↔ c < 1062 ∨ 2000 ≤ c ∧ c < 2034 := by
 unfold okS
 simp
theorem parS_ok (c : Nat) (h : okS c = true) (hr : isR c = false) : okS (parS c) = true ∧ 2000 ≤ parS c ∧ parS c ≠ c := by
 rw [okS_iff] at h ⊢;rw [isR_no] at hr;unfold parS
 split
 ·omega
 ·split <;> omega
theorem idxS_lt (c : Nat) (h : okS c = true) (hr : isR c = false) : idxS c < 32 := by
 rw [okS_iff] at h;rw [isR_no] at hr;unfold idxS
 split
 ·omega
 ·split <;> omega
theorem slot_inj (c c' : Nat) (h : okS c = true) (hr : isR c = false) (h' : okS c' = true) (hr' : isR c' = false) (hp : parS c = parS c') (hi : idxS c = idxS c') : c = c' := by
 rw [okS_iff] at h h';rw [isR_no] at hr hr';unfold parS at hp;unfold idxS at hi
 split at hp <;> split at hp <;> (try split at hp) <;> (try split at hp) <;> simp_all <;> omega
theorem rtI_inj (c c' : Nat) (hr : isR c = true) (hr' : isR c' = true) (h : rtI c = rtI c') : c = c' := by
 rw [isR_iff] at hr hr';unfold rtI at h
 split at h <;> split at h <;> (try split at h) <;> (try split at h) <;> omega
theorem rtI_lt (c : Nat) (hr : isR c = true) : 4 ≤ rtI c ∧ rtI c < 12 := by
 rw [isR_iff] at hr;unfold rtI
 split
 ·omega
 ·split <;> omega
theorem putN_wd (f : Nat → Int) (k q : Nat) (hq : q < 65536) (k' : Nat) : wd (putN f (2 * k) q) k' = if k' = k then (q : Int) else wd f k' := by
 unfold wd putN
 by_cases e : k' = k
 ·subst e;rw [if_pos rfl, if_neg (by omega), if_pos rfl, if_pos rfl];omega
 ·rw [if_neg e, if_neg (by omega), if_neg (by omega), if_neg (by omega), if_neg (by omega)]
theorem putN_byt {f : Nat → Int} (hf : Byt f) (k q : Nat) : Byt (putN f k q) := fun j hj => by
 unfold putN
 split
 ·omega
 ·split
  ·omega
  ·exact hf j hj
structure Fi (DA NB : Nat) (Y : Nat → Nat → Int) (f : Nat → Int) (N : Nat → Bool) (b : Nat → Nat) : Prop where
 ok : ∀ c, N c = true → okS c = true
 root : ∀ c, isR c = true → f (rtI c) = if N c = true then (b c : Int) else 0
 wrd : ∀ c, okS c = true → isR c = false → N (parS c) = true → wd (Y (DA + (b (parS c) - 1))) (idxS c) = if N c = true then (b c : Int) else 0
 cl : ∀ c, isR c = false → N c = true → N (parS c) = true
 rng : ∀ c, N c = true → 1 ≤ b c ∧ b c ≤ NB
 inj : ∀ c c', N c = true → N c' = true → b c = b c' → c = c'
def addN (N : Nat → Bool) (c : Nat) : Nat → Bool := fun c' => decide (c' = c) || N c'
def addB (b : Nat → Nat) (c x : Nat) : Nat → Nat := fun c' => if c' = c then x else b c'
def addF (f : Nat → Int) (c x : Nat) : Nat → Int := if isR c = true then fun i => if i = rtI c then (x : Int) else f i else f
def addY (DA : Nat) (Y : Nat → Nat → Int) (b : Nat → Nat) (c x : Nat) : Nat → Nat → Int := if isR c = true then Y else vput (DA + (b (parS c) - 1)) (putN (Y (DA + (b (parS c) - 1))) (2 * idxS c) x) Y
theorem addN_self (N : Nat → Bool) (c : Nat) : addN N c c = true := by
 unfold addN
 simp
theorem addN_ne (N : Nat → Bool) {c c' : Nat} (h : c' ≠ c) : addN N c c' = N c' := by
 unfold addN;rw [decide_eq_false h];rfl
theorem addN_of (N : Nat → Bool) {c c' : Nat} (h : addN N c c' = true) : c' = c ∨ N c' = true := by
 unfold addN at h
 simpa using h
theorem addN_old (N : Nat → Bool) (c : Nat) {c' : Nat} (h : N c' = true) : addN N c c' = true := by
 unfold addN;rw [h]
 simp
theorem addB_self (b : Nat → Nat) (c x : Nat) : addB b c x c = x := if_pos rfl
theorem addB_ne (b : Nat → Nat) {c c' : Nat} (x : Nat) (h : c' ≠ c) : addB b c x c' = b c' := if_neg h
theorem Fi.add {DA NB B0 : Nat} {Y Y1 : Nat → Nat → Int} {f : Nat → Int} {N : Nat → Bool} {b : Nat → Nat} (h : Fi DA NB Y f N b) (hB : B0 < DA) (c : Nat) (hok : okS c = true) (hN : N c = false) (hp : isR c = true ∨ N (parS c) = true) (x : Nat) (hx1 : 1 ≤ x) (hx2 : x ≤ NB) (hNB : NB ≤ 512)
  (hfr : ∀ c', N c' = true → b c' ≠ x) (h1 : ∀ z, z ≠ B0 → z ≠ DA + (x - 1) → Y1 z = Y z) (h2 : Y1 (DA + (x - 1)) = fun _ => 0) :
  Fi DA NB (addY DA Y1 b c x) (addF f c x) (addN N c) (addB b c x) := by
 have hd : ∀ c', N c' = true → DA + (b c' - 1) ≠ DA + (x - 1) := fun c' hc => by
  have := hfr c' hc;have := h.rng c' hc;omega
 have hY1 : ∀ c', N c' = true → Y1 (DA + (b c' - 1)) = Y (DA + (b c' - 1)) := fun c' hc => h1 _ (by omega) (hd c' hc);refine ⟨fun c' hc => ?_, fun c' hc => ?_, fun c' ho hr hq => ?_, fun c' hr hc => ?_, fun c' hc => ?_, fun c1 c2 k1 k2 he => ?_⟩
 ·rcases addN_of N hc with rfl | hc
  ·exact hok
  ·exact h.ok c' hc
 ·unfold addF
  by_cases hcr : isR c = true
  ·rw [if_pos hcr]
   by_cases e : c' = c
   ·subst e;rw [if_pos rfl, if_pos (addN_self N c'), addB_self]
   ·rw [if_neg (fun he => e (rtI_inj c' c hc hcr he)), addN_ne N e, addB_ne b x e];exact h.root c' hc
  ·rw [if_neg hcr];have e : c' ≠ c := fun e => hcr (e ▸ hc);rw [addN_ne N e, addB_ne b x e];exact h.root c' hc
 ·by_cases e : parS c' = c
  ·
   have hne : c' ≠ c := fun e' => (parS_ok c' ho hr).2.2 (e.trans e'.symm)
   have hno : N c' = false := by
    cases hh : N c'
    ·rfl
    ·have := h.cl c' hr hh;rw [e, hN] at this
     cases this
   rw [e, addB_self, addN_ne N hne, hno, if_neg (by decide)]
   have : addY DA Y1 b c x (DA + (x - 1)) = fun _ => 0 := by
    unfold addY
    split
    ·exact h2
    ·rename_i hcr
     have hpc : N (parS c) = true := hp.resolve_left hcr;rw [vput_ne _ _ (hd (parS c) hpc)];exact h2
   rw [this];rfl
  ·have hpo : N (parS c') = true := by rwa [addN_ne N e] at hq
   rw [addB_ne b x e];unfold addY
   by_cases hcr : isR c = true
   ·rw [if_pos hcr, hY1 _ hpo]
    have hne : c' ≠ c := fun e' => by rw [e', hcr] at hr; cases hr
    rw [addN_ne N hne, addB_ne b x hne];exact h.wrd c' ho hr hpo
   ·have hcr' : isR c = false := by simpa using hcr
    have hpc : N (parS c) = true := hp.resolve_left hcr;rw [if_neg hcr]
    by_cases ep : parS c' = parS c
    ·rw [ep, vput_at, putN_wd _ _ _ (by omega), hY1 _ hpc]
     by_cases ei : idxS c' = idxS c
     ·obtain rfl := slot_inj c' c ho hr hok hcr' ep ei;rw [if_pos rfl, if_pos (addN_self N c'), addB_self]
     ·have hne : c' ≠ c := fun e' => ei (by rw [e']);rw [if_neg ei, addN_ne N hne, addB_ne b x hne, ← ep];exact h.wrd c' ho hr hpo
    ·have hne : c' ≠ c := fun e' => ep (by rw [e'])
     have hbb : DA + (b (parS c) - 1) ≠ DA + (b (parS c') - 1) := fun he => by
      have r1 := h.rng _ hpc;have r2 := h.rng _ hpo;exact ep (h.inj _ _ hpo hpc (by omega))
     rw [vput_ne _ _ hbb, hY1 _ hpo, addN_ne N hne, addB_ne b x hne];exact h.wrd c' ho hr hpo
 ·rcases addN_of N hc with rfl | hc
  ·rcases hp with hp | hp
   ·rw [hp] at hr
    cases hr
   ·exact addN_old N _ hp
  ·exact addN_old N _ (h.cl c' hr hc)
 ·by_cases e : c' = c
  ·rw [e, addB_self];exact ⟨hx1, hx2⟩
  ·rw [addB_ne b x e];exact h.rng c' (by rwa [addN_ne N e] at hc)
 ·by_cases e1 : c1 = c
  ·by_cases e2 : c2 = c
   ·rw [e1, e2]
   ·rw [e1, addB_self, addB_ne b x e2] at he;exact absurd he.symm (hfr c2 (by rwa [addN_ne N e2] at k2))
  ·by_cases e2 : c2 = c
   ·rw [e2, addB_self, addB_ne b x e1] at he;exact absurd he (hfr c1 (by rwa [addN_ne N e1] at k1))
   ·rw [addB_ne b x e1, addB_ne b x e2] at he;exact h.inj c1 c2 (by rwa [addN_ne N e1] at k1) (by rwa [addN_ne N e2] at k2) he
end Go.Proofs.YtgdapkbenmlabaaGreatDoor
namespace Go.Proofs.YtgdapkbenmlabaaGreatDoor
open Go.RowKit Go.Maps
variable {ln : Lm}
def wy1 (c : Nat) : Nat := if c < 6 then c + 1 else if c < 38 ∨ c = 2000 then 7 else 8
def wy2 (c : Nat) : Nat := if c < 6 ∨ c = 2000 ∨ c = 2001 then 0 else if c < 38 then c - 5 else if c < 1062 then (c - 38) / 32 + 1 else c - 2002 + 1
def wy3 (c : Nat) : Nat := if 38 ≤ c ∧ c < 1062 then (c - 38) % 32 + 1 else 0
def wyS (c : Nat) : Value := .agg (wyc (wy1 c) (wy2 c) (wy3 c)).toArray
def vS (N : Nat → Bool) (b : Nat → Nat) (c : Nat) : Nat := if N c = true then b c else 0
theorem vS_link {DA NB : Nat} {Y : Nat → Nat → Int} {f : Nat → Int} {S : Nat → Bool} {B : Nat → Nat} (h : Fi DA NB Y f S B) (c : Nat) (ho : okS c = true) (hr : isR c = false) :
  (vS S B (parS c) = 0 → vS S B c = 0) ∧ (vS S B (parS c) ≠ 0 → vS S B (parS c) ≤ NB ∧ (vS S B c : Int) = wd (Y (DA + (vS S B (parS c) - 1))) (idxS c)) := by
 unfold vS
 constructor
 ·intro h0
  split
  ·rename_i hc
   have hp := h.cl c hr hc;rw [if_pos hp] at h0;have := h.rng _ hp;omega
  ·rfl
 ·intro h0
  have hp : S (parS c) = true := by
   by_cases e : S (parS c) = true
   ·exact e
   ·rw [if_neg e] at h0;exact absurd rfl h0
  rw [if_pos hp];refine ⟨(h.rng _ hp).2, ?_⟩;rw [h.wrd c ho hr hp]
  split <;> rfl
theorem ndc_ptr (f : Nat → Int) (i : Nat) (h4 : 4 ≤ i) (h12 : i < 12) : (ndc f)[i]? = some (.int .u16 (f i)) := by
 have hc : i = 4 ∨ i = 5 ∨ i = 6 ∨ i = 7 ∨ i = 8 ∨ i = 9 ∨ i = 10 ∨ i = 11 := by omega
 rcases hc with rfl | rfl | rfl | rfl | rfl | rfl | rfl | rfl <;> rfl
theorem bdc_set (q : Nat) (f : Nat → Int) (i x : Nat) (h4 : 4 ≤ i) (h12 : i < 12) : (bdc q f).set (1 + i) (.int .u16 x) = bdc q (fun j => if j = i then (x : Int) else f j) := by
 have hc : i = 4 ∨ i = 5 ∨ i = 6 ∨ i = 7 ∨ i = 8 ∨ i = 9 ∨ i = 10 ∨ i = 11 := by omega
 rcases hc with rfl | rfl | rfl | rfl | rfl | rfl | rfl | rfl <;> rfl
theorem own_slot (b c : Nat) (hr : isR c = true) (W : World) : Calls Tryz.prog 260 #[.pointer (some ⟨b, 0, none⟩), .int .i64 (wy1 c)] W fun e w' => e = .returned (.pointer (some ⟨b, 1 + rtI c, none⟩)) ∧ w' = W := by
 rw [isR_iff] at hr;rcases hr with hr | rfl | rfl
 ·have := own_dir b (c + 1) (by omega) (by omega) W;unfold wy1 rtI;rw [if_pos hr, if_neg (by omega), if_neg (by omega), show 1 + (4 + c) = 5 + (c + 1 - 1) by omega];exact this
 ·exact own_sin b W
 ·exact own_dbl b W
theorem wy_root (c : Nat) (hr : isR c = true) : 1 ≤ wy1 c ∧ wy2 c = 0 ∧ wy3 c = 0 := by
 rw [isR_iff] at hr;unfold wy1 wy2 wy3;refine ⟨?_, if_pos hr, if_neg (by omega)⟩
 split
 ·omega
 ·split <;> decide
theorem at_slot (b q p t m d gg lab B0 P0 M DA NB N K : Nat) (g : Cf.Ge) (Y : Nat → Nat → Int) (f : Nat → Int) (S : Nat → Bool) (B : Nat → Nat) (hF : Fi DA NB Y f S B) (c : Nat) (hc : okS c = true)
  (hK : K < 600000000) (hg : GG g B0 P0 M DA NB N) (w : World) (h : Bo w w b q p t m d gg lab g B0 NB N ln Y K f) :
  Calls Tryz.prog 225 #[.pointer (some ⟨b, 0, none⟩), wyS c] w fun e w' => e = .returned (.tuple #[.int .u16 (vS S B c), .int .i64 0]) ∧ Bo w w' b q p t m d gg lab g B0 NB N ln Y (K + 2) f := by
 have hroot : ∀ c, isR c = true → (ndc f)[rtI c]? = some (.int .u16 (vS S B c)) := fun c hr => by
  have hl := rtI_lt c hr;rw [ndc_ptr f _ hl.1 hl.2, hF.root c hr];unfold vS
  split <;> rfl
 have hoo := okS_iff c;rw [hc] at hoo;have hoo := hoo.1 rfl
 cases hr : isR c
 ·have hn := (isR_no c).1 hr;have hl := vS_link hF c hc hr
  by_cases h3 : 38 ≤ c ∧ c < 1062
  ·have e1 : wy1 c = 8 := by unfold wy1; rw [if_neg (by omega), if_neg (by omega)]
   have e2 : wy2 c = (c - 38) / 32 + 1 := by unfold wy2; rw [if_neg (by omega), if_neg (by omega), if_pos (by omega)]
   have e3 : wy3 c = (c - 38) % 32 + 1 := by unfold wy3; rw [if_pos h3]
   have ep : parS c = 2002 + (c - 38) / 32 := by unfold parS; rw [if_neg (by omega), if_pos (by omega)]
   have ei : idxS c = (c - 38) % 32 := by unfold idxS; rw [if_neg (by omega), if_pos (by omega)]
   have hpo : okS (2002 + (c - 38) / 32) = true := (okS_iff _).2 (by omega);have hpr : isR (2002 + (c - 38) / 32) = false := (isR_no _).2 (by omega)
   have ep2 : parS (2002 + (c - 38) / 32) = 2001 := by unfold parS; rw [if_neg (by omega), if_neg (by omega)]
   have ei2 : idxS (2002 + (c - 38) / 32) = (c - 38) / 32 := by unfold idxS; rw [if_neg (by omega), if_neg (by omega)]; omega
   have hl2 := vS_link hF _ hpo hpr;rw [ep2, ei2] at hl2;rw [ep, ei] at hl
   have := at_gen (ln := ln) b q p t m d gg lab B0 P0 M DA NB N K g Y f 8 11 2 (by decide) ((wy2 c : Nat) : Int) ((wy3 c : Nat) : Int) (fun k => if k = 0 then (c - 38) / 32 else (c - 38) % 32) (fun k => if k = 0 then vS S B 2001 else if k = 1 then vS S B (2002 + (c - 38) / 32) else vS S B c)
    (fun W => own_slot b 2001 rfl W) (fun W => steps3 8 _ _ (by decide) (by rw [e2]; omega) (by rw [e3]; omega) W) (hroot 2001 rfl) (fun k hk => by
     have hk2 : k = 0 ∨ k = 1 := by omega
     rcases hk2 with rfl | rfl
     ·refine ⟨?_, ?_⟩
      ·show some (Value.int .i64 ((wy2 c : Nat) : Int)) = some (.int .i64 (((c - 38) / 32 : Nat) + 1))
       rw [e2];rfl
      ·show (c - 38) / 32 < 32
       omega
     ·refine ⟨?_, ?_⟩
      ·show some (Value.int .i64 ((wy3 c : Nat) : Int)) = some (.int .i64 (((c - 38) % 32 : Nat) + 1))
       rw [e3];rfl
      ·show (c - 38) % 32 < 32
       omega) (fun k hk => by
     have hk2 : k = 0 ∨ k = 1 := by omega
     rcases hk2 with rfl | rfl
     ·exact hl2
     ·exact hl) hK hg w h
   unfold wyS;rw [e1];exact this
  ·have e3 : wy3 c = 0 := by unfold wy3; rw [if_neg h3]
   have e2 : wy2 c = idxS c + 1 := by
    unfold wy2 idxS;rw [if_neg hn]
    split
    ·omega
    ·rw [if_neg (by omega), if_neg (by omega)]
   have hpr : isR (parS c) = true := (isR_iff _).2 (by
    unfold parS
    split
    ·omega
    ·rw [if_neg (by omega)]
     omega)
   have e1 : wy1 c = wy1 (parS c) := by
    unfold wy1 parS
    by_cases e : c < 38
    ·rw [if_neg (by omega), if_pos (.inl e), if_pos e];rfl
    ·rw [if_neg (by omega), if_neg (by omega), if_neg e, if_neg (show ¬ c < 1062 by omega)];rfl
   have hwr := wy_root (parS c) hpr
   have := at_gen (ln := ln) b q p t m d gg lab B0 P0 M DA NB N K g Y f (wy1 (parS c)) (rtI (parS c)) 1 (by decide) ((wy2 c : Nat) : Int) 0 (fun _ => idxS c) (fun k => if k = 0 then vS S B (parS c) else vS S B c)
    (fun W => own_slot b (parS c) hpr W) (fun W => steps2 _ _ (by omega) (by rw [e2]; omega) W) (hroot _ hpr) (fun k hk => by
     obtain rfl : k = 0 := (by omega);refine ⟨?_, idxS_lt c hc hr⟩
     show some (Value.int .i64 ((wy2 c : Nat) : Int)) = some (.int .i64 ((idxS c : Nat) + 1))
     rw [e2]
     rfl) (fun k hk => by
     obtain rfl : k = 0 := (by omega);exact hl) hK hg w h
   unfold wyS;rw [e1, e3];exact this
 ·have hwr := wy_root c hr
  have := at_gen (ln := ln) b q p t m d gg lab B0 P0 M DA NB N K g Y f (wy1 c) (rtI c) 0 (by decide) 0 0 (fun _ => 0) (fun _ => vS S B c)
   (fun W => own_slot b c hr W) (fun W => steps1 _ (by omega) W) (hroot c hr) (fun k hk => absurd hk (Nat.not_lt_zero _)) (fun k hk => absurd hk (Nat.not_lt_zero _)) hK hg w h
  unfold wyS;rw [hwr.2.1, hwr.2.2];exact this
end Go.Proofs.YtgdapkbenmlabaaGreatDoor
namespace Go.Proofs.YtgdapkbenmlabaaGreatDoor
open Go.RowKit Go.Maps
variable {ln : Lm}
theorem point_root (b q p t m d gg lab B0 P0 M DA NB N K : Nat) (g : Cf.Ge) (Y : Nat → Nat → Int) (f : Nat → Int) (c x : Nat) (hr : isR c = true) (hx : x < 65536) (w : World) (h : Bo w w b q p t m d gg lab g B0 NB N ln Y K f) :
  Calls Tryz.prog 229 #[.pointer (some ⟨b, 0, none⟩), wyS c, .int .u16 x] w fun e w' => e = .returned (.int .i64 0) ∧ Bo w w' b q p t m d gg lab g B0 NB N ln Y K (addF f c x) := by
 obtain ⟨dW, hu, hd⟩ := Tryz.descWy;have HU := jh hu;have HD := jh hd;have hl := rtI_lt c hr;have hwr := wy_root c hr;have HB := jh h;have HO := jh (fun W => own_slot b c hr W);have HS := jh (fun W => steps1 (wy1 c) (by omega) W);have HC := jh (bdc_set q f (rtI c) x hl.1 hl.2);have HCc := jh (show (bdc q f)[1 + rtI c]? = some (.int .u16 (f (rtI c))) from by rw [Nat.add_comm]; exact ndc_ptr f _ hl.1 hl.2);have HFe : Hid (addF f c x = fun i => if i = rtI c then (x : Int) else f i) := jh (if_pos hr);have hl12 : rtI c < 12 := hl.2;unfold wyS;rw [hwr.2.1, hwr.2.2]
 obtain ⟨a, ha⟩ : ∃ a, wy1 c = a := ⟨_, rfl⟩
 obtain ⟨o, ho⟩ : ∃ o, rtI c = o := ⟨_, rfl⟩
 rw [ha] at HO HS ⊢;rw [ho] at HO HC HCc HFe hl12
 obtain ⟨xi, hxi⟩ : ∃ y : Int, (x : Int) = y := ⟨_, rfl⟩
 rw [hxi] at HC HFe ⊢;clear hu hd h hr hl hwr ha ho hxi hx
 go_enter Tryz.func229, Tryz.ntmps229
 go_upto_region 1 with (first | (refine wpList_box_list (w := w) rfl 325 _ rfl (wyc a 0 0) rfl ?_; intro w1 F1 hb1 hz1; have HQ1 := jh hb1; clear hb1))
 obtain ⟨bW, hbW⟩ : ∃ x, w.heap.size = x := ⟨_, rfl⟩
 have HB1 := jh (HB.out.keep HQ1.out);rw [hbW] at F1
 try rw [hbW]
 clear hz1 HQ1 HB hbW;have HR1 := jh F1.out.range0
 go_wp2_with (refine wpList_load_mid rfl 325 _ rfl bW 0 rfl (wyc a 0 0) dW HR1.out HU.out HD.out (sizeWy _ _ _) ?_)
 refine (HS.out w1).mono ?_;rintro e w2 ⟨rfl, hb⟩;have HB2 := jh (HB1.out.keep hb);have F2 := jh (F1.out.keep hb);clear hb HS HR1 F1 HB1;have c0 := F2.out.c 0 _ rfl
 go_wp2_with fail
 refine (HO.out w2).mono ?_;rintro e wz ⟨rfl, hwz⟩;rw [hwz];clear hwz c0 HO;have cb := HB2.out.bd.c (1 + o) _ HCc.out;have zb := HB2.out.bd.z (1 + o) (by show 1 + o < 13; omega)
 go_wp2_with fail
 go_ret
 refine ⟨rfl, ?_⟩;rw [HFe.out];exact HB2.out.set o hl12 (.int .u16 xi) _ HC.out
theorem point_gen (b q p t m d gg lab B0 P0 M DA NB N K : Nat) (g : Cf.Ge) (Y : Nat → Nat → Int) (f : Nat → Int) (s0 s1 s2 : Int) (u : Array Value) (n k x qn : Nat) (hn : n = 1 ∨ n = 2) (hk : k < 32) (hx : x < 65536) (hq1 : 1 ≤ qn) (hq2 : qn ≤ NB) (hT : Has ln (DA + (qn - 1)))
  (HST : ∀ W, Calls Tryz.prog 227 #[.agg (wyc s0 s1 s2).toArray] W fun e w' => e = .returned (.int .i64 (n + 1)) ∧ Below W.heap.size W w')
  (HUP : ∀ W, Calls Tryz.prog 201 #[.agg (wyc s0 s1 s2).toArray] W fun e w' => e = .returned (.agg u) ∧ Below W.heap.size W w')
  (HAT : ∀ W, Bo W W b q p t m d gg lab g B0 NB N ln Y K f → Calls Tryz.prog 225 #[.pointer (some ⟨b, 0, none⟩), .agg u] W fun e w' => e = .returned (.tuple #[.int .u16 qn, .int .i64 0]) ∧ Bo W w' b q p t m d gg lab g B0 NB N ln Y (K + 2) f)
  (hcell : (wyc s0 s1 s2)[n]? = some (.int .i64 (k + 1))) (hK : K < 600000000) (hg : GG g B0 P0 M DA NB N) (w : World) (h : Bo w w b q p t m d gg lab g B0 NB N ln Y K f) :
  Calls Tryz.prog 229 #[.pointer (some ⟨b, 0, none⟩), .agg (wyc s0 s1 s2).toArray, .int .u16 x] w fun e w' => e = .returned (.int .i64 0) ∧ Bo w w' b q p t m d gg lab g B0 NB N ln (vput (DA + (qn - 1)) (putN (Y (DA + (qn - 1))) (2 * k) x) Y) (K + 3) f := by
 obtain ⟨dW, hu, hd⟩ := Tryz.descWy;have HU := jh hu;have HD := jh hd;have HB := jh h;have HS := jh HST;have HP := jh HUP;have HA := jh HAT;have HC := jh hcell;have HG := jh hg;have hN5 := hg.n512;have hby := h.gr.rd.vb (DA + (qn - 1));have HGt := jh (fun W hW => gget_in (ln := ln) q p t m d gg lab B0 P0 M DA NB N (K + 2) g Y qn hq1 hq2 (by omega) hg W hW)
 obtain ⟨V, hV⟩ : ∃ V, Y (DA + (qn - 1)) = V := ⟨_, rfl⟩
 rw [hV] at hby HGt ⊢;have HPn := jh (fun gb W hW => putnum8 gb V k hk (k + 1) rfl x hx W hW)
 obtain ⟨V2, hV2⟩ : ∃ V2, putN V (2 * k) x = V2 := ⟨_, rfl⟩
 have hby2 : Byt V2 := by rw [← hV2]; exact putN_byt hby _ _
 rw [hV2] at HPn ⊢;have HPu := jh (fun W hW => gput_in (ln := ln) q p t m d gg lab B0 P0 M DA NB N (K + 3) g Y qn hq1 hq2 V2 hby2 hT hg W hW)
 obtain ⟨xi, hxi⟩ : ∃ y : Int, (x : Int) = y := ⟨_, rfl⟩
 obtain ⟨qi, hqi⟩ : ∃ y : Int, (qn : Int) = y := ⟨_, rfl⟩
 rw [hxi] at HPn ⊢;rw [hqi] at HA HGt HPu
 have hk0 : (0 : Int) ≤ k := by omega
 have hk1 : (k : Int) < 32 := by omega
 obtain ⟨ki, hki⟩ : ∃ y : Int, (k : Int) + 1 = y := ⟨_, rfl⟩
 rw [hki] at HPn HC
 have hn1 : ((n : Int) + 1 - 1) = n := by omega
 have hne : ¬ ((n : Int) = 0) := by omega
 have hnn : (n : Int) = 1 ∨ (n : Int) = 2 := by omega
 clear hu hd h HST HUP HAT hcell hg hby hV hV2 hxi hqi hki hT hby2 hq1 hq2;rcases hn with rfl | rfl
 all_goals
  clear hnn hne hn1
  go_enter Tryz.func229, Tryz.ntmps229
  go_upto_region 1 with (first | (refine wpList_box_list (w := w) rfl 325 _ rfl (wyc s0 s1 s2) rfl ?_; intro w1 F1 hb1 hz1; have HQ1 := jh hb1; clear hb1))
  obtain ⟨bW, hbW⟩ : ∃ x, w.heap.size = x := ⟨_, rfl⟩
  have HB1 := jh (HB.out.keep HQ1.out);have hW0 : w.heap.size ≤ bW := Nat.le_of_eq hbW;rw [hbW] at F1
  try rw [hbW]
  clear hz1 HQ1 HB hbW;have HR1 := jh F1.out.range0
  go_wp2_with (refine wpList_load_mid rfl 325 _ rfl bW 0 rfl (wyc s0 s1 s2) dW HR1.out HU.out HD.out (sizeWy _ _ _) ?_)
  refine (HS.out w1).mono ?_;rintro e w2 ⟨rfl, hb⟩;have HB2 := jh (HB1.out.keep hb);have F2 := jh (F1.out.keep hb);clear hb HS HR1 F1 HB1;have HR2 := jh F2.out.range0
  go_wp2_with (refine wpList_load_mid rfl 325 _ rfl bW 0 rfl (wyc s0 s1 s2) dW HR2.out HU.out HD.out (sizeWy _ _ _) ?_)
  refine (HP.out w2).mono ?_;rintro e w3 ⟨rfl, hb⟩;have HB3 := jh (HB2.out.keep hb);have F3 := jh (F2.out.keep hb);clear hb HP HR2 F2 HB2
  go_wp2_with fail
  refine (HA.out w3 HB3.out.self).mono ?_;rintro e w4 ⟨rfl, hB4⟩;have HB4 := jh (HB3.out.trans hB4);have F4 : Hid (Vl w4 bW (wyc s0 s1 s2)) := jh (F3.out.kf hB4.kf (fun ha => by have := HB3.out.nin hW0; simp only [List.mem_cons, List.not_mem_nil, or_false, not_or] at this ha; omega));clear hB4 HA HB3 F3;have hqe := HB4.out.bd.c 0 _ rfl
  go_wp2_with fail
  refine (HGt.out w4 HB4.out.gr).mono ?_;rintro e w5 ⟨rfl, hG, hkk⟩;have HB5 := jh (HB4.out.call hG hkk);have F5 : Hid (Vl w5 bW (wyc s0 s1 s2)) := jh (F4.out.kf hkk (fun ha => by have := HB4.out.nin hW0; simp only [List.mem_cons, List.not_mem_nil, or_false, not_or] at this ha; omega));have hs5 : w.heap.size ≤ w5.heap.size := HB5.out.kf.size;clear hG hkk HGt HB4 F4 hqe
  go_upto_region 9 with (first | (refine wpList_alloc_byts (w := w5) rfl 162 64 rfl Tryz.zero36 ?_; intro w6 F6 hb6 hz6; simp only [Act.put,j1,j2,j3,j4,j5,j6]; refine wpList_store_blk rfl (.tmp 10) (.tmp 39) rfl w5.heap.size 0 64 (fun _ => 0) V F6.out (by omega) rfl rfl ?_; intro w7 F7 HK7; have HB6 := jh hb6; clear hb6 F6))
  obtain ⟨bB, hbB⟩ : ∃ x, w5.heap.size = x := ⟨_, rfl⟩
  have hB0 : w.heap.size ≤ bB := by omega
  have hF5l := F5.out.lt;have HB7 := jh ((HB5.out.keep HB6.out).new HK7.out (by omega));have G7 := jh ((F5.out.keep HB6.out).kp HK7.out (by omega) (by omega));have F7' := jh (F7.out.congr (fun j hj => upd_zero 64 V j hj _));rw [hbB] at F7' hF5l
  try rw [hbB]
  clear F7 HK7 HB6 HB5 F5 hbB hz6 hs5;have ck := G7.out.c _ _ HC.out
  go_wp2_with fail
  refine (HPn.out bB w7 F7'.out).mono ?_;rintro e w8 ⟨rfl, hF8, hk8⟩;have HB8 := jh (HB7.out.new hk8 hB0);have F8 := jh hF8;clear hF8 hk8 HPn HB7 F7' ck G7;have hqe := HB8.out.bd.c 0 _ rfl
  go_upto_region 12 with fail
  refine wp_region_held (S := fun W => Fl W bB 64 V2 ∧ W.cell? ⟨b, 0, none⟩ = some (.pointer (some ⟨q, 0, none⟩))) (by kernel_rfl) ?_;change wpAnyH _ _ _ _ _ _ _ _ (World.drew _)
  have hS0 : (fun W => Fl W bB 64 V2 ∧ W.cell? ⟨b, 0, none⟩ = some (.pointer (some ⟨q, 0, none⟩))) w8.drew := ⟨F8.out.below (Below.refl _ _).drew F8.out.lt, (HB8.out.keep (Below.refl _ _).drew).bd.c 0 _ rfl⟩
  have HB9 := jh (HB8.out.keep (Below.refl _ _).drew)
  obtain ⟨w9, hw9⟩ : ∃ x, World.drew w8 = x := ⟨_, rfl⟩
  rw [hw9] at hS0 HB9 ⊢;clear hw9;refine jk 0 (v:=?_) rfl (by kernel_rfl) (fun _ _ _=>id) (by rfl) ?_ hS0 ?_;rotate_left
  ·intro W hW;go_simp;try with_reducible rfl
  simp only [Act.put,j1,j2,j3,j4,j5,j6];refine jk 1 (v:=?_) rfl (by kernel_rfl) (fun _ _ _=>id) (by rfl) ?_ hS0 ?_;rotate_left
  ·intro W hW;go_simp;try with_reducible rfl
  simp only [Act.put,j1,j2,j3,j4,j5,j6];refine jk 2 (v:=?_) rfl (by kernel_rfl) (fun _ _ _=>id) (by rfl) ?_ hS0 ?_;rotate_left
  ·intro W hW;go_simp;try with_reducible rfl
  simp only [Act.put,j1,j2,j3,j4,j5,j6];refine jk 3 (v:=?_) rfl (by kernel_rfl) (fun _ _ _=>id) (by rfl) ?_ hS0 ?_;rotate_left 1
  ·intro W hW;have c0 := hW.2;go_simp
   try with_reducible rfl
  simp only [Act.put,j1,j2,j3,j4,j5,j6];refine jk 4 (v:=?_) rfl (by kernel_rfl) (fun _ _ _=>id) (by rfl) ?_ hS0 ?_;rotate_left
  ·intro W hW;go_simp;try with_reducible rfl
  simp only [Act.put,j1,j2,j3,j4,j5,j6];refine jx 5 (v := .agg (byts 64 V2).toArray) rfl (by kernel_rfl) (fun _ _ _=>id) ?_ hS0 ?_
  ·exact yieldsIf_load_mid (by rfl) 162 (.tmp 10) rfl bB 0 rfl (byts 64 V2) (.array 64 5) (fun W hW => hW.1.range0) Tryz.arr36 rfl (size36 _)
  simp only [Act.put,j1,j2,j3,j4,j5,j6];refine wpAnyH_ready (rs := [6]) (by kernel_rfl) (by simp) (AllReadyH.cons rfl (fun KK hKK => ?_) AllReadyH.nil);go_simp;refine (HPu.out w9 HB9.out.gr).mono ?_;rintro e w10 ⟨rfl, hG, hkk⟩;have HB10 := jh (HB9.out.call hG hkk)
  replace hS0 : (fun W => Fl W bB 64 V2 ∧ W.cell? ⟨b, 0, none⟩ = some (.pointer (some ⟨q, 0, none⟩))) w10 := ⟨hS0.1.kf hkk (fun ha => by have := HB9.out.nin hB0; simp only [List.mem_cons, List.not_mem_nil, or_false, not_or] at this ha; omega), HB10.out.bd.c 0 _ rfl⟩
  clear hG hkk;refine hKK _ _ hS0 ?_;intro _;clear hKK KK
  try simp only [Act.put,j1,j2,j3,j4,j5,j6]
  refine jk 7 (v:=?_) rfl (by kernel_rfl) (fun _ _ _=>id) (by rfl) ?_ hS0 ?_;rotate_left
  ·intro W hW;go_simp;try with_reducible rfl
  simp only [Act.put,j1,j2,j3,j4,j5,j6];refine wpAnyH_done (by kernel_rfl) ?_ _;clear hS0
  go_wp2_with fail
  go_ret
  exact ⟨rfl, HB10.out⟩
theorem wy_three (c : Nat) (h : 38 ≤ c ∧ c < 1062) : wy1 c = 8 ∧ wy2 c = (c - 38) / 32 + 1 ∧ wy3 c = (c - 38) % 32 + 1 ∧ parS c = 2002 + (c - 38) / 32 ∧ idxS c = (c - 38) % 32 := by
 unfold wy1 wy2 wy3 parS idxS;rw [if_neg (by omega), if_neg (by omega), if_neg (by omega), if_neg (by omega), if_pos (by omega), if_pos h, if_neg (by omega), if_pos (by omega), if_neg (by omega), if_pos (by omega)];exact ⟨rfl, rfl, rfl, rfl, rfl⟩
theorem wy_two (c : Nat) (hc : okS c = true) (hr : isR c = false) (h3 : ¬ (38 ≤ c ∧ c < 1062)) : wy1 c = wy1 (parS c) ∧ wy2 c = idxS c + 1 ∧ wy3 c = 0 ∧ isR (parS c) = true := by
 have hn := (isR_no c).1 hr;have hoo := (okS_iff c).1 hc;refine ⟨?_, ?_, by unfold wy3; rw [if_neg h3], (isR_iff _).2 ?_⟩
 ·unfold wy1 parS
  by_cases e : c < 38
  ·rw [if_neg (by omega), if_pos (.inl e), if_pos e];rfl
  ·rw [if_neg (by omega), if_neg (by omega), if_neg e, if_neg (show ¬ c < 1062 by omega)];rfl
 ·unfold wy2 idxS;rw [if_neg hn]
  split
  ·omega
  ·rw [if_neg (by omega), if_neg (by omega)]
 ·unfold parS
  split
  ·omega
  ·rw [if_neg (by omega)];omega
theorem wy_par3 (c : Nat) (h : 38 ≤ c ∧ c < 1062) : wyS (parS c) = .agg (wyc 8 (((c - 38) / 32 + 1 : Nat) : Int) 0).toArray := by
 have e := (wy_three c h).2.2.2.1;unfold wyS;rw [e]
 have e1 : wy1 (2002 + (c - 38) / 32) = 8 := by unfold wy1; rw [if_neg (by omega), if_neg (by omega)]
 have e2 : wy2 (2002 + (c - 38) / 32) = (c - 38) / 32 + 1 := by unfold wy2; rw [if_neg (by omega), if_neg (by omega), if_neg (by omega)]; omega
 have e3 : wy3 (2002 + (c - 38) / 32) = 0 := by unfold wy3; rw [if_neg (by omega)]
 rw [e1, e2, e3];rfl
theorem point_in (b q p t m d gg lab B0 P0 M DA NB N K : Nat) (g : Cf.Ge) (Y : Nat → Nat → Int) (f : Nat → Int) (S : Nat → Bool) (B : Nat → Nat) (hF : Fi DA NB Y f S B) (c x : Nat) (hc : okS c = true) (hr : isR c = false) (hp : S (parS c) = true) (hx : x < 65536) (hT : Has ln (DA + (B (parS c) - 1)))
  (hK : K < 600000000) (hg : GG g B0 P0 M DA NB N) (w : World) (h : Bo w w b q p t m d gg lab g B0 NB N ln Y K f) :
  Calls Tryz.prog 229 #[.pointer (some ⟨b, 0, none⟩), wyS c, .int .u16 x] w fun e w' => e = .returned (.int .i64 0) ∧ Bo w w' b q p t m d gg lab g B0 NB N ln (addY DA Y B c x) (K + 3) f := by
 have hrg := hF.rng _ hp;have hpo := (parS_ok c hc hr).1;have hAt := fun W hW => at_slot (ln := ln) b q p t m d gg lab B0 P0 M DA NB N K g Y f S B hF (parS c) hpo hK hg W hW;have hv : vS S B (parS c) = B (parS c) := if_pos hp;rw [hv] at hAt
 have hY : addY DA Y B c x = vput (DA + (B (parS c) - 1)) (putN (Y (DA + (B (parS c) - 1))) (2 * idxS c) x) Y := by
  unfold addY;rw [if_neg (by rw [hr]; decide)]
 rw [hY];have hi := idxS_lt c hc hr
 by_cases h3 : 38 ≤ c ∧ c < 1062
 ·obtain ⟨e1, e2, e3, e4, e5⟩ := wy_three c h3;have hpw := wy_par3 c h3;rw [hpw] at hAt;unfold wyS;rw [e1, e2, e3]
  refine point_gen (ln := ln) b q p t m d gg lab B0 P0 M DA NB N K g Y f 8 (((c - 38) / 32 + 1 : Nat) : Int) (((c - 38) % 32 + 1 : Nat) : Int) _ 2 (idxS c) x (B (parS c)) (.inr rfl) hi hx hrg.1 hrg.2 hT
   (fun W => steps3 8 _ _ (by decide) (by omega) (by omega) W) (fun W => up3 8 _ _ (by decide) (by omega) (by omega) W) hAt ?_ hK hg w h
  rw [e5];rfl
 ·obtain ⟨e1, e2, e3, hpr⟩ := wy_two c hc hr h3;have hwr := wy_root (parS c) hpr
  have hpw : wyS (parS c) = .agg (wyc (wy1 c) 0 0).toArray := by
   unfold wyS;rw [hwr.2.1, hwr.2.2, e1];rfl
  rw [hpw] at hAt
  have h1 : 1 ≤ wy1 c := by rw [e1]; exact hwr.1
  unfold wyS;rw [e2, e3]
  refine point_gen (ln := ln) b q p t m d gg lab B0 P0 M DA NB N K g Y f (wy1 c) ((idxS c + 1 : Nat) : Int) 0 _ 1 (idxS c) x (B (parS c)) (.inl rfl) hi hx hrg.1 hrg.2 hT
   (fun W => steps2 _ _ (by omega) (by omega) W) (fun W => up2 _ _ (by omega) (by omega) W) hAt ?_ hK hg w h
  rfl
end Go.Proofs.YtgdapkbenmlabaaGreatDoor
namespace Go.Proofs.YtgdapkbenmlabaaGreatDoor
open Go.RowKit Go.Maps
variable {ln : Lm}
theorem wpList_bld2 {P : Program} {ops : Array Oper} {rest : List Oper} {op : Oper} {a : Act} {w : World} {Q : Exit → Act → World → Prop} (hgd : op.guard = none) (ty : TypeId) (i0 i1 : Nat) (x0 x1 : Operand) (ho : op.op = .build ty #[(i0, x0), (i1, x1)]) (v0 v1 : Value) (h0 : a.eval x0 = v0) (h1 : a.eval x1 = v1) (v : Value)
  (hr : (Instr.build ty #[(i0, v0), (i1, v1)]).run P w = .ok v w) (h : wpList P ops Q rest (a.put op.dst v) w) : wpList P ops Q (op :: rest) a w := by
 refine wpList_plain hgd fun K' hK' => ?_;unfold Oper.wp
 simp [execOp, ho, h0, h1, hr, Result.andThen]
 exact hK' _ _ h
def cN (V : Nat → Nat → Int) : Nat → Nat
 | 0 => 0
 | k + 1 => cN V k + if V (k + 1) 0 = 0 then 0 else 1
end Go.Proofs.YtgdapkbenmlabaaGreatDoor
namespace Go.Proofs.YtgdapkbenmlabaaGreatDoor
open Go.RowKit Go.Maps
variable {ln : Lm}
theorem wpList_bld3 {P : Program} {ops : Array Oper} {rest : List Oper} {op : Oper} {a : Act} {w : World} {Q : Exit → Act → World → Prop} (hgd : op.guard = none) (ty : TypeId) (i0 i1 i2 : Nat) (x0 x1 x2 : Operand) (ho : op.op = .build ty #[(i0, x0), (i1, x1), (i2, x2)]) (v0 v1 v2 : Value) (h0 : a.eval x0 = v0) (h1 : a.eval x1 = v1) (h2 : a.eval x2 = v2) (v : Value)
  (hr : (Instr.build ty #[(i0, v0), (i1, v1), (i2, v2)]).run P w = .ok v w) (h : wpList P ops Q rest (a.put op.dst v) w) : wpList P ops Q (op :: rest) a w := by
 refine wpList_plain hgd fun K' hK' => ?_;unfold Oper.wp
 simp [execOp, ho, h0, h1, h2, hr, Result.andThen]
 exact hK' _ _ h
def own (k : Int) : Nat → Int := fun i => if i = 0 then k else if i = 1 then 1 else if i = 2 then 1 else 0
def kd (n : Nat) : Int := if n = 1 then 2 else 1
def VF (j : Nat) : Nat → Nat → Int := fun n => if 1 ≤ n ∧ n ≤ j then own (kd n) else zpt
theorem kd_in (n : Nat) : kd n = 1 ∨ kd n = 2 := by unfold kd; split <;> simp
theorem own_ok (n : Nat) : NdOk (own (kd n)) := by
 rcases kd_in n with h | h <;> rw [h] <;> exact ⟨by decide, by decide, by decide, by decide, fun i h2 h3 => by unfold own; rw [if_neg (by omega), if_neg (by omega), if_neg (by omega)]; exact ⟨Int.le_refl _, by decide⟩⟩
theorem own_code (n : Nat) : codeN (own (kd n)) = 0 := by
 rcases kd_in n with h | h <;> rw [h] <;> decide
theorem VF_zero : VF 0 = fun _ => zpt := by
 funext n
 unfold VF;rw [if_neg (by omega)]
theorem VF_put (j : Nat) : vput (j + 1) (own (kd (j + 1))) (VF j) = VF (j + 1) := by
 funext n
 unfold vput VF
 by_cases c : j + 1 = n
 ·subst c;rw [if_pos rfl, if_pos ⟨by omega, by omega⟩]
 ·rw [if_neg c]
  by_cases c2 : 1 ≤ n ∧ n ≤ j
  ·rw [if_pos c2, if_pos ⟨c2.1, by omega⟩]
  ·rw [if_neg c2, if_neg (by omega)]
theorem Tryz.build27_own (k : Int) (w : World) : (Instr.build 77 #[(0, .int .u8 k), (1, .int .u8 1), (2, .int .u16 1)]).run Tryz.prog w = .ok (.agg (ndc (own k)).toArray) w := by kernel_rfl
def FreshG (g : Cf.Ge) (N : Nat) (Y : Nat → Nat → Int) : Prop := ∀ B0 P0 M DA NB : Nat, GG g B0 P0 M DA NB N → Tab P0 M Y (VF 3) ∧ ∀ j, j < 512 → bt Y B0 j = false
structure FreshK (R : List Cf.Rg) (N k : Nat) (Y : Nat → Nat → Int) : Prop where
 done : ∀ (i : Nat) (hi : i < R.length), i < k → FreshG ((Cf.layF R).1[i]'(by rw [Cf.lay_len]; exact hi)) N Y
 rest : ∀ x : Nat, (Cf.layF (R.take k)).2 ≤ x → Y x = fun _ => 0
theorem FreshK.zero (R : List Cf.Rg) (N : Nat) : FreshK R N 0 (fun _ _ => 0) := ⟨fun i hi h => absurd h (by omega), fun _ _ => rfl⟩
theorem FreshK.next {R : List Cf.Rg} {N k : Nat} {Y Y' : Nat → Nat → Int} (h : FreshK R N k Y) (hs : ∀ r ∈ R, Cf.Small r) (h64 : R.length ≤ 64) (hN : (Cf.layF R).2 = N) (hk : k < R.length) (B0 P0 M DA NB : Nat)
  (hg : GG ((Cf.layF R).1[k]'(by rw [Cf.lay_len]; exact hk)) B0 P0 M DA NB N) (hT : Tab P0 M Y' (VF 3)) (hY : ∀ x : Nat, x < P0 ∨ P0 + 2 ≤ x → Y' x = Y x) : FreshK R N (k + 1) Y' := by
 have h1 := Cf.lay_nth R k hk;have h2 := Cf.lay_fin R k hk
 obtain ⟨g, hgk⟩ : ∃ g, (Cf.layF R).1[k]'(by rw [Cf.lay_len]; exact hk) = g := ⟨_, rfl⟩
 rw [hgk] at h1 h2 hg
 have hb : (Cf.layF (R.take k)).2 = B0 := by
  rw [← hg.base, h1];rfl
 have hf : (Cf.layF (R.take (k + 1))).2 = ((DA + NB : Nat) : Int) := by
  rw [← h2];have := hg.da;have := hg.bl;unfold Cf.Ge.fin;omega
 have hbp := hg.bp;have hpd := hg.pd;have hm4 := hg.m4;refine ⟨fun i hi hik => ?_, fun x hx => ?_⟩
 ·by_cases e : i = k
  ·subst e;rw [hgk];intro B1 P1 M1 DA1 NB1 hg1
   have e1 : B1 = B0 := by have := hg.base; have := hg1.base; omega
   have e2 : P1 = P0 := by have := hg.tab; have := hg1.tab; omega
   have e3 : M1 = M := by have := hg.nd; have := hg1.nd; omega
   subst e1 e2 e3;refine ⟨hT, fun j hj => ?_⟩;unfold bt;rw [hY _ (by omega), h.rest _ (by rw [hb]; omega)];exact bitOf_zero _
  ·intro B1 P1 M1 DA1 NB1 hg1
   have hlt : i < k := by omega
   obtain ⟨g1, g2⟩ := h.done i hi hlt B1 P1 M1 DA1 NB1 hg1;have q1 := Cf.lay_fin R i hi;have q2 := layF_le R hs (i + 1) k (by omega) (by omega)
   have q3 : ((Cf.layF R).1[i]'(by rw [Cf.lay_len]; exact hi)).fin = ((DA1 + NB1 : Nat) : Int) := by
    have := hg1.da;have := hg1.bl;unfold Cf.Ge.fin;omega
   have q4 : DA1 + NB1 ≤ B0 := by rw [← q1, q3, hb] at q2; omega
   have p1 := hg1.bp;have p2 := hg1.pd;have p4 := hg1.n4;refine ⟨g1.congr fun x hx1 hx2 => hY x (by omega), fun j hj => ?_⟩;have := g2 j hj;unfold bt at this ⊢
   rwa [hY _ (by omega)]
 ·rw [hf] at hx;rw [hY x (by omega), h.rest x (by rw [hb]; omega)]
end Go.Proofs.YtgdapkbenmlabaaGreatDoor
namespace Go.Proofs.YtgdapkbenmlabaaGreatDoor
open Go.RowKit Go.Maps
theorem VF_cell (j : Nat) (hj : j < 3) : ([.int .u8 2, .int .u8 1, .int .u8 1] : List Value)[j]? = some (.int .u8 (kd (j + 1))) := by
 have : j = 0 ∨ j = 1 ∨ j = 2 := by omega
 rcases this with rfl | rfl | rfl <;> rfl
theorem fresh_any (n : Nat) (vr vm vg : Value) (R : List Cf.Rg) (MS : List (Int × Int)) (hs : ∀ r ∈ R, Cf.Small r) (h0 : 0 < R.length) (h64 : R.length ≤ 64) (N : Nat) (hN : (Cf.layF R).2 = N) (hN0 : 32 ≤ N) (hN1 : N ≤ 65536) (w : World) (h : Cf.CF n w vr vm vg R MS) :
  Calls Tryz.prog 12 #[.pointer (some ⟨n + 3, 0, none⟩)] w fun e w' => ∃ t m d g l Y, e = .returned (.tuple #[.pointer (some ⟨d, 0, none⟩), .pointer (some ⟨l, 0, none⟩), .pointer (some ⟨t, 0, none⟩)]) ∧ From w.heap.size t m d g ∧ w.heap.size ≤ l ∧ l ∉ [t, m, d, g] ∧ Lg w' l d 1 ∧ Rd w' t m d g N ⟨[], Y⟩ Y 7000 ∧ FreshK R N R.length Y ∧ Below w.heap.size w w' := by
 obtain ⟨d53, hu53, hd53⟩ := Tryz.desc53;have HU53 := jh hu53;have HD53 := jh hd53;have HB := jh (begun_any n vr vm vg R MS hs h0 h64 N hN hN0 hN1 w h);have HCF := jh h;have HSM := jh hs;have HN := jh hN
 have hR0 : (0 : Int) < R.length := by omega
 have hR64 : (R.length : Int) ≤ 64 := by omega
 clear h hs hu53 hd53 hN
 go_enter Tryz.func12, Tryz.ntmps12
 go_wp2_with fail
 refine HB.out.mono ?_;rintro e w1 ⟨t0, m0, dd, gg, l, rfl, hFr, hll, hln, hLg, hRd, hb⟩;have HFr := jh hFr;have HLn := jh hln;have HL1 := jh hLg;have HR1 := jh hRd;have HB1 := jh hb;have HNl := jh (show l ∉ [dd, gg] from fun h => hln (by simp only [List.mem_cons, List.not_mem_nil, or_false] at h ⊢; omega));have hdd : w.heap.size ≤ dd := hFr.2.2.1;have hgg : w.heap.size ≤ gg := hFr.2.2.2;have hl1 := hLg.lt;have hld : l ≠ dd := fun h => hln (by simp [h]);have hlg : l ≠ gg := fun h => hln (by simp [h]);have HCFx : Hid (∀ W, Kf w1 W [dd, gg] → Cf.CF n W vr vm vg R MS) := fun W hk => HCF.out.below (HB1.out.trans (hk.bel hdd hgg HB1.out.size));have HBx : Hid (∀ W, Kf w1 W [dd, gg] → Below w.heap.size w W) := fun W hk => HB1.out.trans (hk.bel hdd hgg HB1.out.size);clear hFr hln hLg hRd hb HB
 go_wp2_with fail
 refine (Cf.clen_any n vr vm vg R MS w1 (HCFx.out w1 (Kf.refl _ _)) h64).mono ?_;rintro e wz ⟨rfl, hwz⟩;rw [hwz];clear hwz
 go_wp2_with fail
 go_loopw [22] (fun y wr => ∃ k : Nat, k ≤ R.length ∧ y = .int .i64 k ∧ (∃ t' m' Y, Rd wr t' m' dd gg N ⟨[], Y⟩ Y (1 + 100 * k) ∧ FreshK R N k Y) ∧ Kf w1 wr [dd, gg]) (fun y _ => R.length - (Go.RowKit.intOf y).toNat)
 case atStart => exact ⟨0, Nat.zero_le _, rfl, ⟨t0, m0, _, HR1.out, FreshK.zero R N⟩, Kf.refl _ _⟩
 case round =>
  obtain ⟨k, hk, rfl, ⟨ta, ma, Y, hRd, hFk⟩, hkf⟩ := hrel
  obtain ⟨wX, rfl⟩ : ∃ x, x = wr := ⟨wr, rfl⟩
  have HRd := jh hRd;have HFk := jh hFk;have HKf := jh hkf;have hsz := hkf.size;clear hRd hFk hkf HR1;have HBeg := jh (begin7 l ta ma dd gg (1 + 100 * k) Y wX HRd.out (HL1.out.kf HKf.out HNl.out))
  by_cases hlt : k < R.length
  ·obtain ⟨g, hgi⟩ : ∃ g, (Cf.layF R).1[k]'(by rw [Cf.lay_len]; exact hlt) = g := ⟨_, rfl⟩
   obtain ⟨B0, P0, M, DA, NB, hg, -, -⟩ := geo_gg R HSM.out h64 N HN.out k hlt g hgi;have HG := jh hg;have HGI := jh hgi
   go_wp2_with fail
   refine HBeg.out.mono ?_;rintro e v1 ⟨t', m', rfl, ht', hm', hRd', hb⟩;have HRd1 := jh hRd';have HK1 := jh (HKf.out.more hb);have hle1 : w1.heap.size ≤ t' := Nat.le_trans hsz ht';have hle2 : w1.heap.size ≤ m' := Nat.le_trans hsz hm';have HGe := jh (Cf.geo_in n vr vm vg R MS k hlt v1 (HCFx.out v1 HK1.out));rw [hgi] at HGe;have hval : g.val = .agg g.cells.toArray := rfl;rw [hval] at HGe;have HGl := jh (show g.cells.length = 6 from rfl);have HGO := jh (geo_one g);have HS53 := jh (size53 g)
   have HW : Hid (∀ (j : Nat), j < 3 → ∀ (Y' : Nat → Nat → Int) (W : World), Rd W t' m' dd gg N ⟨[P0, P0 + 1], Y⟩ Y' (1 + 100 * k + j) → Calls Tryz.prog 77 #[.pointer (some ⟨t', 0, none⟩), .agg g.cells.toArray, .int .i64 ((j : Int) + 1), .agg (ndc (own (kd (j + 1)))).toArray] W fun e w' => e = .returned (.int .i64 0) ∧ Rd w' t' m' dd gg N ⟨[P0, P0 + 1], Y⟩ (tabW P0 (j + 1) (own (kd (j + 1))) Y') (1 + 100 * k + j + 1) ∧ Kf W w' [t', m', dd, gg]) := fun j hj Y' W hW => by
    have hNN := hW.hN;obtain ⟨g1, g2, g3, g4, g5, g6, g7, g8, g9, g10, g11, g12, g13, g14⟩ := HG.out;have := write_any6 (ln := ⟨[P0, P0 + 1], Y⟩) g (j + 1) t' m' dd gg N (1 + 100 * k + j) P0 M Y' (own (kd (j + 1))) (own_ok _) (own_code _) (by omega) (by omega) g6 g2 (by omega) (by omega) g3 (by omega) (by omega) (by omega) (by omega) ⟨by simp only [List.mem_cons, List.not_mem_nil, or_false]; omega, by simp⟩ (by omega) W hW
    rwa [show ((j + 1 : Nat) : Int) = (j : Int) + 1 by omega] at this
   obtain ⟨gs, hgs⟩ : ∃ gs, g.cells = gs := ⟨_, rfl⟩
   rw [hgs] at HGe HGl HGO HS53 HW;clear hval hgs hRd' hb HBeg HRd ht' hm' hgi hg
   go_wp2_with fail
   refine HGe.out.mono ?_;rintro e v2 ⟨rfl, hb⟩;have HR2 := jh (HRd1.out.keep hb);have HK2 := jh (HK1.out.more hb);clear hb HRd1 HK1 HGe
   go_upto_region 7 with (first | (refine wpList_alloc_list (w := v2) rfl 175 rfl _ Tryz.zero53 ?_; intro v3 F3 hb3 hz3; simp only [Act.put,j1,j2,j3,j4,j5,j6]; refine wpList_store_list rfl 175 (.tmp 10) (.tmp 31) rfl v2.heap.size _ gs rfl rfl F3.out (by rw [HGl.out]; rfl) HS53.out HGO.out ?_; intro v4 F4 HP4; have HQ3 := jh hb3; clear hb3 hz3 F3))
   obtain ⟨bG, hbG⟩ : ∃ b, v2.heap.size = b := ⟨_, rfl⟩
   have HK4 := jh ((HK2.out.more HQ3.out).new HP4.out HK2.out.size);have HR4 := jh ((HR2.out.keep HQ3.out).kp HP4.out (HR2.out.notin (Nat.le_refl _)) (HR2.out.notin (Nat.le_refl _)));have HNG := jh (HR2.out.notin (Nat.le_of_eq hbG));have hGlt := F4.out.lt;rw [hbG] at F4 hGlt
   try rw [hbG]
   clear hbG HQ3 HP4 HK2 HR2
   go_wp2_with fail
   have F5 := jh (Vl.new v4 [.int .u8 2, .int .u8 1, .int .u8 1] 73);have hb5 : Below v4.heap.size v4 (v4.alloc (.cells [.int .u8 2, .int .u8 1, .int .u8 1].toArray 73)) := (Below.refl _ _).alloc (Nat.le_refl _) _;have HR5 := jh (HR4.out.keep hb5);have HK5 := jh (HK4.out.more hb5);have FG5 := jh (F4.out.keep hb5);have HNK := jh (HR4.out.notin (p := v4.heap.size) (Nat.le_refl _))
   obtain ⟨v5, hv5⟩ : ∃ x, v4.alloc (.cells [.int .u8 2, .int .u8 1, .int .u8 1].toArray 73) = x := ⟨_, rfl⟩
   obtain ⟨bK, hbK⟩ : ∃ b, v4.heap.size = b := ⟨_, rfl⟩
   have hv5' : v4.alloc (.cells #[.int .u8 2, .int .u8 1, .int .u8 1] 73) = v5 := hv5;rw [hv5] at F5 HR5 HK5 FG5;rw [hbK] at F5 HNK
   try rw [hv5']
   try rw [hbK]
   have hKlt := F5.out.lt;clear hv5 hv5' hb5 hbK HR4 HK4 F4
   go_loopw [35] (fun y wr => ∃ j : Nat, j ≤ 3 ∧ y = .int .i64 j ∧ (∃ Y', Rd wr t' m' dd gg N ⟨[P0, P0 + 1], Y⟩ Y' (1 + 100 * k + j) ∧ Tab P0 M Y' (VF j) ∧ ∀ x : Nat, x < P0 ∨ P0 + 2 ≤ x → Y' x = Y x) ∧ Kf v5 wr [t', m', dd, gg]) (fun y _ => 3 - (Go.RowKit.intOf y).toNat)
   case atStart =>
    refine ⟨0, by decide, rfl, ⟨Y, HR5.out.wide (Lm.nil_le _ _), ?_, fun _ _ => rfl⟩, Kf.refl _ _⟩;rw [VF_zero];refine (Tab.new P0 M).congr fun x hx1 hx2 => ?_;have h1 := Cf.lay_nth R k hlt;have h2 := HG.out.base;have h3 := HG.out.bp;refine HFk.out.rest x ?_;rw [HGI.out] at h1
    have : (Cf.layF (R.take k)).2 = B0 := by rw [← h2, h1]; rfl
    omega
   case round =>
    obtain ⟨j, hj, rfl, ⟨Y', hRj, hTj, hYj⟩, hkj⟩ := hrel;have HRj := jh hRj;have HTj := jh hTj;have HYj := jh hYj;have HKj := jh hkj;clear hRj hTj hYj hkj
    by_cases hj3 : j < 3
    ·have hj0 : (0 : Int) ≤ j := by omega
     have hj4 : (j : Int) < 3 := by omega
     have cK := (F5.out.kf HKj.out HNK.out).c j _ (VF_cell j hj3);have HWj := jh (HW.out j hj3 Y' wr HRj.out)
     obtain ⟨kv, hkv⟩ : ∃ z, kd (j + 1) = z := ⟨_, rfl⟩
     rw [hkv] at cK HWj;have HKv := jh hkv;clear hkv;have FGj := jh (FG5.out.kf HKj.out HNG.out)
     go_wp2_with (first | (refine wpList_load_mid rfl 175 _ rfl bG 0 rfl gs d53 FGj.out.range0 HU53.out HD53.out HS53.out ?_) | (refine wpList_bld3 rfl 77 0 1 2 (.tmp 44) _ _ rfl (.int .u8 kv) (.int .u8 1) (.int .u16 1) rfl rfl rfl (.agg (ndc (own kv)).toArray) (Tryz.build27_own kv _) ?_))
     refine HWj.out.mono ?_;rintro e v7 ⟨rfl, hR, hkk⟩;have HR7 := jh hR;have HK7 := jh (HKj.out.trans hkk);clear hR hkk HWj HRj cK
     go_wp2_with fail
     go_roundw
     case rel =>
      refine ⟨j + 1, by omega, by go_num, ⟨_, HR7.out, ?_, fun x hx => ?_⟩, HK7.out⟩
      ·have := HTj.out.wr (j + 1) (by omega) (by have := HG.out.m4; omega) (own kv) (by rw [← HKv.out]; exact own_ok _) (by rw [← HKv.out]; exact own_code _);rw [← VF_put j, HKv.out];exact this
      ·rw [tabW_ne _ _ _ _ _ (by omega)];exact HYj.out x hx
     case measure => simp [Go.RowKit.intOf]; omega
    ·obtain rfl : j = 3 := by omega
     have HKr := jh (HK5.out.tx HKj.out hle1 hle2);have HCm := jh (commit7 t' m' dd gg (1 + 100 * k + 3) Y' (by simp) (by omega) wr HRj.out)
     go_wp2_with fail
     refine HCm.out.mono ?_;rintro e v8 ⟨rfl, hR, hkk⟩;have HR8 := jh hR;have HK8 := jh (HKr.out.tx hkk hle1 hle2);clear hR hkk HCm HKr HRj
     have hgx : GG ((Cf.layF R).1[k]'(by rw [Cf.lay_len]; exact hlt)) B0 P0 M DA NB N := by rw [HGI.out]; exact HG.out
     have HNx := jh (HFk.out.next HSM.out h64 HN.out hlt B0 P0 M DA NB hgx HTj.out HYj.out)
     go_wp2_with fail
     go_roundw
     case rel => exact ⟨k + 1, by omega, by go_num, ⟨t', m', Y', HR8.out.mono (by omega), HNx.out⟩, HK8.out⟩
     case measure => simp [Go.RowKit.intOf]; omega
  ·obtain rfl : k = R.length := by omega
   go_wp2_with fail
   refine HBeg.out.mono ?_;rintro e v1 ⟨t', m', rfl, ht', hm', hRd', hb⟩;have HRd1 := jh hRd';have HK1 := jh (HKf.out.more hb);have HL2 := jh ((HL1.out.kf HKf.out HNl.out).keep hb);have hlx := (HL1.out.kf HKf.out HNl.out).lt;have hwl := HB1.out.size;clear hRd' hb HBeg HRd HKf
   go_wp2_with fail
   exact bodyPost_ret (v := .tuple #[.pointer (some ⟨dd, 0, none⟩), .pointer (some ⟨l, 0, none⟩), .pointer (some ⟨t', 0, none⟩)]) (by simp [results, Tryz.results12, go_sem]) rfl ⟨t', m', dd, gg, l, Y, rfl, ⟨by omega, by omega, hdd, hgg⟩, hll, (by simp; omega), HL2.out, HRd1.out.mono (by omega), HFk.out, HBx.out v1 HK1.out⟩
end Go.Proofs.YtgdapkbenmlabaaGreatDoor
namespace Go.Proofs.YtgdapkbenmlabaaGreatDoor.Cf
open Go.RowKit Go.Maps

end Go.Proofs.YtgdapkbenmlabaaGreatDoor.Cf
namespace Go.Proofs.YtgdapkbenmlabaaGreatDoor
open Go.RowKit Go.Maps
variable {ln : Lm}
theorem u8s_none (w : World) : Cf.U8s w (.slice none 0 0) [] := .inl ⟨none, 0, rfl, rfl⟩
theorem fr_of {b : Nat → Bool} {n i : Nat} (hi : i < n) (h0 : b i = false) (h1 : ∀ j, j < i → b j = true) : Fr b n i := .inr ⟨i, hi, rfl, h0, h1⟩
end Go.Proofs.YtgdapkbenmlabaaGreatDoor
namespace Go.Proofs.YtgdapkbenmlabaaGreatDoor
open Go.RowKit Go.Maps
variable {ln : Lm}
end Go.Proofs.YtgdapkbenmlabaaGreatDoor
namespace Go.Proofs.YtgdapkbenmlabaaGreatDoor
open Go.RowKit Go.Maps
def dl (B0 TB DA : Nat) (b : Nat → Nat) (S : Nat → Bool) (L : List Nat) : List Nat := B0 :: TB :: L.filterMap fun c => if 3000 ≤ c then some (c - 3000) else if S c = true then some (DA + (b c - 1)) else none
theorem dl_len (B0 TB DA : Nat) (b : Nat → Nat) (S : Nat → Bool) (L : List Nat) : (dl B0 TB DA b S L).length ≤ L.length + 2 := by
 unfold dl;have := List.length_filterMap_le (fun c => if 3000 ≤ c then some (c - 3000) else if S c = true then some (DA + (b c - 1)) else none) L;simp only [List.length_cons];omega
theorem dl_mem (B0 TB DA : Nat) (b : Nat → Nat) (S : Nat → Bool) (L : List Nat) (c : Nat) (h3 : c < 3000) (hc : c ∈ L) (hs : S c = true) : DA + (b c - 1) ∈ dl B0 TB DA b S L := by
 unfold dl;refine List.mem_cons_of_mem _ (List.mem_cons_of_mem _ (List.mem_filterMap.2 ⟨c, hc, ?_⟩));rw [if_neg (by omega), if_pos hs]
theorem dl_le {B0 TB DA : Nat} {b b' : Nat → Nat} {S S' : Nat → Bool} (L : List Nat) (D : Nat → Nat → Int) (hn : ∀ c, S c = true → S' c = true) (hb : ∀ c, S c = true → b' c = b c) : Lm.Le ⟨dl B0 TB DA b S L, D⟩ ⟨dl B0 TB DA b' S' L, D⟩ := by
 refine ⟨fun z hz => ?_, rfl⟩;unfold dl at hz ⊢;simp only [List.mem_cons, List.mem_filterMap] at hz ⊢;rcases hz with h | h | ⟨c, h1, h2⟩
 ·exact .inl h
 ·exact .inr (.inl h)
 ·refine .inr (.inr ⟨c, h1, ?_⟩)
  by_cases h3 : 3000 ≤ c
  ·rw [if_pos h3] at h2 ⊢;exact h2
  ·rw [if_neg h3] at h2 ⊢
   by_cases hs : S c = true
   ·rw [if_pos hs] at h2;rw [if_pos (hn c hs), hb c hs];exact h2
   ·rw [if_neg hs] at h2
    cases h2
theorem okS_lt {c : Nat} (h : okS c = true) : c < 3000 := by
 rw [okS_iff] at h;omega
theorem least_free (b : Nat → Bool) : ∀ n, (∀ j, j < n → b j = true) ∨ ∃ i, i < n ∧ b i = false ∧ ∀ j, j < i → b j = true
 | 0 => .inl fun j hj => absurd hj (Nat.not_lt_zero j)
 | n + 1 => by
  rcases least_free b n with h | ⟨i, h1, h2, h3⟩
  ·cases hb : b n
   ·exact .inr ⟨n, Nat.lt_succ_self n, hb, h⟩
   ·refine .inl fun j hj => ?_
    by_cases e : j = n
    ·rw [e];exact hb
    ·exact h j (by omega)
  ·exact .inr ⟨i, by omega, h2, h3⟩
structure Ex (B0 DA NB : Nat) (Y : Nat → Nat → Int) (S : Nat → Bool) (b : Nat → Nat) (Y' : Nat → Nat → Int) (S' : Nat → Bool) (b' : Nat → Nat) : Prop where
 n : ∀ c, S c = true → S' c = true
 b : ∀ c, S c = true → b' c = b c
 y : ∀ z, z ≠ B0 → (∀ c, S' c = true → 2000 ≤ c ∨ S c = false → z ≠ DA + (b' c - 1)) → Y' z = Y z
 z : ∀ c, S' c = true → S c = false → c < 2000 → Y' (DA + (b' c - 1)) = fun _ => 0
 u : ∀ j, j < NB → (bt Y' B0 j = true ↔ bt Y B0 j = true ∨ ∃ c, S' c = true ∧ S c = false ∧ b' c = j + 1)
 fr : ∀ c, S' c = true → S c = false → bt Y B0 (b' c - 1) = false
theorem Ex.refl (B0 DA NB : Nat) (Y : Nat → Nat → Int) (S : Nat → Bool) (b : Nat → Nat) : Ex B0 DA NB Y S b Y S b :=
 ⟨fun _ h => h, fun _ _ => rfl, fun _ _ _ => rfl, fun c h h' => by (rw [h] at h'; cases h'), fun j _ => ⟨fun h => .inl h, fun h => h.elim id fun ⟨c, h1, h2, _⟩ => by (rw [h1] at h2; cases h2)⟩, fun c h h' => by (rw [h] at h'; cases h')⟩
theorem Ex.trans {B0 DA NB : Nat} {Y Y1 Y2 : Nat → Nat → Int} {S S1 S2 : Nat → Bool} {b b1 b2 : Nat → Nat} (hB : B0 < DA) (h : Ex B0 DA NB Y S b Y1 S1 b1) (k : Ex B0 DA NB Y1 S1 b1 Y2 S2 b2)
  (rng : ∀ c, S2 c = true → 1 ≤ b2 c ∧ b2 c ≤ NB) (inj : ∀ c c', S2 c = true → S2 c' = true → b2 c = b2 c' → c = c') : Ex B0 DA NB Y S b Y2 S2 b2 := by
 refine ⟨fun c hc => k.n c (h.n c hc), fun c hc => (k.b c (h.n c hc)).trans (h.b c hc), fun z hz hf => ?_, fun c hc hn h2 => ?_, fun j hj => ?_, fun c hc hn => ?_⟩
 ·rw [k.y z hz fun c hc ho => hf c hc (ho.imp id fun hs => ?_), h.y z hz fun c hc ho => ?_]
  ·have := hf c (k.n c hc) ho
   rwa [k.b c hc] at this
  ·cases hh : S c
   ·rfl
   ·rw [h.n c hh] at hs
    cases hs
 ·cases h1 : S1 c
  ·exact k.z c hc h1 h2
  ·rw [k.y _ (by omega) fun c' hc' ho he => ?_, k.b c h1]
   ·exact h.z c h1 hn h2
   ·have r1 := rng c hc;have r2 := rng c' hc';obtain rfl := inj c c' hc hc' (by omega);rcases ho with ho | ho
    ·omega
    ·rw [h1] at ho
     cases ho
 ·rw [k.u j hj, h.u j hj]
  constructor
  ·rintro ((h1 | ⟨c, h1, h2, h3⟩) | ⟨c, h1, h2, h3⟩)
   ·exact .inl h1
   ·exact .inr ⟨c, k.n c h1, h2, (k.b c h1).trans h3⟩
   ·refine .inr ⟨c, h1, ?_, h3⟩
    cases hh : S c
    ·rfl
    ·rw [h.n c hh] at h2
     cases h2
  ·rintro (h1 | ⟨c, h1, h2, h3⟩)
   ·exact .inl (.inl h1)
   ·cases hh : S1 c
    ·exact .inr ⟨c, h1, hh, h3⟩
    ·exact .inl (.inr ⟨c, hh, h2, (k.b c hh).symm.trans h3⟩)
 ·cases h1 : S1 c
  ·have hf := k.fr c hc h1;have r := rng c hc
   cases hh : bt Y B0 (b2 c - 1)
   ·rfl
   ·rw [(h.u (b2 c - 1) (by omega)).2 (.inl hh)] at hf
    cases hf
  ·rw [k.b c h1];exact h.fr c h1 hn
theorem add_ex {DA NB B0 : Nat} {Y : Nat → Nat → Int} {f : Nat → Int} {S : Nat → Bool} {b : Nat → Nat} (h : Fi DA NB Y f S b) (hv : ∀ x, Byt (Y x)) (hB : B0 < DA) (c : Nat) (hok : okS c = true) (hN : S c = false) (hp : isR c = true ∨ S (parS c) = true) (i : Nat) (hi : i < NB) (hNB : NB ≤ 512)
  (hfree : bt Y B0 i = false) (hus : ∀ c, S c = true → bt Y B0 (b c - 1) = true) (Y1 : Nat → Nat → Int) (hY1 : vput (DA + i) (fun _ => 0) (setV Y B0 i true) = Y1) :
  Fi DA NB (addY DA Y1 b c (i + 1)) (addF f c (i + 1)) (addN S c) (addB b c (i + 1)) ∧ Ex B0 DA NB Y S b (addY DA Y1 b c (i + 1)) (addN S c) (addB b c (i + 1)) ∧ (∀ c', addN S c c' = true → bt (addY DA Y1 b c (i + 1)) B0 (addB b c (i + 1) c' - 1) = true) := by
 have hfr : ∀ c', S c' = true → b c' ≠ i + 1 := fun c' hc he => by
  have := hus c' hc;rw [he, show i + 1 - 1 = i by omega, hfree] at this
  cases this
 have e1 : ∀ z, z ≠ B0 → z ≠ DA + (i + 1 - 1) → Y1 z = Y z := fun z h1 h2 => by
  rw [← hY1, vput_ne _ _ (by omega), setV_ne _ _ _ _ h1]
 have e2 : Y1 (DA + (i + 1 - 1)) = fun _ => 0 := by
  rw [← hY1, show i + 1 - 1 = i by omega, vput_at]
 have hF := h.add hB c hok hN hp (i + 1) (by omega) (by omega) hNB hfr e1 e2
 have hbit : ∀ j, j < NB → bt (addY DA Y1 b c (i + 1)) B0 j = if i = j then true else bt Y B0 j := fun j hj => by
  have hb1 : bt Y1 B0 j = if i = j then true else bt Y B0 j := by
   rw [← hY1];exact bt_take hv B0 DA i j _ hB (by omega) (by omega)
  unfold addY
  split
  ·exact hb1
  ·rw [bt_put _ _ _ _ _ (by omega)];exact hb1
 have hY : ∀ z, z ≠ B0 → z ≠ DA + i → (isR c = false → z ≠ DA + (b (parS c) - 1)) → addY DA Y1 b c (i + 1) z = Y z := fun z h1 h2 h3 => by
  unfold addY
  split
  ·exact e1 z h1 (by omega)
  ·rename_i hcr
   rw [vput_ne _ _ (fun e => h3 (by simpa using hcr) e.symm)];exact e1 z h1 (by omega)
 refine ⟨hF, ⟨fun c' hc => addN_old S c hc, fun c' hc => addB_ne b _ (fun e => by rw [e, hN] at hc; cases hc), fun z h1 h2 => ?_, fun c' hc hn h2 => ?_, fun j hj => ?_, fun c' hc hn => ?_⟩, fun c' hc => ?_⟩
 ·refine hY z h1 ?_ fun hr => ?_
  ·have := h2 c (addN_self S c) (.inr hN)
   rwa [addB_self] at this
  ·have hpc : S (parS c) = true := hp.resolve_left (by rw [hr]; decide);have hne : parS c ≠ c := (parS_ok c hok hr).2.2;have := h2 (parS c) (addN_old S c hpc) (.inl (parS_ok c hok hr).2.1)
   rwa [addB_ne b _ hne] at this
 ·rcases addN_of S hc with rfl | hc'
  ·rw [addB_self, show i + 1 - 1 = i by omega];unfold addY
   split
   ·exact e2
   ·rename_i hcr
    have hpc : S (parS c') = true := hp.resolve_left hcr;have r := h.rng _ hpc;have := hfr _ hpc;rw [vput_ne _ _ (by omega)];exact e2
  ·rw [hc'] at hn
   cases hn
 ·rw [hbit j hj]
  constructor
  ·intro hh
   by_cases e : i = j
   ·exact .inr ⟨c, addN_self S c, hN, by rw [addB_self, e]⟩
   ·rw [if_neg e] at hh;exact .inl hh
  ·rintro (hh | ⟨c', h1, h2, h3⟩)
   ·rw [hh]
    split <;> rfl
   ·rcases addN_of S h1 with rfl | h1
    ·rw [addB_self] at h3;rw [if_pos (by omega)]
    ·rw [h1] at h2
     cases h2
 ·rcases addN_of S hc with rfl | hc'
  ·rw [addB_self, show i + 1 - 1 = i by omega];exact hfree
  ·rw [hc'] at hn
   cases hn
 ·have r := hF.rng c' hc;rw [hbit _ (by omega)];rcases addN_of S hc with rfl | hc'
  ·rw [addB_self, if_pos (by omega)]
  ·have hne : c' ≠ c := fun e => by rw [e, hN] at hc'; cases hc'
   rw [addB_ne b _ hne, hus c' hc']
   split <;> rfl
end Go.Proofs.YtgdapkbenmlabaaGreatDoor
