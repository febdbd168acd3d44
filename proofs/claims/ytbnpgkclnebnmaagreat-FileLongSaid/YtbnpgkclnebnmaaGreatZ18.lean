import Derived.Test.YtbnpgkclnebnmaaGreatZ17
import Derived.Test.YtbnpgkclnebnmaaGreatZ10
import Derived.Test.YtbnpgkclnebnmaaGreatZ16
/- Fresh: the walk. -/
/- In which group a block lies. -/
/- The fixed fact; GroupNone: the walk. -/
/- What is done in a group, step by step; groups lie apart. -/
/- Files: what taking blocks leaves. -/
/- Files: lay: the blocks on a way to a block. -/
/- Files: put, read: bytes of one block. -/
/- A group: Node out of range, Set that fails, Wipe, Ino. -/

namespace Go.Proofs.YtbnpgkclnebnmaaGreat
set_option linter.unusedSimpArgs false
set_option linter.unusedVariables false
open Go.RowKit Go.Maps

theorem VF_cell (j : Nat) (hj : j < 3) : ([.int .u8 2, .int .u8 1, .int .u8 1] : List Value)[j]? = some (.int .u8 (kd (j + 1))) := by
  have : j = 0 ∨ j = 1 ∨ j = 2 := by omega
  rcases this with rfl | rfl | rfl <;> rfl
set_option maxHeartbeats 40000000 in
set_option maxRecDepth 200000 in
theorem fresh_any (n : Nat) (vr vm vg : Value) (R : List Cf.Rg) (MS : List (Int × Int)) (hs : ∀ r ∈ R, Cf.Small r) (h0 : 0 < R.length) (h64 : R.length ≤ 64) (N : Nat) (hN : (Cf.layF R).2 = N) (hN0 : 32 ≤ N) (hN1 : N ≤ 65536) (w : World) (h : Cf.CF n w vr vm vg R MS) :
    Calls Tryz.prog 25 #[.pointer (some ⟨n + 3, 0, none⟩)] w fun e w' => ∃ t m d g l Y, e = .returned (.tuple #[.pointer (some ⟨d, 0, none⟩), .pointer (some ⟨l, 0, none⟩), .pointer (some ⟨t, 0, none⟩)]) ∧ From w.heap.size t m d g ∧ w.heap.size ≤ l ∧ l ∉ [t, m, d, g] ∧ Lg w' l d 1 ∧ Rd w' t m d g N ⟨[], Y⟩ Y 7000 ∧ FreshK R N R.length Y ∧ Below w.heap.size w w' := by
  obtain ⟨d53, hu53, hd53⟩ := Tryz.desc53
  have HU53 := Lib.hid hu53
  have HD53 := Lib.hid hd53
  have HB := Lib.hid (begun_any n vr vm vg R MS hs h0 h64 N hN hN0 hN1 w h)
  have HCF := Lib.hid h
  have HSM := Lib.hid hs
  have HN := Lib.hid hN
  have hR0 : (0 : Int) < R.length := by omega
  have hR64 : (R.length : Int) ≤ 64 := by omega
  clear h hs hu53 hd53 hN
  go_enter Tryz.func25, Tryz.ntmps25
  go_wp2_with fail
  refine HB.out.mono ?_
  rintro e w1 ⟨t0, m0, dd, gg, l, rfl, hFr, hll, hln, hLg, hRd, hb⟩
  have HFr := Lib.hid hFr
  have HLn := Lib.hid hln
  have HL1 := Lib.hid hLg
  have HR1 := Lib.hid hRd
  have HB1 := Lib.hid hb
  have HNl := Lib.hid (show l ∉ [dd, gg] from fun h => hln (by simp only [List.mem_cons, List.not_mem_nil, or_false] at h ⊢; omega))
  have hdd : w.heap.size ≤ dd := hFr.2.2.1
  have hgg : w.heap.size ≤ gg := hFr.2.2.2
  have hl1 := hLg.lt
  have hld : l ≠ dd := fun h => hln (by simp [h])
  have hlg : l ≠ gg := fun h => hln (by simp [h])
  have HCFx : Hid (∀ W, Kf w1 W [dd, gg] → Cf.CF n W vr vm vg R MS) := fun W hk => HCF.out.below (HB1.out.trans (hk.bel hdd hgg HB1.out.size))
  have HBx : Hid (∀ W, Kf w1 W [dd, gg] → Below w.heap.size w W) := fun W hk => HB1.out.trans (hk.bel hdd hgg HB1.out.size)
  clear hFr hln hLg hRd hb HB
  go_wp2_with fail
  refine (Cf.clen_any n vr vm vg R MS w1 (HCFx.out w1 (Kf.refl _ _)) h64).mono ?_
  rintro e wz ⟨rfl, hwz⟩
  rw [hwz]
  clear hwz
  go_wp2_with fail
  go_loopw [22] (fun y wr => ∃ k : Nat, k ≤ R.length ∧ y = .int .i64 k ∧ (∃ t' m' Y, Rd wr t' m' dd gg N ⟨[], Y⟩ Y (1 + 100 * k) ∧ FreshK R N k Y) ∧ Kf w1 wr [dd, gg]) (fun y _ => R.length - (Go.RowKit.intOf y).toNat)
  case atStart => exact ⟨0, Nat.zero_le _, rfl, ⟨t0, m0, _, HR1.out, FreshK.zero R N⟩, Kf.refl _ _⟩
  case round =>
    obtain ⟨k, hk, rfl, ⟨ta, ma, Y, hRd, hFk⟩, hkf⟩ := hrel
    obtain ⟨wX, rfl⟩ : ∃ x, x = wr := ⟨wr, rfl⟩
    have HRd := Lib.hid hRd
    have HFk := Lib.hid hFk
    have HKf := Lib.hid hkf
    have hsz := hkf.size
    clear hRd hFk hkf HR1
    have HBeg := Lib.hid (begin7 l ta ma dd gg (1 + 100 * k) Y wX HRd.out (HL1.out.kf HKf.out HNl.out))
    by_cases hlt : k < R.length
    · obtain ⟨g, hgi⟩ : ∃ g, (Cf.layF R).1[k]'(by rw [Cf.lay_len]; exact hlt) = g := ⟨_, rfl⟩
      obtain ⟨B0, P0, M, DA, NB, hg, -, -⟩ := geo_gg R HSM.out h64 N HN.out k hlt g hgi
      have HG := Lib.hid hg
      have HGI := Lib.hid hgi
      go_wp2_with fail
      refine HBeg.out.mono ?_
      rintro e v1 ⟨t', m', rfl, ht', hm', hRd', hb⟩
      have HRd1 := Lib.hid hRd'
      have HK1 := Lib.hid (HKf.out.more hb)
      have hle1 : w1.heap.size ≤ t' := Nat.le_trans hsz ht'
      have hle2 : w1.heap.size ≤ m' := Nat.le_trans hsz hm'
      have HGe := Lib.hid (Cf.geo_in n vr vm vg R MS k hlt v1 (HCFx.out v1 HK1.out))
      rw [hgi] at HGe
      have hval : g.val = .agg g.cells.toArray := rfl
      rw [hval] at HGe
      have HGl := Lib.hid (show g.cells.length = 6 from rfl)
      have HGO := Lib.hid (geo_one g)
      have HS53 := Lib.hid (size53 g)
      have HW : Hid (∀ (j : Nat), j < 3 → ∀ (Y' : Nat → Nat → Int) (W : World), Rd W t' m' dd gg N ⟨[P0, P0 + 1], Y⟩ Y' (1 + 100 * k + j) → Calls Tryz.prog 59 #[.pointer (some ⟨t', 0, none⟩), .agg g.cells.toArray, .int .i64 ((j : Int) + 1), .agg (ndc (own (kd (j + 1)))).toArray] W fun e w' => e = .returned (.int .i64 0) ∧ Rd w' t' m' dd gg N ⟨[P0, P0 + 1], Y⟩ (tabW P0 (j + 1) (own (kd (j + 1))) Y') (1 + 100 * k + j + 1) ∧ Kf W w' [t', m', dd, gg]) := fun j hj Y' W hW => by
        have hNN := hW.hN
        obtain ⟨g1, g2, g3, g4, g5, g6, g7, g8, g9, g10, g11, g12, g13, g14⟩ := HG.out
        have := write_any6 (ln := ⟨[P0, P0 + 1], Y⟩) g (j + 1) t' m' dd gg N (1 + 100 * k + j) P0 M Y' (own (kd (j + 1))) (own_ok _) (own_code _) (by omega) (by omega) g6 g2 (by omega) (by omega) g3 (by omega) (by omega) (by omega) (by omega) ⟨by simp only [List.mem_cons, List.not_mem_nil, or_false]; omega, by simp⟩ (by omega) W hW
        rwa [show ((j + 1 : Nat) : Int) = (j : Int) + 1 by omega] at this
      obtain ⟨gs, hgs⟩ : ∃ gs, g.cells = gs := ⟨_, rfl⟩
      rw [hgs] at HGe HGl HGO HS53 HW
      clear hval hgs hRd' hb HBeg HRd ht' hm' hgi hg
      go_wp2_with fail
      refine HGe.out.mono ?_
      rintro e v2 ⟨rfl, hb⟩
      have HR2 := Lib.hid (HRd1.out.keep hb)
      have HK2 := Lib.hid (HK1.out.more hb)
      clear hb HRd1 HK1 HGe
      go_upto_region 7 with (first | (refine wpList_alloc_list (w := v2) rfl 133 rfl _ Tryz.zero53 ?_; intro v3 F3 hb3 hz3; simp only [Act.put, List.getElem_toArray, List.getElem_cons_zero, List.getElem_cons_succ, List.setIfInBounds_toArray, List.set_cons_zero, List.set_cons_succ]; refine wpList_store_list rfl 133 (.tmp 10) (.tmp 31) rfl v2.heap.size _ gs rfl rfl F3.out (by rw [HGl.out]; rfl) HS53.out HGO.out ?_; intro v4 F4 HP4; have HQ3 := Lib.hid hb3; clear hb3 hz3 F3))
      obtain ⟨bG, hbG⟩ : ∃ b, v2.heap.size = b := ⟨_, rfl⟩
      have HK4 := Lib.hid ((HK2.out.more HQ3.out).new HP4.out HK2.out.size)
      have HR4 := Lib.hid ((HR2.out.keep HQ3.out).kp HP4.out (HR2.out.notin (Nat.le_refl _)) (HR2.out.notin (Nat.le_refl _)))
      have HNG := Lib.hid (HR2.out.notin (Nat.le_of_eq hbG))
      have hGlt := F4.out.lt
      rw [hbG] at F4 hGlt
      try rw [hbG]
      clear hbG HQ3 HP4 HK2 HR2
      go_wp2_with fail
      have F5 := Lib.hid (Vl.new v4 [.int .u8 2, .int .u8 1, .int .u8 1] 62)
      have hb5 : Below v4.heap.size v4 (v4.alloc (.cells [.int .u8 2, .int .u8 1, .int .u8 1].toArray 62)) := (Below.refl _ _).alloc (Nat.le_refl _) _
      have HR5 := Lib.hid (HR4.out.keep hb5)
      have HK5 := Lib.hid (HK4.out.more hb5)
      have FG5 := Lib.hid (F4.out.keep hb5)
      have HNK := Lib.hid (HR4.out.notin (p := v4.heap.size) (Nat.le_refl _))
      obtain ⟨v5, hv5⟩ : ∃ x, v4.alloc (.cells [.int .u8 2, .int .u8 1, .int .u8 1].toArray 62) = x := ⟨_, rfl⟩
      obtain ⟨bK, hbK⟩ : ∃ b, v4.heap.size = b := ⟨_, rfl⟩
      have hv5' : v4.alloc (.cells #[.int .u8 2, .int .u8 1, .int .u8 1] 62) = v5 := hv5
      rw [hv5] at F5 HR5 HK5 FG5
      rw [hbK] at F5 HNK
      try rw [hv5']
      try rw [hbK]
      have hKlt := F5.out.lt
      clear hv5 hv5' hb5 hbK HR4 HK4 F4
      go_loopw [35] (fun y wr => ∃ j : Nat, j ≤ 3 ∧ y = .int .i64 j ∧ (∃ Y', Rd wr t' m' dd gg N ⟨[P0, P0 + 1], Y⟩ Y' (1 + 100 * k + j) ∧ Tab P0 M Y' (VF j) ∧ ∀ x : Nat, x < P0 ∨ P0 + 2 ≤ x → Y' x = Y x) ∧ Kf v5 wr [t', m', dd, gg]) (fun y _ => 3 - (Go.RowKit.intOf y).toNat)
      case atStart =>
        refine ⟨0, by decide, rfl, ⟨Y, HR5.out.wide (Lm.nil_le _ _), ?_, fun _ _ => rfl⟩, Kf.refl _ _⟩
        rw [VF_zero]
        refine (Tab.new P0 M).congr fun x hx1 hx2 => ?_
        have h1 := Cf.lay_nth R k hlt
        have h2 := HG.out.base
        have h3 := HG.out.bp
        refine HFk.out.rest x ?_
        rw [HGI.out] at h1
        have : (Cf.layF (R.take k)).2 = B0 := by rw [← h2, h1]; rfl
        omega
      case round =>
        obtain ⟨j, hj, rfl, ⟨Y', hRj, hTj, hYj⟩, hkj⟩ := hrel
        have HRj := Lib.hid hRj
        have HTj := Lib.hid hTj
        have HYj := Lib.hid hYj
        have HKj := Lib.hid hkj
        clear hRj hTj hYj hkj
        by_cases hj3 : j < 3
        · have hj0 : (0 : Int) ≤ j := by omega
          have hj4 : (j : Int) < 3 := by omega
          have cK := (F5.out.kf HKj.out HNK.out).c j _ (VF_cell j hj3)
          have HWj := Lib.hid (HW.out j hj3 Y' wr HRj.out)
          obtain ⟨kv, hkv⟩ : ∃ z, kd (j + 1) = z := ⟨_, rfl⟩
          rw [hkv] at cK HWj
          have HKv := Lib.hid hkv
          clear hkv
          have FGj := Lib.hid (FG5.out.kf HKj.out HNG.out)
          go_wp2_with (first | (refine wpList_load_mid rfl 133 _ rfl bG 0 rfl gs d53 FGj.out.range0 HU53.out HD53.out HS53.out ?_) | (refine wpList_bld3 rfl 68 0 1 2 (.tmp 44) _ _ rfl (.int .u8 kv) (.int .u8 1) (.int .u16 1) rfl rfl rfl (.agg (ndc (own kv)).toArray) (Tryz.build27_own kv _) ?_))
          refine HWj.out.mono ?_
          rintro e v7 ⟨rfl, hR, hkk⟩
          have HR7 := Lib.hid hR
          have HK7 := Lib.hid (HKj.out.trans hkk)
          clear hR hkk HWj HRj cK
          go_wp2_with fail
          go_roundw
          case rel =>
            refine ⟨j + 1, by omega, by go_num, ⟨_, HR7.out, ?_, fun x hx => ?_⟩, HK7.out⟩
            · have := HTj.out.wr (j + 1) (by omega) (by have := HG.out.m4; omega) (own kv) (by rw [← HKv.out]; exact own_ok _) (by rw [← HKv.out]; exact own_code _)
              rw [← VF_put j, HKv.out]
              exact this
            · rw [tabW_ne _ _ _ _ _ (by omega)]
              exact HYj.out x hx
          case measure => simp [Go.RowKit.intOf]; omega
        · obtain rfl : j = 3 := by omega
          have HKr := Lib.hid (HK5.out.tx HKj.out hle1 hle2)
          have HCm := Lib.hid (commit7 t' m' dd gg (1 + 100 * k + 3) Y' (by simp) (by omega) wr HRj.out)
          go_wp2_with fail
          refine HCm.out.mono ?_
          rintro e v8 ⟨rfl, hR, hkk⟩
          have HR8 := Lib.hid hR
          have HK8 := Lib.hid (HKr.out.tx hkk hle1 hle2)
          clear hR hkk HCm HKr HRj
          have hgx : GG ((Cf.layF R).1[k]'(by rw [Cf.lay_len]; exact hlt)) B0 P0 M DA NB N := by rw [HGI.out]; exact HG.out
          have HNx := Lib.hid (HFk.out.next HSM.out h64 HN.out hlt B0 P0 M DA NB hgx HTj.out HYj.out)
          go_wp2_with fail
          go_roundw
          case rel => exact ⟨k + 1, by omega, by go_num, ⟨t', m', Y', HR8.out.mono (by omega), HNx.out⟩, HK8.out⟩
          case measure => simp [Go.RowKit.intOf]; omega
    · obtain rfl : k = R.length := by omega
      go_wp2_with fail
      refine HBeg.out.mono ?_
      rintro e v1 ⟨t', m', rfl, ht', hm', hRd', hb⟩
      have HRd1 := Lib.hid hRd'
      have HK1 := Lib.hid (HKf.out.more hb)
      have HL2 := Lib.hid ((HL1.out.kf HKf.out HNl.out).keep hb)
      have hlx := (HL1.out.kf HKf.out HNl.out).lt
      have hwl := HB1.out.size
      clear hRd' hb HBeg HRd HKf
      go_wp2_with fail
      exact bodyPost_ret (v := .tuple #[.pointer (some ⟨dd, 0, none⟩), .pointer (some ⟨l, 0, none⟩), .pointer (some ⟨t', 0, none⟩)]) (by simp [results, Tryz.results25, go_sem]) rfl ⟨t', m', dd, gg, l, Y, rfl, ⟨by omega, by omega, hdd, hgg⟩, hll, (by simp; omega), HL2.out, HRd1.out.mono (by omega), HFk.out, HBx.out v1 HK1.out⟩
end Go.Proofs.YtbnpgkclnebnmaaGreat

namespace Go.Proofs.YtbnpgkclnebnmaaGreat.Cf
set_option linter.unusedSimpArgs false
set_option linter.unusedVariables false
open Go.RowKit Go.Maps

end Go.Proofs.YtbnpgkclnebnmaaGreat.Cf

namespace Go.Proofs.YtbnpgkclnebnmaaGreat
set_option linter.unusedSimpArgs false
set_option linter.unusedVariables false
open Go.RowKit Go.Maps

variable {ln : Lm}
theorem u8s_none (w : World) : Cf.U8s w (.slice none 0 0) [] := .inl ⟨none, 0, rfl, rfl⟩
theorem fr_of {b : Nat → Bool} {n i : Nat} (hi : i < n) (h0 : b i = false) (h1 : ∀ j, j < i → b j = true) : Fr b n i := .inr ⟨i, hi, rfl, h0, h1⟩
end Go.Proofs.YtbnpgkclnebnmaaGreat

namespace Go.Proofs.YtbnpgkclnebnmaaGreat
set_option linter.unusedSimpArgs false
set_option linter.unusedVariables false
open Go.RowKit Go.Maps

variable {ln : Lm}
end Go.Proofs.YtbnpgkclnebnmaaGreat

namespace Go.Proofs.YtbnpgkclnebnmaaGreat
set_option linter.unusedSimpArgs false
set_option linter.unusedVariables false
open Go.RowKit Go.Maps

/-- the blocks that a file's writes touch: its map's, its node's, its slots'; numbers from 3000 on say blocks of others -/
def dl (B0 TB DA : Nat) (b : Nat → Nat) (S : Nat → Bool) (L : List Nat) : List Nat := B0 :: TB :: L.filterMap fun c => if 3000 ≤ c then some (c - 3000) else if S c = true then some (DA + (b c - 1)) else none
theorem dl_len (B0 TB DA : Nat) (b : Nat → Nat) (S : Nat → Bool) (L : List Nat) : (dl B0 TB DA b S L).length ≤ L.length + 2 := by
  unfold dl
  have := List.length_filterMap_le (fun c => if 3000 ≤ c then some (c - 3000) else if S c = true then some (DA + (b c - 1)) else none) L
  simp only [List.length_cons]
  omega
theorem dl_mem (B0 TB DA : Nat) (b : Nat → Nat) (S : Nat → Bool) (L : List Nat) (c : Nat) (h3 : c < 3000) (hc : c ∈ L) (hs : S c = true) : DA + (b c - 1) ∈ dl B0 TB DA b S L := by
  unfold dl
  refine List.mem_cons_of_mem _ (List.mem_cons_of_mem _ (List.mem_filterMap.2 ⟨c, hc, ?_⟩))
  rw [if_neg (by omega), if_pos hs]
theorem dl_le {B0 TB DA : Nat} {b b' : Nat → Nat} {S S' : Nat → Bool} (L : List Nat) (D : Nat → Nat → Int) (hn : ∀ c, S c = true → S' c = true) (hb : ∀ c, S c = true → b' c = b c) : Lm.Le ⟨dl B0 TB DA b S L, D⟩ ⟨dl B0 TB DA b' S' L, D⟩ := by
  refine ⟨fun z hz => ?_, rfl⟩
  unfold dl at hz ⊢
  simp only [List.mem_cons, List.mem_filterMap] at hz ⊢
  rcases hz with h | h | ⟨c, h1, h2⟩
  · exact .inl h
  · exact .inr (.inl h)
  · refine .inr (.inr ⟨c, h1, ?_⟩)
    by_cases h3 : 3000 ≤ c
    · rw [if_pos h3] at h2 ⊢
      exact h2
    · rw [if_neg h3] at h2 ⊢
      by_cases hs : S c = true
      · rw [if_pos hs] at h2
        rw [if_pos (hn c hs), hb c hs]
        exact h2
      · rw [if_neg hs] at h2
        cases h2
theorem okS_lt {c : Nat} (h : okS c = true) : c < 3000 := by
  rw [okS_iff] at h
  omega
theorem least_free (b : Nat → Bool) : ∀ n, (∀ j, j < n → b j = true) ∨ ∃ i, i < n ∧ b i = false ∧ ∀ j, j < i → b j = true
  | 0 => .inl fun j hj => absurd hj (Nat.not_lt_zero j)
  | n + 1 => by
    rcases least_free b n with h | ⟨i, h1, h2, h3⟩
    · cases hb : b n
      · exact .inr ⟨n, Nat.lt_succ_self n, hb, h⟩
      · refine .inl fun j hj => ?_
        by_cases e : j = n
        · rw [e]
          exact hb
        · exact h j (by omega)
    · exact .inr ⟨i, by omega, h2, h3⟩
/-- from one state of a node's blocks to a later one: more slots; nothing else has turned but their blocks, and the bits -/
structure Ex (B0 DA NB : Nat) (Y : Nat → Nat → Int) (S : Nat → Bool) (b : Nat → Nat) (Y' : Nat → Nat → Int) (S' : Nat → Bool) (b' : Nat → Nat) : Prop where
  n : ∀ c, S c = true → S' c = true
  b : ∀ c, S c = true → b' c = b c
  y : ∀ z, z ≠ B0 → (∀ c, S' c = true → 2000 ≤ c ∨ S c = false → z ≠ DA + (b' c - 1)) → Y' z = Y z
  z : ∀ c, S' c = true → S c = false → c < 2000 → Y' (DA + (b' c - 1)) = fun _ => 0
  u : ∀ j, j < NB → (bt Y' B0 j = true ↔ bt Y B0 j = true ∨ ∃ c, S' c = true ∧ S c = false ∧ b' c = j + 1)
  fr : ∀ c, S' c = true → S c = false → bt Y B0 (b' c - 1) = false
theorem Ex.refl (B0 DA NB : Nat) (Y : Nat → Nat → Int) (S : Nat → Bool) (b : Nat → Nat) : Ex B0 DA NB Y S b Y S b :=
  ⟨fun _ h => h, fun _ _ => rfl, fun _ _ _ => rfl, fun c h h' => by (rw [h] at h'; cases h'), fun j _ => ⟨fun h => .inl h, fun h => h.elim id fun ⟨c, h1, h2, _⟩ => by (rw [h1] at h2; cases h2)⟩, fun c h h' => by (rw [h] at h'; cases h')⟩
theorem Ex.trans {B0 DA NB : Nat} {Y Y1 Y2 : Nat → Nat → Int} {S S1 S2 : Nat → Bool} {b b1 b2 : Nat → Nat} (hB : B0 < DA) (h : Ex B0 DA NB Y S b Y1 S1 b1) (k : Ex B0 DA NB Y1 S1 b1 Y2 S2 b2)
    (rng : ∀ c, S2 c = true → 1 ≤ b2 c ∧ b2 c ≤ NB) (inj : ∀ c c', S2 c = true → S2 c' = true → b2 c = b2 c' → c = c') : Ex B0 DA NB Y S b Y2 S2 b2 := by
  refine ⟨fun c hc => k.n c (h.n c hc), fun c hc => (k.b c (h.n c hc)).trans (h.b c hc), fun z hz hf => ?_, fun c hc hn h2 => ?_, fun j hj => ?_, fun c hc hn => ?_⟩
  · rw [k.y z hz fun c hc ho => hf c hc (ho.imp id fun hs => ?_), h.y z hz fun c hc ho => ?_]
    · have := hf c (k.n c hc) ho
      rwa [k.b c hc] at this
    · cases hh : S c
      · rfl
      · rw [h.n c hh] at hs
        cases hs
  · cases h1 : S1 c
    · exact k.z c hc h1 h2
    · rw [k.y _ (by omega) fun c' hc' ho he => ?_, k.b c h1]
      · exact h.z c h1 hn h2
      · have r1 := rng c hc
        have r2 := rng c' hc'
        obtain rfl := inj c c' hc hc' (by omega)
        rcases ho with ho | ho
        · omega
        · rw [h1] at ho
          cases ho
  · rw [k.u j hj, h.u j hj]
    constructor
    · rintro ((h1 | ⟨c, h1, h2, h3⟩) | ⟨c, h1, h2, h3⟩)
      · exact .inl h1
      · exact .inr ⟨c, k.n c h1, h2, (k.b c h1).trans h3⟩
      · refine .inr ⟨c, h1, ?_, h3⟩
        cases hh : S c
        · rfl
        · rw [h.n c hh] at h2
          cases h2
    · rintro (h1 | ⟨c, h1, h2, h3⟩)
      · exact .inl (.inl h1)
      · cases hh : S1 c
        · exact .inr ⟨c, h1, hh, h3⟩
        · exact .inl (.inr ⟨c, hh, h2, (k.b c hh).symm.trans h3⟩)
  · cases h1 : S1 c
    · have hf := k.fr c hc h1
      have r := rng c hc
      cases hh : bt Y B0 (b2 c - 1)
      · rfl
      · rw [(h.u (b2 c - 1) (by omega)).2 (.inl hh)] at hf
        cases hf
    · rw [k.b c h1]
      exact h.fr c h1 hn
/-- one slot more -/
theorem add_ex {DA NB B0 : Nat} {Y : Nat → Nat → Int} {f : Nat → Int} {S : Nat → Bool} {b : Nat → Nat} (h : Fi DA NB Y f S b) (hv : ∀ x, Byt (Y x)) (hB : B0 < DA) (c : Nat) (hok : okS c = true) (hN : S c = false) (hp : isR c = true ∨ S (parS c) = true) (i : Nat) (hi : i < NB) (hNB : NB ≤ 512)
    (hfree : bt Y B0 i = false) (hus : ∀ c, S c = true → bt Y B0 (b c - 1) = true) (Y1 : Nat → Nat → Int) (hY1 : vput (DA + i) (fun _ => 0) (setV Y B0 i true) = Y1) :
    Fi DA NB (addY DA Y1 b c (i + 1)) (addF f c (i + 1)) (addN S c) (addB b c (i + 1)) ∧ Ex B0 DA NB Y S b (addY DA Y1 b c (i + 1)) (addN S c) (addB b c (i + 1)) ∧ (∀ c', addN S c c' = true → bt (addY DA Y1 b c (i + 1)) B0 (addB b c (i + 1) c' - 1) = true) := by
  have hfr : ∀ c', S c' = true → b c' ≠ i + 1 := fun c' hc he => by
    have := hus c' hc
    rw [he, show i + 1 - 1 = i by omega, hfree] at this
    cases this
  have e1 : ∀ z, z ≠ B0 → z ≠ DA + (i + 1 - 1) → Y1 z = Y z := fun z h1 h2 => by
    rw [← hY1, vput_ne _ _ (by omega), setV_ne _ _ _ _ h1]
  have e2 : Y1 (DA + (i + 1 - 1)) = fun _ => 0 := by
    rw [← hY1, show i + 1 - 1 = i by omega, vput_at]
  have hF := h.add hB c hok hN hp (i + 1) (by omega) (by omega) hNB hfr e1 e2
  have hbit : ∀ j, j < NB → bt (addY DA Y1 b c (i + 1)) B0 j = if i = j then true else bt Y B0 j := fun j hj => by
    have hb1 : bt Y1 B0 j = if i = j then true else bt Y B0 j := by
      rw [← hY1]
      exact bt_take hv B0 DA i j _ hB (by omega) (by omega)
    unfold addY
    split
    · exact hb1
    · rw [bt_put _ _ _ _ _ (by omega)]
      exact hb1
  have hY : ∀ z, z ≠ B0 → z ≠ DA + i → (isR c = false → z ≠ DA + (b (parS c) - 1)) → addY DA Y1 b c (i + 1) z = Y z := fun z h1 h2 h3 => by
    unfold addY
    split
    · exact e1 z h1 (by omega)
    · rename_i hcr
      rw [vput_ne _ _ (fun e => h3 (by simpa using hcr) e.symm)]
      exact e1 z h1 (by omega)
  refine ⟨hF, ⟨fun c' hc => addN_old S c hc, fun c' hc => addB_ne b _ (fun e => by rw [e, hN] at hc; cases hc), fun z h1 h2 => ?_, fun c' hc hn h2 => ?_, fun j hj => ?_, fun c' hc hn => ?_⟩, fun c' hc => ?_⟩
  · refine hY z h1 ?_ fun hr => ?_
    · have := h2 c (addN_self S c) (.inr hN)
      rwa [addB_self] at this
    · have hpc : S (parS c) = true := hp.resolve_left (by rw [hr]; decide)
      have hne : parS c ≠ c := (parS_ok c hok hr).2.2
      have := h2 (parS c) (addN_old S c hpc) (.inl (parS_ok c hok hr).2.1)
      rwa [addB_ne b _ hne] at this
  · rcases addN_of S hc with rfl | hc'
    · rw [addB_self, show i + 1 - 1 = i by omega]
      unfold addY
      split
      · exact e2
      · rename_i hcr
        have hpc : S (parS c') = true := hp.resolve_left hcr
        have r := h.rng _ hpc
        have := hfr _ hpc
        rw [vput_ne _ _ (by omega)]
        exact e2
    · rw [hc'] at hn
      cases hn
  · rw [hbit j hj]
    constructor
    · intro hh
      by_cases e : i = j
      · exact .inr ⟨c, addN_self S c, hN, by rw [addB_self, e]⟩
      · rw [if_neg e] at hh
        exact .inl hh
    · rintro (hh | ⟨c', h1, h2, h3⟩)
      · rw [hh]
        split <;> rfl
      · rcases addN_of S h1 with rfl | h1
        · rw [addB_self] at h3
          rw [if_pos (by omega)]
        · rw [h1] at h2
          cases h2
  · rcases addN_of S hc with rfl | hc'
    · rw [addB_self, show i + 1 - 1 = i by omega]
      exact hfree
    · rw [hc'] at hn
      cases hn
  · have r := hF.rng c' hc
    rw [hbit _ (by omega)]
    rcases addN_of S hc with rfl | hc'
    · rw [addB_self, if_pos (by omega)]
    · have hne : c' ≠ c := fun e => by rw [e, hN] at hc'; cases hc'
      rw [addB_ne b _ hne, hus c' hc']
      split <;> rfl
end Go.Proofs.YtbnpgkclnebnmaaGreat

namespace Go.Proofs.YtbnpgkclnebnmaaGreat
set_option linter.unusedSimpArgs false
set_option linter.unusedVariables false
open Go.RowKit Go.Maps

/-- the slots on the way to a slot, itself the last -/
def lenC (c : Nat) : Nat := if c < 6 then 0 else if c < 38 then 1 else 2
def chS (c i : Nat) : Nat := if i = lenC c then c else if i + 1 = lenC c then parS c else 2001
theorem chS_last (c : Nat) : chS c (lenC c) = c := if_pos rfl
theorem chS_ok (c : Nat) (hc : c < 256) (i : Nat) (hi : i ≤ lenC c) : okS (chS c i) = true ∧ (isR (chS c i) = true ∨ (1 ≤ i ∧ parS (chS c i) = chS c (i - 1))) := by
  have hl : c < 6 ∧ lenC c = 0 ∨ 6 ≤ c ∧ c < 38 ∧ lenC c = 1 ∨ 38 ≤ c ∧ lenC c = 2 := by
    unfold lenC
    split
    · omega
    · split <;> omega
  rcases hl with ⟨h, e⟩ | ⟨h, h', e⟩ | ⟨h, e⟩
  · obtain rfl : i = 0 := by omega
    unfold chS
    rw [e]
    exact ⟨(okS_iff _).2 (by simp; omega), .inl ((isR_iff _).2 (by simp; omega))⟩
  · have hp : parS c = 2000 := by unfold parS; rw [if_pos h']
    have hi2 : i = 0 ∨ i = 1 := by omega
    rcases hi2 with rfl | rfl
    · have : chS c 0 = 2000 := by unfold chS; rw [e, if_neg (by decide), if_pos rfl, hp]
      rw [this]
      exact ⟨rfl, .inl rfl⟩
    · have h1 : chS c 1 = c := by unfold chS; rw [e, if_pos rfl]
      have h0 : chS c (1 - 1) = 2000 := by unfold chS; rw [e, if_neg (by decide), if_pos rfl, hp]
      rw [h1, h0, hp]
      exact ⟨(okS_iff _).2 (by omega), .inr ⟨by decide, rfl⟩⟩
  · have hp : parS c = 2002 + (c - 38) / 32 := by unfold parS; rw [if_neg (by omega), if_pos (by omega)]
    have hi2 : i = 0 ∨ i = 1 ∨ i = 2 := by omega
    have h2 : chS c 2 = c := by unfold chS; rw [e, if_pos rfl]
    have h1 : chS c 1 = 2002 + (c - 38) / 32 := by unfold chS; rw [e, if_neg (by decide), if_pos rfl, hp]
    have h0 : chS c 0 = 2001 := by unfold chS; rw [e, if_neg (by decide), if_neg (by decide)]
    rcases hi2 with rfl | rfl | rfl
    · rw [h0]
      exact ⟨rfl, .inl rfl⟩
    · rw [h1, show 1 - 1 = 0 from rfl, h0]
      refine ⟨(okS_iff _).2 (by omega), .inr ⟨by decide, ?_⟩⟩
      unfold parS
      rw [if_neg (by omega), if_neg (by omega)]
    · rw [h2, show 2 - 1 = 1 from rfl, h1, hp]
      exact ⟨(okS_iff _).2 (by omega), .inr ⟨by decide, rfl⟩⟩
theorem wyS_steps (c : Nat) (hc : c < 256) (W : World) : Calls Tryz.prog 118 #[wyS c] W fun e w' => e = .returned (.int .i64 (lenC c + 1)) ∧ Below W.heap.size W w' := by
  by_cases h6 : c < 6
  · have hr : isR c = true := (isR_iff c).2 (.inl h6)
    have hw := wy_root c hr
    have e : lenC c = 0 := by unfold lenC; rw [if_pos h6]
    unfold wyS
    rw [hw.2.1, hw.2.2, e]
    exact steps1 _ (by omega) W
  · have hr : isR c = false := (isR_no c).2 (by omega)
    have ho : okS c = true := (okS_iff c).2 (by omega)
    by_cases h3 : 38 ≤ c ∧ c < 1062
    · obtain ⟨e1, e2, e3, -, -⟩ := wy_three c h3
      have e : lenC c = 2 := by unfold lenC; rw [if_neg h6, if_neg (by omega)]
      unfold wyS
      rw [e1, e2, e3, e]
      exact steps3 _ _ _ (by decide) (by omega) (by omega) W
    · obtain ⟨e1, e2, e3, hpr⟩ := wy_two c ho hr h3
      have e : lenC c = 1 := by unfold lenC; rw [if_neg h6, if_pos (by omega)]
      have := (wy_root _ hpr).1
      unfold wyS
      rw [e2, e3, e]
      exact steps2 _ _ (by omega) (by omega) W
theorem wyS_first (c : Nat) (hc : c < 256) (i : Nat) (hi : i ≤ lenC c) (W : World) : Calls Tryz.prog 129 #[wyS c, .int .i64 (i + 1)] W fun e w' => e = .returned (wyS (chS c i)) ∧ Below W.heap.size W w' := by
  by_cases h6 : c < 6
  · have hr : isR c = true := (isR_iff c).2 (.inl h6)
    have hw := wy_root c hr
    have e : lenC c = 0 := by unfold lenC; rw [if_pos h6]
    obtain rfl : i = 0 := by omega
    have h0 : chS c 0 = c := by unfold chS; rw [e, if_pos rfl]
    rw [h0]
    unfold wyS
    rw [hw.2.1, hw.2.2]
    exact first1 _ _ _ W
  · have hr : isR c = false := (isR_no c).2 (by omega)
    have ho : okS c = true := (okS_iff c).2 (by omega)
    by_cases h3 : 38 ≤ c ∧ c < 1062
    · obtain ⟨e1, e2, e3, hp, -⟩ := wy_three c h3
      have e : lenC c = 2 := by unfold lenC; rw [if_neg h6, if_neg (by omega)]
      have hi2 : i = 0 ∨ i = 1 ∨ i = 2 := by omega
      rcases hi2 with rfl | rfl | rfl
      · have h0 : chS c 0 = 2001 := by unfold chS; rw [e, if_neg (by decide), if_neg (by decide)]
        rw [h0]
        have := first1 (wy1 c) (wy2 c) (wy3 c) W
        rw [e1] at this
        unfold wyS
        rw [e1]
        exact this
      · have h1 : chS c 1 = parS c := by unfold chS; rw [e, if_neg (by decide), if_pos rfl]
        rw [h1, wy_par3 c h3]
        have := first2 (wy1 c) (wy2 c) (wy3 c) W
        rw [e1, e2] at this
        unfold wyS
        rw [e1, e2]
        exact this
      · have h2 : chS c 2 = c := by unfold chS; rw [e, if_pos rfl]
        rw [h2]
        exact first3 _ _ _ W
    · obtain ⟨e1, e2, e3, hpr⟩ := wy_two c ho hr h3
      have e : lenC c = 1 := by unfold lenC; rw [if_neg h6, if_pos (by omega)]
      have hwr := wy_root _ hpr
      have hi2 : i = 0 ∨ i = 1 := by omega
      rcases hi2 with rfl | rfl
      · have h0 : chS c 0 = parS c := by unfold chS; rw [e, if_neg (by decide), if_pos rfl]
        rw [h0]
        have := first1 (wy1 c) (wy2 c) (wy3 c) W
        unfold wyS
        rw [hwr.2.1, hwr.2.2, ← e1]
        exact this
      · have h1 : chS c 1 = c := by unfold chS; rw [e, if_pos rfl]
        rw [h1]
        have := first2 (wy1 c) (wy2 c) (wy3 c) W
        unfold wyS
        rw [e3]
        rw [e3] at this
        exact this
theorem Fi.congr {DA NB : Nat} {Y Y' : Nat → Nat → Int} {f : Nat → Int} {S : Nat → Bool} {b : Nat → Nat} (h : Fi DA NB Y f S b) (hy : ∀ c, S c = true → 2000 ≤ c → Y' (DA + (b c - 1)) = Y (DA + (b c - 1))) : Fi DA NB Y' f S b :=
  ⟨h.ok, h.root, fun c ho hr hp => by
    rw [hy _ hp (parS_ok c ho hr).2.1]
    exact h.wrd c ho hr hp, h.cl, h.rng, h.inj⟩
/-- point, whether the slot is a node's own or not -/
theorem fpoint_any (b q p t m d gg lab B0 P0 M DA NB N K : Nat) (ln : Lm) (g : Cf.Ge) (Y : Nat → Nat → Int) (f : Nat → Int) (S : Nat → Bool) (B : Nat → Nat) (hF : Fi DA NB Y f S B) (c x : Nat) (ho : okS c = true) (hx : x < 65536) (hr : isR c = true ∨ S (parS c) = true) (hT : isR c = false → Has ln (DA + (B (parS c) - 1)))
    (hK : K < 600000000) (hg : GG g B0 P0 M DA NB N) (w : World) (h : Bo w w b q p t m d gg lab g B0 NB N ln Y K f) :
    Calls Tryz.prog 130 #[.pointer (some ⟨b, 0, none⟩), wyS c, .int .u16 x] w fun e w' => e = .returned (.int .i64 0) ∧ Bo w w' b q p t m d gg lab g B0 NB N ln (addY DA Y B c x) (K + 3) (addF f c x) := by
  cases hc : isR c
  · have hf : addF f c x = f := if_neg (by rw [hc]; decide)
    rw [hf]
    exact point_in (ln := ln) b q p t m d gg lab B0 P0 M DA NB N K g Y f S B hF c x ho hc (hr.resolve_left (by rw [hc]; decide)) hx (hT hc) hK hg w h
  · refine (point_root (ln := ln) b q p t m d gg lab B0 P0 M DA NB N K g Y f c x hc hx w h).mono ?_
    rintro e w' ⟨he, hB⟩
    have hY : addY DA Y B c x = Y := if_pos hc
    rw [hY]
    exact ⟨he, hB.mono (Lm.le_refl _) (by omega)⟩
/-- where a node's blocks stand: what it has, that its bits are set -/
structure Fu (B0 DA NB : Nat) (Y : Nat → Nat → Int) (f : Nat → Int) (S : Nat → Bool) (b : Nat → Nat) : Prop where
  fi : Fi DA NB Y f S b
  us : ∀ c, S c = true → bt Y B0 (b c - 1) = true
/-- from one state to a later one, of a body in its group -/
structure Ly (B0 TB DA NB : Nat) (L : List Nat) (D : Nat → Nat → Int) (Y0 : Nat → Nat → Int) (S0 : Nat → Bool) (b0 : Nat → Nat) (Y : Nat → Nat → Int) (f : Nat → Int) (S : Nat → Bool) (b : Nat → Nat) : Prop where
  fu : Fu B0 DA NB Y f S b
  ex : Ex B0 DA NB Y0 S0 b0 Y S b
theorem Ly.len (L : List Nat) (hL : L.length ≤ 28) (B0 TB DA : Nat) (b : Nat → Nat) (S : Nat → Bool) : (dl B0 TB DA b S L).length ≤ 30 := Nat.le_trans (dl_len B0 TB DA b S L) (by omega)
set_option maxHeartbeats 40000000 in
set_option maxRecDepth 100000 in
theorem lay_any (b q p t m d gg lab B0 P0 M DA NB N K TB : Nat) (g : Cf.Ge) (Y0 : Nat → Nat → Int) (f0 : Nat → Int) (S0 : Nat → Bool) (b0 : Nat → Nat) (L : List Nat) (D : Nat → Nat → Int) (hL : L.length ≤ 28) (hFu : Fu B0 DA NB Y0 f0 S0 b0) (c : Nat) (hc : c < 256) (hcL : ∀ i, i ≤ lenC c → chS c i ∈ L)
    (hK : K < 400000000) (hg : GG g B0 P0 M DA NB N) (w : World) (h : Bo w w b q p t m d gg lab g B0 NB N ⟨dl B0 TB DA b0 S0 L, D⟩ Y0 K f0) :
    Calls Tryz.prog 110 #[.pointer (some ⟨b, 0, none⟩), wyS c] w fun e w' =>
      (∃ Y f S B, e = .returned (.tuple #[.int .u16 (B c), .int .i64 0]) ∧ Bo w w' b q p t m d gg lab g B0 NB N ⟨dl B0 TB DA B S L, D⟩ Y (K + 1000) f ∧ Ly B0 TB DA NB L D Y0 S0 b0 Y f S B ∧ (∀ c', S c' = true ↔ S0 c' = true ∨ ∃ i, i ≤ lenC c ∧ c' = chS c i) ∧ (∀ i, i < 4 → f i = f0 i)) ∨
      (∃ Y f S B, e = .returned (.tuple #[.int .u16 0, .int .i64 10]) ∧ Bo w w' b q p t m d gg lab g B0 NB N ⟨dl B0 TB DA B S L, D⟩ Y (K + 1000) f ∧ Ly B0 TB DA NB L D Y0 S0 b0 Y f S B ∧ (∀ c', S c' = true → S0 c' = true ∨ ∃ i, i ≤ lenC c ∧ c' = chS c i) ∧ (∀ j, j < NB → bt Y B0 j = true) ∧ ∃ i, i ≤ lenC c ∧ S (chS c i) = false) := by
  have hn2 : lenC c ≤ 2 := by
    unfold lenC
    split
    · decide
    · split <;> decide
  have HST := Lib.hid (fun W => wyS_steps c hc W)
  have HFI := Lib.hid (fun i hi W => wyS_first c hc i hi W)
  have HOK := Lib.hid (fun i hi => chS_ok c hc i hi)
  have HLA := Lib.hid (chS_last c)
  have HB := Lib.hid h
  have HF0 := Lib.hid hFu
  have HG := Lib.hid hg
  have HCL := Lib.hid hcL
  have hN5 := hg.n512
  have hD : B0 < DA := by have := hg.bp; have := hg.pd; omega
  have HTA := Lib.hid (fun (ln : Lm) (K : Nat) (Y : Nat → Nat → Int) (i : Nat) hi hF hT hT2 hK W hW => gtake7 (ln := ln) q p t m d gg lab B0 P0 M DA NB N K g Y i ((i + 1 : Nat) : Int) (by omega) hi hF hT hT2 hK hg W hW)
  have HTN := Lib.hid (fun (ln : Lm) (K : Nat) (Y : Nat → Nat → Int) hF hK W hW => gtake_none (ln := ln) q p t m d gg lab B0 P0 M DA NB N K g Y hF hK hg W hW)
  obtain ⟨n, hn⟩ : ∃ n, lenC c = n := ⟨_, rfl⟩
  rw [hn] at HST HFI HOK HLA hn2 HCL ⊢
  obtain ⟨dW, hu, hd⟩ := Tryz.descWy
  have HU := Lib.hid hu
  have HD := Lib.hid hd
  obtain ⟨va, vb, vc, hwv⟩ : ∃ x y z : Int, wyS c = .agg (wyc x y z).toArray := ⟨_, _, _, rfl⟩
  rw [hwv] at HST HFI ⊢
  obtain ⟨ch, hch⟩ : ∃ ch, chS c = ch := ⟨_, rfl⟩
  rw [hch] at HFI HOK HLA HCL ⊢
  clear hu hd h hFu hg hcL hn hwv hc hch
  go_enter Tryz.func110, Tryz.ntmps110
  go_upto_region 1 with (first | (refine wpList_box_list (w := w) rfl 181 _ rfl (wyc va vb vc) rfl ?_; intro w1 F1 hb1 hz1; have HQ1 := Lib.hid hb1; clear hb1))
  obtain ⟨bW, hbW⟩ : ∃ x, w.heap.size = x := ⟨_, rfl⟩
  have HB1 := Lib.hid (HB.out.keep HQ1.out)
  have hW0 : w.heap.size ≤ bW := Nat.le_of_eq hbW
  rw [hbW] at F1
  try rw [hbW]
  clear hz1 HQ1 HB hbW
  have HR1 := Lib.hid F1.out.range0
  go_wp2_with (refine wpList_load_mid rfl 181 _ rfl bW 0 rfl (wyc va vb vc) dW HR1.out HU.out HD.out (sizeWy _ _ _) ?_)
  refine (HST.out w1).mono ?_
  rintro e w2 ⟨rfl, hb⟩
  have HB2 := Lib.hid (HB1.out.keep hb)
  have F2 := Lib.hid (F1.out.keep hb)
  clear hb HST HR1 F1 HB1
  have hn0 : (0 : Int) ≤ n := by omega
  have hn3 : (n : Int) ≤ 2 := by omega
  go_wp2_with fail
  go_loopw [6, 7, 8, 9, 10, 13] (fun v _ _ _ _ i wr => ∃ k : Nat, k ≤ n + 1 ∧ i = .int .i64 k ∧ ∃ x : Nat, v = .int .u16 x ∧ (∃ Y f S B, (1 ≤ k → x = B (ch (k - 1))) ∧ Bo w wr b q p t m d gg lab g B0 NB N ⟨dl B0 TB DA B S L, D⟩ Y (K + 300 * k) f ∧ Ly B0 TB DA NB L D Y0 S0 b0 Y f S B ∧ (∀ j, j < k → S (ch j) = true) ∧ (∀ c', S c' = true → S0 c' = true ∨ ∃ j, j < k ∧ c' = ch j) ∧ (∀ i, i < 4 → f i = f0 i)) ∧ Vl wr bW (wyc va vb vc)) (fun _ _ _ _ _ i _ => n + 1 - (Go.RowKit.intOf i).toNat)
  case atStart => exact ⟨0, Nat.zero_le _, rfl, 0, rfl, ⟨Y0, f0, S0, b0, fun h => absurd h (by decide), HB2.out, ⟨HF0.out, Ex.refl _ _ _ _ _ _⟩, fun j hj => absurd hj (Nat.not_lt_zero j), fun c' h => .inl h, fun _ _ => rfl⟩, F2.out⟩
  case round =>
    obtain ⟨k, hk, rfl, x, rfl, ⟨Y, f, S, B, hx, hB, hLy, hS, hSc, hf4⟩, hF⟩ := hrel
    have HX := Lib.hid hx
    have HBr := Lib.hid hB
    have HLy := Lib.hid hLy
    have HS := Lib.hid hS
    have HSc := Lib.hid hSc
    have Hf4 := Lib.hid hf4
    have HFr := Lib.hid hF
    clear hx hB hLy hS hSc hf4 hF HB2 F2
    by_cases hlt : k < n + 1
    · have hk0 : (0 : Int) ≤ k := by omega
      have hkk : (k : Int) < (n : Int) + 1 := by omega
      have hk2 : (k : Int) ≤ 2 := by omega
      have hkn : k ≤ n := by omega
      obtain ⟨hok, hpar⟩ := HOK.out k hkn
      have hparS : isR (ch k) = true ∨ S (parS (ch k)) = true := hpar.imp id fun hh => by
        rw [hh.2]
        exact HS.out (k - 1) (by omega)
      have HFk := Lib.hid (HFI.out k hkn)
      have HAt := Lib.hid (fun W hW => at_slot (ln := ⟨dl B0 TB DA B S L, D⟩) b q p t m d gg lab B0 P0 M DA NB N (K + 300 * k) g Y f S B HLy.out.fu.fi (ch k) hok (by omega) HG.out W hW)
      have HPt := Lib.hid (fun ln Y1 xx K' hF hT hx hK' W hW => fpoint_any b q p t m d gg lab B0 P0 M DA NB N K' ln g Y1 f S B hF (ch k) xx hok hx hparS hT hK' HG.out W hW)
      obtain ⟨pa, pb, pc, hpw⟩ : ∃ x y z : Int, wyS (ch k) = .agg (wyc x y z).toArray := ⟨_, _, _, rfl⟩
      rw [hpw] at HFk HAt HPt
      have hr2 := HFr.out.range0
      have HR2 := Lib.hid hr2
      have HOKk := Lib.hid hok
      have HPAR := Lib.hid hpar
      have HPS := Lib.hid hparS
      clear hpw hr2 hok hpar hparS
      go_wp2_with (refine wpList_load_mid rfl 181 _ rfl bW 0 rfl (wyc va vb vc) dW HR2.out HU.out HD.out (sizeWy _ _ _) ?_)
      refine (HFk.out wr).mono ?_
      rintro e w3 ⟨rfl, hb⟩
      have HB3 := Lib.hid (HBr.out.keep hb)
      have F3 := Lib.hid (HFr.out.keep hb)
      have hs3 : w.heap.size ≤ w3.heap.size := HB3.out.kf.size
      clear hb HFk HR2 HBr HFr
      go_upto_region 6 with (first | (refine wpList_alloc_list (w := w3) rfl 181 rfl (wyc 0 0 0) Tryz.zeroWy ?_; intro w4 F4 hb4 hz4; simp only [Act.put, List.getElem_toArray, List.getElem_cons_zero, List.getElem_cons_succ, List.setIfInBounds_toArray, List.set_cons_zero, List.set_cons_succ]; refine wpList_store_list rfl 181 (.tmp 8) (.tmp 19) rfl w3.heap.size (wyc 0 0 0) (wyc pa pb pc) rfl rfl F4.out rfl (sizeWy _ _ _) (wyc_one _ _ _) ?_; intro w5 F5 HK5; have HQ4 := Lib.hid hb4; clear hb4 F4))
      obtain ⟨bP, hbP⟩ : ∃ x, w3.heap.size = x := ⟨_, rfl⟩
      have hP0 : w.heap.size ≤ bP := by omega
      have hF3l := F3.out.lt
      have HB5 := Lib.hid ((HB3.out.keep HQ4.out).new HK5.out (by omega))
      have G5 := Lib.hid ((F3.out.keep HQ4.out).kp HK5.out (by omega) (by omega))
      rw [hbP] at F5 hF3l
      try rw [hbP]
      clear HK5 HQ4 HB3 F3 hbP hz4 hs3
      have HR5 := Lib.hid F5.out.range0
      go_wp2_with (refine wpList_load_mid rfl 181 _ rfl bP 0 rfl (wyc pa pb pc) dW HR5.out HU.out HD.out (sizeWy _ _ _) ?_)
      refine (HAt.out w5 HB5.out.self).mono ?_
      rintro e w6 ⟨rfl, hB6⟩
      have HB6 := Lib.hid (HB5.out.trans hB6)
      have hnW : bW ∉ [b, q, p, t, m, d, gg] := HB5.out.nin hW0
      have hnP : bP ∉ [b, q, p, t, m, d, gg] := HB5.out.nin hP0
      have HNW : Hid (bW ∉ [t, m, d, gg, b]) := Lib.hid (by simp only [List.mem_cons, List.not_mem_nil, or_false, not_or] at hnW ⊢; omega)
      have HNP : Hid (bP ∉ [t, m, d, gg, b]) := Lib.hid (by simp only [List.mem_cons, List.not_mem_nil, or_false, not_or] at hnP ⊢; omega)
      have HNW4 : Hid (bW ∉ [t, m, d, gg]) := Lib.hid (by simp only [List.mem_cons, List.not_mem_nil, or_false, not_or] at hnW ⊢; omega)
      have HNP4 : Hid (bP ∉ [t, m, d, gg]) := Lib.hid (by simp only [List.mem_cons, List.not_mem_nil, or_false, not_or] at hnP ⊢; omega)
      have G6 := Lib.hid (G5.out.kf hB6.kf HNW.out)
      have F6 := Lib.hid (F5.out.kf hB6.kf HNP.out)
      clear hB6 HAt HB5 G5 F5 HR5 hnW hnP
      cases hsc : S (ch k)
      · -- it lacks
        have hv : vS S B (ch k) = 0 := by unfold vS; rw [hsc]; rfl
        rw [hv]
        have HSC := Lib.hid hsc
        clear hv hsc
        have hqe := HB6.out.bd.c 0 _ rfl
        rcases least_free (bt Y B0) NB with hall | ⟨i, hi, hfree, hlow⟩
        · have HT := Lib.hid (HTN.out ⟨dl B0 TB DA B S L, D⟩ (K + 300 * k + 2) Y hall (by omega))
          have HAll := Lib.hid hall
          clear hall
          go_wp2_with fail
          refine (HT.out w6 HB6.out.gr).mono ?_
          rintro e w7 ⟨rfl, hG, hkk7⟩
          have HB7 := Lib.hid (HB6.out.call hG hkk7)
          clear hG hkk7 HT HB6 hqe
          go_wp2_with fail
          go_ret2
          exact .inr ⟨Y, f, S, B, rfl, HB7.out.mono (Lm.le_refl _) (by omega), HLy.out, fun c' hc' => (HSc.out c' hc').imp id fun ⟨j, hj, e⟩ => ⟨j, by omega, e⟩, HAll.out, k, hkn, HSC.out⟩
        · obtain ⟨Y1, hY1⟩ : ∃ Y1, vput (DA + i) (fun _ => 0) (setV Y B0 i true) = Y1 := ⟨_, rfl⟩
          have hadd := add_ex HLy.out.fu.fi HB6.out.gr.rd.vb hD (ch k) HOKk.out HSC.out HPS.out i hi hN5 hfree HLy.out.fu.us Y1 hY1
          have hle : Lm.Le ⟨dl B0 TB DA B S L, D⟩ ⟨dl B0 TB DA (addB B (ch k) (i + 1)) (addN S (ch k)) L, D⟩ := dl_le L D hadd.2.1.n hadd.2.1.b
          have hmem : DA + i ∈ dl B0 TB DA (addB B (ch k) (i + 1)) (addN S (ch k)) L := by
            have := dl_mem B0 TB DA (addB B (ch k) (i + 1)) (addN S (ch k)) L (ch k) (okS_lt HOKk.out) (HCL.out k hkn) (addN_self S _)
            rwa [addB_self, show i + 1 - 1 = i by omega] at this
          have hlen := Ly.len L hL B0 TB DA (addB B (ch k) (i + 1)) (addN S (ch k))
          have hT := HTA.out ⟨dl B0 TB DA (addB B (ch k) (i + 1)) (addN S (ch k)) L, D⟩ (K + 300 * k + 2) Y i hi (fr_of hi hfree hlow) ⟨List.mem_cons_self .., hlen⟩ ⟨hmem, hlen⟩ (by omega)
          rw [hY1] at hT
          have HT := Lib.hid hT
          have hFi1 : Fi DA NB Y1 f S B := HLy.out.fu.fi.congr fun c' hc' _ => by
            have hne : B c' ≠ i + 1 := fun he => by
              have := HLy.out.fu.us c' hc'
              rw [he, show i + 1 - 1 = i by omega, hfree] at this
              cases this
            have hr := HLy.out.fu.fi.rng c' hc'
            rw [← hY1, vput_ne _ _ (by omega), setV_ne _ _ _ _ (by omega)]
          have hTp : isR (ch k) = false → Has ⟨dl B0 TB DA (addB B (ch k) (i + 1)) (addN S (ch k)) L, D⟩ (DA + (B (parS (ch k)) - 1)) := fun hr => by
            have hp := HPAR.out.resolve_left (by rw [hr]; decide)
            have hps := HPS.out.resolve_left (by rw [hr]; decide)
            have hne : parS (ch k) ≠ ch k := (parS_ok _ HOKk.out hr).2.2
            have := dl_mem B0 TB DA (addB B (ch k) (i + 1)) (addN S (ch k)) L (parS (ch k)) (okS_lt (parS_ok _ HOKk.out hr).1) (by rw [hp.2]; exact HCL.out (k - 1) (by omega)) (addN_old S _ hps)
            rw [addB_ne B _ hne] at this
            exact ⟨this, hlen⟩
          have HPn := Lib.hid (HPt.out ⟨dl B0 TB DA (addB B (ch k) (i + 1)) (addN S (ch k)) L, D⟩ Y1 (i + 1) (K + 300 * k + 2 + 201) hFi1 hTp (by omega) (by omega))
          have HLe := Lib.hid hle
          have HAdd := Lib.hid hadd
          obtain ⟨xi, hxi⟩ : ∃ z : Int, ((i + 1 : Nat) : Int) = z := ⟨_, rfl⟩
          rw [hxi] at HT HPn
          have HXI := Lib.hid hxi
          have hx0 : ¬ xi = 0 := by omega
          clear hadd hle hmem hlen hT hFi1 hTp hxi hfree hlow hY1
          go_wp2_with fail
          refine (HT.out w6 (HB6.out.mono HLe.out (Nat.le_refl _)).gr).mono ?_
          rintro e w7 ⟨rfl, hG, hkk7⟩
          have HB7 := Lib.hid ((HB6.out.mono HLe.out (Nat.le_refl _)).call hG hkk7)
          have G7 := Lib.hid (G6.out.kf hkk7 HNW4.out)
          have F7 := Lib.hid (F6.out.kf hkk7 HNP4.out)
          clear hG hkk7 HT HB6 hqe G6 F6
          have HR7 := Lib.hid F7.out.range0
          go_wp2_with (refine wpList_load_mid rfl 181 _ rfl bP 0 rfl (wyc pa pb pc) dW HR7.out HU.out HD.out (sizeWy _ _ _) ?_)
          refine (HPn.out w7 HB7.out.self).mono ?_
          rintro e w8 ⟨rfl, hB8⟩
          have HB8 := Lib.hid (HB7.out.trans hB8)
          have G8 := Lib.hid (G7.out.kf hB8.kf HNW.out)
          clear hB8 HPn HB7 G7 F7 HR7
          go_wp2_with fail
          go_roundw
          case rel =>
            refine ⟨k + 1, by omega, by go_num, i + 1, by rw [HXI.out], ⟨_, _, _, _, fun _ => ?_, HB8.out.mono (Lm.le_refl _) (by omega), ⟨⟨HAdd.out.1, HAdd.out.2.2⟩, HLy.out.ex.trans hD HAdd.out.2.1 HAdd.out.1.rng HAdd.out.1.inj⟩, fun j hj => ?_, fun c' hc' => ?_, fun j hj => ?_⟩, G8.out⟩
            · rw [show k + 1 - 1 = k by omega, addB_self]
            · by_cases e : j = k
              · rw [e]
                exact addN_self S _
              · exact addN_old S _ (HS.out j (by omega))
            · rcases addN_of S hc' with rfl | hc'
              · exact .inr ⟨k, by omega, rfl⟩
              · exact (HSc.out c' hc').imp id fun ⟨j, hj, e⟩ => ⟨j, by omega, e⟩
            · unfold addF
              split
              · rename_i hcr
                have := (rtI_lt _ hcr).1
                show (if j = rtI (ch k) then _ else f j) = f0 j
                rw [if_neg (by omega)]
                exact Hf4.out j hj
              · exact Hf4.out j hj
          case measure => simp [Go.RowKit.intOf]; omega
      · have hv : vS S B (ch k) = B (ch k) := by unfold vS; rw [hsc]; rfl
        have hpos := (HLy.out.fu.fi.rng _ hsc).1
        rw [hv]
        have HSC := Lib.hid hsc
        obtain ⟨y, hy⟩ : ∃ y, B (ch k) = y := ⟨_, rfl⟩
        rw [hy] at hpos ⊢
        have HY := Lib.hid hy
        obtain ⟨yi, hyi⟩ : ∃ z : Int, (y : Int) = z := ⟨_, rfl⟩
        have hy0 : 0 < yi := by omega
        rw [hyi]
        have HYI := Lib.hid hyi
        clear hv hsc hy hyi hpos
        go_wp2_with fail
        go_roundw
        case rel =>
          refine ⟨k + 1, by omega, by go_num, y, by rw [HYI.out], ⟨Y, f, S, B, fun _ => ?_, HB6.out.mono (Lm.le_refl _) (by omega), HLy.out, fun j hj => ?_, fun c' hc' => (HSc.out c' hc').imp id fun ⟨j, hj, e⟩ => ⟨j, by omega, e⟩, Hf4.out⟩, G6.out⟩
          · rw [show k + 1 - 1 = k by omega]
            exact HY.out.symm
          · by_cases e : j = k
            · rw [e]
              exact HSC.out
            · exact HS.out j (by omega)
        case measure => simp [Go.RowKit.intOf]; omega
    · obtain rfl : k = n + 1 := by omega
      go_wp2_with fail
      go_ret2
      refine .inl ⟨Y, f, S, B, ?_, HBr.out.mono (Lm.le_refl _) (by omega), HLy.out, fun c' => ⟨fun hc' => (HSc.out c' hc').imp id fun ⟨j, hj, e⟩ => ⟨j, by omega, e⟩, fun hc' => ?_⟩, Hf4.out⟩
      · have := HX.out (by omega)
        rw [show n + 1 - 1 = n by omega, HLA.out] at this
        rw [this]
        rfl
      · rcases hc' with hc' | ⟨j, hj, rfl⟩
        · exact HLy.out.ex.n c' hc'
        · exact HS.out j (by omega)
end Go.Proofs.YtbnpgkclnebnmaaGreat

namespace Go.Proofs.YtbnpgkclnebnmaaGreat
set_option linter.unusedSimpArgs false
set_option linter.unusedVariables false
open Go.RowKit Go.Maps

variable {ln : Lm}
theorem wayto_slot (c : Nat) (hc : c < 256) (x : Int) (hx : x = c) (w : World) : Calls Tryz.prog 83 #[.int .i64 x] w fun e w' => e = .returned (wyS c) ∧ Below w.heap.size w w' := by
  subst hx
  by_cases h6 : c < 6
  · have h := wayto_dir c (by omega) (by omega) w
    have hw := wy_root c ((isR_iff c).2 (.inl h6))
    unfold wyS
    rw [hw.2.1, hw.2.2]
    unfold wy1
    rw [if_pos h6]
    exact h
  · by_cases h3 : c < 38
    · have h := wayto_sin c (by omega) (by omega) w
      obtain ⟨e1, e2, e3, -⟩ := wy_two c ((okS_iff c).2 (by omega)) ((isR_no c).2 (by omega)) (by omega)
      have e4 : wy1 c = 7 := by unfold wy1; rw [if_neg h6, if_pos (.inl h3)]
      have e5 : ((wy2 c : Nat) : Int) = c - 6 + 1 := by unfold wy2; rw [if_neg (by omega), if_pos h3]; omega
      unfold wyS
      rw [e3, e4, e5]
      exact h
    · have h := wayto_dbl c (by omega) (by omega) w
      obtain ⟨e1, e2, e3, -⟩ := wy_three c ⟨by omega, by omega⟩
      have e4 : ((wy2 c : Nat) : Int) = (c - 6 - 32) / 32 + 1 := by rw [e2]; omega
      have e5 : ((wy3 c : Nat) : Int) = (c - 6) % 32 + 1 := by rw [e3]; omega
      unfold wyS
      rw [e1, e4, e5]
      exact h
/-- bytes in memory: n of them, from a place on -/
structure Sb (w : World) (sb so n : Nat) (s : Nat → Int) : Prop where
  lt : sb < w.heap.size
  c : ∀ j, j < n → w.cell? ⟨sb, so + j, none⟩ = some (.int .u8 (s j))
theorem Sb.keep {w w' : World} {sb so n : Nat} {s : Nat → Int} (h : Sb w sb so n s) (hb : Below w.heap.size w w') : Sb w' sb so n s := ⟨Nat.lt_of_lt_of_le h.lt hb.size, fun j hj => (hb.cell (p := ⟨sb, so + j, none⟩) h.lt).trans (h.c j hj)⟩
theorem Sb.kf {w w' : World} {L : List Nat} {sb so n : Nat} {s : Nat → Int} (h : Sb w sb so n s) (hk : Kf w w' L) (hn : sb ∉ L) : Sb w' sb so n s := ⟨Nat.lt_of_lt_of_le h.lt hk.size, fun j hj => (hk.cell (p := ⟨sb, so + j, none⟩) h.lt hn).trans (h.c j hj)⟩
theorem Sb.kp {w w' : World} {x sb so n : Nat} {s : Nat → Int} (h : Sb w sb so n s) (hk : Kp w w' x x) (hn : sb ≠ x) : Sb w' sb so n s := ⟨Nat.lt_of_lt_of_le h.lt hk.size, fun j hj => (hk.cell (p := ⟨sb, so + j, none⟩) h.lt hn hn).trans (h.c j hj)⟩
theorem Sb.drop {w : World} {sb so n : Nat} {s : Nat → Int} (h : Sb w sb so n s) (k : Nat) : Sb w sb (so + k) (n - k) (fun j => s (k + j)) := ⟨h.lt, fun j hj => by rw [Nat.add_assoc]; exact h.c (k + j) (by omega)⟩
set_option maxHeartbeats 40000000 in
set_option maxRecDepth 100000 in
theorem put_any8 (b q p t m d gg lab B0 P0 M DA NB N K TB : Nat) (g : Cf.Ge) (Y0 : Nat → Nat → Int) (f0 : Nat → Int) (S0 : Nat → Bool) (b0 : Nat → Nat) (L : List Nat) (D : Nat → Nat → Int) (hL : L.length ≤ 28) (hFu : Fu B0 DA NB Y0 f0 S0 b0) (o : Nat) (ho : o < 16384) (hcL : ∀ i, i ≤ lenC (o / 64) → chS (o / 64) i ∈ L)
    (sb so n cap : Nat) (s : Nat → Int) (hs : ∀ j, j < n → 0 ≤ s j ∧ s j < 256) (hn : 0 < n) (hn2 : n < 100000) (hK : K < 300000000) (hg : GG g B0 P0 M DA NB N) (w : World) (h : Bo w w b q p t m d gg lab g B0 NB N ⟨dl B0 TB DA b0 S0 L, D⟩ Y0 K f0) (hsb : Sb w sb so n s) (hsn : sb ∉ [t, m, d, gg, b]) :
    Calls Tryz.prog 74 #[.pointer (some ⟨b, 0, none⟩), .int .i64 o, .slice (some ⟨sb, so, none⟩) n cap] w fun e w' =>
      (∃ Y f S B, e = .returned (.tuple #[.int .i64 (Nat.min n (64 - o % 64)), .int .i64 0]) ∧ Bo w w' b q p t m d gg lab g B0 NB N ⟨dl B0 TB DA B S L, D⟩ (vput (DA + (B (o / 64) - 1)) (upd (Y (DA + (B (o / 64) - 1))) (o % 64) (Nat.min n (64 - o % 64)) s) Y) (K + 1001) f ∧ Ly B0 TB DA NB L D Y0 S0 b0 Y f S B ∧ (∀ c', S c' = true ↔ S0 c' = true ∨ ∃ i, i ≤ lenC (o / 64) ∧ c' = chS (o / 64) i) ∧ (∀ i, i < 4 → f i = f0 i)) ∨
      (∃ Y f S B, e = .returned (.tuple #[.int .i64 0, .int .i64 10]) ∧ Bo w w' b q p t m d gg lab g B0 NB N ⟨dl B0 TB DA B S L, D⟩ Y (K + 1001) f ∧ Ly B0 TB DA NB L D Y0 S0 b0 Y f S B ∧ (∀ c', S c' = true → S0 c' = true ∨ ∃ i, i ≤ lenC (o / 64) ∧ c' = chS (o / 64) i) ∧ (∀ j, j < NB → bt Y B0 j = true) ∧ ∃ i, i ≤ lenC (o / 64) ∧ S (chS (o / 64) i) = false) := by
  have hc : o / 64 < 256 := by omega
  have HWT := Lib.hid (fun x hx W => wayto_slot (o / 64) hc x hx W)
  have HLA := Lib.hid (fun W hW => lay_any b q p t m d gg lab B0 P0 M DA NB N K TB g Y0 f0 S0 b0 L D hL hFu (o / 64) hc hcL (by omega) hg W hW)
  have HCc := Lib.hid (hcL (lenC (o / 64)) (Nat.le_refl _))
  rw [chS_last] at HCc
  have HSl := Lib.hid (chS_last (o / 64))
  have HB := Lib.hid h
  have HS := Lib.hid hsb
  have HSN := Lib.hid hsn
  have Hs := Lib.hid hs
  have HG := Lib.hid hg
  have hN5 := hg.n512
  obtain ⟨c, hcc⟩ : ∃ c, o / 64 = c := ⟨_, rfl⟩
  obtain ⟨r, hr⟩ : ∃ r, o % 64 = r := ⟨_, rfl⟩
  have hr64 : r < 64 := by omega
  rw [hcc] at HWT HLA HCc HSl ⊢
  rw [hr]
  obtain ⟨oi, hoi⟩ : ∃ z : Int, (o : Int) = z := ⟨_, rfl⟩
  have ho0 : 0 ≤ oi := by omega
  have ho1 : oi < 16384 := by omega
  have HQ : Hid (oi / 64 = (c : Int)) := Lib.hid (by omega)
  have HR : Hid (oi % 64 = (r : Int)) := Lib.hid (by omega)
  obtain ⟨va, vb, vc, hwv⟩ : ∃ x y z : Int, wyS c = .agg (wyc x y z).toArray := ⟨_, _, _, rfl⟩
  rw [hwv] at HWT HLA
  rw [hoi]
  clear hc h hsb hsn hs hFu hcL hg hcc hr hoi ho hwv
  go_enter Tryz.func74, Tryz.ntmps74
  go_wp2_with fail
  refine (HWT.out _ HQ.out w).mono ?_
  rintro e w1 ⟨rfl, hb⟩
  have HB1 := Lib.hid (HB.out.keep hb)
  have HS1 := Lib.hid (HS.out.keep hb)
  clear hb HWT HS HB
  go_wp2_with fail
  refine (HLA.out w1 HB1.out.self).mono ?_
  rintro e w2 (⟨Y, f, S, B, rfl, hB2, hLy, hSc, hf4⟩ | ⟨Y, f, S, B, rfl, hB2, hLy, hSc, hall, hno⟩)
  · have HB2 := Lib.hid (HB1.out.trans hB2)
    have HS2 := Lib.hid (HS1.out.kf hB2.kf HSN.out)
    have HLy := Lib.hid hLy
    have HSc := Lib.hid hSc
    have Hf4 := Lib.hid hf4
    have hSc1 : S c = true := (hSc c).2 (.inr ⟨lenC c, Nat.le_refl _, HSl.out.symm⟩)
    obtain ⟨hy1, hy2⟩ := hLy.fu.fi.rng c hSc1
    have hT : Has ⟨dl B0 TB DA B S L, D⟩ (DA + (B c - 1)) := ⟨dl_mem B0 TB DA B S L c (okS_lt (hLy.fu.fi.ok c hSc1)) HCc.out hSc1, Ly.len L hL B0 TB DA B S⟩
    obtain ⟨y, hy⟩ : ∃ y, B c = y := ⟨_, rfl⟩
    rw [hy] at hy1 hy2 hT
    have hby := hB2.gr.rd.vb (DA + (y - 1))
    have HGt := Lib.hid (fun W hW => gget_in (ln := ⟨dl B0 TB DA B S L, D⟩) q p t m d gg lab B0 P0 M DA NB N (K + 1000) g Y y hy1 hy2 (by omega) HG.out W hW)
    obtain ⟨V, hV⟩ : ∃ V, Y (DA + (y - 1)) = V := ⟨_, rfl⟩
    rw [hV] at hby HGt
    obtain ⟨mn, hmn⟩ : ∃ mn, Nat.min n (64 - r) = mn := ⟨_, rfl⟩
    have hmn1 : mn ≤ n ∧ mn ≤ 64 - r := ⟨by rw [← hmn]; exact Nat.min_le_left _ _, by rw [← hmn]; exact Nat.min_le_right _ _⟩
    obtain ⟨V2, hV2⟩ : ∃ V2, upd V r mn s = V2 := ⟨_, rfl⟩
    have hby2 : Byt V2 := by
      rw [← hV2]
      intro j hj
      unfold upd
      split
      · exact Hs.out _ (by omega)
      · exact hby j hj
    have HPu := Lib.hid (fun W hW => gput_in (ln := ⟨dl B0 TB DA B S L, D⟩) q p t m d gg lab B0 P0 M DA NB N (K + 1001) g Y y hy1 hy2 V2 hby2 hT HG.out W hW)
    obtain ⟨yi, hyi⟩ : ∃ z : Int, (y : Int) = z := ⟨_, rfl⟩
    rw [hy]
    rw [hyi] at HGt HPu ⊢
    have HY := Lib.hid hy
    have HV := Lib.hid hV
    have HV2 := Lib.hid hV2
    have HMn := Lib.hid hmn
    clear hB2 hLy hSc hf4 hSc1 hT hy hby hV hV2 hby2 hyi hmn HLA HS1 HB1
    have hqe := HB2.out.bd.c 0 _ rfl
    go_wp2_with fail
    refine (HGt.out w2 HB2.out.gr).mono ?_
    rintro e w3 ⟨rfl, hG, hkk⟩
    have HB3 := Lib.hid (HB2.out.call hG hkk)
    have HS3 := Lib.hid (HS2.out.kf hkk (fun ha => HSN.out (by simp only [List.mem_cons, List.not_mem_nil, or_false] at ha ⊢; omega)))
    have hs3 : w.heap.size ≤ w3.heap.size := HB3.out.kf.size
    clear hG hkk HGt HB2 HS2 hqe
    go_upto_region 5 with (first | (refine wpList_alloc_byts (w := w3) rfl 59 64 rfl Tryz.zero36 ?_; intro w5 F5 hb5 hz5; simp only [Act.put, List.getElem_toArray, List.getElem_cons_zero, List.getElem_cons_succ, List.setIfInBounds_toArray, List.set_cons_zero, List.set_cons_succ]; refine wpList_store_blk rfl (.tmp 10) (.tmp 30) rfl w3.heap.size 0 64 (fun _ => 0) V F5.out (by omega) rfl rfl ?_; intro w6 F6 HK6; have HB5 := Lib.hid hb5; clear hb5 F5))
    obtain ⟨bB, hbB⟩ : ∃ x, w3.heap.size = x := ⟨_, rfl⟩
    have hB0 : w.heap.size ≤ bB := by omega
    have hSl := HS3.out.lt
    have HB6 := Lib.hid ((HB3.out.keep HB5.out).new HK6.out (by omega))
    have HS6 := Lib.hid ((HS3.out.keep HB5.out).kp HK6.out (by omega))
    have F6' := Lib.hid (F6.out.congr (fun j hj => upd_zero 64 V j hj _))
    rw [hbB] at F6' hSl
    try rw [hbB]
    clear F6 HK6 HB5 HB3 HS3 hbB hz5 hs3
    go_upto_region 7 with fail
    have hRr := HR.out
    have hr0 : (0 : Int) ≤ r := by omega
    have hr1 : (r : Int) < 64 := by omega
    have hr2 : (r : Int) ≤ 64 := by omega
    have hcp := run_copy_mid (P := Tryz.prog) w6 24 24 3 5 1 bB r (64 - r) (64 - r) (some ⟨sb, so, none⟩) n cap (byts mn s) Tryz.sl34 Tryz.isize5 (by rw [byts_len, Nat.mul_one]; exact HMn.out.symm) (fun _ => ⟨⟨sb, so, none⟩, rfl, fun j v hj => by
      obtain ⟨h1, rfl⟩ := byts_of hj
      rw [Addr.add_mid]
      exact HS6.out.c j (by omega)⟩) (by rw [byts_len]; exact F6'.out.there r mn (by omega)) (byts_one _ _)
    rw [HMn.out] at hcp
    go_upto_region 8 with fail
    clear hcp hRr hr0 hr1 hr2
    have hk7 : Kp w6 (w6.setCells bB r (byts mn s)) bB bB := (Kp.refl w6 bB bB).setCells bB r (.inl rfl) _
    have F7 := Lib.hid (F6'.out.store r mn (by omega) s)
    rw [HV2.out] at F7
    have HB7 := Lib.hid (HB6.out.new hk7 hB0)
    obtain ⟨w7, hw7⟩ : ∃ x, w6.setCells bB r (byts mn s) = x := ⟨_, rfl⟩
    rw [hw7] at F7 HB7 ⊢
    clear hw7 hk7 F6' HB6 HS6
    have hmi : (0 : Int) ≤ mn := by omega
    refine wp_region_held (S := fun W => Fl W bB 64 V2 ∧ W.cell? ⟨b, 0, none⟩ = some (.pointer (some ⟨q, 0, none⟩))) (by kernel_rfl) ?_
    change wpAnyH _ _ _ _ _ _ _ _ (World.drew _)
    have hS0 : (fun W => Fl W bB 64 V2 ∧ W.cell? ⟨b, 0, none⟩ = some (.pointer (some ⟨q, 0, none⟩))) w7.drew := ⟨F7.out.below (Below.refl _ _).drew F7.out.lt, (HB7.out.keep (Below.refl _ _).drew).bd.c 0 _ rfl⟩
    have HB8 := Lib.hid (HB7.out.keep (Below.refl _ _).drew)
    obtain ⟨w8, hw8⟩ : ∃ x, World.drew w7 = x := ⟨_, rfl⟩
    rw [hw8] at hS0 HB8 ⊢
    clear hw8
    refine wpAnyH_take (i := 0) (v := ?_) rfl (by kernel_rfl) (by kernel_rfl) (by kernel_rfl) (fun _ _ _ h => h) (Or.inl ⟨by rfl, ?_⟩) hS0 ?_
    rotate_left 1
    · intro W hW
      go_simp
      try with_reducible rfl
    simp only [Act.put, List.getElem_toArray, List.getElem_cons_zero, List.getElem_cons_succ, List.setIfInBounds_toArray, List.set_cons_zero, List.set_cons_succ]
    refine wpAnyH_take (i := 1) (v := ?_) rfl (by kernel_rfl) (by kernel_rfl) (by kernel_rfl) (fun _ _ _ h => h) (Or.inl ⟨by rfl, ?_⟩) hS0 ?_
    rotate_left 1
    · intro W hW
      go_simp
      try with_reducible rfl
    simp only [Act.put, List.getElem_toArray, List.getElem_cons_zero, List.getElem_cons_succ, List.setIfInBounds_toArray, List.set_cons_zero, List.set_cons_succ]
    refine wpAnyH_take (i := 2) (v := ?_) rfl (by kernel_rfl) (by kernel_rfl) (by kernel_rfl) (fun _ _ _ h => h) (Or.inl ⟨by rfl, ?_⟩) hS0 ?_
    rotate_left 1
    · intro W hW
      go_simp
      try with_reducible rfl
    simp only [Act.put, List.getElem_toArray, List.getElem_cons_zero, List.getElem_cons_succ, List.setIfInBounds_toArray, List.set_cons_zero, List.set_cons_succ]
    refine wpAnyH_take (i := 3) (v := ?_) rfl (by kernel_rfl) (by kernel_rfl) (by kernel_rfl) (fun _ _ _ h => h) (Or.inl ⟨by rfl, ?_⟩) hS0 ?_
    rotate_left 1
    · intro W hW
      go_simp
      try with_reducible rfl
    simp only [Act.put, List.getElem_toArray, List.getElem_cons_zero, List.getElem_cons_succ, List.setIfInBounds_toArray, List.set_cons_zero, List.set_cons_succ]
    refine wpAnyH_take (i := 4) (v := ?_) rfl (by kernel_rfl) (by kernel_rfl) (by kernel_rfl) (fun _ _ _ h => h) (Or.inl ⟨by rfl, ?_⟩) hS0 ?_
    rotate_left 1
    · intro W hW
      have c0 := hW.2
      go_simp
      try with_reducible rfl
    simp only [Act.put, List.getElem_toArray, List.getElem_cons_zero, List.getElem_cons_succ, List.setIfInBounds_toArray, List.set_cons_zero, List.set_cons_succ]
    refine wpAnyH_take (i := 5) (v := ?_) rfl (by kernel_rfl) (by kernel_rfl) (by kernel_rfl) (fun _ _ _ h => h) (Or.inl ⟨by rfl, ?_⟩) hS0 ?_
    rotate_left 1
    · intro W hW
      go_simp
      try with_reducible rfl
    simp only [Act.put, List.getElem_toArray, List.getElem_cons_zero, List.getElem_cons_succ, List.setIfInBounds_toArray, List.set_cons_zero, List.set_cons_succ]
    refine wpAnyH_take (i := 6) (v := .agg (byts 64 V2).toArray) rfl (by kernel_rfl) (by kernel_rfl) (by kernel_rfl) (fun _ _ _ h => h) ?_ hS0 ?_
    · exact yieldsIf_load_mid (by rfl) 59 (.tmp 10) rfl bB 0 rfl (byts 64 V2) (.array 64 5) (fun W hW => hW.1.range0) Tryz.arr36 rfl (size36 _)
    simp only [Act.put, List.getElem_toArray, List.getElem_cons_zero, List.getElem_cons_succ, List.setIfInBounds_toArray, List.set_cons_zero, List.set_cons_succ]
    refine wpAnyH_ready (rs := [7]) (by kernel_rfl) (by simp) (AllReadyH.cons rfl (fun KK hKK => ?_) AllReadyH.nil)
    go_simp
    refine (HPu.out w8 HB8.out.gr).mono ?_
    rintro e w9 ⟨rfl, hG, hkk⟩
    have HB9 := Lib.hid (HB8.out.call hG hkk)
    replace hS0 : (fun W => Fl W bB 64 V2 ∧ W.cell? ⟨b, 0, none⟩ = some (.pointer (some ⟨q, 0, none⟩))) w9 := ⟨hS0.1.kf hkk (fun ha => by have := HB8.out.nin hB0; simp only [List.mem_cons, List.not_mem_nil, or_false, not_or] at this ha; omega), HB9.out.bd.c 0 _ rfl⟩
    clear hG hkk
    refine hKK _ _ hS0 ?_
    intro _
    clear hKK KK
    try simp only [Act.put, List.getElem_toArray, List.getElem_cons_zero, List.getElem_cons_succ, List.setIfInBounds_toArray, List.set_cons_zero, List.set_cons_succ]
    refine wpAnyH_take (i := 8) (v := ?_) rfl (by kernel_rfl) (by kernel_rfl) (by kernel_rfl) (fun _ _ _ h => h) (Or.inl ⟨by rfl, ?_⟩) hS0 ?_
    rotate_left 1
    · intro W hW
      go_simp
      try with_reducible rfl
    simp only [Act.put, List.getElem_toArray, List.getElem_cons_zero, List.getElem_cons_succ, List.setIfInBounds_toArray, List.set_cons_zero, List.set_cons_succ]
    refine wpAnyH_take (i := 9) (v := ?_) rfl (by kernel_rfl) (by kernel_rfl) (by kernel_rfl) (fun _ _ _ h => h) (Or.inl ⟨by rfl, ?_⟩) hS0 ?_
    rotate_left 1
    · intro W hW
      go_simp
      try with_reducible rfl
    simp only [Act.put, List.getElem_toArray, List.getElem_cons_zero, List.getElem_cons_succ, List.setIfInBounds_toArray, List.set_cons_zero, List.set_cons_succ]
    refine wpAnyH_done (by kernel_rfl) ?_ _
    clear hS0
    go_wp2_with fail
    go_ret2
    refine .inl ⟨Y, f, S, B, by rw [HMn.out]; rfl, ?_, HLy.out, HSc.out, Hf4.out⟩
    rw [HY.out, HMn.out, HV.out, HV2.out]
    exact HB9.out.mono (Lm.le_refl _) (by omega)
  · have HB2 := Lib.hid (HB1.out.trans hB2)
    have HLy := Lib.hid hLy
    have HSc := Lib.hid hSc
    have HAll := Lib.hid hall
    have HNo := Lib.hid hno
    clear hB2 hLy hSc hall hno HLA HS1 HB1
    go_wp2_with fail
    go_ret2
    exact .inr ⟨Y, f, S, B, rfl, HB2.out.mono (Lm.le_refl _) (by omega), HLy.out, HSc.out, HAll.out, HNo.out⟩
end Go.Proofs.YtbnpgkclnebnmaaGreat

namespace Go.Proofs.YtbnpgkclnebnmaaGreat
set_option linter.unusedSimpArgs false
set_option linter.unusedVariables false
open Go.RowKit Go.Maps

variable {ln : Lm}
end Go.Proofs.YtbnpgkclnebnmaaGreat
