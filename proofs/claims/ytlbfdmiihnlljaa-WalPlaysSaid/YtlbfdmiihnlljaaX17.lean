import Derived.Test.YtlbfdmiihnlljaaX16
import Derived.Deep.CutBlock
import Derived.Deep.DeepCutAuto
/- WalPlays: the walk. -/
namespace Go.Proofs.Ytlbfdmiihnlljaa
set_option linter.unusedSimpArgs false
set_option linter.unusedVariables false
open Go.RowKit Go.Maps

set_option maxHeartbeats 80000000 in
set_option maxRecDepth 2000000 in
theorem plays_walk (v : Value) (ln : Nat) (w : World) (hv : Acts w v ln) :
    Calls Try.prog 3 #[v] w fun e w' => e = .returned (.bool true) ∧ Below w.heap.size w w' := by
  obtain ⟨p, cap, rfl, hm, hac⟩ := hv
  have HAC := Lib.hid hac
  have HA := Lib.hid (awake_any w)
  have HN := Lib.hid (fun W => new_any 80 (by decide) W)
  unfold maxLen at hm
  clear hac
  go_enter Try.func3, Try.ntmps3
  go_wp2_with fail
  refine HA.out.mono ?_
  rintro z w1 ⟨rfl, hb1⟩
  have HB1 := Lib.hid hb1
  clear HA hb1
  go_wp2_with fail
  refine (HN.out w1).mono ?_
  rintro z w2 ⟨be, bg, rfl, he, hg, hD, hb⟩
  have HD2 := Lib.hid hD
  have HB2 := Lib.hid hb
  have hel := hD.lt
  have hgl := hD.fl.lt
  have hge := hD.ne
  have h12 := hb.size
  clear hD hb HN
  go_wp2_with fail
  refine (open_in be bg _ 2 (by decide) (by decide) w2 HD2.out).mono ?_
  rintro z w3 ⟨bq, rfl, hq, hL, hb⟩
  have HL3 := Lib.hid hL
  have HD3 := Lib.hid (HD2.out.keep hb)
  have HB3 := Lib.hid (HB2.out.trans (hb.mono HB2.out.size))
  have h23 := hb.size
  have hql := hL.lt
  clear hL hb HD2 HB2
  have hS0 : Sane (DS.new 80) 80 0 := Sane.new 80
  go_wp2_with fail
  refine (format_any bq be bg 2 80 0 _ (by decide) (by decide) (by decide) hS0 w3 HL3.out HD3.out (by omega) (by omega)).mono ?_
  have hw0 : (DS.new 80).write 2 (headF []) = (0, ⟨80, upd (fun _ => 0) (2 * 64) 64 (headF []), false, 0, false, 0, 1⟩) := by simp [DS.write, DS.new]
  rw [hw0]
  rintro z w4 ⟨rfl, hD4, hk4⟩
  obtain ⟨f, hf⟩ : ∃ f, upd (fun _ => 0) (2 * 64) 64 (headF []) = f := ⟨_, rfl⟩
  have HS4 : Hid (Sane ⟨80, f, false, 0, false, 0, 1⟩ 80 1) := by
    have := hS0.write 2 (headF []) (headF_byt _)
    rw [hw0, hf] at this
    exact this
  have HS4' : Hid (Sane ⟨80, f, false, 0, false, 0, 0⟩ 80 1) := by
    have h := HS4.out
    exact ⟨h.n, h.r0, h.r1, Int.le_refl _, by show (0 : Int) ≤ 1; decide, h.l0, h.l1, h.byt⟩
  rw [hf] at hD4
  have HD4 := Lib.hid hD4
  have HL4 := Lib.hid (HL3.out.kp hk4 (by omega) (by omega))
  have HB4 := Lib.hid (HB3.out.trans (hk4.below (B := w1.heap.size) (by omega) (by omega) HB3.out.size))
  have h34 := hk4.size
  clear hD4 hk4 HD3 HB3 hf hw0 hS0 HL3
  go_wp2_with fail
  refine (image_at be bg 80 1 _ (by decide) HS4.out w4 HD4.out).mono ?_
  rintro z w9 ⟨rfl, hI, hb⟩
  have HI9 := Lib.hid hI
  have hil := hI.lt
  have HD9 := Lib.hid (HD4.out.keep hb)
  have HL9 := Lib.hid (HL4.out.keep hb)
  have HB9 := Lib.hid (HB4.out.trans (hb.mono HB4.out.size))
  have h49 := hb.size
  obtain ⟨bh, hbh⟩ : ∃ bh, w4.heap.size = bh := ⟨_, rfl⟩
  rw [hbh] at HI9 hil h34 h49 ⊢
  clear hI hb HD4 HL4 HB4 hbh
  go_upto_region 7 with fail
  have HR1 := Lib.hid (Rk.at 80 f HI9.out)
  have HK1 := Lib.hid ((Below.refl w9.heap.size w9).alloc (Nat.le_refl _) (.cells #[.slice (some ⟨bh, 0, none⟩) 80 80, .int .i64 (-1), .bool false, .int .i64 0, .int .i64 0] 37))
  obtain ⟨wP, hwP⟩ : ∃ x, w9.alloc (.cells #[.slice (some ⟨bh, 0, none⟩) 80 80, .int .i64 (-1), .bool false, .int .i64 0, .int .i64 0] 37) = x := ⟨_, rfl⟩
  have hPs : w9.heap.size + 1 = wP.heap.size := by rw [← hwP]; simp
  have hwP' : w9.alloc (.cells #[.slice (some ⟨bh, 0, none⟩) ((80 : Nat) : Nat) 80, .int .i64 (-1), .bool false, .int .i64 0, .int .i64 0] 37) = wP := hwP
  rw [hwP] at HR1 HK1 ⊢
  have hK2 : Below wP.heap.size wP (wP.alloc (.cells #[.pointer (some ⟨w9.heap.size, 0, none⟩), .int .i64 2] 39)) := (Below.refl _ _).alloc (Nat.le_refl _) _
  have hL2 : Lg (wP.alloc (.cells #[.pointer (some ⟨w9.heap.size, 0, none⟩), .int .i64 2] 39)) wP.heap.size w9.heap.size 2 := ⟨by simp, by rw [World.cell?_alloc_at _ _ _ _ rfl]; rfl, by rw [World.cell?_alloc_at _ _ _ _ rfl]; rfl⟩
  obtain ⟨wQ, hwQ⟩ : ∃ x, wP.alloc (.cells #[.pointer (some ⟨w9.heap.size, 0, none⟩), .int .i64 2] 39) = x := ⟨_, rfl⟩
  have hQs : wP.heap.size + 1 = wQ.heap.size := by rw [← hwQ]; simp
  try rw [hPs]
  rw [hwQ] at hK2 hL2 ⊢
  have hPl : w9.heap.size < wP.heap.size := by omega
  have hQl : wP.heap.size < wQ.heap.size := by omega
  have HRL := Lib.hid hL2
  have HRk := Lib.hid (HR1.out.keep hK2)
  have HDQ := Lib.hid ((HD9.out.keep HK1.out).keep hK2)
  have HLQ := Lib.hid ((HL9.out.keep HK1.out).keep hK2)
  have HBQ := Lib.hid ((HB9.out.trans (HK1.out.mono HB9.out.size)).trans (hK2.mono (by have := HB9.out.size; omega)))
  obtain ⟨bd, hrm⟩ : ∃ x, w9.heap.size = x := ⟨_, rfl⟩
  obtain ⟨bl, hrl⟩ : ∃ x, wP.heap.size = x := ⟨_, rfl⟩
  rw [hrm] at HRk HRL hPl hil h49 ⊢
  rw [hrl] at HRL hPl hQl ⊢
  clear hwP hwP' hwQ hPs hQs hrm hrl hK2 hL2 HR1 HK1 HI9 HD9 HL9 HB9
  go_wp2_with fail
  refine (begin_any bq be 2 (by decide) wQ HLQ.out).mono ?_
  rintro z w5 ⟨bt, bm, rfl, ht, hm2, hT, hb⟩
  have HT5 := Lib.hid hT
  have HD5 := Lib.hid (HDQ.out.keep hb)
  have HL5 := Lib.hid (HLQ.out.keep hb)
  have HRL5 := Lib.hid (HRL.out.keep hb)
  have HRk5 := Lib.hid (HRk.out.keep hb)
  have HB5 := Lib.hid (HBQ.out.trans (hb.mono HBQ.out.size))
  have hQ5 := hb.size
  have htl := hT.lg.lt
  have hml := hT.mp.lt
  have hmt := hT.ne
  clear hT hb HDQ HLQ HRL HRk HBQ
  go_upto_region 8 with fail
  have HX6 := Lib.hid (Rx.made w5 bl)
  have HK6 := Lib.hid ((Below.refl w5.heap.size w5).alloc (Nat.le_refl _) (.cells #[.pointer (some ⟨bl, 0, none⟩), .slice none 0 0, .slice none 0 0, .int .i64 0] 45))
  obtain ⟨w6, hw6⟩ : ∃ x, w5.alloc (.cells #[.pointer (some ⟨bl, 0, none⟩), .slice none 0 0, .slice none 0 0, .int .i64 0] 45) = x := ⟨_, rfl⟩
  have h56 : w5.heap.size < w6.heap.size := by rw [← hw6]; simp
  rw [hw6] at HX6 HK6 ⊢
  have HPL : Hid (PL w1 w1.heap.size bt bm be bg bq w5.heap.size bl bd bh 1 w6) := by
    refine Lib.hid ⟨[], 0, ⟨80, f, false, 0, false, 0, 1⟩, ⟨80, f, false, 0, false, 0, 0⟩, ⟨⟨HT5.out.keep HK6.out, HD5.out.keep HK6.out, HL5.out.keep HK6.out, by omega, by omega, by omega, by omega, by omega, by omega, by omega, by omega⟩, ⟨HRL5.out.keep HK6.out, HRk5.out.keep HK6.out, by omega, by omega, by omega, by omega, by omega, fun a ha => ?_, .slice none 0 0, .slice none 0 0, HX6.out, .inl ⟨rfl, rfl⟩, .inl ⟨rfl, rfl⟩, fun j hj => by simp [Value.ownBlock] at hj, fun j hj => by simp [Value.ownBlock] at hj⟩, HB5.out.trans (HK6.out.mono HB5.out.size), Nat.le_refl _, fun a ha => ?_, (fun b hm => by cases hm), (fun b hm => by cases hm)⟩, ⟨rfl, rfl, rfl, rfl, rfl⟩, TG.nil, HS4.out, HS4'.out⟩
    · simp at ha ⊢
      omega
    · simp at ha
      omega
  obtain ⟨bx, hbx⟩ : ∃ x, w5.heap.size = x := ⟨_, rfl⟩
  rw [hbx] at HPL ⊢
  clear hw6 h56 HX6 HK6 hbx HT5 HD5 HL5 HRL5 HRk5 HB5 HS4 HS4' hQ5 htl hml hmt ht hm2 hPl hQl hil h49 h34 hql hq h23 hel hgl hge h12 he hg
  go_wp2_with fail
  go_loopw [10, 11, 12, 13, 14, 15, 16, 17, 18, 19, 20, 47] (fun _ _ _ _ _ _ _ _ _ _ _ i wr => ∃ k : Nat, k ≤ ln ∧ k ≤ 121 ∧ i = .int .i64 k ∧ PL w1 w1.heap.size bt bm be bg bq bx bl bd bh (1 + 100 * k) wr) (fun _ _ _ _ _ _ _ _ _ _ _ i _ => ln - (intOf i).toNat)
  case atStart => exact ⟨0, by omega, by omega, rfl, HPL.out⟩
  case round =>
    obtain ⟨k, hk, hk121, rfl, hPL⟩ := hrel
    clear HPL
    by_cases hlt : k < ln
    · have hk0 : (0 : Int) ≤ k := by omega
      have hkk : (k : Int) < ln := by omega
      obtain ⟨b, o, xx, rfl, hx⟩ := HAC.out k hlt
      obtain ⟨T, co, s, s', hP, hE, hG, hSa, hSb⟩ := hPL.ex
      have hx' := hx.below (HB1.out.trans (hP.be.mono HB1.out.size)) hx.lt
      have e0 := hx'.c0
      have e1 := hx'.c1
      have e2 := hx'.c2
      have e3 := hx'.c3
      have HK0 := Lib.hid hx.k0
      have HK1 := Lib.hid hx.k1
      have HK2 := Lib.hid hx.k2
      obtain ⟨kind, xn, xb, raw⟩ := xx
      simp only at e0 e1 e2 e3
      have HP := Lib.hid hP
      have HE := Lib.hid hE
      have HG := Lib.hid hG
      have HSa := Lib.hid hSa
      have HSb := Lib.hid hSb
      clear hx hx' hP hE hG hSa hSb hPL
      by_cases h80 : 120 < k
      · have h80' : (120 : Int) < k := by omega
        go_wp2
        go_ret
        exact ⟨rfl, HB1.out.trans ((HP.out.be.trans (((Below.refl _ _).alloc (Nat.le_refl _) _).mono HP.out.hz)).mono HB1.out.size)⟩
      · have h80' : ¬ ((120 : Int) < k) := by omega
        go_upto_if 58 with fail
        have hba : Below wr.heap.size wr (wr.alloc (.cells #[.int .u8 kind, .int .i64 xn, .int .u8 xb, .bool raw] 47)) := (Below.refl _ _).alloc (Nat.le_refl _) _
        have hqa : wr.heap.size < (wr.alloc (.cells #[.int .u8 kind, .int .i64 xn, .int .u8 xb, .bool raw] 47)).heap.size := by simp
        have HPA := Lib.hid (HP.out.add hba wr.heap.size (Nat.le_refl _) hqa)
        have a0 : (wr.alloc (.cells #[.int .u8 kind, .int .i64 xn, .int .u8 xb, .bool raw] 47)).cell? ⟨wr.heap.size, 0, none⟩ = some (.int .u8 kind) := by rw [World.cell?_alloc_at _ _ _ _ rfl]; rfl
        have a2 : (wr.alloc (.cells #[.int .u8 kind, .int .i64 xn, .int .u8 xb, .bool raw] 47)).cell? ⟨wr.heap.size, 2, none⟩ = some (.int .u8 xb) := by rw [World.cell?_alloc_at _ _ _ _ rfl]; rfl
        clear hba
        generalize wr.alloc (.cells #[.int .u8 kind, .int .i64 xn, .int .u8 xb, .bool raw] 47) = wa at *
        obtain ⟨ba, hq⟩ : ∃ q, wr.heap.size = q := ⟨_, rfl⟩
        rw [hq] at a0 a2 hqa HPA ⊢
        clear HP e0 e1 e2 e3 hq
        go_cut [12] (fun x wc => wc = wa ∧ ∃ X : Int, x = .int .i64 X ∧ -9223372036854775808 ≤ X ∧ X < 9223372036854775808)
        case first =>
          have hk1 := HK1.out
          simp only at hk1
          cases raw
          · go_wp2
            go_meet
            case rel =>
              have hr := wrap64_rng (33 + wrap64 ((IntKind.u64.wrap xn).tmod 47))
              first
                | exact ⟨rfl, _, rfl, hr.1, hr.2⟩
                | exact ⟨rfl, _, rfl, by omega, by omega⟩
          · go_wp2
            go_meet
            case rel => exact ⟨rfl, _, rfl, by omega, by omega⟩
        case rest =>
          obtain ⟨rfl, X, rfl, hX0, hX1⟩ := hcut
          obtain ⟨wa, rfl⟩ : ∃ x, x = wc := ⟨wc, rfl⟩
          have hkd := HK0.out
          simp only at hkd
          obtain ⟨hkd0, hkd1⟩ := hkd
          have hkb := HK2.out
          simp only at hkb
          obtain ⟨hkb0, hkb1⟩ := hkb
          go_upto_block 2 with fail
          have hK : 1 + 100 * k < 600000 := by omega
          have hK1 : 1 + 100 * (k + 1) = 1 + 100 * k + 100 := by omega
          go_cut [66] (fun _ wc => PL w1 w1.heap.size bt bm be bg bq bx bl bd bh (1 + 100 * (k + 1)) wc)
          case first =>
            have hk7 : kind % 8 = 0 ∨ kind % 8 = 1 ∨ kind % 8 = 2 ∨ kind % 8 = 3 ∨ kind % 8 = 4 ∨ kind % 8 = 5 ∨ kind % 8 = 6 ∨ kind % 8 = 7 := by omega
            rcases hk7 with hk7 | hk7 | hk7 | hk7 | hk7 | hk7 | hk7 | hk7
            · skip
              as_aux_lemma =>
                go_upto_region 16 with fail
                refine wp_region_held (S := fun W => W.cell? ⟨ba, 2, none⟩ = some (.int .u8 xb)) (by kernel_rfl) ?_
                change wpAnyH _ _ _ _ _ _ _ _ (World.drew _)
                have hbw : Below wa.heap.size wa wa.drew := (Below.refl _ _).drew
                have HP4 := Lib.hid (HPA.out.keep hbw)
                have hS0 : wa.drew.cell? ⟨ba, 2, none⟩ = some (.int .u8 xb) := (HP4.out.cell (r := ⟨ba, 2, none⟩) (by simp)).trans a2
                obtain ⟨w4, hw4⟩ : ∃ x, wa.drew = x := ⟨_, rfl⟩
                rw [hw4] at HP4 hS0 ⊢
                clear hw4 hbw
                refine wpAnyH_take (i := 0) (v := ?_) rfl (by kernel_rfl) (by kernel_rfl) (by kernel_rfl) (fun _ _ _ h => h) (Or.inl ⟨by rfl, ?_⟩) hS0 ?_
                rotate_left 1
                · intro W hW
                  go_simp
                  try with_reducible rfl
                simp only [Act.put, List.getElem_toArray, List.getElem_cons_zero, List.getElem_cons_succ, List.setIfInBounds_toArray, List.set_cons_zero, List.set_cons_succ]
                refine wpAnyH_take (i := 1) (v := ?_) rfl (by kernel_rfl) (by kernel_rfl) (by kernel_rfl) (fun _ _ _ h => h) (Or.inl ⟨by rfl, ?_⟩) hS0 ?_
                rotate_left 1
                · intro W hW
                  go_simp
                  try with_reducible rfl
                simp only [Act.put, List.getElem_toArray, List.getElem_cons_zero, List.getElem_cons_succ, List.setIfInBounds_toArray, List.set_cons_zero, List.set_cons_succ]
                refine wpAnyH_take (i := 2) (v := ?_) rfl (by kernel_rfl) (by kernel_rfl) (by kernel_rfl) (fun _ _ _ h => h) (Or.inl ⟨by rfl, ?_⟩) hS0 ?_
                rotate_left 1
                · intro W hW
                  go_simp
                  try with_reducible rfl
                simp only [Act.put, List.getElem_toArray, List.getElem_cons_zero, List.getElem_cons_succ, List.setIfInBounds_toArray, List.set_cons_zero, List.set_cons_succ]
                refine wpAnyH_take (i := 3) (v := ?_) rfl (by kernel_rfl) (by kernel_rfl) (by kernel_rfl) (fun _ _ _ h => h) (Or.inl ⟨by rfl, ?_⟩) hS0 ?_
                rotate_left 1
                · intro W hW
                  have e2 := hW
                  go_simp
                  try with_reducible rfl
                simp only [Act.put, List.getElem_toArray, List.getElem_cons_zero, List.getElem_cons_succ, List.setIfInBounds_toArray, List.set_cons_zero, List.set_cons_succ]
                refine wpAnyH_take (i := 6) (v := ?_) rfl (by kernel_rfl) (by kernel_rfl) (by kernel_rfl) (fun _ _ _ h => h) (Or.inl ⟨by rfl, ?_⟩) hS0 ?_
                rotate_left 1
                · intro W hW
                  go_simp
                  try with_reducible rfl
                simp only [Act.put, List.getElem_toArray, List.getElem_cons_zero, List.getElem_cons_succ, List.setIfInBounds_toArray, List.set_cons_zero, List.set_cons_succ]
                refine wpAnyH_take (i := 7) (v := ?_) rfl (by kernel_rfl) (by kernel_rfl) (by kernel_rfl) (fun _ _ _ h => h) (Or.inl ⟨by rfl, ?_⟩) hS0 ?_
                rotate_left 1
                · intro W hW
                  go_simp
                  try with_reducible rfl
                simp only [Act.put, List.getElem_toArray, List.getElem_cons_zero, List.getElem_cons_succ, List.setIfInBounds_toArray, List.set_cons_zero, List.set_cons_succ]
                refine wpAnyH_take (i := 8) (v := ?_) rfl (by kernel_rfl) (by kernel_rfl) (by kernel_rfl) (fun _ _ _ h => h) (Or.inl ⟨by rfl, ?_⟩) hS0 ?_
                rotate_left 1
                · intro W hW
                  go_simp
                  try with_reducible rfl
                simp only [Act.put, List.getElem_toArray, List.getElem_cons_zero, List.getElem_cons_succ, List.setIfInBounds_toArray, List.set_cons_zero, List.set_cons_succ]
                refine wpAnyH_take (i := 9) (v := ?_) rfl (by kernel_rfl) (by kernel_rfl) (by kernel_rfl) (fun _ _ _ h => h) (Or.inl ⟨by rfl, ?_⟩) hS0 ?_
                rotate_left 1
                · intro W hW
                  have e2 := hW
                  go_simp
                  try with_reducible rfl
                simp only [Act.put, List.getElem_toArray, List.getElem_cons_zero, List.getElem_cons_succ, List.setIfInBounds_toArray, List.set_cons_zero, List.set_cons_succ]
                refine wpAnyH_ready (rs := [4]) (by kernel_rfl) (by simp) (AllReadyH.cons rfl (fun KK hKK => ?_) AllReadyH.nil)
                go_simp
                refine (block_any xb hkb0 hkb1 w4).mono ?_
                rintro z w5 ⟨rfl, hbw5⟩
                have HP5 := Lib.hid (HP4.out.keep hbw5)
                have hS5 : w5.cell? ⟨ba, 2, none⟩ = some (.int .u8 xb) := (HP5.out.cell (r := ⟨ba, 2, none⟩) (by simp)).trans a2
                refine hKK _ _ hS5 ?_
                intro _
                clear hKK KK hbw5
                try simp only [Act.put, List.getElem_toArray, List.getElem_cons_zero, List.getElem_cons_succ, List.setIfInBounds_toArray, List.set_cons_zero, List.set_cons_succ]
                refine wpAnyH_ready (rs := [5]) (by kernel_rfl) (by simp) (AllReadyH.cons rfl (fun KK hKK => ?_) AllReadyH.nil)
                have hG2 := HG.out.put (n := X) (blk_byt xb)
                have HAP := Lib.hid (fun W C (hw : WR W w1.heap.size C bx bl bd bh T co s') (h1 : ∀ a ∈ C, a < W.heap.size) (h2 : w1.heap.size ≤ W.heap.size) => a_put bx bl bd bh T co s' X (blk xb) hX0 hX1 HG.out.le HG.out.ri HSb.out W hw h1 h2)
                go_simp
                refine (c_put bt bm be bg bq T co s X (blk xb) hX0 hX1 HG.out.le (by omega) HG.out.c0 HSa.out w5 HP5.out.wc).mono ?_
                obtain ⟨GG, hGG⟩ : ∃ G, putT 80 2 X (blk xb) T co = G := ⟨_, rfl⟩
                rw [hGG] at hG2 HAP ⊢
                clear hGG
                obtain ⟨pc, T2, co2⟩ := GG
                have HG2 := Lib.hid hG2
                clear hG2
                rintro z w6 ⟨rfl, hc, hkf⟩
                have HP6 := Lib.hid (HP5.out.code hc hkf)
                have hS6 : w6.cell? ⟨ba, 2, none⟩ = some (.int .u8 xb) := (HP6.out.cell (r := ⟨ba, 2, none⟩) (by simp)).trans a2
                refine hKK _ _ hS6 ?_
                intro _
                clear hKK KK hc hkf
                try simp only [Act.put, List.getElem_toArray, List.getElem_cons_zero, List.getElem_cons_succ, List.setIfInBounds_toArray, List.set_cons_zero, List.set_cons_succ]
                refine wpAnyH_ready (rs := [10]) (by kernel_rfl) (by simp) (AllReadyH.cons rfl (fun KK hKK => ?_) AllReadyH.nil)
                go_simp
                refine (block_any xb hkb0 hkb1 w6).mono ?_
                rintro z w7 ⟨rfl, hbw7⟩
                have HP7 := Lib.hid (HP6.out.keep hbw7)
                have hS7 : w7.cell? ⟨ba, 2, none⟩ = some (.int .u8 xb) := (HP7.out.cell (r := ⟨ba, 2, none⟩) (by simp)).trans a2
                refine hKK _ _ hS7 ?_
                intro _
                clear hKK KK hbw7
                try simp only [Act.put, List.getElem_toArray, List.getElem_cons_zero, List.getElem_cons_succ, List.setIfInBounds_toArray, List.set_cons_zero, List.set_cons_succ]
                refine wpAnyH_ready (rs := [11]) (by kernel_rfl) (by simp) (AllReadyH.cons rfl (fun KK hKK => ?_) AllReadyH.nil)
                go_simp
                refine (HAP.out w7 _ HP7.out.wr HP7.out.hC HP7.out.hz).mono ?_
                rintro z w8 ⟨rfl, hr8⟩
                have HP8 := Lib.hid (HP7.out.ans hr8)
                have hS8 : w8.cell? ⟨ba, 2, none⟩ = some (.int .u8 xb) := (HP8.out.cell (r := ⟨ba, 2, none⟩) (by simp)).trans a2
                refine hKK _ _ hS8 ?_
                intro _
                clear hKK KK hr8
                try simp only [Act.put, List.getElem_toArray, List.getElem_cons_zero, List.getElem_cons_succ, List.setIfInBounds_toArray, List.set_cons_zero, List.set_cons_succ]
                refine wpAnyH_take (i := 12) (v := ?_) rfl (by kernel_rfl) (by kernel_rfl) (by kernel_rfl) (fun _ _ _ h => h) (Or.inl ⟨by rfl, ?_⟩) hS8 ?_
                rotate_left 1
                · intro W hW
                  go_simp
                  try with_reducible rfl
                simp only [Act.put, List.getElem_toArray, List.getElem_cons_zero, List.getElem_cons_succ, List.setIfInBounds_toArray, List.set_cons_zero, List.set_cons_succ]
                refine wpAnyH_done (by kernel_rfl) ?_ _
                go_wp2
                go_meet
                case rel => rw [hK1]; exact HP8.out.done HE.out HG2.out (HSa.out.mono (by omega)) (HSb.out.mono (by omega))
            · skip
              as_aux_lemma =>
                go_upto_region 16 with fail
                refine wp_region_held (S := fun W => W.cell? ⟨ba, 2, none⟩ = some (.int .u8 xb)) (by kernel_rfl) ?_
                change wpAnyH _ _ _ _ _ _ _ _ (World.drew _)
                have hbw : Below wa.heap.size wa wa.drew := (Below.refl _ _).drew
                have HP4 := Lib.hid (HPA.out.keep hbw)
                have hS0 : wa.drew.cell? ⟨ba, 2, none⟩ = some (.int .u8 xb) := (HP4.out.cell (r := ⟨ba, 2, none⟩) (by simp)).trans a2
                obtain ⟨w4, hw4⟩ : ∃ x, wa.drew = x := ⟨_, rfl⟩
                rw [hw4] at HP4 hS0 ⊢
                clear hw4 hbw
                refine wpAnyH_take (i := 0) (v := ?_) rfl (by kernel_rfl) (by kernel_rfl) (by kernel_rfl) (fun _ _ _ h => h) (Or.inl ⟨by rfl, ?_⟩) hS0 ?_
                rotate_left 1
                · intro W hW
                  go_simp
                  try with_reducible rfl
                simp only [Act.put, List.getElem_toArray, List.getElem_cons_zero, List.getElem_cons_succ, List.setIfInBounds_toArray, List.set_cons_zero, List.set_cons_succ]
                refine wpAnyH_take (i := 1) (v := ?_) rfl (by kernel_rfl) (by kernel_rfl) (by kernel_rfl) (fun _ _ _ h => h) (Or.inl ⟨by rfl, ?_⟩) hS0 ?_
                rotate_left 1
                · intro W hW
                  go_simp
                  try with_reducible rfl
                simp only [Act.put, List.getElem_toArray, List.getElem_cons_zero, List.getElem_cons_succ, List.setIfInBounds_toArray, List.set_cons_zero, List.set_cons_succ]
                refine wpAnyH_take (i := 2) (v := ?_) rfl (by kernel_rfl) (by kernel_rfl) (by kernel_rfl) (fun _ _ _ h => h) (Or.inl ⟨by rfl, ?_⟩) hS0 ?_
                rotate_left 1
                · intro W hW
                  go_simp
                  try with_reducible rfl
                simp only [Act.put, List.getElem_toArray, List.getElem_cons_zero, List.getElem_cons_succ, List.setIfInBounds_toArray, List.set_cons_zero, List.set_cons_succ]
                refine wpAnyH_take (i := 3) (v := ?_) rfl (by kernel_rfl) (by kernel_rfl) (by kernel_rfl) (fun _ _ _ h => h) (Or.inl ⟨by rfl, ?_⟩) hS0 ?_
                rotate_left 1
                · intro W hW
                  have e2 := hW
                  go_simp
                  try with_reducible rfl
                simp only [Act.put, List.getElem_toArray, List.getElem_cons_zero, List.getElem_cons_succ, List.setIfInBounds_toArray, List.set_cons_zero, List.set_cons_succ]
                refine wpAnyH_take (i := 6) (v := ?_) rfl (by kernel_rfl) (by kernel_rfl) (by kernel_rfl) (fun _ _ _ h => h) (Or.inl ⟨by rfl, ?_⟩) hS0 ?_
                rotate_left 1
                · intro W hW
                  go_simp
                  try with_reducible rfl
                simp only [Act.put, List.getElem_toArray, List.getElem_cons_zero, List.getElem_cons_succ, List.setIfInBounds_toArray, List.set_cons_zero, List.set_cons_succ]
                refine wpAnyH_take (i := 7) (v := ?_) rfl (by kernel_rfl) (by kernel_rfl) (by kernel_rfl) (fun _ _ _ h => h) (Or.inl ⟨by rfl, ?_⟩) hS0 ?_
                rotate_left 1
                · intro W hW
                  go_simp
                  try with_reducible rfl
                simp only [Act.put, List.getElem_toArray, List.getElem_cons_zero, List.getElem_cons_succ, List.setIfInBounds_toArray, List.set_cons_zero, List.set_cons_succ]
                refine wpAnyH_take (i := 8) (v := ?_) rfl (by kernel_rfl) (by kernel_rfl) (by kernel_rfl) (fun _ _ _ h => h) (Or.inl ⟨by rfl, ?_⟩) hS0 ?_
                rotate_left 1
                · intro W hW
                  go_simp
                  try with_reducible rfl
                simp only [Act.put, List.getElem_toArray, List.getElem_cons_zero, List.getElem_cons_succ, List.setIfInBounds_toArray, List.set_cons_zero, List.set_cons_succ]
                refine wpAnyH_take (i := 9) (v := ?_) rfl (by kernel_rfl) (by kernel_rfl) (by kernel_rfl) (fun _ _ _ h => h) (Or.inl ⟨by rfl, ?_⟩) hS0 ?_
                rotate_left 1
                · intro W hW
                  have e2 := hW
                  go_simp
                  try with_reducible rfl
                simp only [Act.put, List.getElem_toArray, List.getElem_cons_zero, List.getElem_cons_succ, List.setIfInBounds_toArray, List.set_cons_zero, List.set_cons_succ]
                refine wpAnyH_ready (rs := [4]) (by kernel_rfl) (by simp) (AllReadyH.cons rfl (fun KK hKK => ?_) AllReadyH.nil)
                go_simp
                refine (block_any xb hkb0 hkb1 w4).mono ?_
                rintro z w5 ⟨rfl, hbw5⟩
                have HP5 := Lib.hid (HP4.out.keep hbw5)
                have hS5 : w5.cell? ⟨ba, 2, none⟩ = some (.int .u8 xb) := (HP5.out.cell (r := ⟨ba, 2, none⟩) (by simp)).trans a2
                refine hKK _ _ hS5 ?_
                intro _
                clear hKK KK hbw5
                try simp only [Act.put, List.getElem_toArray, List.getElem_cons_zero, List.getElem_cons_succ, List.setIfInBounds_toArray, List.set_cons_zero, List.set_cons_succ]
                refine wpAnyH_ready (rs := [5]) (by kernel_rfl) (by simp) (AllReadyH.cons rfl (fun KK hKK => ?_) AllReadyH.nil)
                have hG2 := HG.out.put (n := X) (blk_byt xb)
                have HAP := Lib.hid (fun W C (hw : WR W w1.heap.size C bx bl bd bh T co s') (h1 : ∀ a ∈ C, a < W.heap.size) (h2 : w1.heap.size ≤ W.heap.size) => a_put bx bl bd bh T co s' X (blk xb) hX0 hX1 HG.out.le HG.out.ri HSb.out W hw h1 h2)
                go_simp
                refine (c_put bt bm be bg bq T co s X (blk xb) hX0 hX1 HG.out.le (by omega) HG.out.c0 HSa.out w5 HP5.out.wc).mono ?_
                obtain ⟨GG, hGG⟩ : ∃ G, putT 80 2 X (blk xb) T co = G := ⟨_, rfl⟩
                rw [hGG] at hG2 HAP ⊢
                clear hGG
                obtain ⟨pc, T2, co2⟩ := GG
                have HG2 := Lib.hid hG2
                clear hG2
                rintro z w6 ⟨rfl, hc, hkf⟩
                have HP6 := Lib.hid (HP5.out.code hc hkf)
                have hS6 : w6.cell? ⟨ba, 2, none⟩ = some (.int .u8 xb) := (HP6.out.cell (r := ⟨ba, 2, none⟩) (by simp)).trans a2
                refine hKK _ _ hS6 ?_
                intro _
                clear hKK KK hc hkf
                try simp only [Act.put, List.getElem_toArray, List.getElem_cons_zero, List.getElem_cons_succ, List.setIfInBounds_toArray, List.set_cons_zero, List.set_cons_succ]
                refine wpAnyH_ready (rs := [10]) (by kernel_rfl) (by simp) (AllReadyH.cons rfl (fun KK hKK => ?_) AllReadyH.nil)
                go_simp
                refine (block_any xb hkb0 hkb1 w6).mono ?_
                rintro z w7 ⟨rfl, hbw7⟩
                have HP7 := Lib.hid (HP6.out.keep hbw7)
                have hS7 : w7.cell? ⟨ba, 2, none⟩ = some (.int .u8 xb) := (HP7.out.cell (r := ⟨ba, 2, none⟩) (by simp)).trans a2
                refine hKK _ _ hS7 ?_
                intro _
                clear hKK KK hbw7
                try simp only [Act.put, List.getElem_toArray, List.getElem_cons_zero, List.getElem_cons_succ, List.setIfInBounds_toArray, List.set_cons_zero, List.set_cons_succ]
                refine wpAnyH_ready (rs := [11]) (by kernel_rfl) (by simp) (AllReadyH.cons rfl (fun KK hKK => ?_) AllReadyH.nil)
                go_simp
                refine (HAP.out w7 _ HP7.out.wr HP7.out.hC HP7.out.hz).mono ?_
                rintro z w8 ⟨rfl, hr8⟩
                have HP8 := Lib.hid (HP7.out.ans hr8)
                have hS8 : w8.cell? ⟨ba, 2, none⟩ = some (.int .u8 xb) := (HP8.out.cell (r := ⟨ba, 2, none⟩) (by simp)).trans a2
                refine hKK _ _ hS8 ?_
                intro _
                clear hKK KK hr8
                try simp only [Act.put, List.getElem_toArray, List.getElem_cons_zero, List.getElem_cons_succ, List.setIfInBounds_toArray, List.set_cons_zero, List.set_cons_succ]
                refine wpAnyH_take (i := 12) (v := ?_) rfl (by kernel_rfl) (by kernel_rfl) (by kernel_rfl) (fun _ _ _ h => h) (Or.inl ⟨by rfl, ?_⟩) hS8 ?_
                rotate_left 1
                · intro W hW
                  go_simp
                  try with_reducible rfl
                simp only [Act.put, List.getElem_toArray, List.getElem_cons_zero, List.getElem_cons_succ, List.setIfInBounds_toArray, List.set_cons_zero, List.set_cons_succ]
                refine wpAnyH_done (by kernel_rfl) ?_ _
                go_wp2
                go_meet
                case rel => rw [hK1]; exact HP8.out.done HE.out HG2.out (HSa.out.mono (by omega)) (HSb.out.mono (by omega))
            · skip
              as_aux_lemma =>
                go_upto_region 16 with fail
                refine wp_region_held (S := fun W => W.cell? ⟨ba, 2, none⟩ = some (.int .u8 xb)) (by kernel_rfl) ?_
                change wpAnyH _ _ _ _ _ _ _ _ (World.drew _)
                have hbw : Below wa.heap.size wa wa.drew := (Below.refl _ _).drew
                have HP4 := Lib.hid (HPA.out.keep hbw)
                have hS0 : wa.drew.cell? ⟨ba, 2, none⟩ = some (.int .u8 xb) := (HP4.out.cell (r := ⟨ba, 2, none⟩) (by simp)).trans a2
                obtain ⟨w4, hw4⟩ : ∃ x, wa.drew = x := ⟨_, rfl⟩
                rw [hw4] at HP4 hS0 ⊢
                clear hw4 hbw
                refine wpAnyH_take (i := 0) (v := ?_) rfl (by kernel_rfl) (by kernel_rfl) (by kernel_rfl) (fun _ _ _ h => h) (Or.inl ⟨by rfl, ?_⟩) hS0 ?_
                rotate_left 1
                · intro W hW
                  go_simp
                  try with_reducible rfl
                simp only [Act.put, List.getElem_toArray, List.getElem_cons_zero, List.getElem_cons_succ, List.setIfInBounds_toArray, List.set_cons_zero, List.set_cons_succ]
                refine wpAnyH_take (i := 1) (v := ?_) rfl (by kernel_rfl) (by kernel_rfl) (by kernel_rfl) (fun _ _ _ h => h) (Or.inl ⟨by rfl, ?_⟩) hS0 ?_
                rotate_left 1
                · intro W hW
                  go_simp
                  try with_reducible rfl
                simp only [Act.put, List.getElem_toArray, List.getElem_cons_zero, List.getElem_cons_succ, List.setIfInBounds_toArray, List.set_cons_zero, List.set_cons_succ]
                refine wpAnyH_take (i := 2) (v := ?_) rfl (by kernel_rfl) (by kernel_rfl) (by kernel_rfl) (fun _ _ _ h => h) (Or.inl ⟨by rfl, ?_⟩) hS0 ?_
                rotate_left 1
                · intro W hW
                  go_simp
                  try with_reducible rfl
                simp only [Act.put, List.getElem_toArray, List.getElem_cons_zero, List.getElem_cons_succ, List.setIfInBounds_toArray, List.set_cons_zero, List.set_cons_succ]
                refine wpAnyH_take (i := 3) (v := ?_) rfl (by kernel_rfl) (by kernel_rfl) (by kernel_rfl) (fun _ _ _ h => h) (Or.inl ⟨by rfl, ?_⟩) hS0 ?_
                rotate_left 1
                · intro W hW
                  have e2 := hW
                  go_simp
                  try with_reducible rfl
                simp only [Act.put, List.getElem_toArray, List.getElem_cons_zero, List.getElem_cons_succ, List.setIfInBounds_toArray, List.set_cons_zero, List.set_cons_succ]
                refine wpAnyH_take (i := 6) (v := ?_) rfl (by kernel_rfl) (by kernel_rfl) (by kernel_rfl) (fun _ _ _ h => h) (Or.inl ⟨by rfl, ?_⟩) hS0 ?_
                rotate_left 1
                · intro W hW
                  go_simp
                  try with_reducible rfl
                simp only [Act.put, List.getElem_toArray, List.getElem_cons_zero, List.getElem_cons_succ, List.setIfInBounds_toArray, List.set_cons_zero, List.set_cons_succ]
                refine wpAnyH_take (i := 7) (v := ?_) rfl (by kernel_rfl) (by kernel_rfl) (by kernel_rfl) (fun _ _ _ h => h) (Or.inl ⟨by rfl, ?_⟩) hS0 ?_
                rotate_left 1
                · intro W hW
                  go_simp
                  try with_reducible rfl
                simp only [Act.put, List.getElem_toArray, List.getElem_cons_zero, List.getElem_cons_succ, List.setIfInBounds_toArray, List.set_cons_zero, List.set_cons_succ]
                refine wpAnyH_take (i := 8) (v := ?_) rfl (by kernel_rfl) (by kernel_rfl) (by kernel_rfl) (fun _ _ _ h => h) (Or.inl ⟨by rfl, ?_⟩) hS0 ?_
                rotate_left 1
                · intro W hW
                  go_simp
                  try with_reducible rfl
                simp only [Act.put, List.getElem_toArray, List.getElem_cons_zero, List.getElem_cons_succ, List.setIfInBounds_toArray, List.set_cons_zero, List.set_cons_succ]
                refine wpAnyH_take (i := 9) (v := ?_) rfl (by kernel_rfl) (by kernel_rfl) (by kernel_rfl) (fun _ _ _ h => h) (Or.inl ⟨by rfl, ?_⟩) hS0 ?_
                rotate_left 1
                · intro W hW
                  have e2 := hW
                  go_simp
                  try with_reducible rfl
                simp only [Act.put, List.getElem_toArray, List.getElem_cons_zero, List.getElem_cons_succ, List.setIfInBounds_toArray, List.set_cons_zero, List.set_cons_succ]
                refine wpAnyH_ready (rs := [4]) (by kernel_rfl) (by simp) (AllReadyH.cons rfl (fun KK hKK => ?_) AllReadyH.nil)
                go_simp
                refine (block_any xb hkb0 hkb1 w4).mono ?_
                rintro z w5 ⟨rfl, hbw5⟩
                have HP5 := Lib.hid (HP4.out.keep hbw5)
                have hS5 : w5.cell? ⟨ba, 2, none⟩ = some (.int .u8 xb) := (HP5.out.cell (r := ⟨ba, 2, none⟩) (by simp)).trans a2
                refine hKK _ _ hS5 ?_
                intro _
                clear hKK KK hbw5
                try simp only [Act.put, List.getElem_toArray, List.getElem_cons_zero, List.getElem_cons_succ, List.setIfInBounds_toArray, List.set_cons_zero, List.set_cons_succ]
                refine wpAnyH_ready (rs := [5]) (by kernel_rfl) (by simp) (AllReadyH.cons rfl (fun KK hKK => ?_) AllReadyH.nil)
                have hG2 := HG.out.put (n := X) (blk_byt xb)
                have HAP := Lib.hid (fun W C (hw : WR W w1.heap.size C bx bl bd bh T co s') (h1 : ∀ a ∈ C, a < W.heap.size) (h2 : w1.heap.size ≤ W.heap.size) => a_put bx bl bd bh T co s' X (blk xb) hX0 hX1 HG.out.le HG.out.ri HSb.out W hw h1 h2)
                go_simp
                refine (c_put bt bm be bg bq T co s X (blk xb) hX0 hX1 HG.out.le (by omega) HG.out.c0 HSa.out w5 HP5.out.wc).mono ?_
                obtain ⟨GG, hGG⟩ : ∃ G, putT 80 2 X (blk xb) T co = G := ⟨_, rfl⟩
                rw [hGG] at hG2 HAP ⊢
                clear hGG
                obtain ⟨pc, T2, co2⟩ := GG
                have HG2 := Lib.hid hG2
                clear hG2
                rintro z w6 ⟨rfl, hc, hkf⟩
                have HP6 := Lib.hid (HP5.out.code hc hkf)
                have hS6 : w6.cell? ⟨ba, 2, none⟩ = some (.int .u8 xb) := (HP6.out.cell (r := ⟨ba, 2, none⟩) (by simp)).trans a2
                refine hKK _ _ hS6 ?_
                intro _
                clear hKK KK hc hkf
                try simp only [Act.put, List.getElem_toArray, List.getElem_cons_zero, List.getElem_cons_succ, List.setIfInBounds_toArray, List.set_cons_zero, List.set_cons_succ]
                refine wpAnyH_ready (rs := [10]) (by kernel_rfl) (by simp) (AllReadyH.cons rfl (fun KK hKK => ?_) AllReadyH.nil)
                go_simp
                refine (block_any xb hkb0 hkb1 w6).mono ?_
                rintro z w7 ⟨rfl, hbw7⟩
                have HP7 := Lib.hid (HP6.out.keep hbw7)
                have hS7 : w7.cell? ⟨ba, 2, none⟩ = some (.int .u8 xb) := (HP7.out.cell (r := ⟨ba, 2, none⟩) (by simp)).trans a2
                refine hKK _ _ hS7 ?_
                intro _
                clear hKK KK hbw7
                try simp only [Act.put, List.getElem_toArray, List.getElem_cons_zero, List.getElem_cons_succ, List.setIfInBounds_toArray, List.set_cons_zero, List.set_cons_succ]
                refine wpAnyH_ready (rs := [11]) (by kernel_rfl) (by simp) (AllReadyH.cons rfl (fun KK hKK => ?_) AllReadyH.nil)
                go_simp
                refine (HAP.out w7 _ HP7.out.wr HP7.out.hC HP7.out.hz).mono ?_
                rintro z w8 ⟨rfl, hr8⟩
                have HP8 := Lib.hid (HP7.out.ans hr8)
                have hS8 : w8.cell? ⟨ba, 2, none⟩ = some (.int .u8 xb) := (HP8.out.cell (r := ⟨ba, 2, none⟩) (by simp)).trans a2
                refine hKK _ _ hS8 ?_
                intro _
                clear hKK KK hr8
                try simp only [Act.put, List.getElem_toArray, List.getElem_cons_zero, List.getElem_cons_succ, List.setIfInBounds_toArray, List.set_cons_zero, List.set_cons_succ]
                refine wpAnyH_take (i := 12) (v := ?_) rfl (by kernel_rfl) (by kernel_rfl) (by kernel_rfl) (fun _ _ _ h => h) (Or.inl ⟨by rfl, ?_⟩) hS8 ?_
                rotate_left 1
                · intro W hW
                  go_simp
                  try with_reducible rfl
                simp only [Act.put, List.getElem_toArray, List.getElem_cons_zero, List.getElem_cons_succ, List.setIfInBounds_toArray, List.set_cons_zero, List.set_cons_succ]
                refine wpAnyH_done (by kernel_rfl) ?_ _
                go_wp2
                go_meet
                case rel => rw [hK1]; exact HP8.out.done HE.out HG2.out (HSa.out.mono (by omega)) (HSb.out.mono (by omega))
            · skip
              as_aux_lemma =>
                go_upto_region 16 with fail
                refine wp_region_held (S := fun W => W.cell? ⟨ba, 2, none⟩ = some (.int .u8 xb)) (by kernel_rfl) ?_
                change wpAnyH _ _ _ _ _ _ _ _ (World.drew _)
                have hbw : Below wa.heap.size wa wa.drew := (Below.refl _ _).drew
                have HP4 := Lib.hid (HPA.out.keep hbw)
                have hS0 : wa.drew.cell? ⟨ba, 2, none⟩ = some (.int .u8 xb) := (HP4.out.cell (r := ⟨ba, 2, none⟩) (by simp)).trans a2
                obtain ⟨w4, hw4⟩ : ∃ x, wa.drew = x := ⟨_, rfl⟩
                rw [hw4] at HP4 hS0 ⊢
                clear hw4 hbw
                refine wpAnyH_take (i := 0) (v := ?_) rfl (by kernel_rfl) (by kernel_rfl) (by kernel_rfl) (fun _ _ _ h => h) (Or.inl ⟨by rfl, ?_⟩) hS0 ?_
                rotate_left 1
                · intro W hW
                  go_simp
                  try with_reducible rfl
                simp only [Act.put, List.getElem_toArray, List.getElem_cons_zero, List.getElem_cons_succ, List.setIfInBounds_toArray, List.set_cons_zero, List.set_cons_succ]
                refine wpAnyH_take (i := 1) (v := ?_) rfl (by kernel_rfl) (by kernel_rfl) (by kernel_rfl) (fun _ _ _ h => h) (Or.inl ⟨by rfl, ?_⟩) hS0 ?_
                rotate_left 1
                · intro W hW
                  go_simp
                  try with_reducible rfl
                simp only [Act.put, List.getElem_toArray, List.getElem_cons_zero, List.getElem_cons_succ, List.setIfInBounds_toArray, List.set_cons_zero, List.set_cons_succ]
                refine wpAnyH_take (i := 2) (v := ?_) rfl (by kernel_rfl) (by kernel_rfl) (by kernel_rfl) (fun _ _ _ h => h) (Or.inl ⟨by rfl, ?_⟩) hS0 ?_
                rotate_left 1
                · intro W hW
                  go_simp
                  try with_reducible rfl
                simp only [Act.put, List.getElem_toArray, List.getElem_cons_zero, List.getElem_cons_succ, List.setIfInBounds_toArray, List.set_cons_zero, List.set_cons_succ]
                refine wpAnyH_take (i := 3) (v := ?_) rfl (by kernel_rfl) (by kernel_rfl) (by kernel_rfl) (fun _ _ _ h => h) (Or.inl ⟨by rfl, ?_⟩) hS0 ?_
                rotate_left 1
                · intro W hW
                  have e2 := hW
                  go_simp
                  try with_reducible rfl
                simp only [Act.put, List.getElem_toArray, List.getElem_cons_zero, List.getElem_cons_succ, List.setIfInBounds_toArray, List.set_cons_zero, List.set_cons_succ]
                refine wpAnyH_take (i := 6) (v := ?_) rfl (by kernel_rfl) (by kernel_rfl) (by kernel_rfl) (fun _ _ _ h => h) (Or.inl ⟨by rfl, ?_⟩) hS0 ?_
                rotate_left 1
                · intro W hW
                  go_simp
                  try with_reducible rfl
                simp only [Act.put, List.getElem_toArray, List.getElem_cons_zero, List.getElem_cons_succ, List.setIfInBounds_toArray, List.set_cons_zero, List.set_cons_succ]
                refine wpAnyH_take (i := 7) (v := ?_) rfl (by kernel_rfl) (by kernel_rfl) (by kernel_rfl) (fun _ _ _ h => h) (Or.inl ⟨by rfl, ?_⟩) hS0 ?_
                rotate_left 1
                · intro W hW
                  go_simp
                  try with_reducible rfl
                simp only [Act.put, List.getElem_toArray, List.getElem_cons_zero, List.getElem_cons_succ, List.setIfInBounds_toArray, List.set_cons_zero, List.set_cons_succ]
                refine wpAnyH_take (i := 8) (v := ?_) rfl (by kernel_rfl) (by kernel_rfl) (by kernel_rfl) (fun _ _ _ h => h) (Or.inl ⟨by rfl, ?_⟩) hS0 ?_
                rotate_left 1
                · intro W hW
                  go_simp
                  try with_reducible rfl
                simp only [Act.put, List.getElem_toArray, List.getElem_cons_zero, List.getElem_cons_succ, List.setIfInBounds_toArray, List.set_cons_zero, List.set_cons_succ]
                refine wpAnyH_take (i := 9) (v := ?_) rfl (by kernel_rfl) (by kernel_rfl) (by kernel_rfl) (fun _ _ _ h => h) (Or.inl ⟨by rfl, ?_⟩) hS0 ?_
                rotate_left 1
                · intro W hW
                  have e2 := hW
                  go_simp
                  try with_reducible rfl
                simp only [Act.put, List.getElem_toArray, List.getElem_cons_zero, List.getElem_cons_succ, List.setIfInBounds_toArray, List.set_cons_zero, List.set_cons_succ]
                refine wpAnyH_ready (rs := [4]) (by kernel_rfl) (by simp) (AllReadyH.cons rfl (fun KK hKK => ?_) AllReadyH.nil)
                go_simp
                refine (block_any xb hkb0 hkb1 w4).mono ?_
                rintro z w5 ⟨rfl, hbw5⟩
                have HP5 := Lib.hid (HP4.out.keep hbw5)
                have hS5 : w5.cell? ⟨ba, 2, none⟩ = some (.int .u8 xb) := (HP5.out.cell (r := ⟨ba, 2, none⟩) (by simp)).trans a2
                refine hKK _ _ hS5 ?_
                intro _
                clear hKK KK hbw5
                try simp only [Act.put, List.getElem_toArray, List.getElem_cons_zero, List.getElem_cons_succ, List.setIfInBounds_toArray, List.set_cons_zero, List.set_cons_succ]
                refine wpAnyH_ready (rs := [5]) (by kernel_rfl) (by simp) (AllReadyH.cons rfl (fun KK hKK => ?_) AllReadyH.nil)
                have hG2 := HG.out.put (n := X) (blk_byt xb)
                have HAP := Lib.hid (fun W C (hw : WR W w1.heap.size C bx bl bd bh T co s') (h1 : ∀ a ∈ C, a < W.heap.size) (h2 : w1.heap.size ≤ W.heap.size) => a_put bx bl bd bh T co s' X (blk xb) hX0 hX1 HG.out.le HG.out.ri HSb.out W hw h1 h2)
                go_simp
                refine (c_put bt bm be bg bq T co s X (blk xb) hX0 hX1 HG.out.le (by omega) HG.out.c0 HSa.out w5 HP5.out.wc).mono ?_
                obtain ⟨GG, hGG⟩ : ∃ G, putT 80 2 X (blk xb) T co = G := ⟨_, rfl⟩
                rw [hGG] at hG2 HAP ⊢
                clear hGG
                obtain ⟨pc, T2, co2⟩ := GG
                have HG2 := Lib.hid hG2
                clear hG2
                rintro z w6 ⟨rfl, hc, hkf⟩
                have HP6 := Lib.hid (HP5.out.code hc hkf)
                have hS6 : w6.cell? ⟨ba, 2, none⟩ = some (.int .u8 xb) := (HP6.out.cell (r := ⟨ba, 2, none⟩) (by simp)).trans a2
                refine hKK _ _ hS6 ?_
                intro _
                clear hKK KK hc hkf
                try simp only [Act.put, List.getElem_toArray, List.getElem_cons_zero, List.getElem_cons_succ, List.setIfInBounds_toArray, List.set_cons_zero, List.set_cons_succ]
                refine wpAnyH_ready (rs := [10]) (by kernel_rfl) (by simp) (AllReadyH.cons rfl (fun KK hKK => ?_) AllReadyH.nil)
                go_simp
                refine (block_any xb hkb0 hkb1 w6).mono ?_
                rintro z w7 ⟨rfl, hbw7⟩
                have HP7 := Lib.hid (HP6.out.keep hbw7)
                have hS7 : w7.cell? ⟨ba, 2, none⟩ = some (.int .u8 xb) := (HP7.out.cell (r := ⟨ba, 2, none⟩) (by simp)).trans a2
                refine hKK _ _ hS7 ?_
                intro _
                clear hKK KK hbw7
                try simp only [Act.put, List.getElem_toArray, List.getElem_cons_zero, List.getElem_cons_succ, List.setIfInBounds_toArray, List.set_cons_zero, List.set_cons_succ]
                refine wpAnyH_ready (rs := [11]) (by kernel_rfl) (by simp) (AllReadyH.cons rfl (fun KK hKK => ?_) AllReadyH.nil)
                go_simp
                refine (HAP.out w7 _ HP7.out.wr HP7.out.hC HP7.out.hz).mono ?_
                rintro z w8 ⟨rfl, hr8⟩
                have HP8 := Lib.hid (HP7.out.ans hr8)
                have hS8 : w8.cell? ⟨ba, 2, none⟩ = some (.int .u8 xb) := (HP8.out.cell (r := ⟨ba, 2, none⟩) (by simp)).trans a2
                refine hKK _ _ hS8 ?_
                intro _
                clear hKK KK hr8
                try simp only [Act.put, List.getElem_toArray, List.getElem_cons_zero, List.getElem_cons_succ, List.setIfInBounds_toArray, List.set_cons_zero, List.set_cons_succ]
                refine wpAnyH_take (i := 12) (v := ?_) rfl (by kernel_rfl) (by kernel_rfl) (by kernel_rfl) (fun _ _ _ h => h) (Or.inl ⟨by rfl, ?_⟩) hS8 ?_
                rotate_left 1
                · intro W hW
                  go_simp
                  try with_reducible rfl
                simp only [Act.put, List.getElem_toArray, List.getElem_cons_zero, List.getElem_cons_succ, List.setIfInBounds_toArray, List.set_cons_zero, List.set_cons_succ]
                refine wpAnyH_done (by kernel_rfl) ?_ _
                go_wp2
                go_meet
                case rel => rw [hK1]; exact HP8.out.done HE.out HG2.out (HSa.out.mono (by omega)) (HSb.out.mono (by omega))
            · skip
              as_aux_lemma =>
                go_wp2_with fail
                have hg := HE.out.getT T X
                have hSa := HSa.out.getT T X
                have hSb := HSb.out.getT T X
                have HAG := Lib.hid (fun W C (hw : WR W w1.heap.size C bx bl bd bh T co s') => a_get bx bl bd bh T co s' X hX0 hX1 HG.out.le (by omega) HSb.out W hw)
                refine (c_get bt bm be bg bq T co s X hX0 hX1 (by omega) HSa.out wa HPA.out.wc).mono ?_
                obtain ⟨GG, hGG⟩ : ∃ G, getT s T X = G := ⟨_, rfl⟩
                obtain ⟨GH, hGH⟩ : ∃ G, getT s' T X = G := ⟨_, rfl⟩
                rw [hGG, hGH] at hg
                rw [hGG] at hSa ⊢
                rw [hGH] at hSb HAG
                clear hGG hGH
                obtain ⟨⟨V, c⟩, s2⟩ := GG
                obtain ⟨⟨V', c'⟩, s2'⟩ := GH
                obtain ⟨he1, he2⟩ := hg
                simp only [Prod.mk.injEq] at he1
                obtain ⟨rfl, rfl⟩ := he1
                have HE2 := Lib.hid he2
                have HSa2 := Lib.hid hSa
                have HSb2 := Lib.hid hSb
                clear he2 hSa hSb
                rintro z w5 ⟨rfl, hc, hkf⟩
                have HP5 := Lib.hid (HPA.out.code hc hkf)
                clear hc hkf
                go_wp2_with (first | (refine wpList_alloc_byts (w := w5) rfl 50 64 rfl Try.zero36 ?_; intro w6 F6 hb6 hz6) | (refine wpList_store_blk rfl (.tmp 13) (.tmp 86) rfl w5.heap.size 0 64 (fun _ => 0) V F6.out (by omega) rfl rfl ?_; intro w7 F7 HK7))
                have HP7 := Lib.hid (HP5.out.add (hb6.trans (HK7.out.below (Nat.le_refl _) (Nat.le_refl _) hb6.size)) w5.heap.size (Nat.le_refl _) F7.out.lt)
                have HV7 : Hid (Fl w7 w5.heap.size 64 V) := F7.out.congr fun j hj => by unfold upd; rw [if_pos (by omega), Nat.sub_zero]
                obtain ⟨b9, hb9⟩ : ∃ b9, w5.heap.size = b9 := ⟨_, rfl⟩
                rw [hb9] at HP7 HV7 ⊢
                clear HP5 F6 F7 HK7 hb6 hz6 hb9
                refine (HAG.out w7 _ HP7.out.wr).mono ?_
                rintro z w8 ⟨rfl, hr8⟩
                have HP8 := Lib.hid (HP7.out.ans hr8)
                clear hr8
                go_upto_region 21 with (first | (refine wpList_alloc_byts (w := w8) rfl 50 64 rfl Try.zero36 ?_; intro w9 F9 hb9 hz9) | (refine wpList_store_blk rfl (.tmp 15) (.tmp 92) rfl w8.heap.size 0 64 (fun _ => 0) V F9.out (by omega) rfl rfl ?_; intro w10 F10 HK10))
                have HP10 := Lib.hid (HP8.out.keep (hb9.trans (HK10.out.below (Nat.le_refl _) (Nat.le_refl _) hb9.size)))
                have HV10 := Lib.hid (HP10.out.fl (by simp) HV7.out)
                have HQ10 : Hid (Fl w10 w8.heap.size 64 V) := F10.out.congr (fun j hj => (by unfold upd; rw [if_pos (by omega), Nat.sub_zero]))
                have e36 : ∀ W, (Op.equalIn 10000 50 (.agg (byts 64 V).toArray) (.agg (byts 64 V).toArray)).run Try.prog W = .ok true W := fun W => by rw [eq36, eqb_same fun _ _ => rfl]
                have HEE := Lib.hid e36
                clear e36 F9 F10 HK10 hb9 hz9
                go_wp2_with (first | (refine wpList_yields _ (yieldsIf_load_mid rfl 50 (.tmp 13) rfl b9 0 rfl (byts 64 V) (.array 64 5) (fun W hh => by subst hh; exact HV10.out.range0) Try.arr36 rfl (size36 _)) ?_) | (refine wpList_yields _ (yieldsIf_load_mid rfl 50 (.tmp 15) rfl w8.heap.size 0 rfl (byts 64 V) (.array 64 5) (fun W hh => by subst hh; exact HQ10.out.range0) Try.arr36 rfl (size36 _)) ?_))
                rw [HEE.out w10]
                go_simp
                go_wp2
                go_meet
                case rel => rw [hK1]; exact HP10.out.less.done HE2.out HG.out HSa2.out HSb2.out
            · skip
              as_aux_lemma =>
                go_wp2_with fail
                have hg := HE.out.commit 2 T co
                have hG2 := TG.commit (s := s) HG.out
                have hSa := Sane.commit (fi := 2) T co _ s HG.out.le (fun p hp => (HG.out.bl p hp).2) HSa.out
                have hSb := Sane.commit (fi := 2) T co _ s' HG.out.le (fun p hp => (HG.out.bl p hp).2) HSb.out
                have HAG := Lib.hid (fun W C (hw : WR W w1.heap.size C bx bl bd bh T co s') => a_commit bx bl bd bh T co s' HG.out.le HG.out.bl hK HSb.out W hw)
                refine (c_commit bt bm be bg bq T co s HG.out.le HG.out.bl hK HG.out.c0 HSa.out wa HPA.out.wc).mono ?_
                obtain ⟨GG, hGG⟩ : ∃ G, commit 2 T co s = G := ⟨_, rfl⟩
                obtain ⟨GH, hGH⟩ : ∃ G, commit 2 T co s' = G := ⟨_, rfl⟩
                rw [hGG, hGH] at hg
                rw [hGG] at hSa hG2 ⊢
                rw [hGH] at hSb HAG
                clear hGG hGH
                obtain ⟨c, T2, s2⟩ := GG
                obtain ⟨c', T2', s2'⟩ := GH
                obtain ⟨he1, he3, he2⟩ := hg
                simp only at he1 he3
                subst he1 he3
                have HE2 := Lib.hid he2
                have HG2 := Lib.hid hG2
                have HSa2 := Lib.hid hSa
                have HSb2 := Lib.hid hSb
                clear he2 hSa hSb hG2
                rintro z w5 ⟨rfl, hc, hkf⟩
                have HP5 := Lib.hid (HPA.out.code hc hkf)
                clear hc hkf
                go_wp2_with fail
                refine (HAG.out w5 _ HP5.out.wr).mono ?_
                rintro z w6 ⟨rfl, hr6⟩
                have HP6 := Lib.hid (HP5.out.ans hr6)
                clear hr6
                go_wp2
                go_meet
                case rel => rw [hK1]; exact HP6.out.done HE2.out HG2.out (HSa2.out.mono (by omega)) (HSb2.out.mono (by omega))
            · skip
              as_aux_lemma =>
                go_wp2_with fail
                refine (c_drop bt bm be bg bq T co s wa HPA.out.wc).mono ?_
                rintro z w5 ⟨rfl, hc, hkf⟩
                have HP5 := Lib.hid (HPA.out.code hc hkf)
                clear hc hkf
                go_wp2_with fail
                refine (a_drop bx bl bd bh T co s' w5 HP5.out.wr).mono ?_
                rintro z w6 ⟨rfl, hr6⟩
                have HP6 := Lib.hid (HP5.out.ans hr6)
                clear hr6
                go_wp2
                go_meet
                case rel => rw [hK1]; exact HP6.out.done HE.out TG.nil (HSa.out.mono (by omega)) (HSb.out.mono (by omega))
            · by_cases hx4 : 0 < xb % 4
              · skip
                as_aux_lemma =>
                  go_wp2_with fail
                  have hy0 : 0 ≤ xb % 40 := by omega
                  have hy1 : xb % 40 < 256 := by omega
                  refine (c_arm bt bm be bg bq T co s (xb % 40) wa HPA.out.wc).mono ?_
                  rintro z w5 ⟨rfl, hc, hkf⟩
                  have HP5 := Lib.hid (HPA.out.code hc hkf)
                  clear hc hkf
                  go_upto_region 32 with fail
                  refine wp_region_held (S := fun W => W.cell? ⟨bl, 0, none⟩ = some (.pointer (some ⟨bd, 0, none⟩)) ∧ W.cell? ⟨ba, 2, none⟩ = some (.int .u8 xb)) (by kernel_rfl) ?_
                  change wpAnyH _ _ _ _ _ _ _ _ (World.drew _)
                  have hbw : Below w5.heap.size w5 w5.drew := (Below.refl _ _).drew
                  have HP6 := Lib.hid (HP5.out.keep hbw)
                  obtain ⟨w6, hw6⟩ : ∃ x, w5.drew = x := ⟨_, rfl⟩
                  rw [hw6] at HP6 ⊢
                  clear hw6 hbw
                  have hS0 : w6.cell? ⟨bl, 0, none⟩ = some (.pointer (some ⟨bd, 0, none⟩)) ∧ w6.cell? ⟨ba, 2, none⟩ = some (.int .u8 xb) := ⟨HP6.out.wr.lg.c0, (HP6.out.cell (r := ⟨ba, 2, none⟩) (by simp)).trans a2⟩
                  refine wpAnyH_take (i := 0) (v := ?_) rfl (by kernel_rfl) (by kernel_rfl) (by kernel_rfl) (fun _ _ _ h => h) (Or.inl ⟨by rfl, ?_⟩) hS0 ?_
                  rotate_left 1
                  · intro W hW
                    go_simp
                    try with_reducible rfl
                  simp only [Act.put, List.getElem_toArray, List.getElem_cons_zero, List.getElem_cons_succ, List.setIfInBounds_toArray, List.set_cons_zero, List.set_cons_succ]
                  refine wpAnyH_take (i := 1) (v := ?_) rfl (by kernel_rfl) (by kernel_rfl) (by kernel_rfl) (fun _ _ _ h => h) (Or.inl ⟨by rfl, ?_⟩) hS0 ?_
                  rotate_left 1
                  · intro W hW
                    go_simp
                    try with_reducible rfl
                  simp only [Act.put, List.getElem_toArray, List.getElem_cons_zero, List.getElem_cons_succ, List.setIfInBounds_toArray, List.set_cons_zero, List.set_cons_succ]
                  refine wpAnyH_take (i := 2) (v := ?_) rfl (by kernel_rfl) (by kernel_rfl) (by kernel_rfl) (fun _ _ _ h => h) (Or.inl ⟨by rfl, ?_⟩) hS0 ?_
                  rotate_left 1
                  · intro W hW
                    go_simp
                    try with_reducible rfl
                  simp only [Act.put, List.getElem_toArray, List.getElem_cons_zero, List.getElem_cons_succ, List.setIfInBounds_toArray, List.set_cons_zero, List.set_cons_succ]
                  refine wpAnyH_take (i := 3) (v := ?_) rfl (by kernel_rfl) (by kernel_rfl) (by kernel_rfl) (fun _ _ _ h => h) (Or.inl ⟨by rfl, ?_⟩) hS0 ?_
                  rotate_left 1
                  · intro W hW
                    have e1 := hW.1
                    go_simp
                    try with_reducible rfl
                  simp only [Act.put, List.getElem_toArray, List.getElem_cons_zero, List.getElem_cons_succ, List.setIfInBounds_toArray, List.set_cons_zero, List.set_cons_succ]
                  refine wpAnyH_take (i := 4) (v := ?_) rfl (by kernel_rfl) (by kernel_rfl) (by kernel_rfl) (fun _ _ _ h => h) (Or.inl ⟨by rfl, ?_⟩) hS0 ?_
                  rotate_left 1
                  · intro W hW
                    go_simp
                    try with_reducible rfl
                  simp only [Act.put, List.getElem_toArray, List.getElem_cons_zero, List.getElem_cons_succ, List.setIfInBounds_toArray, List.set_cons_zero, List.set_cons_succ]
                  refine wpAnyH_take (i := 5) (v := ?_) rfl (by kernel_rfl) (by kernel_rfl) (by kernel_rfl) (fun _ _ _ h => h) (Or.inl ⟨by rfl, ?_⟩) hS0 ?_
                  rotate_left 1
                  · intro W hW
                    have e2 := hW.2
                    go_simp
                    try with_reducible rfl
                  simp only [Act.put, List.getElem_toArray, List.getElem_cons_zero, List.getElem_cons_succ, List.setIfInBounds_toArray, List.set_cons_zero, List.set_cons_succ]
                  refine wpAnyH_take (i := 6) (v := ?_) rfl (by kernel_rfl) (by kernel_rfl) (by kernel_rfl) (fun _ _ _ h => h) (Or.inl ⟨by rfl, ?_⟩) hS0 ?_
                  rotate_left 1
                  · intro W hW
                    go_simp
                    try with_reducible rfl
                  simp only [Act.put, List.getElem_toArray, List.getElem_cons_zero, List.getElem_cons_succ, List.setIfInBounds_toArray, List.set_cons_zero, List.set_cons_succ]
                  refine wpAnyH_take (i := 7) (v := ?_) rfl (by kernel_rfl) (by kernel_rfl) (by kernel_rfl) (fun _ _ _ h => h) (Or.inl ⟨by rfl, ?_⟩) hS0 ?_
                  rotate_left 1
                  · intro W hW
                    go_simp
                    try with_reducible rfl
                  simp only [Act.put, List.getElem_toArray, List.getElem_cons_zero, List.getElem_cons_succ, List.setIfInBounds_toArray, List.set_cons_zero, List.set_cons_succ]
                  refine wpAnyH_take (i := 8) (v := ?_) rfl (by kernel_rfl) (by kernel_rfl) (by kernel_rfl) (fun _ _ _ h => h) (Or.inl ⟨by rfl, ?_⟩) hS0 ?_
                  rotate_left 1
                  · intro W hW
                    go_simp
                    try with_reducible rfl
                  simp only [Act.put, List.getElem_toArray, List.getElem_cons_zero, List.getElem_cons_succ, List.setIfInBounds_toArray, List.set_cons_zero, List.set_cons_succ]
                  refine wpAnyH_take (i := 9) (v := ?_) rfl (by kernel_rfl) (by kernel_rfl) (by kernel_rfl) (fun _ _ _ h => h) (Or.inl ⟨by rfl, ?_⟩) hS0 ?_
                  rotate_left 1
                  · intro W hW
                    go_simp
                    try with_reducible rfl
                  simp only [Act.put, List.getElem_toArray, List.getElem_cons_zero, List.getElem_cons_succ, List.setIfInBounds_toArray, List.set_cons_zero, List.set_cons_succ]
                  refine wpAnyH_ready (rs := [10]) (by kernel_rfl) (by simp) (AllReadyH.cons rfl (fun KK hKK => ?_) AllReadyH.nil)
                  have c1 := HP6.out.wr.rk.c1
                  have z1 := HP6.out.wr.rk.z1
                  go_simp
                  have HP7 := Lib.hid (HP6.out.ans (HP6.out.wr.setL (decide (0 ≤ xb % 40)) (xb % 40) (xb % 40) (by unfold lfR; rw [if_pos (decide_eq_true hy0)])))
                  rw [show IntKind.i64.wrap (xb.tmod 40) = xb % 40 by rw [Int.tmod_eq_emod_of_nonneg hkb0]; exact IntWalk.i64_in _ (by omega)]
                  obtain ⟨w7, hw7⟩ : ∃ x, w6.setCell ⟨bd, 1, none⟩ (.int .i64 (xb % 40)) = x := ⟨_, rfl⟩
                  rw [hw7] at HP7 ⊢
                  clear hw7 c1 z1
                  have hS7 : w7.cell? ⟨bl, 0, none⟩ = some (.pointer (some ⟨bd, 0, none⟩)) ∧ w7.cell? ⟨ba, 2, none⟩ = some (.int .u8 xb) := ⟨HP7.out.wr.lg.c0, (HP7.out.cell (r := ⟨ba, 2, none⟩) (by simp)).trans a2⟩
                  refine hKK _ _ hS7 ?_
                  intro _
                  clear hKK KK
                  try simp only [Act.put, List.getElem_toArray, List.getElem_cons_zero, List.getElem_cons_succ, List.setIfInBounds_toArray, List.set_cons_zero, List.set_cons_succ]
                  refine wpAnyH_done (by kernel_rfl) ?_ _
                  go_wp2
                  go_meet
                  case rel => rw [hK1]; exact HP7.out.done ⟨HE.out.n, HE.out.f, rfl, rfl, HE.out.de⟩ HG.out (HSa.out.arm _ hy0 hy1) (HSb.out.arm _ hy0 hy1)
              · skip
                as_aux_lemma =>
                  go_wp2_with fail
                  refine (c_wake bt bm be bg bq T co s wa HPA.out.wc).mono ?_
                  rintro z w5 ⟨rfl, hc, hkf⟩
                  have HP5 := Lib.hid (HPA.out.code hc hkf)
                  clear hc hkf
                  go_upto_region 34 with fail
                  refine wp_region_held (S := fun W => W.cell? ⟨bl, 0, none⟩ = some (.pointer (some ⟨bd, 0, none⟩))) (by kernel_rfl) ?_
                  change wpAnyH _ _ _ _ _ _ _ _ (World.drew _)
                  have hbw : Below w5.heap.size w5 w5.drew := (Below.refl _ _).drew
                  have HP6 := Lib.hid (HP5.out.keep hbw)
                  obtain ⟨w6, hw6⟩ : ∃ x, w5.drew = x := ⟨_, rfl⟩
                  rw [hw6] at HP6 ⊢
                  clear hw6 hbw
                  have hS0 : w6.cell? ⟨bl, 0, none⟩ = some (.pointer (some ⟨bd, 0, none⟩)) := HP6.out.wr.lg.c0
                  refine wpAnyH_take (i := 0) (v := ?_) rfl (by kernel_rfl) (by kernel_rfl) (by kernel_rfl) (fun _ _ _ h => h) (Or.inl ⟨by rfl, ?_⟩) hS0 ?_
                  rotate_left 1
                  · intro W hW
                    go_simp
                    try with_reducible rfl
                  simp only [Act.put, List.getElem_toArray, List.getElem_cons_zero, List.getElem_cons_succ, List.setIfInBounds_toArray, List.set_cons_zero, List.set_cons_succ]
                  refine wpAnyH_take (i := 1) (v := ?_) rfl (by kernel_rfl) (by kernel_rfl) (by kernel_rfl) (fun _ _ _ h => h) (Or.inl ⟨by rfl, ?_⟩) hS0 ?_
                  rotate_left 1
                  · intro W hW
                    go_simp
                    try with_reducible rfl
                  simp only [Act.put, List.getElem_toArray, List.getElem_cons_zero, List.getElem_cons_succ, List.setIfInBounds_toArray, List.set_cons_zero, List.set_cons_succ]
                  refine wpAnyH_take (i := 2) (v := ?_) rfl (by kernel_rfl) (by kernel_rfl) (by kernel_rfl) (fun _ _ _ h => h) (Or.inl ⟨by rfl, ?_⟩) hS0 ?_
                  rotate_left 1
                  · intro W hW
                    go_simp
                    try with_reducible rfl
                  simp only [Act.put, List.getElem_toArray, List.getElem_cons_zero, List.getElem_cons_succ, List.setIfInBounds_toArray, List.set_cons_zero, List.set_cons_succ]
                  refine wpAnyH_take (i := 3) (v := ?_) rfl (by kernel_rfl) (by kernel_rfl) (by kernel_rfl) (fun _ _ _ h => h) (Or.inl ⟨by rfl, ?_⟩) hS0 ?_
                  rotate_left 1
                  · intro W hW
                    have e1 := hW
                    go_simp
                    try with_reducible rfl
                  simp only [Act.put, List.getElem_toArray, List.getElem_cons_zero, List.getElem_cons_succ, List.setIfInBounds_toArray, List.set_cons_zero, List.set_cons_succ]
                  refine wpAnyH_take (i := 4) (v := ?_) rfl (by kernel_rfl) (by kernel_rfl) (by kernel_rfl) (fun _ _ _ h => h) (Or.inl ⟨by rfl, ?_⟩) hS0 ?_
                  rotate_left 1
                  · intro W hW
                    go_simp
                    try with_reducible rfl
                  simp only [Act.put, List.getElem_toArray, List.getElem_cons_zero, List.getElem_cons_succ, List.setIfInBounds_toArray, List.set_cons_zero, List.set_cons_succ]
                  refine wpAnyH_take (i := 5) (v := ?_) rfl (by kernel_rfl) (by kernel_rfl) (by kernel_rfl) (fun _ _ _ h => h) (Or.inl ⟨by rfl, ?_⟩) hS0 ?_
                  rotate_left 1
                  · intro W hW
                    go_simp
                    try with_reducible rfl
                  simp only [Act.put, List.getElem_toArray, List.getElem_cons_zero, List.getElem_cons_succ, List.setIfInBounds_toArray, List.set_cons_zero, List.set_cons_succ]
                  refine wpAnyH_take (i := 6) (v := ?_) rfl (by kernel_rfl) (by kernel_rfl) (by kernel_rfl) (fun _ _ _ h => h) (Or.inl ⟨by rfl, ?_⟩) hS0 ?_
                  rotate_left 1
                  · intro W hW
                    go_simp
                    try with_reducible rfl
                  simp only [Act.put, List.getElem_toArray, List.getElem_cons_zero, List.getElem_cons_succ, List.setIfInBounds_toArray, List.set_cons_zero, List.set_cons_succ]
                  refine wpAnyH_take (i := 7) (v := ?_) rfl (by kernel_rfl) (by kernel_rfl) (by kernel_rfl) (fun _ _ _ h => h) (Or.inl ⟨by rfl, ?_⟩) hS0 ?_
                  rotate_left 1
                  · intro W hW
                    have e1 := hW
                    go_simp
                    try with_reducible rfl
                  simp only [Act.put, List.getElem_toArray, List.getElem_cons_zero, List.getElem_cons_succ, List.setIfInBounds_toArray, List.set_cons_zero, List.set_cons_succ]
                  refine wpAnyH_take (i := 8) (v := ?_) rfl (by kernel_rfl) (by kernel_rfl) (by kernel_rfl) (fun _ _ _ h => h) (Or.inl ⟨by rfl, ?_⟩) hS0 ?_
                  rotate_left 1
                  · intro W hW
                    go_simp
                    try with_reducible rfl
                  simp only [Act.put, List.getElem_toArray, List.getElem_cons_zero, List.getElem_cons_succ, List.setIfInBounds_toArray, List.set_cons_zero, List.set_cons_succ]
                  refine wpAnyH_take (i := 9) (v := ?_) rfl (by kernel_rfl) (by kernel_rfl) (by kernel_rfl) (fun _ _ _ h => h) (Or.inl ⟨by rfl, ?_⟩) hS0 ?_
                  rotate_left 1
                  · intro W hW
                    go_simp
                    try with_reducible rfl
                  simp only [Act.put, List.getElem_toArray, List.getElem_cons_zero, List.getElem_cons_succ, List.setIfInBounds_toArray, List.set_cons_zero, List.set_cons_succ]
                  refine wpAnyH_ready (rs := [10]) (by kernel_rfl) (by simp) (AllReadyH.cons rfl (fun KK hKK => ?_) AllReadyH.nil)
                  have c2 := HP6.out.wr.rk.c2
                  have z2 := HP6.out.wr.rk.z2
                  go_simp
                  have HP7 := Lib.hid (HP6.out.ans (HP6.out.wr.setD false))
                  obtain ⟨w7, hw7⟩ : ∃ x, w6.setCell ⟨bd, 2, none⟩ (.bool false) = x := ⟨_, rfl⟩
                  rw [hw7] at HP7 ⊢
                  clear hw7 c2 z2
                  have hS7 : w7.cell? ⟨bl, 0, none⟩ = some (.pointer (some ⟨bd, 0, none⟩)) := HP7.out.wr.lg.c0
                  refine hKK _ _ hS7 ?_
                  intro _
                  clear hKK KK
                  try simp only [Act.put, List.getElem_toArray, List.getElem_cons_zero, List.getElem_cons_succ, List.setIfInBounds_toArray, List.set_cons_zero, List.set_cons_succ]
                  refine wpAnyH_take (i := 11) (v := ?_) rfl (by kernel_rfl) (by kernel_rfl) (by kernel_rfl) (fun _ _ _ h => h) (Or.inl ⟨by rfl, ?_⟩) hS7 ?_
                  rotate_left 1
                  · intro W hW
                    go_simp
                    try with_reducible rfl
                  simp only [Act.put, List.getElem_toArray, List.getElem_cons_zero, List.getElem_cons_succ, List.setIfInBounds_toArray, List.set_cons_zero, List.set_cons_succ]
                  refine wpAnyH_take (i := 12) (v := ?_) rfl (by kernel_rfl) (by kernel_rfl) (by kernel_rfl) (fun _ _ _ h => h) (Or.inl ⟨by rfl, ?_⟩) hS7 ?_
                  rotate_left 1
                  · intro W hW
                    go_simp
                    try with_reducible rfl
                  simp only [Act.put, List.getElem_toArray, List.getElem_cons_zero, List.getElem_cons_succ, List.setIfInBounds_toArray, List.set_cons_zero, List.set_cons_succ]
                  refine wpAnyH_ready (rs := [13]) (by kernel_rfl) (by simp) (AllReadyH.cons rfl (fun KK hKK => ?_) AllReadyH.nil)
                  have c1 := HP7.out.wr.rk.c1
                  have z1 := HP7.out.wr.rk.z1
                  go_simp
                  have HP8 := Lib.hid (HP7.out.ans (HP7.out.wr.setL false s'.lf (-1) rfl))
                  obtain ⟨w8, hw8⟩ : ∃ x, w7.setCell ⟨bd, 1, none⟩ (.int .i64 (-1)) = x := ⟨_, rfl⟩
                  rw [hw8] at HP8 ⊢
                  clear hw8 c1 z1
                  have hS8 : w8.cell? ⟨bl, 0, none⟩ = some (.pointer (some ⟨bd, 0, none⟩)) := HP8.out.wr.lg.c0
                  refine hKK _ _ hS8 ?_
                  intro _
                  clear hKK KK
                  try simp only [Act.put, List.getElem_toArray, List.getElem_cons_zero, List.getElem_cons_succ, List.setIfInBounds_toArray, List.set_cons_zero, List.set_cons_succ]
                  refine wpAnyH_done (by kernel_rfl) ?_ _
                  obtain ⟨sA, sB, HP9, HE9, HSa9, HSb9⟩ : ∃ sA sB, Hid (PP w1 w1.heap.size [ba] wa bt bm be bg bq bx bl bd bh T co sA T co sB w8) ∧ Hid (Eqv sA sB) ∧ Hid (Sane sA 80 (1 + 100 * k)) ∧ Hid (Sane sB 80 (1 + 100 * k)) := ⟨_, _, HP8, Lib.hid ⟨HE.out.n, HE.out.f, rfl, HE.out.lf, rfl⟩, Lib.hid HSa.out.wake, Lib.hid HSb.out.wake⟩
                  clear HP8 HP7 HP6 HP5 HPA hS8 hS7 hS0 HE HSa HSb
                  go_wp2_with fail
                  have hg := HE9.out.recover 2
                  have hSa := Sane.recover (fi := 2) HSa9.out
                  have hSb := Sane.recover (fi := 2) HSb9.out
                  have HAG := Lib.hid (fun W C (hw : WR W w1.heap.size C bx bl bd bh T co sB) => a_recover bx bl bd bh T co sB hK HSb9.out W hw)
                  refine (c_recover bt bm be bg bq T co sA hK HSa9.out w8 HP9.out.wc).mono ?_
                  obtain ⟨GG, hGG⟩ : ∃ G, recover 2 sA = G := ⟨_, rfl⟩
                  obtain ⟨GH, hGH⟩ : ∃ G, recover 2 sB = G := ⟨_, rfl⟩
                  rw [hGG, hGH] at hg
                  rw [hGG] at hSa ⊢
                  rw [hGH] at hSb HAG
                  clear hGG hGH
                  obtain ⟨⟨r1, r2⟩, s2⟩ := GG
                  obtain ⟨⟨r1', r2'⟩, s2'⟩ := GH
                  obtain ⟨he1, he2⟩ := hg
                  simp only [Prod.mk.injEq] at he1
                  obtain ⟨rfl, rfl⟩ := he1
                  have HE2 := Lib.hid he2
                  have HSa2 := Lib.hid hSa
                  have HSb2 := Lib.hid hSb
                  clear he2 hSa hSb
                  rintro z wR ⟨rfl, hc, hkf⟩
                  have HPR := Lib.hid (HP9.out.code hc hkf)
                  clear hc hkf
                  go_wp2_with fail
                  refine (HAG.out wR _ HPR.out.wr).mono ?_
                  rintro z wS ⟨rfl, hr6⟩
                  have HPS := Lib.hid (HPR.out.ans hr6)
                  clear hr6
                  go_wp2
                  go_meet
                  case rel => rw [hK1]; exact HPS.out.done HE2.out HG.out (HSa2.out.mono (by omega)) (HSb2.out.mono (by omega))
          case rest =>
            obtain ⟨T, co, s, s', hP, hE, hG, hSa, hSb⟩ := hcut.ex
            as_aux_lemma =>
              have HPL := Lib.hid hcut
              have hn := hSa.n
              obtain ⟨ra, rcap, vb, hX, d0, d2, hF, hL, hTx, hDk⟩ := hP.ends hE hn
              have HX := Lib.hid hX
              have HD0 := Lib.hid d0
              have HD2 := Lib.hid d2
              have HF := Lib.hid hF
              have HL := Lib.hid hL
              have HTx := Lib.hid hTx
              have HDk := Lib.hid hDk
              have hT30 := hG.le
              have hbdl := hP.wr.rk.lt
              have hsn : s.n ≤ 65536 := by omega
              clear hX d0 d2 hF hL hTx hDk hP hE hG hSa hSb hcut
              go_upto_region 39 with fail
              refine wp_region_held (S := fun W => Below wc.heap.size wc W) (by kernel_rfl) ?_
              change wpAnyH _ _ _ _ _ _ _ _ (World.drew _)
              have hS0 : Below wc.heap.size wc wc.drew := (Below.refl _ _).drew
              obtain ⟨w5, hw5⟩ : ∃ x, wc.drew = x := ⟨_, rfl⟩
              rw [hw5] at hS0 ⊢
              clear hw5
              have HS5 := Lib.hid hS0
              refine wpAnyH_take (i := 0) (v := ?_) rfl (by kernel_rfl) (by kernel_rfl) (by kernel_rfl) (fun _ _ _ h => h) (Or.inl ⟨by rfl, ?_⟩) hS0 ?_
              rotate_left 1
              · intro W hW
                go_simp
                try with_reducible rfl
              simp only [Act.put, List.getElem_toArray, List.getElem_cons_zero, List.getElem_cons_succ, List.setIfInBounds_toArray, List.set_cons_zero, List.set_cons_succ]
              refine wpAnyH_take (i := 2) (v := ?_) rfl (by kernel_rfl) (by kernel_rfl) (by kernel_rfl) (fun _ _ _ h => h) (Or.inl ⟨by rfl, ?_⟩) hS0 ?_
              rotate_left 1
              · intro W hW
                go_simp
                try with_reducible rfl
              simp only [Act.put, List.getElem_toArray, List.getElem_cons_zero, List.getElem_cons_succ, List.setIfInBounds_toArray, List.set_cons_zero, List.set_cons_succ]
              refine wpAnyH_take (i := 3) (v := ?_) rfl (by kernel_rfl) (by kernel_rfl) (by kernel_rfl) (fun _ _ _ h => h) (Or.inl ⟨by rfl, ?_⟩) hS0 ?_
              rotate_left 1
              · intro W hW
                go_simp
                try with_reducible rfl
              simp only [Act.put, List.getElem_toArray, List.getElem_cons_zero, List.getElem_cons_succ, List.setIfInBounds_toArray, List.set_cons_zero, List.set_cons_succ]
              refine wpAnyH_take (i := 4) (v := ?_) rfl (by kernel_rfl) (by kernel_rfl) (by kernel_rfl) (fun _ _ _ h => h) (Or.inl ⟨by rfl, ?_⟩) hS0 ?_
              rotate_left 1
              · intro W hW
                go_simp
                try with_reducible rfl
              simp only [Act.put, List.getElem_toArray, List.getElem_cons_zero, List.getElem_cons_succ, List.setIfInBounds_toArray, List.set_cons_zero, List.set_cons_succ]
              refine wpAnyH_take (i := 5) (v := ?_) rfl (by kernel_rfl) (by kernel_rfl) (by kernel_rfl) (fun _ _ _ h => h) (Or.inl ⟨by rfl, ?_⟩) hS0 ?_
              rotate_left 1
              · intro W hW
                have e1 := (HX.out.below hW).c1
                go_simp
                try with_reducible rfl
              simp only [Act.put, List.getElem_toArray, List.getElem_cons_zero, List.getElem_cons_succ, List.setIfInBounds_toArray, List.set_cons_zero, List.set_cons_succ]
              refine wpAnyH_take (i := 6) (v := ?_) rfl (by kernel_rfl) (by kernel_rfl) (by kernel_rfl) (fun _ _ _ h => h) (Or.inl ⟨by rfl, ?_⟩) hS0 ?_
              rotate_left 1
              · intro W hW
                go_simp
                try with_reducible rfl
              simp only [Act.put, List.getElem_toArray, List.getElem_cons_zero, List.getElem_cons_succ, List.setIfInBounds_toArray, List.set_cons_zero, List.set_cons_succ]
              refine wpAnyH_ready (rs := [1]) (by kernel_rfl) (by simp) (AllReadyH.cons rfl (fun KK hKK => ?_) AllReadyH.nil)
              go_simp
              refine (tlen_any bt bm be 2 T co w5 (HTx.out.keep HS5.out)).mono ?_
              rintro z w6 ⟨rfl, hw6⟩
              have HS6 : Hid (Below wc.heap.size wc w6) := by rw [hw6]; exact HS5
              clear hw6
              clear hS0
              have hS0 : Below wc.heap.size wc w6 := HS6.out
              refine hKK _ _ hS0 ?_
              intro _
              clear hKK KK
              try simp only [Act.put, List.getElem_toArray, List.getElem_cons_zero, List.getElem_cons_succ, List.setIfInBounds_toArray, List.set_cons_zero, List.set_cons_succ]
              refine wpAnyH_take (i := 7) (v := ?_) rfl (by kernel_rfl) (by kernel_rfl) (by kernel_rfl) (fun _ _ _ h => h) (Or.inl ⟨by rfl, ?_⟩) hS0 ?_
              rotate_left 1
              · intro W hW
                go_simp
                try with_reducible rfl
              simp only [Act.put, List.getElem_toArray, List.getElem_cons_zero, List.getElem_cons_succ, List.setIfInBounds_toArray, List.set_cons_zero, List.set_cons_succ]
              refine wpAnyH_take (i := 8) (v := ?_) rfl (by kernel_rfl) (by kernel_rfl) (by kernel_rfl) (fun _ _ _ h => h) (Or.inl ⟨by rfl, ?_⟩) hS0 ?_
              rotate_left 1
              · intro W hW
                go_simp
                try with_reducible rfl
              simp only [Act.put, List.getElem_toArray, List.getElem_cons_zero, List.getElem_cons_succ, List.setIfInBounds_toArray, List.set_cons_zero, List.set_cons_succ]
              refine wpAnyH_take (i := 9) (v := ?_) rfl (by kernel_rfl) (by kernel_rfl) (by kernel_rfl) (fun _ _ _ h => h) (Or.inl ⟨by rfl, ?_⟩) hS0 ?_
              rotate_left 1
              · intro W hW
                go_simp
                try with_reducible rfl
              simp only [Act.put, List.getElem_toArray, List.getElem_cons_zero, List.getElem_cons_succ, List.setIfInBounds_toArray, List.set_cons_zero, List.set_cons_succ]
              refine wpAnyH_take (i := 11) (v := ?_) rfl (by kernel_rfl) (by kernel_rfl) (by kernel_rfl) (fun _ _ _ h => h) (Or.inl ⟨by rfl, ?_⟩) hS0 ?_
              rotate_left 1
              · intro W hW
                go_simp
                try with_reducible rfl
              simp only [Act.put, List.getElem_toArray, List.getElem_cons_zero, List.getElem_cons_succ, List.setIfInBounds_toArray, List.set_cons_zero, List.set_cons_succ]
              refine wpAnyH_take (i := 12) (v := ?_) rfl (by kernel_rfl) (by kernel_rfl) (by kernel_rfl) (fun _ _ _ h => h) (Or.inl ⟨by rfl, ?_⟩) hS0 ?_
              rotate_left 1
              · intro W hW
                go_simp
                try with_reducible rfl
              simp only [Act.put, List.getElem_toArray, List.getElem_cons_zero, List.getElem_cons_succ, List.setIfInBounds_toArray, List.set_cons_zero, List.set_cons_succ]
              refine wpAnyH_take (i := 13) (v := ?_) rfl (by kernel_rfl) (by kernel_rfl) (by kernel_rfl) (fun _ _ _ h => h) (Or.inl ⟨by rfl, ?_⟩) hS0 ?_
              rotate_left 1
              · intro W hW
                go_simp
                try with_reducible rfl
              simp only [Act.put, List.getElem_toArray, List.getElem_cons_zero, List.getElem_cons_succ, List.setIfInBounds_toArray, List.set_cons_zero, List.set_cons_succ]
              refine wpAnyH_take (i := 14) (v := ?_) rfl (by kernel_rfl) (by kernel_rfl) (by kernel_rfl) (fun _ _ _ h => h) (Or.inl ⟨by rfl, ?_⟩) hS0 ?_
              rotate_left 1
              · intro W hW
                have e1 := (HX.out.below hW).c1
                go_simp
                try with_reducible rfl
              simp only [Act.put, List.getElem_toArray, List.getElem_cons_zero, List.getElem_cons_succ, List.setIfInBounds_toArray, List.set_cons_zero, List.set_cons_succ]
              refine wpAnyH_ready (rs := [10]) (by kernel_rfl) (by simp) (AllReadyH.cons rfl (fun KK hKK => ?_) AllReadyH.nil)
              go_simp
              refine (blocks_any bt bm be 2 T co (by omega) w6 (HTx.out.keep HS6.out)).mono ?_
              rintro z w7 ⟨v7, rfl, hN7, ho7, hb7⟩
              have HN7 := Lib.hid hN7
              have HS7 := Lib.hid (HS6.out.trans (hb7.mono HS6.out.size))
              clear hN7 ho7 hb7
              clear hS0
              have hS0 : Below wc.heap.size wc w7 := HS7.out
              refine hKK _ _ hS0 ?_
              intro _
              clear hKK KK
              try simp only [Act.put, List.getElem_toArray, List.getElem_cons_zero, List.getElem_cons_succ, List.setIfInBounds_toArray, List.set_cons_zero, List.set_cons_succ]
              refine wpAnyH_ready (rs := [15]) (by kernel_rfl) (by simp) (AllReadyH.cons rfl (fun KK hKK => ?_) AllReadyH.nil)
              have HSI := Lib.hid (sameints_any v7 (.slice ra T.length rcap) (keys T) (keys T) (by rw [keys_len]; omega) (by rw [keys_len]; omega) w7 HN7.out (HX.out.below HS7.out).ns)
              go_simp
              refine (HSI.out).mono ?_
              rintro z w8 ⟨rfl, hb8⟩
              rw [show decide (keys T = keys T) = true by simp]
              have HS8 := Lib.hid (HS7.out.trans (hb8.mono HS7.out.size))
              clear hb8 HSI HN7
              clear hS0
              have hS0 : Below wc.heap.size wc w8 := HS8.out
              refine hKK _ _ hS0 ?_
              intro _
              clear hKK KK
              try simp only [Act.put, List.getElem_toArray, List.getElem_cons_zero, List.getElem_cons_succ, List.setIfInBounds_toArray, List.set_cons_zero, List.set_cons_succ]
              refine wpAnyH_take (i := 16) (v := ?_) rfl (by kernel_rfl) (by kernel_rfl) (by kernel_rfl) (fun _ _ _ h => h) (Or.inl ⟨by rfl, ?_⟩) hS0 ?_
              rotate_left 1
              · intro W hW
                go_simp
                try with_reducible rfl
              simp only [Act.put, List.getElem_toArray, List.getElem_cons_zero, List.getElem_cons_succ, List.setIfInBounds_toArray, List.set_cons_zero, List.set_cons_succ]
              refine wpAnyH_take (i := 17) (v := ?_) rfl (by kernel_rfl) (by kernel_rfl) (by kernel_rfl) (fun _ _ _ h => h) (Or.inl ⟨by rfl, ?_⟩) hS0 ?_
              rotate_left 1
              · intro W hW
                go_simp
                try with_reducible rfl
              simp only [Act.put, List.getElem_toArray, List.getElem_cons_zero, List.getElem_cons_succ, List.setIfInBounds_toArray, List.set_cons_zero, List.set_cons_succ]
              refine wpAnyH_take (i := 18) (v := ?_) rfl (by kernel_rfl) (by kernel_rfl) (by kernel_rfl) (fun _ _ _ h => h) (Or.inl ⟨by rfl, ?_⟩) hS0 ?_
              rotate_left 1
              · intro W hW
                go_simp
                try with_reducible rfl
              simp only [Act.put, List.getElem_toArray, List.getElem_cons_zero, List.getElem_cons_succ, List.setIfInBounds_toArray, List.set_cons_zero, List.set_cons_succ]
              refine wpAnyH_take (i := 19) (v := ?_) rfl (by kernel_rfl) (by kernel_rfl) (by kernel_rfl) (fun _ _ _ h => h) (Or.inl ⟨by rfl, ?_⟩) hS0 ?_
              rotate_left 1
              · intro W hW
                go_simp
                try with_reducible rfl
              simp only [Act.put, List.getElem_toArray, List.getElem_cons_zero, List.getElem_cons_succ, List.setIfInBounds_toArray, List.set_cons_zero, List.set_cons_succ]
              refine wpAnyH_take (i := 21) (v := ?_) rfl (by kernel_rfl) (by kernel_rfl) (by kernel_rfl) (fun _ _ _ h => h) (Or.inl ⟨by rfl, ?_⟩) hS0 ?_
              rotate_left 1
              · intro W hW
                go_simp
                try with_reducible rfl
              simp only [Act.put, List.getElem_toArray, List.getElem_cons_zero, List.getElem_cons_succ, List.setIfInBounds_toArray, List.set_cons_zero, List.set_cons_succ]
              refine wpAnyH_take (i := 22) (v := ?_) rfl (by kernel_rfl) (by kernel_rfl) (by kernel_rfl) (fun _ _ _ h => h) (Or.inl ⟨by rfl, ?_⟩) hS0 ?_
              rotate_left 1
              · intro W hW
                go_simp
                try with_reducible rfl
              simp only [Act.put, List.getElem_toArray, List.getElem_cons_zero, List.getElem_cons_succ, List.setIfInBounds_toArray, List.set_cons_zero, List.set_cons_succ]
              refine wpAnyH_take (i := 23) (v := ?_) rfl (by kernel_rfl) (by kernel_rfl) (by kernel_rfl) (fun _ _ _ h => h) (Or.inl ⟨by rfl, ?_⟩) hS0 ?_
              rotate_left 1
              · intro W hW
                go_simp
                try with_reducible rfl
              simp only [Act.put, List.getElem_toArray, List.getElem_cons_zero, List.getElem_cons_succ, List.setIfInBounds_toArray, List.set_cons_zero, List.set_cons_succ]
              refine wpAnyH_take (i := 24) (v := ?_) rfl (by kernel_rfl) (by kernel_rfl) (by kernel_rfl) (fun _ _ _ h => h) (Or.inl ⟨by rfl, ?_⟩) hS0 ?_
              rotate_left 1
              · intro W hW
                have e3 := (HL.out.keep hW).c0
                go_simp
                try with_reducible rfl
              simp only [Act.put, List.getElem_toArray, List.getElem_cons_zero, List.getElem_cons_succ, List.setIfInBounds_toArray, List.set_cons_zero, List.set_cons_succ]
              refine wpAnyH_take (i := 25) (v := ?_) rfl (by kernel_rfl) (by kernel_rfl) (by kernel_rfl) (fun _ _ _ h => h) (Or.inl ⟨by rfl, ?_⟩) hS0 ?_
              rotate_left 1
              · intro W hW
                go_simp
                try with_reducible rfl
              simp only [Act.put, List.getElem_toArray, List.getElem_cons_zero, List.getElem_cons_succ, List.setIfInBounds_toArray, List.set_cons_zero, List.set_cons_succ]
              refine wpAnyH_take (i := 26) (v := ?_) rfl (by kernel_rfl) (by kernel_rfl) (by kernel_rfl) (fun _ _ _ h => h) (Or.inl ⟨by rfl, ?_⟩) hS0 ?_
              rotate_left 1
              · intro W hW
                go_simp
                try with_reducible rfl
              simp only [Act.put, List.getElem_toArray, List.getElem_cons_zero, List.getElem_cons_succ, List.setIfInBounds_toArray, List.set_cons_zero, List.set_cons_succ]
              refine wpAnyH_take (i := 27) (v := ?_) rfl (by kernel_rfl) (by kernel_rfl) (by kernel_rfl) (fun _ _ _ h => h) (Or.inl ⟨by rfl, ?_⟩) hS0 ?_
              rotate_left 1
              · intro W hW
                have e4 := (hW.cell (p := ⟨bd, 0, none⟩) hbdl).trans HD0.out
                go_simp
                try with_reducible rfl
              simp only [Act.put, List.getElem_toArray, List.getElem_cons_zero, List.getElem_cons_succ, List.setIfInBounds_toArray, List.set_cons_zero, List.set_cons_succ]
              refine wpAnyH_ready (rs := [20]) (by kernel_rfl) (by simp) (AllReadyH.cons rfl (fun KK hKK => ?_) AllReadyH.nil)
              go_simp
              refine (image_any be bg s hsn w8 (HDk.out.keep HS8.out)).mono ?_
              rintro z w9 ⟨v9, rfl, hB9, hb9⟩
              rw [hn] at hB9
              have HB9 := Lib.hid hB9
              have HS9 := Lib.hid (HS8.out.trans (hb9.mono HS8.out.size))
              clear hB9 hb9
              clear hS0
              have hS0 : Below wc.heap.size wc w9 := HS9.out
              refine hKK _ _ hS0 ?_
              intro _
              clear hKK KK
              try simp only [Act.put, List.getElem_toArray, List.getElem_cons_zero, List.getElem_cons_succ, List.setIfInBounds_toArray, List.set_cons_zero, List.set_cons_succ]
              refine wpAnyH_ready (rs := [28]) (by kernel_rfl) (by simp) (AllReadyH.cons rfl (fun KK hKK => ?_) AllReadyH.nil)
              have HSM := Lib.hid (same_any v9 (.slice (some ⟨bh, 0, none⟩) 80 80) 80 80 s.f s.f (by decide) (by decide) w9 HB9.out (Bs.of_fl (HF.out.below HS9.out HF.out.lt) 80))
              go_simp
              refine (HSM.out).mono ?_
              rintro z w10 ⟨rfl, hb10⟩
              rw [show (decide ((80 : Nat) = 80) && eqb (80 * 64) s.f s.f) = true by rw [eqb_same fun _ _ => rfl]; simp]
              have HS10 := Lib.hid (HS9.out.trans (hb10.mono HS9.out.size))
              clear hb10 HSM HB9
              clear hS0
              have hS0 : Below wc.heap.size wc w10 := HS10.out
              refine hKK _ _ hS0 ?_
              intro _
              clear hKK KK
              try simp only [Act.put, List.getElem_toArray, List.getElem_cons_zero, List.getElem_cons_succ, List.setIfInBounds_toArray, List.set_cons_zero, List.set_cons_succ]
              refine wpAnyH_take (i := 29) (v := ?_) rfl (by kernel_rfl) (by kernel_rfl) (by kernel_rfl) (fun _ _ _ h => h) (Or.inl ⟨by rfl, ?_⟩) hS0 ?_
              rotate_left 1
              · intro W hW
                go_simp
                try with_reducible rfl
              simp only [Act.put, List.getElem_toArray, List.getElem_cons_zero, List.getElem_cons_succ, List.setIfInBounds_toArray, List.set_cons_zero, List.set_cons_succ]
              refine wpAnyH_take (i := 30) (v := ?_) rfl (by kernel_rfl) (by kernel_rfl) (by kernel_rfl) (fun _ _ _ h => h) (Or.inl ⟨by rfl, ?_⟩) hS0 ?_
              rotate_left 1
              · intro W hW
                go_simp
                try with_reducible rfl
              simp only [Act.put, List.getElem_toArray, List.getElem_cons_zero, List.getElem_cons_succ, List.setIfInBounds_toArray, List.set_cons_zero, List.set_cons_succ]
              refine wpAnyH_take (i := 31) (v := ?_) rfl (by kernel_rfl) (by kernel_rfl) (by kernel_rfl) (fun _ _ _ h => h) (Or.inl ⟨by rfl, ?_⟩) hS0 ?_
              rotate_left 1
              · intro W hW
                go_simp
                try with_reducible rfl
              simp only [Act.put, List.getElem_toArray, List.getElem_cons_zero, List.getElem_cons_succ, List.setIfInBounds_toArray, List.set_cons_zero, List.set_cons_succ]
              refine wpAnyH_take (i := 32) (v := ?_) rfl (by kernel_rfl) (by kernel_rfl) (by kernel_rfl) (fun _ _ _ h => h) (Or.inl ⟨by rfl, ?_⟩) hS0 ?_
              rotate_left 1
              · intro W hW
                go_simp
                try with_reducible rfl
              simp only [Act.put, List.getElem_toArray, List.getElem_cons_zero, List.getElem_cons_succ, List.setIfInBounds_toArray, List.set_cons_zero, List.set_cons_succ]
              refine wpAnyH_take (i := 34) (v := ?_) rfl (by kernel_rfl) (by kernel_rfl) (by kernel_rfl) (fun _ _ _ h => h) (Or.inl ⟨by rfl, ?_⟩) hS0 ?_
              rotate_left 1
              · intro W hW
                go_simp
                try with_reducible rfl
              simp only [Act.put, List.getElem_toArray, List.getElem_cons_zero, List.getElem_cons_succ, List.setIfInBounds_toArray, List.set_cons_zero, List.set_cons_succ]
              refine wpAnyH_take (i := 35) (v := ?_) rfl (by kernel_rfl) (by kernel_rfl) (by kernel_rfl) (fun _ _ _ h => h) (Or.inl ⟨by rfl, ?_⟩) hS0 ?_
              rotate_left 1
              · intro W hW
                go_simp
                try with_reducible rfl
              simp only [Act.put, List.getElem_toArray, List.getElem_cons_zero, List.getElem_cons_succ, List.setIfInBounds_toArray, List.set_cons_zero, List.set_cons_succ]
              refine wpAnyH_take (i := 36) (v := ?_) rfl (by kernel_rfl) (by kernel_rfl) (by kernel_rfl) (fun _ _ _ h => h) (Or.inl ⟨by rfl, ?_⟩) hS0 ?_
              rotate_left 1
              · intro W hW
                go_simp
                try with_reducible rfl
              simp only [Act.put, List.getElem_toArray, List.getElem_cons_zero, List.getElem_cons_succ, List.setIfInBounds_toArray, List.set_cons_zero, List.set_cons_succ]
              refine wpAnyH_take (i := 37) (v := ?_) rfl (by kernel_rfl) (by kernel_rfl) (by kernel_rfl) (fun _ _ _ h => h) (Or.inl ⟨by rfl, ?_⟩) hS0 ?_
              rotate_left 1
              · intro W hW
                have e3 := (HL.out.keep hW).c0
                go_simp
                try with_reducible rfl
              simp only [Act.put, List.getElem_toArray, List.getElem_cons_zero, List.getElem_cons_succ, List.setIfInBounds_toArray, List.set_cons_zero, List.set_cons_succ]
              refine wpAnyH_take (i := 38) (v := ?_) rfl (by kernel_rfl) (by kernel_rfl) (by kernel_rfl) (fun _ _ _ h => h) (Or.inl ⟨by rfl, ?_⟩) hS0 ?_
              rotate_left 1
              · intro W hW
                go_simp
                try with_reducible rfl
              simp only [Act.put, List.getElem_toArray, List.getElem_cons_zero, List.getElem_cons_succ, List.setIfInBounds_toArray, List.set_cons_zero, List.set_cons_succ]
              refine wpAnyH_take (i := 39) (v := ?_) rfl (by kernel_rfl) (by kernel_rfl) (by kernel_rfl) (fun _ _ _ h => h) (Or.inl ⟨by rfl, ?_⟩) hS0 ?_
              rotate_left 1
              · intro W hW
                go_simp
                try with_reducible rfl
              simp only [Act.put, List.getElem_toArray, List.getElem_cons_zero, List.getElem_cons_succ, List.setIfInBounds_toArray, List.set_cons_zero, List.set_cons_succ]
              refine wpAnyH_take (i := 40) (v := ?_) rfl (by kernel_rfl) (by kernel_rfl) (by kernel_rfl) (fun _ _ _ h => h) (Or.inl ⟨by rfl, ?_⟩) hS0 ?_
              rotate_left 1
              · intro W hW
                have e4 := (hW.cell (p := ⟨bd, 2, none⟩) hbdl).trans HD2.out
                go_simp
                try with_reducible rfl
              simp only [Act.put, List.getElem_toArray, List.getElem_cons_zero, List.getElem_cons_succ, List.setIfInBounds_toArray, List.set_cons_zero, List.set_cons_succ]
              refine wpAnyH_ready (rs := [33]) (by kernel_rfl) (by simp) (AllReadyH.cons rfl (fun KK hKK => ?_) AllReadyH.nil)
              go_simp
              refine (dead_any be bg s w10 (HDk.out.keep HS10.out)).mono ?_
              rintro z w11 ⟨rfl, hw11⟩
              have HS11 : Hid (Below wc.heap.size wc w11) := by rw [hw11]; exact HS10
              clear hw11
              clear hS0
              have hS0 : Below wc.heap.size wc w11 := HS11.out
              refine hKK _ _ hS0 ?_
              intro _
              clear hKK KK
              try simp only [Act.put, List.getElem_toArray, List.getElem_cons_zero, List.getElem_cons_succ, List.setIfInBounds_toArray, List.set_cons_zero, List.set_cons_succ]
              refine wpAnyH_take (i := 41) (v := ?_) rfl (by kernel_rfl) (by kernel_rfl) (by kernel_rfl) (fun _ _ _ h => h) (Or.inl ⟨by rfl, ?_⟩) hS0 ?_
              rotate_left 1
              · intro W hW
                go_simp
                try with_reducible rfl
              simp only [Act.put, List.getElem_toArray, List.getElem_cons_zero, List.getElem_cons_succ, List.setIfInBounds_toArray, List.set_cons_zero, List.set_cons_succ]
              refine wpAnyH_take (i := 42) (v := ?_) rfl (by kernel_rfl) (by kernel_rfl) (by kernel_rfl) (fun _ _ _ h => h) (Or.inl ⟨by rfl, ?_⟩) hS0 ?_
              rotate_left 1
              · intro W hW
                go_simp
                try with_reducible rfl
              simp only [Act.put, List.getElem_toArray, List.getElem_cons_zero, List.getElem_cons_succ, List.setIfInBounds_toArray, List.set_cons_zero, List.set_cons_succ]
              refine wpAnyH_done (by kernel_rfl) ?_ _
              have HP12 := Lib.hid (HPL.out.keep HS11.out)
              clear hS0 HS5 HS6 HS7 HS8 HS9 HS10 HS11 HPL HX HD0 HD2 HF HL HTx HDk
              go_wp2
              go_roundw
              case rel => exact ⟨k + 1, by omega, by omega, by go_num, HP12.out⟩
              case measure => simp [intOf]; omega
    · obtain rfl : k = ln := by omega
      have hbe := hPL.ex.choose_spec.choose_spec.choose_spec.choose_spec.1.be
      have HBE := Lib.hid hbe
      clear hPL hbe
      go_wp2
      go_ret
      exact ⟨rfl, HB1.out.trans (HBE.out.mono HB1.out.size)⟩
end Go.Proofs.Ytlbfdmiihnlljaa
