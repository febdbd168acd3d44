import Derived.Test.YtkkdbckaolhmnaaGreatKD
/- In which group a block lies. -/
namespace Go.Proofs.YtkkdbckaolhmnaaGreat.Cf
set_option linter.unusedSimpArgs false
set_option linter.unusedVariables false
open Go.RowKit Go.Maps

/-- what Group answers -/
def GroupPost (rs : List Rg) (x : Int) (w : World) (e : Ending) (w' : World) : Prop :=
  Below w.heap.size w w' ∧ ((∃ i, ∃ hi : i < rs.length, (∀ j (hj : j < i), ¬ inG ((layF rs).1[j]'(by rw [lay_len]; omega)) x) ∧ inG ((layF rs).1[i]'(by rw [lay_len]; exact hi)) x ∧
      e = .returned (.tuple #[.int .i64 i, .int .i64 (max 0 (x - ((layF rs).1[i]'(by rw [lay_len]; exact hi)).da + 1)), .bool true])) ∨
    ((∀ j (hj : j < rs.length), ¬ inG ((layF rs).1[j]'(by rw [lay_len]; omega)) x) ∧ e = .returned (.tuple #[.int .i64 0, .int .i64 0, .bool false])))
set_option maxHeartbeats 2000000 in
set_option maxRecDepth 100000 in
theorem group_any (n : Nat) (vr vm vg : Value) (rs : List Rg) (ms : List (Int × Int)) (hs : ∀ r ∈ rs, Small r) (h0 : 0 < rs.length) (h64 : rs.length ≤ 64) (x : Int) (hx : -9223372036854775808 ≤ x) (hx2 : x < 9223372036854775808) (w : World) (h : CF n w vr vm vg rs ms) :
    Calls Tryz.prog 24 #[.pointer (some ⟨n + 3, 0, none⟩), .int .i64 x] w (GroupPost rs x w) := by
  have hlen := clen_any n vr vm vg rs ms w h h64
  obtain ⟨g, gcap, rfl, hgl, hm, hcell⟩ := h.geo h0
  have HC := Lib.hid hcell
  have HH := Lib.hid h
  have HRan := Lib.hid (lay_range rs hs h64)
  obtain ⟨N, hN⟩ : ∃ N, rs.length = N := ⟨_, rfl⟩
  have HN := Lib.hid hN
  rw [hN] at hlen hm
  clear h hcell hN hs
  unfold maxLen at hm
  go_enter Tryz.func24, Tryz.ntmps24
  go_wp2_with fail
  refine hlen.mono ?_
  rintro e w1 ⟨rfl, rfl⟩
  obtain ⟨w0, rfl⟩ : ∃ x, x = w1 := ⟨w1, rfl⟩
  go_wp2
  go_loopw [11] (fun i wr => ∃ k : Nat, k ≤ N ∧ i = .int .i64 k ∧ Below w0.heap.size w0 wr ∧ ∀ j (hj : j < rs.length), j < k → ¬ inG ((layF rs).1[j]'(by rw [lay_len]; omega)) x) (fun i _ => N - (intOf i).toNat)
  case atStart => exact ⟨0, by omega, rfl, Below.refl _ _, fun j _ h => by omega⟩
  case round =>
    obtain ⟨k, hk, rfl, hb, hno⟩ := hrel
    have HNO := Lib.hid hno
    have HB := Lib.hid hb
    clear hno
    by_cases hlt : k < N
    · have hltr : k < rs.length := by rw [HN.out]; exact hlt
      have e0 := (hb.cell (p := ⟨g, k * 6 + 0, none⟩) hgl).trans (HC.out k hltr 0 (by omega))
      have e1 := (hb.cell (p := ⟨g, k * 6 + 1, none⟩) hgl).trans (HC.out k hltr 1 (by omega))
      have e2 := (hb.cell (p := ⟨g, k * 6 + 2, none⟩) hgl).trans (HC.out k hltr 2 (by omega))
      have e3 := (hb.cell (p := ⟨g, k * 6 + 3, none⟩) hgl).trans (HC.out k hltr 3 (by omega))
      have e4 := (hb.cell (p := ⟨g, k * 6 + 4, none⟩) hgl).trans (HC.out k hltr 4 (by omega))
      have e5 := (hb.cell (p := ⟨g, k * 6 + 5, none⟩) hgl).trans (HC.out k hltr 5 (by omega))
      obtain ⟨r1, r2, r3, r4, r5, r6, r7, r8⟩ := HRan.out k hltr
      obtain ⟨c0, c2, clt⟩ := (fun (q : CF n wr vr vm _ rs ms) => (⟨q.cb.c0, q.cb.c2, q.cb.lt⟩ : _ ∧ _ ∧ _)) (HH.out.below hb)
      clear hb
      have HGk : Hid (∀ q : Int, inG ((layF rs).1[k]'(by rw [lay_len]; exact hltr)) q ↔ ((layF rs).1[k]'(by rw [lay_len]; exact hltr)).base ≤ q ∧ q < ((layF rs).1[k]'(by rw [lay_len]; exact hltr)).da + ((layF rs).1[k]'(by rw [lay_len]; exact hltr)).bl) := fun q => Iff.rfl
      have HPo : Hid (inG ((layF rs).1[k]'(by rw [lay_len]; exact hltr)) x → ∀ w', Below w0.heap.size w0 w' → GroupPost rs x w0 (.returned (.tuple #[.int .i64 k, .int .i64 (max 0 (x - ((layF rs).1[k]'(by rw [lay_len]; exact hltr)).da + 1)), .bool true])) w') := by
        intro hi w' hb'
        exact ⟨hb', .inl ⟨k, hltr, fun j hj => HNO.out j (by omega) hj, hi, rfl⟩⟩
      have HNx : Hid (¬ inG ((layF rs).1[k]'(by rw [lay_len]; exact hltr)) x → ∀ j (hj : j < rs.length), j < k + 1 → ¬ inG ((layF rs).1[j]'(by rw [lay_len]; omega)) x) := by
        intro hi j hj hjk
        by_cases e : j = k
        · subst e; exact hi
        · exact HNO.out j hj (by omega)
      generalize (layF rs).1[k]'(by rw [lay_len]; exact hltr) = gg at *
      obtain ⟨bs, bm, tb, da, bl, nd⟩ := gg
      simp [Ge.cells] at e0 e1 e2 e3 e4 e5
      simp only at r1 r2 r3 r4 r5 r6 r7 r8
      have hend := fun W => end_any bs bm tb da bl nd W (by omega) (by omega) (by omega) (by omega)
      have hn3 : n + 3 < wr.heap.size := by omega
      have hgl2 : g < wr.heap.size := Nat.lt_of_lt_of_le hgl HB.out.size
      rw [HN.out] at c2
      have hlt' : (k : Int) < (N : Int) := by omega
      by_cases hlow : bs ≤ x
      · go_wp2_with fail
        refine (hend _).mono ?_
        rintro e w2 ⟨rfl, hb2⟩
        have hz2 := hb2.size
        simp at hz2
        have hlt2 : wr.heap.size < w2.heap.size := by omega
        have g3 : w2.cell? ⟨wr.heap.size, 3, none⟩ = some (.int .i64 da) := (hb2.cell (p := ⟨wr.heap.size, 3, none⟩) (by simp)).trans (by simp [World.cell?_alloc_new])
        have HB2 := Lib.hid (HB.out.trans ((((Below.refl _ wr).alloc (Nat.le_refl _) _).trans (hb2.mono (by simp))).mono HB.out.size))
        clear hb2 hend e0 e1 e2 e3 e4 e5 c0 c2
        by_cases hhi : x < da + bl
        · have hsub : -9223372036854775808 ≤ x - da ∧ x - da < 1000 := by omega
          have HIN : Hid (inG ⟨bs, bm, tb, da, bl, nd⟩ x) := (HGk.out x).2 ⟨hlow, hhi⟩
          go_wp2
          go_quiet (fail)
          go_wp2
          all_goals
            refine bodyPost_ret (v := .tuple #[.int .i64 k, .int .i64 (max 0 (x - da + 1)), .bool true]) (by simp [results, Tryz.results24, go_sem] <;> omega) rfl ?_
            exact HPo.out HIN.out _ (below_drewN' HB2.out _)
        · go_wp2
          go_roundw
          case rel => exact ⟨k + 1, by omega, by go_num, HB2.out, HNx.out (fun h => by have := (HGk.out x).1 h; (try simp only at this); omega)⟩
          case measure => simp [intOf]; omega
      · go_wp2
        go_roundw
        case rel => exact ⟨k + 1, by omega, by go_num, HB.out.alloc HB.out.size _, HNx.out (fun h => by have := (HGk.out x).1 h; (try simp only at this); omega)⟩
        case measure => simp [intOf]; omega
    · obtain rfl : k = N := by omega
      go_wp2
      refine bodyPost_ret (v := .tuple #[.int .i64 0, .int .i64 0, .bool false]) (by simp [results, Tryz.results24, go_sem]) rfl ⟨HB.out, .inr ⟨fun j hj => HNO.out j hj (by rw [← HN.out]; exact hj), rfl⟩⟩
end Go.Proofs.YtkkdbckaolhmnaaGreat.Cf
