import Derived.Test.YtlpbhijfdeceoaaB10
/- BitsNone: the walk. -/
namespace Go.Proofs.Ytlpbhijfdeceoaa
set_option linter.unusedSimpArgs false
set_option linter.unusedVariables false
open Go.RowKit Go.Maps


set_option maxHeartbeats 40000000 in
set_option maxRecDepth 100000 in
theorem none_walk (x y i : Int) (on : Bool) (hx0 : -9223372036854775808 ≤ x) (hx1 : x < 9223372036854775808) (hy0 : -9223372036854775808 ≤ y) (hy1 : y < 9223372036854775808) (w : World) :
    Calls Try.prog 7 #[.int .i64 x, .int .i64 y, .int .i64 i, .bool on] w fun e w' => e = .returned (.bool true) ∧ Below w.heap.size w w' := by
  have HA := Lib.hid (awake_any w)
  by_cases h : 0 ≤ x ∧ x ≤ 65536 ∧ 0 ≤ y ∧ y ≤ 65536
  · obtain ⟨h1, h2, h3, h4⟩ := h
    obtain ⟨fi, hfi⟩ := Int.eq_ofNat_of_zero_le h1
    obtain ⟨n, hn⟩ := Int.eq_ofNat_of_zero_le h3
    have HNw : Hid (∀ t W, Calls Try.prog 10 #[.pointer (some ⟨t, 0, none⟩), .int .i64 x, .int .i64 y] W fun e w' => ∃ p, e = .returned (.tuple #[.pointer (some ⟨p, 0, none⟩), .int .i64 0]) ∧ W.heap.size ≤ p ∧ Mb w' p t fi n ∧ Below W.heap.size W w') := fun t W => by
      rw [hfi, hn]
      exact new5 t fi n (by omega) (by omega) W
    by_cases c1 : 0 < y
    · by_cases c2 : 39 < x
      · have hfn : 0 < n := by omega
        have hf40 : 40 ≤ fi := by omega
        have hf65 : fi ≤ 65536 := by omega
        have hn65 : n ≤ 65536 := by omega
        clear hfi hn hx0 hx1 hy0 hy1
        go_enter Try.func7, Try.ntmps7
        go_wp2_with fail
        refine HA.out.mono ?_
        rintro e w0 ⟨rfl, hb⟩
        have HB0 := Lib.hid hb
        clear HA hb
        go_wp2_with fail
        refine (begun_any w0).mono ?_
        rintro e w1 ⟨t, m, d, g, rfl, hFr, hR, hb⟩
        have HR1 := Lib.hid hR
        have HB1 := Lib.hid (HB0.out.trans (hb.mono HB0.out.size))
        have HFr := Lib.hid (show From w.heap.size t m d g from ⟨Nat.le_trans HB0.out.size hFr.1, Nat.le_trans HB0.out.size hFr.2.1, Nat.le_trans HB0.out.size hFr.2.2.1, Nat.le_trans HB0.out.size hFr.2.2.2⟩)
        clear hR hb hFr HB0
        go_wp2_with fail
        refine (has_err i 1 (by decide) (.pointer none) w1 (blockof_nil i w1)).mono ?_
        rintro e w2 ⟨rfl, hb⟩
        have HR2 := Lib.hid (HR1.out.keep hb)
        have HB2 := Lib.hid (HB1.out.trans (hb.mono HB1.out.size))
        clear hb HR1 HB1
        go_wp2_with fail
        refine (free_nil w2).mono ?_
        rintro e w3 ⟨rfl, hb⟩
        have HR3 := Lib.hid (HR2.out.keep hb)
        have HB3 := Lib.hid (HB2.out.trans (hb.mono HB2.out.size))
        clear hb HR2 HB2
        go_wp2_with fail
        refine (count_nil w3).mono ?_
        rintro e w4 ⟨rfl, hb⟩
        have HR4 := Lib.hid (HR3.out.keep hb)
        have HB4 := Lib.hid (HB3.out.trans (hb.mono HB3.out.size))
        clear hb HR3 HB3
        go_wp2_with fail
        refine (list_nil w4).mono ?_
        rintro e w5 ⟨rfl, hb⟩
        have HR5 := Lib.hid (HR4.out.keep hb)
        have HB5 := Lib.hid (HB4.out.trans (hb.mono HB4.out.size))
        clear hb HR4 HB4
        go_wp2_with fail
        refine (HNw.out t w5).mono ?_
        rintro e w6 ⟨p, rfl, hp, hM, hb⟩
        have HM6 := Lib.hid hM
        have HPn := Lib.hid (HR5.out.notin hp)
        have HR6 := Lib.hid (HR5.out.keep hb)
        have HB6 := Lib.hid (HB5.out.trans (hb.mono HB5.out.size))
        clear hM hb HR5 HB5 HNw
        go_wp2_with fail
        refine (new5_nil x y w6).mono ?_
        rintro e wz ⟨rfl, hwz⟩
        rw [hwz]
        clear hwz
        go_wp2_with fail
        refine (free_out p t m d g fi n 0 [] (by omega) (by omega) (by omega) (by omega) rfl (by decide) w6 HM6.out HR6.out HPn.out).mono ?_
        rintro e w7 ⟨rfl, hk7⟩
        have HB7 := Lib.hid (hk7.after HB6.out HFr.out)
        clear hk7 HM6 HR6 HB6
        go_wp2_with fail
        refine (set_err i on 1 (by decide) (.pointer none) w7 (blockof_nil i w7)).mono ?_
        rintro e w9 ⟨rfl, hb⟩
        have HB9 := Lib.hid (HB7.out.trans (hb.mono HB7.out.size))
        clear hb
        go_wp2_with fail
        go_ret
        exact ⟨rfl, HB9.out⟩

      · clear hfi hn hx0 hx1 hy0 hy1
        go_enter Try.func7, Try.ntmps7
        go_wp2_with fail
        refine HA.out.mono ?_
        rintro e w0 ⟨rfl, hb⟩
        have HB0 := Lib.hid hb
        clear HA hb
        go_wp2_with fail
        refine (begun_any w0).mono ?_
        rintro e w1 ⟨t, m, d, g, rfl, hFr, hR, hb⟩
        have HR1 := Lib.hid hR
        have HB1 := Lib.hid (HB0.out.trans (hb.mono HB0.out.size))
        have HFr := Lib.hid (show From w.heap.size t m d g from ⟨Nat.le_trans HB0.out.size hFr.1, Nat.le_trans HB0.out.size hFr.2.1, Nat.le_trans HB0.out.size hFr.2.2.1, Nat.le_trans HB0.out.size hFr.2.2.2⟩)
        clear hR hb hFr HB0
        go_wp2_with fail
        refine (has_err i 1 (by decide) (.pointer none) w1 (blockof_nil i w1)).mono ?_
        rintro e w2 ⟨rfl, hb⟩
        have HR2 := Lib.hid (HR1.out.keep hb)
        have HB2 := Lib.hid (HB1.out.trans (hb.mono HB1.out.size))
        clear hb HR1 HB1
        go_wp2_with fail
        refine (free_nil w2).mono ?_
        rintro e w3 ⟨rfl, hb⟩
        have HR3 := Lib.hid (HR2.out.keep hb)
        have HB3 := Lib.hid (HB2.out.trans (hb.mono HB2.out.size))
        clear hb HR2 HB2
        go_wp2_with fail
        refine (count_nil w3).mono ?_
        rintro e w4 ⟨rfl, hb⟩
        have HR4 := Lib.hid (HR3.out.keep hb)
        have HB4 := Lib.hid (HB3.out.trans (hb.mono HB3.out.size))
        clear hb HR3 HB3
        go_wp2_with fail
        refine (list_nil w4).mono ?_
        rintro e w5 ⟨rfl, hb⟩
        have HR5 := Lib.hid (HR4.out.keep hb)
        have HB5 := Lib.hid (HB4.out.trans (hb.mono HB4.out.size))
        clear hb HR4 HB4
        go_wp2_with fail
        refine (HNw.out t w5).mono ?_
        rintro e w6 ⟨p, rfl, hp, hM, hb⟩
        have HM6 := Lib.hid hM
        have HPn := Lib.hid (HR5.out.notin hp)
        have HR6 := Lib.hid (HR5.out.keep hb)
        have HB6 := Lib.hid (HB5.out.trans (hb.mono HB5.out.size))
        clear hM hb HR5 HB5 HNw
        go_wp2_with fail
        refine (new5_nil x y w6).mono ?_
        rintro e wz ⟨rfl, hwz⟩
        rw [hwz]
        clear hwz
        go_wp2_with fail
        refine (set_err i on 1 (by decide) (.pointer none) w6 (blockof_nil i w6)).mono ?_
        rintro e w9 ⟨rfl, hb⟩
        have HB9 := Lib.hid (HB6.out.trans (hb.mono HB6.out.size))
        clear hb
        go_wp2_with fail
        go_ret
        exact ⟨rfl, HB9.out⟩

    · clear hfi hn hx0 hx1 hy0 hy1
      go_enter Try.func7, Try.ntmps7
      go_wp2_with fail
      refine HA.out.mono ?_
      rintro e w0 ⟨rfl, hb⟩
      have HB0 := Lib.hid hb
      clear HA hb
      go_wp2_with fail
      refine (begun_any w0).mono ?_
      rintro e w1 ⟨t, m, d, g, rfl, hFr, hR, hb⟩
      have HR1 := Lib.hid hR
      have HB1 := Lib.hid (HB0.out.trans (hb.mono HB0.out.size))
      have HFr := Lib.hid (show From w.heap.size t m d g from ⟨Nat.le_trans HB0.out.size hFr.1, Nat.le_trans HB0.out.size hFr.2.1, Nat.le_trans HB0.out.size hFr.2.2.1, Nat.le_trans HB0.out.size hFr.2.2.2⟩)
      clear hR hb hFr HB0
      go_wp2_with fail
      refine (has_err i 1 (by decide) (.pointer none) w1 (blockof_nil i w1)).mono ?_
      rintro e w2 ⟨rfl, hb⟩
      have HR2 := Lib.hid (HR1.out.keep hb)
      have HB2 := Lib.hid (HB1.out.trans (hb.mono HB1.out.size))
      clear hb HR1 HB1
      go_wp2_with fail
      refine (free_nil w2).mono ?_
      rintro e w3 ⟨rfl, hb⟩
      have HR3 := Lib.hid (HR2.out.keep hb)
      have HB3 := Lib.hid (HB2.out.trans (hb.mono HB2.out.size))
      clear hb HR2 HB2
      go_wp2_with fail
      refine (count_nil w3).mono ?_
      rintro e w4 ⟨rfl, hb⟩
      have HR4 := Lib.hid (HR3.out.keep hb)
      have HB4 := Lib.hid (HB3.out.trans (hb.mono HB3.out.size))
      clear hb HR3 HB3
      go_wp2_with fail
      refine (list_nil w4).mono ?_
      rintro e w5 ⟨rfl, hb⟩
      have HR5 := Lib.hid (HR4.out.keep hb)
      have HB5 := Lib.hid (HB4.out.trans (hb.mono HB4.out.size))
      clear hb HR4 HB4
      go_wp2_with fail
      refine (HNw.out t w5).mono ?_
      rintro e w6 ⟨p, rfl, hp, hM, hb⟩
      have HM6 := Lib.hid hM
      have HPn := Lib.hid (HR5.out.notin hp)
      have HR6 := Lib.hid (HR5.out.keep hb)
      have HB6 := Lib.hid (HB5.out.trans (hb.mono HB5.out.size))
      clear hM hb HR5 HB5 HNw
      go_wp2_with fail
      refine (new5_nil x y w6).mono ?_
      rintro e wz ⟨rfl, hwz⟩
      rw [hwz]
      clear hwz
      go_wp2_with fail
      refine (set_err i on 1 (by decide) (.pointer none) w6 (blockof_nil i w6)).mono ?_
      rintro e w9 ⟨rfl, hb⟩
      have HB9 := Lib.hid (HB6.out.trans (hb.mono HB6.out.size))
      clear hb
      go_wp2_with fail
      go_ret
      exact ⟨rfl, HB9.out⟩

  · have HNo := Lib.hid h
    clear h
    by_cases c1 : 0 ≤ x
    · by_cases c2 : x ≤ 65536
      · by_cases c3 : 0 ≤ y
        · have c4 : ¬ (y ≤ 65536) := by have := HNo.out; omega
          go_enter Try.func7, Try.ntmps7
          go_wp2_with fail
          refine HA.out.mono ?_
          rintro e w0 ⟨rfl, hb⟩
          have HB0 := Lib.hid hb
          clear HA hb
          go_wp2_with fail
          refine (begun_any w0).mono ?_
          rintro e w1 ⟨t, m, d, g, rfl, hFr, hR, hb⟩
          have HR1 := Lib.hid hR
          have HB1 := Lib.hid (HB0.out.trans (hb.mono HB0.out.size))
          have HFr := Lib.hid (show From w.heap.size t m d g from ⟨Nat.le_trans HB0.out.size hFr.1, Nat.le_trans HB0.out.size hFr.2.1, Nat.le_trans HB0.out.size hFr.2.2.1, Nat.le_trans HB0.out.size hFr.2.2.2⟩)
          clear hR hb hFr HB0
          go_wp2_with fail
          refine (has_err i 1 (by decide) (.pointer none) w1 (blockof_nil i w1)).mono ?_
          rintro e w2 ⟨rfl, hb⟩
          have HR2 := Lib.hid (HR1.out.keep hb)
          have HB2 := Lib.hid (HB1.out.trans (hb.mono HB1.out.size))
          clear hb HR1 HB1
          go_wp2_with fail
          refine (free_nil w2).mono ?_
          rintro e w3 ⟨rfl, hb⟩
          have HR3 := Lib.hid (HR2.out.keep hb)
          have HB3 := Lib.hid (HB2.out.trans (hb.mono HB2.out.size))
          clear hb HR2 HB2
          go_wp2_with fail
          refine (count_nil w3).mono ?_
          rintro e w4 ⟨rfl, hb⟩
          have HR4 := Lib.hid (HR3.out.keep hb)
          have HB4 := Lib.hid (HB3.out.trans (hb.mono HB3.out.size))
          clear hb HR3 HB3
          go_wp2_with fail
          refine (list_nil w4).mono ?_
          rintro e w5 ⟨rfl, hb⟩
          have HR5 := Lib.hid (HR4.out.keep hb)
          have HB5 := Lib.hid (HB4.out.trans (hb.mono HB4.out.size))
          clear hb HR4 HB4
          go_wp2_with fail
          refine (new5_out t x y HNo.out w5).mono ?_
          rintro e wz ⟨rfl, hwz⟩
          rw [hwz]
          clear hwz
          go_wp2_with fail
          refine (new5_nil x y w5).mono ?_
          rintro e wz ⟨rfl, hwz⟩
          rw [hwz]
          clear hwz
          go_wp2_with fail
          refine (set_err i on 1 (by decide) (.pointer none) w5 (blockof_nil i w5)).mono ?_
          rintro e w9 ⟨rfl, hb⟩
          have HB9 := Lib.hid (HB5.out.trans (hb.mono HB5.out.size))
          clear hb
          go_wp2_with fail
          go_ret
          exact ⟨rfl, HB9.out⟩

        · skip
          go_enter Try.func7, Try.ntmps7
          go_wp2_with fail
          refine HA.out.mono ?_
          rintro e w0 ⟨rfl, hb⟩
          have HB0 := Lib.hid hb
          clear HA hb
          go_wp2_with fail
          refine (begun_any w0).mono ?_
          rintro e w1 ⟨t, m, d, g, rfl, hFr, hR, hb⟩
          have HR1 := Lib.hid hR
          have HB1 := Lib.hid (HB0.out.trans (hb.mono HB0.out.size))
          have HFr := Lib.hid (show From w.heap.size t m d g from ⟨Nat.le_trans HB0.out.size hFr.1, Nat.le_trans HB0.out.size hFr.2.1, Nat.le_trans HB0.out.size hFr.2.2.1, Nat.le_trans HB0.out.size hFr.2.2.2⟩)
          clear hR hb hFr HB0
          go_wp2_with fail
          refine (has_err i 1 (by decide) (.pointer none) w1 (blockof_nil i w1)).mono ?_
          rintro e w2 ⟨rfl, hb⟩
          have HR2 := Lib.hid (HR1.out.keep hb)
          have HB2 := Lib.hid (HB1.out.trans (hb.mono HB1.out.size))
          clear hb HR1 HB1
          go_wp2_with fail
          refine (free_nil w2).mono ?_
          rintro e w3 ⟨rfl, hb⟩
          have HR3 := Lib.hid (HR2.out.keep hb)
          have HB3 := Lib.hid (HB2.out.trans (hb.mono HB2.out.size))
          clear hb HR2 HB2
          go_wp2_with fail
          refine (count_nil w3).mono ?_
          rintro e w4 ⟨rfl, hb⟩
          have HR4 := Lib.hid (HR3.out.keep hb)
          have HB4 := Lib.hid (HB3.out.trans (hb.mono HB3.out.size))
          clear hb HR3 HB3
          go_wp2_with fail
          refine (list_nil w4).mono ?_
          rintro e w5 ⟨rfl, hb⟩
          have HR5 := Lib.hid (HR4.out.keep hb)
          have HB5 := Lib.hid (HB4.out.trans (hb.mono HB4.out.size))
          clear hb HR4 HB4
          go_wp2_with fail
          refine (new5_out t x y HNo.out w5).mono ?_
          rintro e wz ⟨rfl, hwz⟩
          rw [hwz]
          clear hwz
          go_wp2_with fail
          refine (new5_nil x y w5).mono ?_
          rintro e wz ⟨rfl, hwz⟩
          rw [hwz]
          clear hwz
          go_wp2_with fail
          refine (set_err i on 1 (by decide) (.pointer none) w5 (blockof_nil i w5)).mono ?_
          rintro e w9 ⟨rfl, hb⟩
          have HB9 := Lib.hid (HB5.out.trans (hb.mono HB5.out.size))
          clear hb
          go_wp2_with fail
          go_ret
          exact ⟨rfl, HB9.out⟩

      · skip
        go_enter Try.func7, Try.ntmps7
        go_wp2_with fail
        refine HA.out.mono ?_
        rintro e w0 ⟨rfl, hb⟩
        have HB0 := Lib.hid hb
        clear HA hb
        go_wp2_with fail
        refine (begun_any w0).mono ?_
        rintro e w1 ⟨t, m, d, g, rfl, hFr, hR, hb⟩
        have HR1 := Lib.hid hR
        have HB1 := Lib.hid (HB0.out.trans (hb.mono HB0.out.size))
        have HFr := Lib.hid (show From w.heap.size t m d g from ⟨Nat.le_trans HB0.out.size hFr.1, Nat.le_trans HB0.out.size hFr.2.1, Nat.le_trans HB0.out.size hFr.2.2.1, Nat.le_trans HB0.out.size hFr.2.2.2⟩)
        clear hR hb hFr HB0
        go_wp2_with fail
        refine (has_err i 1 (by decide) (.pointer none) w1 (blockof_nil i w1)).mono ?_
        rintro e w2 ⟨rfl, hb⟩
        have HR2 := Lib.hid (HR1.out.keep hb)
        have HB2 := Lib.hid (HB1.out.trans (hb.mono HB1.out.size))
        clear hb HR1 HB1
        go_wp2_with fail
        refine (free_nil w2).mono ?_
        rintro e w3 ⟨rfl, hb⟩
        have HR3 := Lib.hid (HR2.out.keep hb)
        have HB3 := Lib.hid (HB2.out.trans (hb.mono HB2.out.size))
        clear hb HR2 HB2
        go_wp2_with fail
        refine (count_nil w3).mono ?_
        rintro e w4 ⟨rfl, hb⟩
        have HR4 := Lib.hid (HR3.out.keep hb)
        have HB4 := Lib.hid (HB3.out.trans (hb.mono HB3.out.size))
        clear hb HR3 HB3
        go_wp2_with fail
        refine (list_nil w4).mono ?_
        rintro e w5 ⟨rfl, hb⟩
        have HR5 := Lib.hid (HR4.out.keep hb)
        have HB5 := Lib.hid (HB4.out.trans (hb.mono HB4.out.size))
        clear hb HR4 HB4
        go_wp2_with fail
        refine (new5_out t x y HNo.out w5).mono ?_
        rintro e wz ⟨rfl, hwz⟩
        rw [hwz]
        clear hwz
        go_wp2_with fail
        refine (new5_nil x y w5).mono ?_
        rintro e wz ⟨rfl, hwz⟩
        rw [hwz]
        clear hwz
        go_wp2_with fail
        refine (set_err i on 1 (by decide) (.pointer none) w5 (blockof_nil i w5)).mono ?_
        rintro e w9 ⟨rfl, hb⟩
        have HB9 := Lib.hid (HB5.out.trans (hb.mono HB5.out.size))
        clear hb
        go_wp2_with fail
        go_ret
        exact ⟨rfl, HB9.out⟩

    · skip
      go_enter Try.func7, Try.ntmps7
      go_wp2_with fail
      refine HA.out.mono ?_
      rintro e w0 ⟨rfl, hb⟩
      have HB0 := Lib.hid hb
      clear HA hb
      go_wp2_with fail
      refine (begun_any w0).mono ?_
      rintro e w1 ⟨t, m, d, g, rfl, hFr, hR, hb⟩
      have HR1 := Lib.hid hR
      have HB1 := Lib.hid (HB0.out.trans (hb.mono HB0.out.size))
      have HFr := Lib.hid (show From w.heap.size t m d g from ⟨Nat.le_trans HB0.out.size hFr.1, Nat.le_trans HB0.out.size hFr.2.1, Nat.le_trans HB0.out.size hFr.2.2.1, Nat.le_trans HB0.out.size hFr.2.2.2⟩)
      clear hR hb hFr HB0
      go_wp2_with fail
      refine (has_err i 1 (by decide) (.pointer none) w1 (blockof_nil i w1)).mono ?_
      rintro e w2 ⟨rfl, hb⟩
      have HR2 := Lib.hid (HR1.out.keep hb)
      have HB2 := Lib.hid (HB1.out.trans (hb.mono HB1.out.size))
      clear hb HR1 HB1
      go_wp2_with fail
      refine (free_nil w2).mono ?_
      rintro e w3 ⟨rfl, hb⟩
      have HR3 := Lib.hid (HR2.out.keep hb)
      have HB3 := Lib.hid (HB2.out.trans (hb.mono HB2.out.size))
      clear hb HR2 HB2
      go_wp2_with fail
      refine (count_nil w3).mono ?_
      rintro e w4 ⟨rfl, hb⟩
      have HR4 := Lib.hid (HR3.out.keep hb)
      have HB4 := Lib.hid (HB3.out.trans (hb.mono HB3.out.size))
      clear hb HR3 HB3
      go_wp2_with fail
      refine (list_nil w4).mono ?_
      rintro e w5 ⟨rfl, hb⟩
      have HR5 := Lib.hid (HR4.out.keep hb)
      have HB5 := Lib.hid (HB4.out.trans (hb.mono HB4.out.size))
      clear hb HR4 HB4
      go_wp2_with fail
      refine (new5_out t x y HNo.out w5).mono ?_
      rintro e wz ⟨rfl, hwz⟩
      rw [hwz]
      clear hwz
      go_wp2_with fail
      refine (new5_nil x y w5).mono ?_
      rintro e wz ⟨rfl, hwz⟩
      rw [hwz]
      clear hwz
      go_wp2_with fail
      refine (set_err i on 1 (by decide) (.pointer none) w5 (blockof_nil i w5)).mono ?_
      rintro e w9 ⟨rfl, hb⟩
      have HB9 := Lib.hid (HB5.out.trans (hb.mono HB5.out.size))
      clear hb
      go_wp2_with fail
      go_ret
      exact ⟨rfl, HB9.out⟩

end Go.Proofs.Ytlpbhijfdeceoaa
