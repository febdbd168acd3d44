import Derived.Test.YtlpbhijfdeceoaaM1
/- The answer's Bit. -/
namespace Go.Proofs.Ytlpbhijfdeceoaa
set_option linter.unusedSimpArgs false
set_option linter.unusedVariables false
open Go.RowKit Go.Maps


theorem bitdiv_math (f : Nat → Int) (hf : Byt f) (i : Nat) : ((f (i / 8 % 64) / 2 ^ (i % 8)).tmod 2 == 1) = bitOf f i := by
  obtain ⟨h0, h1⟩ := hf _ (at_lt i)
  unfold bitOf
  obtain ⟨c, hc⟩ := Int.eq_ofNat_of_zero_le h0
  rw [hc, Int.toNat_natCast]
  have h1 : ((c : Int) / 2 ^ (i % 8)) = ((c / 2 ^ (i % 8) : Nat) : Int) := by
    rw [Int.natCast_ediv, Int.natCast_pow]; rfl
  rw [h1, Nat.testBit_eq_decide_div_mod_eq, Int.tmod_eq_emod_of_nonneg (Int.natCast_nonneg _), Bool.eq_iff_iff]
  simp only [beq_iff_eq, decide_eq_true_eq]
  omega
theorem yields_look_sp {ops : Array Oper} {o : Oper} {a : Act} {S : World → Prop} (hw : Region.wanted o (yielded ops a.tmps) = true) (x y : Operand) (ho : o.op = .lookup 46 x y false) (m : Nat) (T : TS) (hS : ∀ W, S W → Sp W m T) (hx : a.eval x = .map (some m)) (k : Int) (hy : a.eval y = .int .i64 k) (h0 : -9223372036854775808 ≤ k) (h1 : k < 9223372036854775808) : YieldsIf Try.prog ops S o (.bool (find T k).isSome) a :=
  .inl ⟨hw, fun w h => by
    have hrun := (hS w h).look1 k h0 h1
    unfold execOp
    simp [ho, hx, hy, hrun, Result.andThen]⟩
set_option maxHeartbeats 4000000 in
set_option maxRecDepth 100000 in
theorem bit_any (v : Value) (n at' i : Nat) (F : Nat → Int) (hF : ∀ x, x < n → Byt fun j => F (x * 64 + j)) (hn : n ≤ 65536) (hi : i ≤ 65536) (hx : at' + i / 512 < n) (w : World) (h : Bs w v n F) :
    Calls Try.prog 18 #[v, .int .i64 at', .int .i64 i] w fun e w' => e = .returned (.bool (bitOf (fun j => F ((at' + i / 512) * 64 + j)) i)) ∧ Below w.heap.size w w' := by
  obtain ⟨p, c, rfl, hp⟩ := h
  obtain ⟨b, rfl, hb, hc⟩ := hp (by omega)
  obtain ⟨V, hV⟩ : ∃ V, (fun j => F ((at' + i / 512) * 64 + j)) = V := ⟨_, rfl⟩
  have HR : Hid (w.rangeAt b ((at' + i / 512) * 64) (byts 64 V)) := fun j v hj => by
    obtain ⟨h1, rfl⟩ := byts_of hj
    rw [← hV]
    exact hc _ (by omega)
  have hVb : Byt V := by rw [← hV]; exact hF _ hx
  rw [hV]
  have h0 : (0 : Int) ≤ at' := by omega
  have h1 : (0 : Int) ≤ i := by omega
  have h2 : (at' : Int) ≤ 65536 := by omega
  have h3 : (i : Int) ≤ 65536 := by omega
  have h4 : (at' : Int) + (i : Int) / 512 < n := by omega
  obtain ⟨hv0, hv1⟩ := hVb (i / 8 % 64) (at_lt i)
  have HVb := Lib.hid hVb
  clear hc hp hV hF hVb
  go_enter Try.func18, Try.ntmps18
  go_wp2_with (first | (refine wpList_load_mid rfl 49 (.tmp 13) rfl b ((at' + i / 512) * 64) rfl (byts 64 V) (.array 64 5) HR.out Try.arr36 rfl (size36 _) ?_) | (refine wpList_alloc_byts (w := w) rfl 49 64 rfl Try.zero36 ?_; intro w1 F1 hb1 hz1; have HB1 := Lib.hid hb1; clear hb1 hz1) | (refine wpList_store_blk rfl (.tmp 7) (.tmp 14) rfl w.heap.size 0 64 (fun _ => 0) V F1.out (by omega) rfl rfl ?_; intro w2 F2 HK2; have F3 := Lib.hid (F2.out.congr (f' := V) (fun j hj => (by unfold upd; rw [if_pos (by omega), Nat.sub_zero]))); have hc3 := F3.out.c (i / 8 % 64) (at_lt i); have HB2 := Lib.hid (HB1.out.trans (HK2.out.below (B := w.heap.size) (Nat.le_refl _) (Nat.le_refl _) HB1.out.size)); clear F2 HK2 F1))
  go_ret
  exact ⟨ret_bool (by rw [bitdiv_math V HVb.out i]), HB2.out⟩
end Go.Proofs.Ytlpbhijfdeceoaa
