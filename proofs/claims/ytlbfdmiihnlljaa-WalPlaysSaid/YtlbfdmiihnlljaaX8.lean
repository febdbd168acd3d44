import Derived.Test.YtlbfdmiihnlljaaX7
/- The answer's Put: a block that is to be written already. -/
namespace Go.Proofs.Ytlbfdmiihnlljaa
set_option linter.unusedSimpArgs false
set_option linter.unusedVariables false
open Go.RowKit Go.Maps

theorem Bv.set {w : World} {b cap : Nat} {T : TS} (h : Bv w (.slice (some ⟨b, 0, none⟩) T.length cap) T) (j : Nat) (hj : j < T.length) (n : Nat) (f : Nat → Int) :
    Bv (w.setCells b (j * 64) (byts 64 f)) (.slice (some ⟨b, 0, none⟩) T.length cap) (T.set j (n, f)) := by
  rcases h with ⟨_, _, _, rfl⟩ | ⟨b', cap', hv, hlt, hc⟩
  · simp at hj
  · injection hv with e1 e2 e3
    injection e1 with e1
    injection e1 with e1
    subst e1
    subst e3
    refine .inr ⟨b, cap, by simp, by rw [size_setCells]; exact hlt, fun i hi k hk => ?_⟩
    have hi2 : i < T.length := by simpa using hi
    refine ⟨?_, by rw [World.frozen?_setCells]; exact (hc i hi2 k hk).2⟩
    by_cases hij : j = i
    · subst hij
      have := World.cell?_setCells_in b (byts 64 f) (j * 64) w (fun q hq => by rw [(hc j hi2 q (by rwa [byts_len] at hq)).1]; rfl) k (by rw [byts_len]; exact hk)
      rw [this]
      simp [byts]
    · rw [World.cell?_setCells_out b (byts 64 f) (j * 64) w _ (fun _ _ => by rw [byts_len]; show i * 64 + k < j * 64 ∨ j * 64 + 64 ≤ i * 64 + k; omega)]
      rw [(hc i hi2 k hk).1]
      simp [List.getElem_set, hij]
theorem Bv.there {w : World} {b cap : Nat} {T : TS} (h : Bv w (.slice (some ⟨b, 0, none⟩) T.length cap) T) (j : Nat) (hj : j < T.length) : w.there b (j * 64) 64 := fun k hk => by
  rcases h with ⟨_, _, _, rfl⟩ | ⟨b', cap', hv, hlt, hc⟩
  · simp at hj
  · injection hv with e1 e2 e3
    injection e1 with e1
    injection e1 with e1
    subst e1
    exact ⟨by rw [(hc j hj k hk).1]; rfl, (hc j hj k hk).2⟩
theorem Rx.set {w : World} {x l b cap : Nat} {va : Value} {T : TS} {co : Int} (h : Rx w x l va (.slice (some ⟨b, 0, none⟩) T.length cap) T co) (j : Nat) (hj : j < T.length) (n : Nat) (hn : T[j].1 = n) (f : Nat → Int) (hxb : x ≠ b) (hva : Ns.off va b b) :
    Rx (w.setCells b (j * 64) (byts 64 f)) x l va (.slice (some ⟨b, 0, none⟩) T.length cap) (T.set j (n, f)) co :=
  have hk : Kp w (w.setCells b (j * 64) (byts 64 f)) b b := (Kp.refl w b b).setCells b _ (.inl rfl) _
  ⟨Nat.lt_of_lt_of_le h.lt hk.size, (hk.cell (p := ⟨x, 0, none⟩) h.lt hxb hxb).trans h.c0, (hk.cell (p := ⟨x, 1, none⟩) h.lt hxb hxb).trans h.c1, (hk.cell (p := ⟨x, 2, none⟩) h.lt hxb hxb).trans h.c2, (hk.cell (p := ⟨x, 3, none⟩) h.lt hxb hxb).trans h.c3,
    (hk.frozen (p := ⟨x, 1, none⟩) h.lt hxb hxb).trans h.z1, (hk.frozen (p := ⟨x, 2, none⟩) h.lt hxb hxb).trans h.z2, (hk.frozen (p := ⟨x, 3, none⟩) h.lt hxb hxb).trans h.z3, by rw [keys_set n f T j hj hn]; exact h.ns.kp hk hva, h.bv.set j hj n f⟩
end Go.Proofs.Ytlbfdmiihnlljaa
