import Derived.Test.YtdebkifnaiohcaaH5
/- NodeTables: a group of a size; slices that came in. -/
namespace Go.Proofs.Ytdebkifnaiohcaa
set_option linter.unusedSimpArgs false
set_option linter.unusedVariables false
open Go.RowKit Go.Maps

/-- a slice of whole numbers of one kind -/
def Zs (w : World) (k : IntKind) (v : Value) (ts : List Int) : Prop :=
  (∃ a cap, v = .slice a 0 cap ∧ ts = []) ∨ ∃ b off cap, v = .slice (some ⟨b, off, none⟩) ts.length cap ∧ b < w.heap.size ∧ ts.length ≤ maxLen ∧ ∀ i (h : i < ts.length), w.cell? ⟨b, off + i, none⟩ = some (.int k ts[i])
theorem Zs.below {w w' : World} {k : IntKind} {v : Value} {ts : List Int} (h : Zs w k v ts) (hb : Below w.heap.size w w') : Zs w' k v ts := by
  rcases h with h | ⟨b, off, cap, hv, hlt, hm, hc⟩
  · exact .inl h
  · exact .inr ⟨b, off, cap, hv, Nat.lt_of_lt_of_le hlt hb.size, hm, fun i hi => (hb.cell (p := ⟨b, off + i, none⟩) hlt).trans (hc i hi)⟩
theorem Zs.form {w : World} {k : IntKind} {v : Value} {ts : List Int} (h : Zs w k v ts) : ∃ a cap, v = .slice a ts.length cap ∧ ts.length ≤ maxLen := by
  rcases h with ⟨a, cap, rfl, rfl⟩ | ⟨b, off, cap, rfl, _, hm, _⟩
  · exact ⟨a, cap, rfl, by unfold maxLen; simp⟩
  · exact ⟨_, cap, rfl, hm⟩
theorem Zs.at {w : World} {k : IntKind} {a : Option Addr} {n cap : Nat} {ts : List Int} (h : Zs w k (.slice a n cap) ts) (i : Nat) (hi : i < ts.length) : ∃ b off, a = some ⟨b, off, none⟩ ∧ b < w.heap.size ∧ w.cell? ⟨b, off + i, none⟩ = some (.int k ts[i]) := by
  rcases h with ⟨a', cap', _, rfl⟩ | ⟨b, off, cap', hv, hlt, _, hc⟩
  · simp at hi
  · have : a = some ⟨b, off, none⟩ := by injection hv
    exact ⟨b, off, this, hlt, hc i hi⟩

theorem layF_le (rs : List Cf.Rg) (hs : ∀ r ∈ rs, Cf.Small r) (i : Nat) : ∀ j, i ≤ j → j ≤ rs.length → (Cf.layF (rs.take i)).2 ≤ (Cf.layF (rs.take j)).2
  | 0, h, _ => by
    obtain rfl : i = 0 := by omega
    exact Int.le_refl _
  | j + 1, h, h' => by
    by_cases e : i = j + 1
    · rw [e]; exact Int.le_refl _
    · have h1 := layF_le rs hs i j (by omega) (by omega)
      obtain ⟨s1, s2, s3, s4⟩ := hs rs[j] (List.getElem_mem _)
      rw [Cf.layF_take rs j (by omega), Cf.layStep]
      simp only [Cf.geoAt, Cf.Ge.fin]
      omega
/-- a group's table has room on the disk -/
theorem geo_room (rs : List Cf.Rg) (hs : ∀ r ∈ rs, Cf.Small r) (h64 : rs.length ≤ 64) (i : Nat) (hi : i < rs.length) (g : Cf.Ge) (hg : (Cf.layF rs).1[i]'(by rw [Cf.lay_len]; exact hi) = g) :
    32 ≤ g.base ∧ g.base < 50000 ∧ 0 ≤ g.bm ∧ g.bm < 1000 ∧ g.nd = rs[i].nd ∧ 4 ≤ g.nd ∧ g.nd ≤ 128 ∧ g.base + g.bm + (g.nd + 1) / 2 ≤ (Cf.layF rs).2 := by
  have h1 := Cf.lay_nth rs i hi
  have h2 := Cf.lay_fin rs i hi
  rw [hg] at h1 h2
  have h3 := layF_le rs hs (i + 1) rs.length (by omega) (Nat.le_refl _)
  rw [List.take_length, ← h2] at h3
  obtain ⟨s1, s2, s3, s4⟩ := hs rs[i] (List.getElem_mem _)
  obtain ⟨r1, r2⟩ := Cf.layF_range rs hs i (by omega)
  rw [h1] at h3 ⊢
  simp only [Cf.geoAt, Cf.Ge.fin] at h3 ⊢
  have e1 : (rs[i].nd + 1) / 2 ≤ (rs[i].nd * 32 + 63) / 64 := by omega
  have e2 : 0 ≤ ((rs[i].bl + 7) / 8 + 63) / 64 ∧ ((rs[i].bl + 7) / 8 + 63) / 64 < 1000 := by omega
  refine ⟨by omega, by omega, e2.1, e2.2, trivial, s3, s4, by omega⟩
theorem Try.zero53 : (Try.prog.info? 53).map (fun i => i.zero) = some (some (.agg [.int .i64 0, .int .i64 0, .int .i64 0, .int .i64 0, .int .i64 0, .int .i64 0].toArray)) := by kernel_rfl
theorem geo_one (g : Cf.Ge) : ∀ v ∈ g.cells, v.oneCell' = true := by
  intro v hv
  simp [Cf.Ge.cells] at hv
  rcases hv with rfl | rfl | rfl | rfl | rfl | rfl <;> rfl
theorem Fl.vl {w : World} {g N : Nat} {f : Nat → Int} (h : Fl w g N f) : Vl w g (byts N f) := ⟨h.lt, fun j v hj => by obtain ⟨h1, rfl⟩ := byts_of hj; exact h.c j h1, fun j hj => h.z j (by rwa [byts_len] at hj)⟩
theorem wpList_store_list {P : Program} {ops : Array Oper} {rest : List Oper} {op : Oper} {a : Act} {w : World} {Q : Exit → Act → World → Prop} (hgd : op.guard = none) (ty : TypeId) (x y : Operand) (ho : op.op = .store ty x y) (g : Nat) (cs ds : List Value)
    (hx : a.eval x = .pointer (some ⟨g, 0, none⟩)) (hy : a.eval y = .agg ds.toArray) (hV : Vl w g cs) (hl : ds.length = cs.length) (hi : (P.info? ty).map (·.size) = some ds.length) (h1 : ∀ v ∈ ds, v.oneCell' = true)
    (h : ∀ w', Hid (Vl w' g ds) → Hid (Kp w w' g g) → wpList P ops Q rest (a.put op.dst undef) w') : wpList P ops Q (op :: rest) a w := by
  refine wpList_store_mid hgd ty x y ho g 0 ds.toArray hx hy (hV.there0 _ (by simp [hl])) (by simpa using hi) (all_oneCell_toArray h1) ?_
  exact h _ (hV.stored ds hl) ((Kp.refl w g g).setCells g 0 (.inl rfl) _)
theorem headN_ok (y k : Int) (h0 : 0 ≤ y) (h1 : y < 256) (k0 : 0 ≤ k) (k1 : k < 65536) : NdOk (headN (y % 7) (y / 7 % 3) k y) := ⟨by show 0 ≤ y % 7 ∧ y % 7 < 256; omega, by show 0 ≤ y / 7 % 3 ∧ y / 7 % 3 < 256; omega, ⟨k0, k1⟩, by show 0 ≤ y ∧ y < 4294967296; omega, fun i h2 h3 => by
  have : headN (y % 7) (y / 7 % 3) k y i = 0 := by unfold headN; rw [if_neg (by omega), if_neg (by omega), if_neg (by omega), if_neg (by omega)]
  rw [this]
  exact ⟨Int.le_refl _, by decide⟩⟩
end Go.Proofs.Ytdebkifnaiohcaa
