/- A cartridge that was made, and has watched, is a good one. -/
import Derived.Test.YtcohalkofahphaaDoorCartB
set_option linter.unusedSimpArgs false
set_option linter.unusedVariables false
namespace Go.Proofs.YtcohalkofahphaaDoor.Ca
open Go.RowKit Img

theorem put_at (c : Ct) {k j : Nat} (v : Int) (hk : k < 4) (hj : j < 4) : (c.put k v).at j = if j = k then v else c.at j := by
  match k, hk, j, hj with
  | 0, _, 0, _ => rfl
  | 0, _, 1, _ => rfl
  | 0, _, 2, _ => rfl
  | 0, _, 3, _ => rfl
  | 1, _, 0, _ => rfl
  | 1, _, 1, _ => rfl
  | 1, _, 2, _ => rfl
  | 1, _, 3, _ => rfl
  | 2, _, 0, _ => rfl
  | 2, _, 1, _ => rfl
  | 2, _, 2, _ => rfl
  | 2, _, 3, _ => rfl
  | 3, _, 0, _ => rfl
  | 3, _, 1, _ => rfl
  | 3, _, 2, _ => rfl
  | 3, _, 3, _ => rfl
/-- Two cartridges that differ in what is shown, in the RAM and in the stack's mark alone. -/
structure Kin (c d : Ct) : Prop where
  img : d.img = c.img
  banks : d.banks = c.banks
  size : d.size = c.size
  win : d.win = c.win
  extra : d.extra = c.extra
  tag : d.tag = c.tag
  hot : ∀ k, d.hot k = c.hot k
theorem Kin.refl (c : Ct) : Kin c c := ⟨rfl, rfl, rfl, rfl, rfl, rfl, fun _ => rfl⟩
theorem Kin.trans {a b c : Ct} (h : Kin a b) (g : Kin b c) : Kin a c := ⟨g.img.trans h.img, g.banks.trans h.banks, g.size.trans h.size, g.win.trans h.win, g.extra.trans h.extra, g.tag.trans h.tag, fun k => (g.hot k).trans (h.hot k)⟩
theorem put_kin (c : Ct) (k : Nat) (v : Int) : Kin c (c.put k v) := by
  unfold Ct.put
  split <;> exact ⟨rfl, rfl, rfl, rfl, rfl, rfl, fun _ => rfl⟩
theorem arm_kin (c : Ct) (s : Bool) : Kin c (c.arm s) := ⟨rfl, rfl, rfl, rfl, rfl, rfl, fun _ => rfl⟩
theorem ram_kin (c : Ct) (j : Nat) (x : Int) : Kin c (c.ram j x) := ⟨rfl, rfl, rfl, rfl, rfl, rfl, fun _ => rfl⟩
theorem Good.kin {c d : Ct} (h : Good c) (k : Kin c d) (ex : d.ex.length = 128) (at0 : ∀ k : Nat, k < 4 → 0 ≤ d.at k ∧ d.at k < d.banks) : Good d :=
  ⟨⟨fun j => by rw [k.hot j]; exact h.plain.hot j, ex⟩, by rw [k.size]; exact h.s1, by rw [k.size]; exact h.s2, by rw [k.size, k.win]; exact h.win, by rw [k.win]; exact h.w4, by rw [k.banks]; exact h.b1, by rw [k.banks]; exact h.b2, by rw [k.banks, k.size, k.img]; exact h.whole, by rw [k.img]; exact h.len, at0, fun j => by rw [k.hot j, k.banks]; exact h.hotb j, fun e => by rw [k.tag] at e; rw [k.banks]; exact h.fe e⟩
theorem Good.put {c : Ct} (h : Good c) {k : Nat} {v : Int} (hk : k < 4) (h0 : 0 ≤ v) (h1 : v < c.banks) : Good (c.put k v) := by
  refine h.kin (put_kin c k v) (by rw [(put_ex c k v).1]; exact h.plain.ex) (fun j hj => ?_)
  rw [put_at c v hk hj, (put_kin c k v).banks]
  split
  · exact ⟨h0, h1⟩
  · exact h.at0 j hj
theorem Good.arm {c : Ct} (h : Good c) (s : Bool) : Good (c.arm s) := h.kin (arm_kin c s) h.plain.ex (fun j hj => by
  have : (c.arm s).at j = c.at j := by unfold Ct.at; split <;> rfl
  rw [this]; exact h.at0 j hj)
theorem Good.ram {c : Ct} (h : Good c) (j : Nat) (x : Int) : Good (c.ram j x) := h.kin (ram_kin c j x) (by show (c.ex.set j x).length = 128; rw [List.length_set]; exact h.plain.ex) (fun k hk => by
  have : (c.ram j x).at k = c.at k := by unfold Ct.at; split <;> rfl
  rw [this]; exact h.at0 k hk)
theorem rows_good {c : Ct} (h : Good c) (o : Int) : ∀ k, k ≤ 3 → Good (rows c o k) ∧ Kin c (rows c o k)
  | 0, _ => ⟨h, Kin.refl c⟩
  | k + 1, hk => by
    obtain ⟨g, kin⟩ := rows_good h o k (by omega)
    unfold rows
    split
    · rename_i hh
      simp only [hits, Bool.and_eq_true, decide_eq_true_eq] at hh
      have := h.hotb k
      exact ⟨g.put (by omega) (by omega) (by rw [kin.banks]; omega), kin.trans (put_kin _ _ _)⟩
    · exact ⟨g, kin⟩
theorem own_good {c : Ct} (h : Good c) (o x : Int) : Good (own c o x) ∧ Kin c (own c o x) := by
  obtain ⟨g, kin⟩ := rows_good h o 3 (Nat.le_refl _)
  unfold own
  split
  · exact ⟨g.ram _ _, kin.trans (ram_kin _ _ _)⟩
  · exact ⟨g, kin⟩
theorem pile_good {c : Ct} (h : Good c) (hb : 2 ≤ c.banks) (a x : Int) : Good (pile c a x) ∧ Kin c (pile c a x) := by
  unfold pile
  split
  · refine ⟨(h.put (by omega) (by split <;> omega) (by split <;> omega)).arm _, (put_kin _ _ _).trans (arm_kin _ _)⟩
  · exact ⟨h.arm _, arm_kin _ _⟩
theorem watch_good {c : Ct} (h : Good c) (a x : Int) (wr : Bool) : Good (watch c a x wr) ∧ Kin c (watch c a x wr) := by
  unfold watch watch13
  have b1 := h.b1
  split
  · split
    · exact ⟨h.put (by omega) (Int.emod_nonneg _ (by omega)) (Int.emod_lt_of_pos _ (by omega)), put_kin _ _ _⟩
    · exact ⟨h, Kin.refl c⟩
  · split
    · rename_i hE
      exact pile_good h (h.fe hE) _ _
    · split
      · exact own_good h _ _
      · exact ⟨h, Kin.refl c⟩

theorem hotT_ok (l : List UInt8) : 0 ≤ (hotT l).1 ∧ 0 ≤ (hotT l).2.1 ∧ (hotT l).1 + (hotT l).2.1 ≤ 65535 ∧ 0 ≤ (hotT l).2.2.1 ∧ 0 ≤ (hotT l).2.2.2.1 ∧ (hotT l).2.2.1 + (hotT l).2.2.2.1 ≤ 65535 ∧ 0 ≤ (hotT l).2.2.2.2.1 ∧ 0 ≤ (hotT l).2.2.2.2.2 ∧ (hotT l).2.2.2.2.1 + (hotT l).2.2.2.2.2 ≤ 65535 := by
  unfold hotT
  split
  · decide
  · split
    · decide
    · split
      · decide
      · split <;> decide

theorem banks_of {tag : ByteArray} {m : Mp} {n : Int} (hf : find tag = some m) (h : fits m n = true) : (hotT tag.toList).2.1 ≤ n / m.size ∧ (hotT tag.toList).2.2.2.1 ≤ n / m.size ∧ (hotT tag.toList).2.2.2.2.2 ≤ n / m.size ∧ (tag.toList = [70, 69] → 2 ≤ n / m.size) := by
  rcases tag_cases tag with ⟨m', hf', hm, ht⟩ | ⟨hf', _⟩
  · obtain rfl : m = m' := Option.some.inj (hf.symm.trans hf')
    clear hf hf'
    unfold fits at h
    simp only [Bool.and_eq_true, decide_eq_true_eq, beq_iff_eq] at h
    obtain ⟨⟨h1, h2⟩, h3⟩ := h
    simp only [mps, List.mem_cons, List.not_mem_nil, or_false] at hm
    rcases hm with rfl | rfl | rfl | rfl | rfl | rfl | rfl | rfl | rfl | rfl | rfl
    all_goals
      simp at ht
      simp only at h1 h2 h3
      rw [ht]
      simp [hotT]
      try omega
  · rw [hf] at hf'; cases hf'

theorem pad_rng {m : Mp} {n : Int} {N : Nat} (hs : Sound m n N) (k : Nat) : 0 ≤ pad (firsts m n N) k ∧ pad (firsts m n N) k < n / m.size := by
  unfold pad List.getD
  match hx : (firsts m n N)[k]? with
  | some x => exact hs.rng k x hx
  | none => exact ⟨Int.le_refl _, by have := hs.b1; simp; omega⟩

theorem made_good {tag : ByteArray} {m : Mp} {N : Nat} {L : List Int} (r : Ram) (hf : find tag = some m) (hft : fits m (L.length : Int) = true) (hs : Sound m (L.length : Int) N) : Good (made tag m N L r.l) := by
  obtain ⟨_, hs1, hs2⟩ := step_pos hf
  obtain ⟨t0, t1, t2, t3, t4, t5, t6, t7, t8⟩ := hotT_ok tag.toList
  obtain ⟨c0, c1, c2, c3⟩ := banks_of hf hft
  refine ⟨⟨fun k => ?_, r.h⟩, hs1, hs2, hs.size.symm, ?_, hs.b1, hs.b2, ?_, ?_, fun k hk => ?_, fun k => ?_, c3⟩
  · match k with
    | 0 => exact ⟨t0, t1, t2⟩
    | 1 => exact ⟨t3, t4, t5⟩
    | k + 2 => exact ⟨t6, t7, t8⟩
  · have := hs.le4; show (N : Int) ≤ 4; omega
  · show (L.length : Int) / m.size * m.size = ((strOfNums L).size : Int)
    rw [strOfNums_size]; exact hs.whole
  · have := fits_most hft hf
    show (strOfNums L).size ≤ 524288
    rw [strOfNums_size]; omega
  · match k, hk with
    | 0, _ => exact pad_rng hs 0
    | 1, _ => exact pad_rng hs 1
    | 2, _ => exact pad_rng hs 2
    | 3, _ => exact pad_rng hs 3
  · match k with
    | 0 => exact c0
    | 1 => exact c1
    | k + 2 => exact c2

end Go.Proofs.YtcohalkofahphaaDoor.Ca
