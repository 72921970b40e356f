/- CodeBack, walked: whatever comes in, true comes out. -/
import Derived.Test.YtcbfhjgdnffjlaaDoorAwakeX
namespace Go.Proofs.YtcbfhjgdnffjlaaDoor.Co
open Go.RowKit

theorem mem_codes (x : Fin 256) : x ∈ codes := List.mem_finRange x
theorem hit_self (op : Nat) (h : op < 256) : hit (bl (nameB op)) (modeN op) ⟨op, h⟩ = true := by unfold hit; simp

/-- The answer is a code of that name and mode. -/
theorem find_hit {l : List UInt8} {m : Nat} {x : Fin 256} (hx : hit l m x = true) : findB l m = true ∧ ∃ h : findO l m < 256, hit l m ⟨findO l m, h⟩ = true := by
  unfold findO findB
  cases h1 : codes.find? (known l m) with
  | some y =>
    have hy := List.find?_some h1
    unfold known at hy
    exact ⟨rfl, y.isLt, by simpa using (Bool.and_eq_true_iff.1 hy).1⟩
  | none =>
    cases h2 : codes.find? (hit l m) with
    | some y =>
      have hy := List.find?_some h2
      simp only [firstB, firstO, h2, Option.isSome_some, Option.map_some, Option.getD_some]
      exact ⟨trivial, y.isLt, hy⟩
    | none =>
      have := List.find?_eq_none.1 h2 x (mem_codes x)
      exact absurd hx this

/-- Every documented code's number, its name and mode in one. -/
def keyN (op : Nat) : Nat := ((bl (nameB op)).foldl (fun a c => a * 256 + c.toNat) 0) * 16 + modeN op
def knownKeys : List Nat := ((List.range 256).filter knownB).map keyN
set_option maxRecDepth 100000 in
theorem keys_apart : knownKeys.Nodup := by decide +kernel

theorem known_one {x y : Nat} (hx : x < 256) (hy : y < 256) (kx : knownB x = true) (ky : knownB y = true) (hn : bl (nameB x) = bl (nameB y)) (hm : modeN x = modeN y) : x = y := by
  have hk : keyN x = keyN y := by unfold keyN; rw [hn, hm]
  have nd := keys_apart
  unfold knownKeys at nd
  have inj : ∀ (L : List Nat), (L.map keyN).Nodup → ∀ a ∈ L, ∀ b ∈ L, keyN a = keyN b → a = b := by
    intro L
    induction L with
    | nil => intro _ a ha; cases ha
    | cons c L ih =>
      intro hnd a ha b hb hab
      rw [List.map_cons, List.nodup_cons] at hnd
      rcases List.mem_cons.1 ha with ea | ha2
      · rcases List.mem_cons.1 hb with eb | hb2
        · rw [ea, eb]
        · exact absurd (show keyN c ∈ L.map keyN from List.mem_map.2 ⟨b, hb2, by rw [← hab, ea]⟩) hnd.1
      · rcases List.mem_cons.1 hb with eb | hb2
        · exact absurd (show keyN c ∈ L.map keyN from List.mem_map.2 ⟨a, ha2, by rw [hab, eb]⟩) hnd.1
        · exact ih hnd.2 a ha2 b hb2 hab
  exact inj _ nd x (List.mem_filter.2 ⟨List.mem_range.2 hx, kx⟩) y (List.mem_filter.2 ⟨List.mem_range.2 hy, ky⟩) hk

/-- A documented code is found. -/
theorem find_known {op : Nat} (h : op < 256) (hk : knownB op = true) : findO (bl (nameB op)) (modeN op) = op := by
  have hk' : knownF ((op : Nat) : Int) (bl (nameB op)) = true := hk
  have hx : known (bl (nameB op)) (modeN op) ⟨op, h⟩ = true := by
    show (hit (bl (nameB op)) (modeN op) ⟨op, h⟩ && knownF ((op : Nat) : Int) (bl (nameB op))) = true
    rw [hit_self op h, hk']
    rfl
  unfold findO
  generalize hl : bl (nameB op) = l at hx
  generalize hm : modeN op = m at hx
  cases h1 : codes.find? (known l m) with
  | none => exact absurd hx (List.find?_eq_none.1 h1 _ (mem_codes _))
  | some y =>
    have hy := List.find?_some h1
    unfold known at hy
    obtain ⟨a, b⟩ := Bool.and_eq_true_iff.1 hy
    unfold hit at a
    simp only [Bool.and_eq_true, decide_eq_true_eq] at a
    refine known_one y.isLt h ?_ hk (a.1.trans hl.symm) (a.2.trans hm.symm)
    unfold knownB
    rw [a.1]
    exact b

set_option maxRecDepth 100000 in
set_option maxHeartbeats 4000000 in
theorem codeBack_walk (a0 : Int) (w0 : (Lit.int .u8 a0).wf = true) (W : World) (ht : Tab W) :
    Calls Tryd.prog 5 #[.int .u8 a0] W fun e w' => e = .returned (.bool true) ∧ Below W.heap.size W w' := by
  obtain ⟨x0, x1⟩ := bounds_u8 w0
  obtain ⟨op, rfl⟩ := Int.eq_ofNat_of_zero_le x0
  clear w0
  have h : op < 256 := by omega
  obtain ⟨fB, fl, fh⟩ := find_hit (hit_self op h)
  unfold hit at fh
  simp only [Bool.and_eq_true, decide_eq_true_eq] at fh
  obtain ⟨fn, fm⟩ := fh
  have fN : nameB (findO (bl (nameB op)) (modeN op)) = nameB op := bl_inj fn
  have fK : kindN (findO (bl (nameB op)) (modeN op)) = kindN op := by unfold kindN; rw [fN, fm]
  have fKn : knownB op = true → findO (bl (nameB op)) (modeN op) = op := find_known h
  have HO : Hid (∀ w, Tab w → Calls Tryd.prog 7 #[.int .u8 (op : Int)] w fun e w' => e = .returned (.agg #[.string (nameB op), .int .u8 (modeN op), .int .u8 (kindN op), .bool (knownB op)]) ∧ Below w.heap.size w w') := fun w ht => Of op w h ht
  have HF : Hid (∀ w, Tab w → Calls Tryd.prog 14 #[.string (nameB op), .int .u8 (modeN op : Int)] w fun e w' => e = .returned (.tuple #[.int .u8 ((findO (bl (nameB op)) (modeN op) : Nat) : Int), .bool true]) ∧ Below w.heap.size w w') := fun w ht => by
    have := Find (nameB op) (modeN op) w ht
    rw [fB] at this
    exact this
  have HO2 : Hid (∀ w, Tab w → Calls Tryd.prog 7 #[.int .u8 ((findO (bl (nameB op)) (modeN op) : Nat) : Int)] w fun e w' => e = .returned (.agg #[.string (nameB op), .int .u8 (modeN op), .int .u8 (kindN op), .bool (knownB (findO (bl (nameB op)) (modeN op)))]) ∧ Below w.heap.size w w') := fun w ht => by
    have := Of (findO (bl (nameB op)) (modeN op)) w fl ht
    unfold codeV at this
    rw [fN, fm, fK] at this
    exact this
  have HT : Hid (Tab W) := ht
  clear ht fB fn fm fN fK
  generalize knownB (findO (bl (nameB op)) (modeN op)) = kx at HO2
  generalize findO (bl (nameB op)) (modeN op) = x at HF HO2 fKn fl
  generalize modeN op = m at HO HF HO2
  generalize kindN op = k at HO HO2
  generalize nameB op = n at HO HF HO2
  generalize knownB op = kn at HO fKn
  go_enter Tryd.func5, Tryd.ntmps5
  go_wp2_with (go_at_call 7; fail)
  refine (HO.out _ HT.out).mono ?_
  rintro e w1 ⟨rfl, hB1⟩
  have HX1 : Hid (Box4 (w1.alloc (.cells #[.string n, .int .u8 m, .int .u8 k, .bool kn] 25)) w1.heap.size (.string n) (.int .u8 m) (.int .u8 k) (.bool kn)) := Box4.new w1 _ _ _ _ _
  have HB1 : Hid (Below W.heap.size W (w1.alloc (.cells #[.string n, .int .u8 m, .int .u8 k, .bool kn] 25))) := hB1.alloc hB1.size _
  clear hB1
  go_wp2_with (go_at_call 14; fail)
  refine (HF.out _ (HT.out.next HB1.out)).mono ?_
  rintro e w2 ⟨rfl, hB2⟩
  have HX2 : Hid (Box4 w2 w1.heap.size (.string n) (.int .u8 m) (.int .u8 k) (.bool kn)) := HX1.out.next hB2
  have HB2 : Hid (Below W.heap.size W w2) := HB1.out.trans (hB2.mono HB1.out.size)
  clear hB2 HX1 HB1
  go_wp2_with (go_at_call 7; fail)
  refine (HO2.out _ (HT.out.next HB2.out)).mono ?_
  rintro e w3 ⟨rfl, hB3⟩
  have HX3 : Hid (Box4 w3 w1.heap.size (.string n) (.int .u8 m) (.int .u8 k) (.bool kn)) := HX2.out.next hB3
  have hlt := HX3.out.lt
  obtain ⟨c0, c1, c2, c3, f0, f1, f2, f3⟩ := HX3.out
  have HB3 : Hid (Below W.heap.size W w3) := HB2.out.trans (hB3.mono HB2.out.size)
  clear hB3 HX2 HB2 HX3 f0 f1 f2 f3
  cases hkn : kn
  · rw [hkn] at c3
    go_wp2_with (go_at_call 13; refine (awakeX _ (HT.out.next (HB3.out.alloc HB3.out.size _))).mono ?_; rintro e w8 ⟨rfl, hB8⟩)
    go_ret
    exact ⟨rfl, (HB3.out.alloc HB3.out.size _).trans (hB8.mono (by have := HB3.out.size; simp; omega))⟩
  · rw [hkn] at c3
    have hxo : x = op := fKn hkn
    subst hxo
    go_wp2_with (go_at_call 13; refine (awakeX _ (HT.out.next (HB3.out.alloc HB3.out.size _))).mono ?_; rintro e w8 ⟨rfl, hB8⟩)
    go_ret
    exact ⟨rfl, (HB3.out.alloc HB3.out.size _).trans (hB8.mono (by have := HB3.out.size; simp; omega))⟩

end Go.Proofs.YtcbfhjgdnffjlaaDoor.Co
