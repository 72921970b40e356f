/- What each call of package poly does, over words of 16 bits: one contract a function. -/
import Derived.Test.YtdnfclhljahghaaMath
import Derived.Test.YtdnfclhljahghaaRows
import Derived.WalkKit
import Derived.ProofKit
import Derived.OpenShut
import Derived.Handy
import Derived.WalkLawsBesides
namespace Go.Proofs.Ytdnfclhljahghaa.Poly16
open Go.RowKit

/-- Such a poly may be, and s is one of its states. -/
structure Good (size tap s : Nat) : Prop where
  t1 : 1 ≤ tap
  t2 : tap < size
  sz : size ≤ 16
  st : s < 2 ^ size

theorem Good.lt {size tap s : Nat} (h : Good size tap s) : s < 65536 := by
  have := Nat.pow_le_pow_right (n := 2) (by omega) h.sz
  have := h.st
  omega
theorem Good.pow {size tap s : Nat} (h : Good size tap s) : 2 ^ size ≤ 65536 := Nat.pow_le_pow_right (n := 2) (by omega) h.sz
theorem Good.nxt {size tap s : Nat} (h : Good size tap s) : Good size tap (nxt size tap s) := ⟨h.t1, h.t2, h.sz, nxt_lt (by have := h.t1; have := h.t2; omega) h.st⟩
theorem Good.orb {size tap s : Nat} (h : Good size tap s) (k : Nat) : Good size tap (orb size tap k s) := ⟨h.t1, h.t2, h.sz, orb_lt (by have := h.t1; have := h.t2; omega) h.st k⟩

/-- The poly of size and tap, at state s, lies at block b from cell off on. -/
structure At (w : World) (b off s size tap : Nat) : Prop where
  c0 : w.cell? ⟨b, off, none⟩ = some (.int .u16 (s : Int))
  c1 : w.cell? ⟨b, off + 1, none⟩ = some (.int .u8 (size : Int))
  c2 : w.cell? ⟨b, off + 2, none⟩ = some (.int .u8 (tap : Int))
  fz : w.frozen? ⟨b, off, none⟩ = false

theorem At.below {w w' : World} {b off s size tap n : Nat} (h : At w b off s size tap) (hb : Below n w w') (hn : b < n) : At w' b off s size tap :=
  ⟨(hb.cell (p := ⟨b, off, none⟩) hn).trans h.c0, (hb.cell (p := ⟨b, off + 1, none⟩) hn).trans h.c1, (hb.cell (p := ⟨b, off + 2, none⟩) hn).trans h.c2, (hb.frozen (p := ⟨b, off, none⟩) hn).trans h.fz⟩

theorem At.put {w : World} {b off s size tap : Nat} (h : At w b off s size tap) (t : Nat) : At (w.setCell ⟨b, off, none⟩ (.int .u16 (t : Int))) b off t size tap :=
  ⟨World.cell?_setCell_same' _ _ _ (by rw [h.c0]; rfl), (World.cell?_setCell_other _ _ _ _ (by simp)).trans h.c1, (World.cell?_setCell_other _ _ _ _ (by simp)).trans h.c2, by rw [World.frozen?_setCell]; exact h.fz⟩

theorem At.drew {w : World} {b off s size tap : Nat} (h : At w b off s size tap) : At w.drew b off s size tap := ⟨h.c0, h.c1, h.c2, h.fz⟩
theorem At.only {w w' : World} {b off s size tap c : Nat} (h : At w b off s size tap) (ho : Only c w w') (hc : b ≠ c) : At w' b off s size tap :=
  ⟨(ho.cell (p := ⟨b, off, none⟩) hc).trans h.c0, (ho.cell (p := ⟨b, off + 1, none⟩) hc).trans h.c1, (ho.cell (p := ⟨b, off + 2, none⟩) hc).trans h.c2, (ho.frozen (p := ⟨b, off, none⟩) hc).trans h.fz⟩

theorem At.touch {w w' : World} {b off s size tap lo hi : Nat} (h : At w b off s size tap) (ht : Touch b lo hi w w') (hd : off + 3 ≤ lo ∨ hi ≤ off) : At w' b off s size tap :=
  ⟨(ht.cell off (by omega)).trans h.c0, (ht.cell (off + 1) (by omega)).trans h.c1, (ht.cell (off + 2) (by omega)).trans h.c2, (ht.fz off).trans h.fz⟩
theorem At.apart {w w' : World} {b off s size tap c lo hi : Nat} (h : At w b off s size tap) (ht : Touch c lo hi w w') (hb : b < w.heap.size) (hc : b ≠ c) : At w' b off s size tap :=
  ⟨(ht.other hb hc).trans h.c0, (ht.other hb hc).trans h.c1, (ht.other hb hc).trans h.c2, (ht.otherFz hb hc).trans h.fz⟩

theorem At.lt {w : World} {b off s size tap : Nat} (h : At w b off s size tap) : b < w.heap.size := by
  have := h.c0
  by_cases hb : b < w.heap.size
  · exact hb
  · simp [World.cell?, Array.getElem?_eq_none (Nat.le_of_not_lt hb)] at this

/-- A poly that has just been laid. -/
theorem At.new (w : World) (s size tap : Nat) (t : TypeId) : At (w.alloc (.cells #[.int .u16 (s : Int), .int .u8 (size : Int), .int .u8 (tap : Int)] t)) w.heap.size 0 s size tap := by
  have h : (w.alloc (.cells #[.int .u16 (s : Int), .int .u8 (size : Int), .int .u8 (tap : Int)] t)).heap[w.heap.size]? = some (.cells #[.int .u16 (s : Int), .int .u8 (size : Int), .int .u8 (tap : Int)] t (0, 0)) := heap_alloc_new w _
  exact ⟨cell_of_row _ _ _ _ _ _ h, cell_of_row _ _ _ _ _ _ h, cell_of_row _ _ _ _ _ _ h, frozen_of_row _ _ _ _ _ h⟩

set_option maxRecDepth 100000 in
set_option maxHeartbeats 400000 in
theorem len (x : Int) (w : World) (h0 : (65535 : Int) ≤ x) (h1 : x ≤ 65535) (H : Hid (x = 65535)) :
    Calls Try.prog 78 #[.int .u16 x] w fun e w' => e = .returned (.int .i64 16) ∧ w' = w := by
  go_enter Try.func78, Try.ntmps78
  go_wp2
  go_ret
  refine ⟨congrArg Ending.returned (congrArg (Value.int IntKind.i64) ?_), rfl⟩
  have hx := H.out
  subst hx
  show wrap64 (8 + wrap64 ((8 : Nat) : Int)) = (16 : Int)
  first | decide +kernel | (simp [wrap64]; done)

set_option maxHeartbeats 400000 in
theorem wordBits (w : World) : Calls Try.prog 69 #[] w fun e w' => e = .returned (.int .i64 16) ∧ w' = w := by
  go_enter Try.func69, Try.ntmps69
  go_wp2_with (go_at_call 78; refine (len _ _ (by decide) (by decide) (show _ = _ by decide)).mono ?_; rintro e w' ⟨rfl, rfl⟩)
  go_ret
  exact ⟨rfl, rfl⟩

set_option maxHeartbeats 400000 in
theorem New_yes (size tap : Nat) (w : World) (ht1 : 1 ≤ tap) (ht : tap < size) (hs : size ≤ 16) :
    Calls Try.prog 46 #[.int .i64 size, .int .i64 tap] w fun e w' => e = .returned (.pointer (some ⟨w.heap.size, 0, none⟩)) ∧
      w' = w.alloc (.cells #[.int .u16 0, .int .u8 size, .int .u8 tap] 80) := by
  go_enter Try.func46, Try.ntmps46
  go_wp2_with (go_at_call 69; refine (wordBits _).mono ?_; rintro e w' ⟨rfl, rfl⟩)
  go_ret
  exact ⟨rfl, rfl⟩

/-- A new poly, wherever it lies. -/
theorem New (size tap : Nat) (w : World) (ht1 : 1 ≤ tap) (ht : tap < size) (hs : size ≤ 16) :
    Calls Try.prog 46 #[.int .i64 size, .int .i64 tap] w fun e w' => ∃ b, e = .returned (.pointer (some ⟨b, 0, none⟩)) ∧ w.heap.size ≤ b ∧ At w' b 0 0 size tap ∧ Below w.heap.size w w' := by
  refine (New_yes size tap w ht1 ht hs).mono ?_
  rintro e w' ⟨rfl, rfl⟩
  exact ⟨_, rfl, Nat.le_refl _, At.new w 0 size tap _, (Below.refl _ w).alloc (Nat.le_refl _) _⟩

set_option maxHeartbeats 400000 in
theorem New_no (size tap : Int) (w : World) (h : ¬ (2 ≤ size ∧ size ≤ 16 ∧ 1 ≤ tap ∧ tap < size)) :
    Calls Try.prog 46 #[.int .i64 size, .int .i64 tap] w fun e w' => e = .returned (.pointer none) ∧ w' = w := by
  by_cases h1 : size < 2
  · go_enter Try.func46, Try.ntmps46
    go_wp2_with (go_at_call 69; refine (wordBits _).mono ?_; rintro e w' ⟨rfl, rfl⟩)
    go_ret
    exact ⟨rfl, rfl⟩
  by_cases h2 : 16 < size
  · go_enter Try.func46, Try.ntmps46
    go_wp2_with (go_at_call 69; refine (wordBits _).mono ?_; rintro e w' ⟨rfl, rfl⟩)
    go_ret
    exact ⟨rfl, rfl⟩
  by_cases h3 : tap < 1
  · go_enter Try.func46, Try.ntmps46
    go_wp2_with (go_at_call 69; refine (wordBits _).mono ?_; rintro e w' ⟨rfl, rfl⟩)
    go_ret
    exact ⟨rfl, rfl⟩
  · have h4 : size ≤ tap := by omega
    go_enter Try.func46, Try.ntmps46
    go_wp2_with (go_at_call 69; refine (wordBits _).mono ?_; rintro e w' ⟨rfl, rfl⟩)
    go_ret
    exact ⟨rfl, rfl⟩

set_option maxHeartbeats 400000 in
theorem after (b off s size tap : Nat) (w : World) (hg : Good size tap s) (h1 : w.cell? ⟨b, off + 1, none⟩ = some (.int .u8 (size : Int))) (h2 : w.cell? ⟨b, off + 2, none⟩ = some (.int .u8 (tap : Int))) :
    Calls Try.prog 89 #[.pointer (some ⟨b, off, none⟩), .int .u16 (s : Int)] w fun e w' => e = .returned (.int .u16 ((nxt size tap s : Nat) : Int)) ∧ w' = w := by
  have ht : tap ≤ 16 := by have := hg.t2; have := hg.sz; omega
  have hs : size ≤ 16 := hg.sz
  have hs' : 1 ≤ size := by have := hg.t1; have := hg.t2; omega
  go_enter Try.func89, Try.ntmps89
  go_wp2
  go_ret
  exact ⟨congrArg Ending.returned (congrArg (Value.int _) (step16 hg.t1 hg.t2 hg.sz hg.st)), rfl⟩

set_option maxHeartbeats 400000 in
theorem Step (b off s size tap : Nat) (w : World) (hg : Good size tap s) (h : At w b off s size tap) :
    Calls Try.prog 83 #[.pointer (some ⟨b, off, none⟩)] w fun e w' => e = .returned (.int .u8 ((s % 2 : Nat) : Int)) ∧
      w' = w.setCell ⟨b, off, none⟩ (.int .u16 ((nxt size tap s : Nat) : Int)) := by
  obtain ⟨h0, h1, h2, hf⟩ := h
  have hl := hg.lt
  go_enter Try.func83, Try.ntmps83
  go_wp2_with (go_at_call 89; refine (after b off s size tap _ hg h1 h2).mono ?_; rintro e w' ⟨rfl, rfl⟩)
  go_ret
  refine ⟨congrArg Ending.returned (congrArg (Value.int _) ?_), rfl⟩
  have e : bits .and .u16 (s : Int) 1 = ((s % 2 : Nat) : Int) := by
    rw [show (1 : Int) = ((1 : Nat) : Int) from rfl, u16_and_nat _ _ hl (by omega), nat_mask1]
  rw [e]
  try omega

set_option maxHeartbeats 400000 in
theorem Step_nil (w : World) : Calls Try.prog 83 #[.pointer none] w fun e w' => e = .returned (.int .u8 0) ∧ w' = w := by
  go_enter Try.func83, Try.ntmps83
  go_wp2
  go_ret
  exact ⟨rfl, rfl⟩

set_option maxHeartbeats 400000 in
theorem State (b off s : Nat) (w : World) (h0 : w.cell? ⟨b, off, none⟩ = some (.int .u16 (s : Int))) :
    Calls Try.prog 51 #[.pointer (some ⟨b, off, none⟩)] w fun e w' => e = .returned (.int .u16 (s : Int)) ∧ w' = w := by
  go_enter Try.func51, Try.ntmps51
  go_wp2
  go_ret
  exact ⟨rfl, rfl⟩

set_option maxHeartbeats 400000 in
theorem State_nil (w : World) : Calls Try.prog 51 #[.pointer none] w fun e w' => e = .returned (.int .u16 0) ∧ w' = w := by
  go_enter Try.func51, Try.ntmps51
  go_wp2
  go_ret
  exact ⟨rfl, rfl⟩

set_option maxHeartbeats 400000 in
theorem Set_yes (b off s size tap t : Nat) (w : World) (hg : Good size tap t) (h : At w b off s size tap) :
    Calls Try.prog 59 #[.pointer (some ⟨b, off, none⟩), .int .u16 (t : Int)] w fun e w' => e = .returned (.int .i64 0) ∧
      w' = w.setCell ⟨b, off, none⟩ (.int .u16 (t : Int)) := by
  obtain ⟨h0, h1, h2, hf⟩ := h
  have hs : size ≤ 16 := hg.sz
  have hz : ((t : Int) / 2 ^ size != 0) = false := by
    have : (t : Int) / 2 ^ size = ((t / 2 ^ size : Nat) : Int) := by rw [Int.natCast_ediv]; simp
    rw [this, Nat.div_eq_of_lt hg.st]; rfl
  go_enter Try.func59, Try.ntmps59
  go_wp2
  go_ret
  exact ⟨rfl, rfl⟩

set_option maxHeartbeats 400000 in
theorem Set_no (b off s size tap t : Nat) (w : World) (hs : size ≤ 16) (ht : 2 ^ size ≤ t) (h : At w b off s size tap) :
    Calls Try.prog 59 #[.pointer (some ⟨b, off, none⟩), .int .u16 (t : Int)] w fun e w' => e = .returned (.int .i64 6) ∧ w' = w := by
  obtain ⟨h0, h1, h2, hf⟩ := h
  have hz : ((t : Int) / 2 ^ size != 0) = true := by
    have : (t : Int) / 2 ^ size = ((t / 2 ^ size : Nat) : Int) := by rw [Int.natCast_ediv]; simp
    have := Nat.div_pos ht (Nat.two_pow_pos _)
    rw [bne_iff_ne]; omega
  go_enter Try.func59, Try.ntmps59
  go_wp2
  go_ret
  exact ⟨rfl, rfl⟩

/-- Set, whatever it is handed. -/
theorem Set (b off s size tap t : Nat) (w : World) (h1 : 1 ≤ tap) (h2 : tap < size) (h3 : size ≤ 16) (h : At w b off s size tap) :
    Calls Try.prog 59 #[.pointer (some ⟨b, off, none⟩), .int .u16 (t : Int)] w fun e w' => e = .returned (.int .i64 (setE size t)) ∧ At w' b off (setS size s t) size tap ∧ Only b w w' := by
  by_cases ht : t < 2 ^ size
  · rw [setE_yes ht, setS_yes ht]
    refine (Set_yes b off s size tap t w ⟨h1, h2, h3, ht⟩ h).mono ?_
    rintro e w' ⟨rfl, rfl⟩
    exact ⟨rfl, h.put t, Only.setCell w ⟨b, off, none⟩ _⟩
  · rw [setE_no ht, setS_no ht]
    refine (Set_no b off s size tap t w h3 (by omega) h).mono ?_
    rintro e w' ⟨rfl, rfl⟩
    exact ⟨rfl, h, Only.refl _ _⟩

/-- Step, its world by what it keeps. -/
theorem Step' (b off s size tap : Nat) (w : World) (hg : Good size tap s) (h : At w b off s size tap) :
    Calls Try.prog 83 #[.pointer (some ⟨b, off, none⟩)] w fun e w' => e = .returned (.int .u8 ((s % 2 : Nat) : Int)) ∧ At w' b off (nxt size tap s) size tap ∧ Only b w w' := by
  refine (Step b off s size tap w hg h).mono ?_
  rintro e w' ⟨rfl, rfl⟩
  exact ⟨rfl, h.put _, Only.setCell w ⟨b, off, none⟩ _⟩

theorem StepT (b off s size tap : Nat) (w : World) (hg : Good size tap s) (h : At w b off s size tap) :
    Calls Try.prog 83 #[.pointer (some ⟨b, off, none⟩)] w fun e w' => e = .returned (.int .u8 ((s % 2 : Nat) : Int)) ∧ At w' b off (nxt size tap s) size tap ∧ Touch b off (off + 1) w w' := by
  refine (Step b off s size tap w hg h).mono ?_
  rintro e w' ⟨rfl, rfl⟩
  exact ⟨rfl, h.put _, Touch.setCell _ _ (by omega) (by omega)⟩

theorem SetT (b off s size tap t : Nat) (w : World) (hg : Good size tap t) (h : At w b off s size tap) :
    Calls Try.prog 59 #[.pointer (some ⟨b, off, none⟩), .int .u16 (t : Int)] w fun e w' => e = .returned (.int .i64 0) ∧ At w' b off t size tap ∧ Touch b off (off + 1) w w' := by
  refine (Set_yes b off s size tap t w hg h).mono ?_
  rintro e w' ⟨rfl, rfl⟩
  exact ⟨rfl, h.put t, Touch.setCell _ _ (by omega) (by omega)⟩

set_option maxHeartbeats 400000 in
theorem Set_nil (t : Int) (w : World) : Calls Try.prog 59 #[.pointer none, .int .u16 t] w fun e w' => e = .returned (.int .i64 1) ∧ w' = w := by
  go_enter Try.func59, Try.ntmps59
  go_wp2
  go_ret
  exact ⟨rfl, rfl⟩

end Go.Proofs.Ytdnfclhljahghaa.Poly16
