/- What each call of package port does: one contract a function. -/
import Derived.Test.YtgclgegdojnpcaaPortM
import Derived.Test.YtgclgegdojnpcaaTurn
import Derived.Test.YtgclgegdojnpcaaRows
import Derived.ProofKit
import Derived.OpenShut
import Derived.Handy
import Derived.WalkLawsBesides
import Derived.Deep.RegionHeld3
import Derived.BigQuiet
import Derived.Deep.QuietTactic
import Derived.Lib.SmallJoins
import Derived.Laws.BitsAllLaws
import Derived.ChangeKeysEq
import Derived.Shelf.Abstract
namespace Go.Proofs.Ytgclgegdojnpcaa.Po
open Go.RowKit

/-- A port lies at block b. -/
structure PAt (w : World) (b : Nat) (p : Pt) : Prop where
  c0 : w.cell? ⟨b, 0, none⟩ = some (.int .u8 (p.i : Int))
  c1 : w.cell? ⟨b, 1, none⟩ = some (.int .u8 (p.o : Int))
  c2 : w.cell? ⟨b, 2, none⟩ = some (.int .u8 (p.v : Int))
  fz : ∀ o, w.frozen? ⟨b, o, none⟩ = false
/-- An edge lies at block b. -/
structure EAt (w : World) (b : Nat) (p : Eg) : Prop where
  c0 : w.cell? ⟨b, 0, none⟩ = some (.bool p.h)
  c1 : w.cell? ⟨b, 1, none⟩ = some (.bool p.r)
  c2 : w.cell? ⟨b, 2, none⟩ = some (.bool p.c)
  fz : ∀ o, w.frozen? ⟨b, o, none⟩ = false

section
variable {w w' : World} {b c : Nat} {p : Pt}
theorem PAt.lt (h : PAt w b p) : b < w.heap.size := lt_of_cell h.c0
theorem PAt.kept (h : PAt w b p) (hb : w'.heap[b]? = w.heap[b]?) : PAt w' b p :=
  ⟨(World.cell?_of_block (w := w) hb).trans h.c0, (World.cell?_of_block (w := w) hb).trans h.c1, (World.cell?_of_block (w := w) hb).trans h.c2, fun o => (World.frozen?_of_block (w := w) hb).trans (h.fz o)⟩
theorem PAt.below (h : PAt w b p) (hb : Below w.heap.size w w') : PAt w' b p := h.kept (hb.block b h.lt)
theorem PAt.turn (h : PAt w b p) (ht : Turn c w w') (hc : b ≠ c) : PAt w' b p := h.kept (ht.block b h.lt hc)
theorem PAt.draws (h : PAt w b p) (q : Nat) : PAt (w.drewN q) b p := ⟨h.c0, h.c1, h.c2, h.fz⟩
end
section
variable {w w' : World} {b c : Nat} {p : Eg}
theorem EAt.lt (h : EAt w b p) : b < w.heap.size := lt_of_cell h.c0
theorem EAt.kept (h : EAt w b p) (hb : w'.heap[b]? = w.heap[b]?) : EAt w' b p :=
  ⟨(World.cell?_of_block (w := w) hb).trans h.c0, (World.cell?_of_block (w := w) hb).trans h.c1, (World.cell?_of_block (w := w) hb).trans h.c2, fun o => (World.frozen?_of_block (w := w) hb).trans (h.fz o)⟩
theorem EAt.below (h : EAt w b p) (hb : Below w.heap.size w w') : EAt w' b p := h.kept (hb.block b h.lt)
theorem EAt.turn (h : EAt w b p) (ht : Turn c w w') (hc : b ≠ c) : EAt w' b p := h.kept (ht.block b h.lt hc)
theorem EAt.draws (h : EAt w b p) (q : Nat) : EAt (w.drewN q) b p := ⟨h.c0, h.c1, h.c2, h.fz⟩
theorem EAt.to {p' : Eg} (h : EAt w b p) (e : p = p') : EAt w b p' := e ▸ h
end

section
variable {w : World} {b : Nat} {i o v : Nat}
theorem PAt.put0 (h : PAt w b ⟨i, o, v⟩) (n : Nat) : PAt (w.setCell ⟨b, 0, none⟩ (.int .u8 (n : Int))) b ⟨n, o, v⟩ :=
  ⟨World.cell?_setCell_same' _ _ _ (by rw [h.c0]; rfl), (World.cell?_setCell_other _ _ _ _ (by simp)).trans h.c1, (World.cell?_setCell_other _ _ _ _ (by simp)).trans h.c2, fun o => by rw [World.frozen?_setCell]; exact h.fz o⟩
theorem PAt.put1 (h : PAt w b ⟨i, o, v⟩) (n : Nat) : PAt (w.setCell ⟨b, 1, none⟩ (.int .u8 (n : Int))) b ⟨i, n, v⟩ :=
  ⟨(World.cell?_setCell_other _ _ _ _ (by simp)).trans h.c0, World.cell?_setCell_same' _ _ _ (by rw [h.c1]; rfl), (World.cell?_setCell_other _ _ _ _ (by simp)).trans h.c2, fun o => by rw [World.frozen?_setCell]; exact h.fz o⟩
theorem PAt.put2 (h : PAt w b ⟨i, o, v⟩) (n : Nat) : PAt (w.setCell ⟨b, 2, none⟩ (.int .u8 (n : Int))) b ⟨i, o, n⟩ :=
  ⟨(World.cell?_setCell_other _ _ _ _ (by simp)).trans h.c0, (World.cell?_setCell_other _ _ _ _ (by simp)).trans h.c1, World.cell?_setCell_same' _ _ _ (by rw [h.c2]; rfl), fun o => by rw [World.frozen?_setCell]; exact h.fz o⟩
end
section
variable {w : World} {b : Nat} {i o v : Bool}
theorem EAt.put0 (h : EAt w b ⟨i, o, v⟩) (n : Bool) : EAt (w.setCell ⟨b, 0, none⟩ (.bool n)) b ⟨n, o, v⟩ :=
  ⟨World.cell?_setCell_same' _ _ _ (by rw [h.c0]; rfl), (World.cell?_setCell_other _ _ _ _ (by simp)).trans h.c1, (World.cell?_setCell_other _ _ _ _ (by simp)).trans h.c2, fun o => by rw [World.frozen?_setCell]; exact h.fz o⟩
theorem EAt.put1 (h : EAt w b ⟨i, o, v⟩) (n : Bool) : EAt (w.setCell ⟨b, 1, none⟩ (.bool n)) b ⟨i, n, v⟩ :=
  ⟨(World.cell?_setCell_other _ _ _ _ (by simp)).trans h.c0, World.cell?_setCell_same' _ _ _ (by rw [h.c1]; rfl), (World.cell?_setCell_other _ _ _ _ (by simp)).trans h.c2, fun o => by rw [World.frozen?_setCell]; exact h.fz o⟩
theorem EAt.put2 (h : EAt w b ⟨i, o, v⟩) (n : Bool) : EAt (w.setCell ⟨b, 2, none⟩ (.bool n)) b ⟨i, o, n⟩ :=
  ⟨(World.cell?_setCell_other _ _ _ _ (by simp)).trans h.c0, (World.cell?_setCell_other _ _ _ _ (by simp)).trans h.c1, World.cell?_setCell_same' _ _ _ (by rw [h.c2]; rfl), fun o => by rw [World.frozen?_setCell]; exact h.fz o⟩
end

set_option maxHeartbeats 400000 in
theorem New (i : Nat) (w : World) : Calls Try.prog 8 #[.int .u8 (i : Int)] w fun e w' => ∃ b, e = .returned (.pointer (some ⟨b, 0, none⟩)) ∧ w.heap.size ≤ b ∧ PAt w' b ⟨i, 0, 0⟩ ∧ Below w.heap.size w w' := by
  go_enter Try.func8, Try.ntmps8
  go_wp2
  go_returns
  have hh := heap_alloc_new w (.cells #[.int .u8 (i : Int), .int .u8 0, .int .u8 0] 53)
  exact ⟨_, rfl, Nat.le_refl _, ⟨cell_of_row _ _ _ _ _ _ hh, cell_of_row _ _ _ _ _ _ hh, cell_of_row _ _ _ _ _ _ hh, fun _ => frozen_of_row _ _ _ _ _ hh⟩, (Below.refl _ w).alloc (Nat.le_refl _) _⟩

set_option maxHeartbeats 400000 in
theorem NewEdge (i : Bool) (w : World) : Calls Try.prog 19 #[.bool i] w fun e w' => ∃ b, e = .returned (.pointer (some ⟨b, 0, none⟩)) ∧ w.heap.size ≤ b ∧ EAt w' b ⟨i, false, false⟩ ∧ Below w.heap.size w w' := by
  go_enter Try.func19, Try.ntmps19
  go_wp2
  go_returns
  have hh := heap_alloc_new w (.cells #[.bool i, .bool false, .bool false] 59)
  exact ⟨_, rfl, Nat.le_refl _, ⟨cell_of_row _ _ _ _ _ _ hh, cell_of_row _ _ _ _ _ _ hh, cell_of_row _ _ _ _ _ _ hh, fun _ => frozen_of_row _ _ _ _ _ hh⟩, (Below.refl _ w).alloc (Nat.le_refl _) _⟩

set_option maxHeartbeats 400000 in
theorem In (b n : Nat) (p : Pt) (w : World) (h : PAt w b p) : Calls Try.prog 9 #[.pointer (some ⟨b, 0, none⟩), .int .u8 (n : Int)] w fun e w' => e = .returned (.tuple #[]) ∧ PAt w' b ⟨n, p.o, p.v⟩ ∧ Turn b w w' := by
  have H : Hid (PAt w b ⟨p.i, p.o, p.v⟩) := h
  obtain ⟨h0, h1, h2, hf⟩ := h
  go_enter Try.func9, Try.ntmps9
  go_wp2
  go_returns
  exact ⟨rfl, H.out.put0 n, (Turn.refl b w).set _ _⟩

set_option maxHeartbeats 400000 in
theorem Out (b n : Nat) (p : Pt) (w : World) (h : PAt w b p) : Calls Try.prog 10 #[.pointer (some ⟨b, 0, none⟩), .int .u8 (n : Int)] w fun e w' => e = .returned (.tuple #[]) ∧ PAt w' b ⟨p.i, n, p.v⟩ ∧ Turn b w w' := by
  have H : Hid (PAt w b ⟨p.i, p.o, p.v⟩) := h
  obtain ⟨h0, h1, h2, hf⟩ := h
  go_enter Try.func10, Try.ntmps10
  go_wp2
  go_returns
  exact ⟨rfl, H.out.put1 n, (Turn.refl b w).set _ _⟩

set_option maxHeartbeats 400000 in
theorem Way (b n : Nat) (p : Pt) (w : World) (h : PAt w b p) : Calls Try.prog 11 #[.pointer (some ⟨b, 0, none⟩), .int .u8 (n : Int)] w fun e w' => e = .returned (.tuple #[]) ∧ PAt w' b ⟨p.i, p.o, n⟩ ∧ Turn b w w' := by
  have H : Hid (PAt w b ⟨p.i, p.o, p.v⟩) := h
  obtain ⟨h0, h1, h2, hf⟩ := h
  go_enter Try.func11, Try.ntmps11
  go_wp2
  go_returns
  exact ⟨rfl, H.out.put2 n, (Turn.refl b w).set _ _⟩

theorem lev_bits {p : Pt} (h : p.ok) : bits .or .u8 (bits .and .u8 (p.o : Int) (p.v : Int)) (bits .andNot .u8 (p.i : Int) (p.v : Int)) = (lev p : Int) := by
  obtain ⟨h1, h2, h3⟩ := h
  rw [u8_and_nat _ _ (by omega) (by omega), u8_andNot_nat _ _ (by omega) (by omega), u8_or_nat]
  · rfl
  · exact Nat.and_lt_two_pow (n := 8) _ (show p.v < 2 ^ 8 by omega)
  · exact Nat.and_lt_two_pow (n := 8) _ (show 255 - p.v < 2 ^ 8 by omega)

set_option maxHeartbeats 400000 in
theorem Level (b : Nat) (p : Pt) (w : World) (hp : p.ok) (h : PAt w b p) : Calls Try.prog 14 #[.pointer (some ⟨b, 0, none⟩)] w fun e w' => e = .returned (.int .u8 (lev p : Int)) ∧ ∃ q, w' = w.drewN q := by
  have HL := lev_bits hp
  obtain ⟨h0, h1, h2, hf⟩ := h
  go_enter Try.func14, Try.ntmps14
  go_wp2
  go_quiet (fail)
  go_wp2
  go_returns
  exact ⟨rfl, _, rfl⟩

set_option maxHeartbeats 400000 in
theorem Ways (b : Nat) (p : Pt) (w : World) (h : PAt w b p) : Calls Try.prog 16 #[.pointer (some ⟨b, 0, none⟩)] w fun e w' => e = .returned (.int .u8 (p.v : Int)) ∧ w' = w := by
  obtain ⟨h0, h1, h2, hf⟩ := h
  go_enter Try.func16, Try.ntmps16
  go_wp2
  go_returns
  exact ⟨rfl, rfl⟩

/-- A port's words. -/
def pwords (p : Pt) : Array Go.Value := #[.int .i64 (p.i : Int), .int .i64 (p.o : Int), .int .i64 (p.v : Int)]

set_option maxHeartbeats 400000 in
theorem Words (b : Nat) (p : Pt) (w : World) (hp : p.ok) (h : PAt w b p) : Calls Try.prog 17 #[.pointer (some ⟨b, 0, none⟩)] w fun e w' => e = .returned (.agg (pwords p)) ∧ Below w.heap.size w w' := by
  obtain ⟨i, o, v⟩ := p
  obtain ⟨h0, h1, h2, hf⟩ := h
  obtain ⟨p1, p2, p3⟩ := hp
  simp only at h0 h1 h2 p1 p2 p3
  have e1 : IntKind.i64.wrap (i : Int) = i := by rw [IntKind.wrap_i64]; omega
  have e2 : IntKind.i64.wrap (o : Int) = o := by rw [IntKind.wrap_i64]; omega
  have e3 : IntKind.i64.wrap (v : Int) = v := by rw [IntKind.wrap_i64]; omega
  go_enter Try.func17, Try.ntmps17
  go_wp2
  go_region_held3 (fun w' => w'.cell? ⟨b, 0, none⟩ = some (.int .u8 (i : Int)) ∧ w'.cell? ⟨b, 1, none⟩ = some (.int .u8 (o : Int)) ∧ w'.cell? ⟨b, 2, none⟩ = some (.int .u8 (v : Int))) (go_keep) (fail)
  all_goals go_wp2
  all_goals go_returns
  all_goals exact ⟨rfl, by go_grown⟩

set_option maxHeartbeats 400000 in
theorem Choose (b : Nat) (n : Bool) (p : Eg) (w : World) (h : EAt w b p) : Calls Try.prog 20 #[.pointer (some ⟨b, 0, none⟩), .bool n] w fun e w' => e = .returned (.tuple #[]) ∧ EAt w' b ⟨p.h, n, p.c⟩ ∧ Turn b w w' := by
  have H : Hid (EAt w b ⟨p.h, p.r, p.c⟩) := h
  obtain ⟨h0, h1, h2, hf⟩ := h
  go_enter Try.func20, Try.ntmps20
  go_wp2
  go_returns
  exact ⟨rfl, H.out.put1 n, (Turn.refl b w).set _ _⟩

set_option maxHeartbeats 400000 in
theorem Take (b : Nat) (p : Eg) (w : World) (h : EAt w b p) : Calls Try.prog 21 #[.pointer (some ⟨b, 0, none⟩)] w fun e w' => e = .returned (.bool p.c) ∧ EAt w' b ⟨p.h, p.r, false⟩ ∧ Turn b w w' := by
  have H : Hid (EAt w b ⟨p.h, p.r, p.c⟩) := h
  obtain ⟨h0, h1, h2, hf⟩ := h
  go_enter Try.func21, Try.ntmps21
  go_wp2
  go_returns
  exact ⟨rfl, H.out.put2 false, (Turn.refl b w).set _ _⟩

set_option maxHeartbeats 1000000 in
theorem See (b : Nat) (x : Bool) (p : Eg) (w : World) (h : EAt w b p) : Calls Try.prog 24 #[.pointer (some ⟨b, 0, none⟩), .bool x] w fun e w' => e = .returned (.tuple #[]) ∧ EAt w' b (see p x) ∧ Turn b w w' := by
  obtain ⟨ph, pr, pc⟩ := p
  have H : Hid (EAt w b ⟨ph, pr, pc⟩) := h
  obtain ⟨h0, h1, h2, hf⟩ := h
  simp only at h0 h1 h2
  cases x <;> cases ph <;> cases pr
  all_goals
    go_enter Try.func24, Try.ntmps24
    go_wp2
    go_returns
    first
      | exact ⟨rfl, (H.out.put0 _).to (by cases pc <;> rfl), (Turn.refl b w).set _ _⟩
      | exact ⟨rfl, ((H.out.put2 true).put0 _).to (by cases pc <;> rfl), ((Turn.refl b w).set _ _).set _ _⟩

end Go.Proofs.Ytgclgegdojnpcaa.Po
