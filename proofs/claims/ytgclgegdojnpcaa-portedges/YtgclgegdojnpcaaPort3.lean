/- Set of a port and of an edge: what it takes, what it does not take. -/
import Derived.Test.YtgclgegdojnpcaaPort2
namespace Go.Proofs.Ytgclgegdojnpcaa.Po
open Go.RowKit

theorem PAt.old {w w' : World} {b n : Nat} {p : Pt} (h : PAt w b p) (hb : Below n w w') (hn : b < n) : PAt w' b p := h.kept (hb.block b hn)
theorem EAt.old {w w' : World} {b n : Nat} {p : Eg} (h : EAt w b p) (hb : Below n w w') (hn : b < n) : EAt w' b p := h.kept (hb.block b hn)

set_option maxRecDepth 100000 in
set_option maxHeartbeats 2000000 in
theorem Set_yes (b x y z : Nat) (p : Pt) (w : World) (hx : x ≤ 255) (hy : y ≤ 255) (hz : z ≤ 255) (h : PAt w b p) : Calls Try.prog 12 #[.pointer (some ⟨b, 0, none⟩), .agg #[.int .i64 (x : Int), .int .i64 (y : Int), .int .i64 (z : Int)]] w fun e w' => e = .returned (.int .i64 0) ∧ PAt w' b ⟨x, y, z⟩ ∧ Turn b w w' := by
  obtain ⟨p0, p1, p2⟩ := p
  have H : Hid (PAt w b ⟨p0, p1, p2⟩) := h
  have hlt := h.lt
  clear h
  go_enter Try.func12, Try.ntmps12
  go_wp2_with (go_at_call 29; fail)
  refine (parts8_yes (x : Int) (y : Int) (z : Int) _ ⟨by omega, by omega⟩ ⟨by omega, by omega⟩ ⟨by omega, by omega⟩).mono ?_
  rintro e w2 ⟨rfl, hB2⟩
  have HB2 : Hid (Below w.heap.size w w2) := ((Below.refl _ w).alloc (Nat.le_refl _) _).trans (hB2.mono (by simp))
  have H2 : Hid (PAt w2 b ⟨p0, p1, p2⟩) := H.out.old HB2.out hlt
  have hlt2 : b < w2.heap.size := H2.out.lt
  obtain ⟨h0, h1, h2, hf⟩ := H2.out
  simp only at h0 h1 h2
  clear hB2 H
  go_wp2
  go_returns
  exact ⟨rfl, (((H2.out.put0 x).put1 y).put2 z).below ((Below.refl _ _).alloc (Nat.le_refl _) _), ((Turn.of_below HB2.out).trans ((((Turn.refl b _).set _ _).set _ _).set _ _)).trans (Turn.of_below ((Below.refl _ _).alloc (Nat.le_refl _) _))⟩

set_option maxRecDepth 100000 in
set_option maxHeartbeats 2000000 in
theorem Set_no (b : Nat) (x y z : Int) (w : World) (h : ¬ (isByte x ∧ isByte y ∧ isByte z)) : Calls Try.prog 12 #[.pointer (some ⟨b, 0, none⟩), .agg #[.int .i64 x, .int .i64 y, .int .i64 z]] w fun e w' => e = .returned (.int .i64 6) ∧ Below w.heap.size w w' := by
  have H : Hid (¬ (isByte x ∧ isByte y ∧ isByte z)) := h
  clear h
  go_enter Try.func12, Try.ntmps12
  go_wp2_with (go_at_call 29; fail)
  refine (parts8_no x y z _ H.out).mono ?_
  rintro e w2 ⟨rfl, hB2⟩
  have HB2 : Hid (Below w.heap.size w w2) := ((Below.refl _ w).alloc (Nat.le_refl _) _).trans (hB2.mono (by simp))
  clear hB2 H
  go_wp2
  go_returns
  exact ⟨rfl, HB2.out.trans ((Below.refl _ _).alloc HB2.out.size _)⟩

set_option maxRecDepth 100000 in
set_option maxHeartbeats 2000000 in
theorem ESet_yes (b : Nat) (x y z : Int) (p : Eg) (w : World) (hx : isBit x) (hy : isBit y) (hz : isBit z) (h : EAt w b p) : Calls Try.prog 22 #[.pointer (some ⟨b, 0, none⟩), .agg #[.int .i64 x, .int .i64 y, .int .i64 z]] w fun e w' => e = .returned (.int .i64 0) ∧ EAt w' b ⟨x == 1, y == 1, z == 1⟩ ∧ Turn b w w' := by
  obtain ⟨p0, p1, p2⟩ := p
  have H : Hid (EAt w b ⟨p0, p1, p2⟩) := h
  have hlt := h.lt
  clear h
  have HX : Hid (isBit x) := hx
  have HY : Hid (isBit y) := hy
  have HZ : Hid (isBit z) := hz
  clear hx hy hz
  go_enter Try.func22, Try.ntmps22
  go_wp2_with (go_at_call 31; fail)
  refine (parts1_yes x y z _ HX.out HY.out HZ.out).mono ?_
  rintro e w2 ⟨rfl, hB2⟩
  have HB2 : Hid (Below w.heap.size w w2) := ((Below.refl _ w).alloc (Nat.le_refl _) _).trans (hB2.mono (by simp))
  have H2 : Hid (EAt w2 b ⟨p0, p1, p2⟩) := H.out.old HB2.out hlt
  have hlt2 : b < w2.heap.size := H2.out.lt
  obtain ⟨h0, h1, h2, hf⟩ := H2.out
  simp only at h0 h1 h2
  clear hB2 H
  generalize hgx : (x == 1) = x1
  generalize hgy : (y == 1) = y1
  generalize hgz : (z == 1) = z1
  have HGX : Hid ((x == 1) = x1) := hgx
  have HGY : Hid ((y == 1) = y1) := hgy
  have HGZ : Hid ((z == 1) = z1) := hgz
  clear hgx hgy hgz
  go_wp2
  go_returns
  rw [HGX.out, HGY.out, HGZ.out]
  exact ⟨rfl, (((H2.out.put0 x1).put1 y1).put2 z1).below ((Below.refl _ _).alloc (Nat.le_refl _) _), ((Turn.of_below HB2.out).trans ((((Turn.refl b _).set _ _).set _ _).set _ _)).trans (Turn.of_below ((Below.refl _ _).alloc (Nat.le_refl _) _))⟩

set_option maxRecDepth 100000 in
set_option maxHeartbeats 2000000 in
theorem ESet_no (b : Nat) (x y z : Int) (w : World) (h : ¬ (isBit x ∧ isBit y ∧ isBit z)) : Calls Try.prog 22 #[.pointer (some ⟨b, 0, none⟩), .agg #[.int .i64 x, .int .i64 y, .int .i64 z]] w fun e w' => e = .returned (.int .i64 6) ∧ Below w.heap.size w w' := by
  have H : Hid (¬ (isBit x ∧ isBit y ∧ isBit z)) := h
  clear h
  go_enter Try.func22, Try.ntmps22
  go_wp2_with (go_at_call 31; fail)
  refine (parts1_no x y z _ H.out).mono ?_
  rintro e w2 ⟨rfl, hB2⟩
  have HB2 : Hid (Below w.heap.size w w2) := ((Below.refl _ w).alloc (Nat.le_refl _) _).trans (hB2.mono (by simp))
  clear hB2 H
  go_wp2
  go_returns
  exact ⟨rfl, HB2.out.trans ((Below.refl _ _).alloc HB2.out.size _)⟩

end Go.Proofs.Ytgclgegdojnpcaa.Po
