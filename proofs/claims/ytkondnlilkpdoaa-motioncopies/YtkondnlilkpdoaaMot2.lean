/- What a motion's Set does; which things end at a count. -/
import Derived.Test.YtkondnlilkpdoaaMot1
set_option linter.unusedVariables false
namespace Go.Proofs.Ytkondnlilkpdoaa.Mo
open Go.RowKit

theorem run_index_array {P : Program} (w : World) (t e : TypeId) (n : Nat) (cs : Array Go.Value) (k : IntKind) (i : Nat) (v : Go.Value) (h : P.underlying t = some (.array n e)) (hs : ∀ w, (sizeOf e).run P w = .ok 1 w) (ha : ∀ w, (isAgg e).run P w = .ok false w) (hi : i < n) (hv : cs[i]? = some v) :
    (Instr.index t (.agg cs) (.int k (i : Int))).run P w = .ok v w := by
  have h1 : (0 : Int) ≤ (i : Int) ∧ (i : Int) < (n : Int) := by omega
  simp [Instr.index, run_underlying h, asIntOf, h1, hs, ha, hi, hv, go_sem]
theorem sizeInt (w : World) : (sizeOf 3).run Try.prog w = .ok 1 w := by
  have h : (Try.prog.info? 3).map (·.size) = some 1 := by kernel_rfl
  obtain ⟨i, h1, h2⟩ := Option.map_eq_some_iff.1 h
  rw [run_sizeOf w h1, show Try.prog.cellsOf 3 = 1 by kernel_rfl]
theorem aggInt (w : World) : (isAgg 3).run Try.prog w = .ok false w := run_isAgg_plain Try.underlying3 rfl w
theorem at3 (x y z : Int) (i : Nat) (v : Go.Value) (hi : i < 3) (hv : (#[.int .i64 x, .int .i64 y, .int .i64 z] : Array Go.Value)[i]? = some v) (w : World) :
    (Instr.index 30 (.agg #[.int .i64 x, .int .i64 y, .int .i64 z]) (.int .i64 (i : Int))).run Try.prog w = .ok v w :=
  run_index_array w 30 3 3 _ .i64 i _ Try.underlying30 sizeInt aggInt hi hv

theorem right_nat {x y z : Int} (h : rightB x y z = true) : 0 ≤ x ∧ x ≤ 16 ∧ 0 ≤ y ∧ y ≤ 3 ∧ 0 ≤ z ∧ z ≤ 31 := by
  unfold rightB at h
  by_cases hx : x = 16
  · rw [if_pos hx] at h; simp at h; omega
  · rw [if_neg hx] at h; unfold wi at h; simp at h; omega

set_option maxRecDepth 100000 in
set_option maxHeartbeats 1000000 in
theorem Set_yes (b c g v x y z : Nat) (w : World) (hr : rightB x y z = true) (h : MAt w b c g v) : Calls Try.prog 13 #[.pointer (some ⟨b, 0, none⟩), .agg #[.int .i64 (x : Int), .int .i64 (y : Int), .int .i64 (z : Int)]] w fun e w' => e = .returned (.int .i64 0) ∧ MAt w' b x y z ∧ Turn b w w' := by
  have H : Hid (MAt w b c g v) := h
  have HR : Hid (rightB x y z = true) := hr
  have hn := right_nat hr
  have hlt := h.lt
  obtain ⟨h0, h1, h2, hf, _⟩ := h
  have f0 := hf 0
  have f1 := hf 1
  have f2 := hf 2
  have lz : (z : Int) ≤ 31 := by omega
  have HN : Hid (x ≤ 16 ∧ y ≤ 3 ∧ z < 32) := (by have := hn; constructor <;> omega : x ≤ 16 ∧ y ≤ 3 ∧ z < 32)
  clear hf hr hn
  have i0 := at3 (x : Int) (y : Int) (z : Int) 0 _ (by decide) rfl
  have i1 := at3 (x : Int) (y : Int) (z : Int) 1 _ (by decide) rfl
  have i2 := at3 (x : Int) (y : Int) (z : Int) 2 _ (by decide) rfl
  go_enter Try.func13, Try.ntmps13
  go_wp2_with (go_at_call 25; refine (canBe x y z _).mono ?_; rintro e w1 ⟨rfl, rfl⟩; rw [HR.out])
  go_returns
  exact ⟨rfl, (((H.out.put0 x HN.out.1).put1 y HN.out.2.1).put2 z HN.out.2.2).below ((Below.refl _ _).alloc (Nat.le_refl _) _), ((((Turn.refl b w).set _ _).set _ _).set _ _).trans (Turn.of_below ((Below.refl _ _).alloc (Nat.le_refl _) _))⟩

set_option maxRecDepth 100000 in
set_option maxHeartbeats 1000000 in
theorem Set_no (b c g v : Nat) (x y z : Int) (w : World) (hr : rightB x y z = false) (h : MAt w b c g v) : Calls Try.prog 13 #[.pointer (some ⟨b, 0, none⟩), .agg #[.int .i64 x, .int .i64 y, .int .i64 z]] w fun e w' => e = .returned (.int .i64 6) ∧ Below w.heap.size w w' := by
  have HR : Hid (rightB x y z = false) := hr
  clear hr h
  have i0 := at3 x y z 0 _ (by decide) rfl
  have i1 := at3 x y z 1 _ (by decide) rfl
  have i2 := at3 x y z 2 _ (by decide) rfl
  go_enter Try.func13, Try.ntmps13
  go_wp2_with (go_at_call 25; refine (canBe x y z _).mono ?_; rintro e w1 ⟨rfl, rfl⟩; rw [HR.out])
  go_returns
  exact ⟨rfl, by first | exact Below.refl _ _ | go_grown⟩

/-- The nibbles lie at block n. -/
structure NAt (w : World) (n : Nat) (N : Nat → Nat) : Prop where
  c : ∀ k, k < 5 → w.cell? ⟨n, k, none⟩ = some (.int .u8 (N k : Int))
  l : ∀ k, N k < 256

set_option maxRecDepth 100000 in
set_option maxHeartbeats 1000000 in
theorem ends (b n m c g v k : Nat) (N : Nat → Nat) (w : World) (hk : k < 5) (h : MAt w b c g v) (hn : NAt w n N) (hm : w.cell? ⟨m, 0, none⟩ = some (.pointer (some ⟨b, 0, none⟩))) : Calls Try.prog 27 #[.int .i64 (k : Int), .pointer (some ⟨n, 0, none⟩), .pointer (some ⟨m, 0, none⟩)] w fun e w' => e = .returned (.bool (mvN (N k) == c)) ∧ ∃ q, w' = w.drewN q := by
  have hl := hn.l k
  have hc := hn.c k hk
  have HL : Hid (N k < 256) := hl
  have HE : Hid (((mvN (N k) : Int) == (c : Int)) = (mvN (N k) == c)) := (show ((mvN (N k) : Int) == (c : Int)) = (mvN (N k) == c) by rw [Bool.eq_iff_iff]; simp; omega)
  have h0 := h.c0
  clear h hn
  generalize hNk : N k = nk at *
  generalize hmv : mvN nk = mv at *
  have hmm : mv < 16 := by rw [← hmv]; exact mvN_lt _
  go_enter Try.func27, Try.ntmps27
  go_wp2
  go_quiet ((go_at_call 28; exact Calls.quiet_of_same (moves nk _ HL.out)))
  go_wp2
  go_returns
  exact ⟨ret_bool HE.out, _, rfl⟩

end Go.Proofs.Ytkondnlilkpdoaa.Mo
