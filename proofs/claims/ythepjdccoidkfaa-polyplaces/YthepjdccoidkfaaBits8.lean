/- What Bits of package poly does, over words of 8 bits. -/
import Derived.Test.YthepjdccoidkfaaPoly8
namespace Go.Proofs.Ythepjdccoidkfaa.Poly8
open Go.RowKit

theorem infoByte : (Try.prog.info? 5).map (fun i => (i.zero, i.size, i.bytes)) = some (some (.int .u8 0), 1, 1) := by kernel_rfl

/-- The bit that falls out at step i. -/
def bitAt (size tap s i : Nat) : Int := ((orb size tap i s % 2 : Nat) : Int)

theorem bit_row (size tap s n k : Nat) (hk : k < n) :
    (((List.range k).map fun i => Value.int .u8 (bitAt size tap s i)) ++ List.replicate (n - k) (Value.int .u8 0)).set k (.int .u8 (bitAt size tap s k)) =
      ((List.range (k + 1)).map fun i => Value.int .u8 (bitAt size tap s i)) ++ List.replicate (n - (k + 1)) (Value.int .u8 0) := by
  rw [List.set_append_right _ _ (by simp), List.range_succ, List.map_append]
  obtain ⟨m, hm⟩ : ∃ m, n - k = m + 1 := ⟨n - k - 1, by omega⟩
  rw [hm, show n - (k + 1) = m from by omega]
  simp [List.replicate_succ]

set_option maxRecDepth 100000 in
set_option maxHeartbeats 1000000 in
theorem Bits_yes (b off s size tap n : Nat) (w : World) (hg : Good size tap s) (h : At w b off s size tap) (hn : n ≤ 1048576) :
    Calls Try.prog 58 #[.pointer (some ⟨b, off, none⟩), .int .i64 (n : Int)] w fun e w' =>
      e = .returned (.slice (some ⟨w.heap.size + 1, 0, none⟩) n n) ∧ (∀ i, i < n → w'.cell? ⟨w.heap.size + 1, i, none⟩ = some (.int .u8 (bitAt size tap s i))) ∧ Below w.heap.size w w' := by
  obtain ⟨h0, h1, h2, hf⟩ := h
  obtain ⟨i0, hi, hz0, hz1, hz2⟩ := info_parts infoByte
  go_enter Try.func58, Try.ntmps58
  go_wp2_with (at_make; refine wpList_make_full _ rfl _ _ 32 rfl (w.heap.size + 1) 5 i0 (.int .u8 0) 1 Try.underlying32 hi hz0 hz1 _ _ _ _ n rfl rfl rfl rfl (by rw [hz2]; omega) (by unfold maxLen; omega) (by simp) ?_; intro w1 hown hgrow)
  have hA0 : At w1 w.heap.size 0 s size tap := (At.new w s size tap _).below ((Below.refl (w.heap.size + 1) _).grown hgrow (by simp) (fun _ e => by cases e)) (by omega)
  have hB0 : Below w.heap.size w w1 := ((Below.refl _ w).alloc (Nat.le_refl _) _).grown hgrow (by simp) (fun _ e => by cases e)
  have hO0 : w1.ownsRow (w.heap.size + 1) 5 1 (.slice (some ⟨w.heap.size + 1, 0, none⟩) n n) n (((List.range 0).map fun i => Value.int .u8 (bitAt size tap s i)) ++ List.replicate (n - 0) (Value.int .u8 0)) := by
    have e : (madeCells (Value.int IntKind.u8 0).cells (n * 1)).toList = ((List.range 0).map fun i => Value.int .u8 (bitAt size tap s i)) ++ List.replicate (n - 0) (Value.int .u8 0) := by
      simp only [Nat.mul_one, List.range_zero, List.map_nil, List.nil_append, Nat.sub_zero]
      exact toList_madeCells_one _ _
    rw [← e]; simpa using hown
  clear hown hgrow h0 h1 h2 hf hi hz0 hz1 hz2
  go_loopw [25] (fun v wr => ∃ k : Nat, k ≤ n ∧ v = .int .i64 (k : Int) ∧ At wr w.heap.size 0 (orb size tap k s) size tap ∧ Below w.heap.size w wr ∧
      wr.ownsRow (w.heap.size + 1) 5 1 (.slice (some ⟨w.heap.size + 1, 0, none⟩) n n) n (((List.range k).map fun i => Value.int .u8 (bitAt size tap s i)) ++ List.replicate (n - k) (Value.int .u8 0)))
    (fun v _ => n - (intOf v).toNat)
  case atStart => exact ⟨0, Nat.zero_le _, rfl, hA0, hB0, hO0⟩
  case round =>
    obtain ⟨k, hk, rfl, hA, hB, hO⟩ := hrel
    clear hA0 hB0 hO0
    by_cases hl : k < n
    · have hO1 := ownsRow_setCell_below hO (a := ⟨w.heap.size, 0, none⟩) (by simp) (.int .u8 ((nxt size tap (orb size tap k s) : Nat) : Int))
      have q1 := hO1.cellAt k (by omega)
      have q2 := hO1.frozenAt k
      have q3 : ∃ u, (wr.setCell ⟨w.heap.size, 0, none⟩ (.int .u8 ((nxt size tap (orb size tap k s) : Nat) : Int))).cell? ⟨w.heap.size + 1, k, none⟩ = some u := by
        rw [q1, List.getElem?_eq_getElem (by simp; omega)]; exact ⟨_, rfl⟩
      obtain ⟨u, q3⟩ := q3
      have HO := (hO1.stored k (.int .u8 (bitAt size tap s k))).1
      rw [bit_row size tap s n k hl] at HO
      have HO' : Hid _ := HO
      have HA : Hid (At wr w.heap.size 0 (orb size tap k s) size tap) := hA
      have HB : Hid (Below w.heap.size w wr) := hB
      clear HO q1 hO1 hO hA hB
      go_wp2_with (go_at_call 17; refine (Step w.heap.size 0 (orb size tap k s) size tap _ (hg.orb k) HA.out).mono ?_; rintro e w' ⟨rfl, rfl⟩)
      have eb : ((orb size tap k s : Nat) : Int) % 2 = bitAt size tap s k := by unfold bitAt; omega
      rw [eb]
      go_roundw
      case rel =>
        refine ⟨k + 1, hl, by go_num, ?_, ?_, HO'.out⟩
        · exact (HA.out.put _).below ((Below.refl (w.heap.size + 1) _).setCell (p := ⟨w.heap.size + 1, k, none⟩) (by simp) _) (by omega)
        · exact (HB.out.setCell (p := ⟨w.heap.size, 0, none⟩) (by simp) _).setCell (p := ⟨w.heap.size + 1, k, none⟩) (by simp) _
      case measure => simp [intOf]; omega
    · have hkn : k = n := by omega
      subst hkn
      go_wp2
      go_ret
      refine ⟨rfl, fun i hi => ?_, hB⟩
      rw [hO.cellAt i (by omega), List.getElem?_append_left (by simp; omega)]
      simp [hi]

set_option maxRecDepth 100000 in
set_option maxHeartbeats 1000000 in
theorem Bits_nil (n : Int) (w : World) : Calls Try.prog 58 #[.pointer none, .int .i64 n] w fun e w' => e = .returned (.slice none 0 0) ∧ w' = w := by
  go_enter Try.func58, Try.ntmps58
  go_wp2
  go_ret
  exact ⟨rfl, rfl⟩

set_option maxRecDepth 100000 in
set_option maxHeartbeats 1000000 in
theorem Bits_no (b off : Nat) (n : Int) (w : World) (hn : n < 0) : Calls Try.prog 58 #[.pointer (some ⟨b, off, none⟩), .int .i64 n] w fun e w' => e = .returned (.slice none 0 0) ∧ w' = w := by
  go_enter Try.func58, Try.ntmps58
  go_wp2
  go_ret
  exact ⟨rfl, rfl⟩

end Go.Proofs.Ythepjdccoidkfaa.Poly8
