/- PolyApart, walked: whatever comes in, true comes out. -/
import Derived.Test.YthepjdccoidkfaaRing16
import Derived.Test.YthepjdccoidkfaaAwakeOne
import Derived.Deep.RegionHeld3
namespace Go.Proofs.Ythepjdccoidkfaa.polyApart
open Go.RowKit

set_option maxRecDepth 100000 in
set_option maxHeartbeats 1000000 in
theorem bad (size tap s t : Int) (W : World) (hv : ¬ (2 ≤ size ∧ size ≤ 16 ∧ 1 ≤ tap ∧ tap < size)) :
    Calls Try.prog 7 #[.int .i64 size, .int .i64 tap, .agg #[.int .u16 s, .int .u16 t]] W fun e w' => e = .returned (.bool true) ∧ Below W.heap.size W w' := by
  have X0 : Hid ((W.alloc (.cells #[.int .u16 s, .int .u16 t] 52)).heap[W.heap.size]? = some (.cells #[.int .u16 s, .int .u16 t] 52 (0, 0))) := heap_alloc_new W _
  obtain ⟨W1, hW1⟩ : ∃ W1, W.alloc (.cells #[.int .u16 s, .int .u16 t] 52) = W1 := ⟨_, rfl⟩
  have HB : Hid (Below W.heap.size W W1) := by rw [← hW1]; exact (Below.refl _ W).alloc (Nat.le_refl _) _
  have hsz : W.heap.size < W1.heap.size := by rw [← hW1]; simp
  rw [hW1] at X0
  go_enter Try.func7, Try.ntmps7
  go_wp2_with (go_at_call 24; fail)
  clear hW1
  obtain ⟨x0, x1⟩ := cell2 X0.out
  go_wp2_with (first
    | (go_at_call 24; refine (Poly16.New_no size tap _ hv).mono ?_; rintro e w1 ⟨rfl, rfl⟩))
  go_region_held3 (fun w' => w'.cell? ⟨W.heap.size, 0, none⟩ = some (.int .u16 s) ∧ w'.cell? ⟨W.heap.size, 1, none⟩ = some (.int .u16 t)) (go_keep) (first
    | (go_at_call 27; refine (Poly16.Set_nil _ _).mono ?_; rintro e w' ⟨rfl, rfl⟩))
  go_wp2_with (first
    | (go_at_call 20; refine (awake1 _).mono ?_; rintro e w3 ⟨rfl, hb⟩))
  go_ret
  exact ⟨rfl, HB.out.drew.trans (hb.mono (by have := HB.out.size; simpa using this))⟩

set_option maxRecDepth 100000 in
set_option maxHeartbeats 2000000 in
theorem good (size tap s t : Nat) (W : World) (h1 : 1 ≤ tap) (h2 : tap < size) (h3 : size ≤ 16) :
    Calls Try.prog 7 #[.int .i64 size, .int .i64 tap, .agg #[.int .u16 s, .int .u16 t]] W fun e w' => e = .returned (.bool true) ∧ Below W.heap.size W w' := by
  have X0 : Hid ((W.alloc (.cells #[.int .u16 s, .int .u16 t] 52)).heap[W.heap.size]? = some (.cells #[.int .u16 s, .int .u16 t] 52 (0, 0))) := heap_alloc_new W _
  obtain ⟨W1, hW1⟩ : ∃ W1, W.alloc (.cells #[.int .u16 s, .int .u16 t] 52) = W1 := ⟨_, rfl⟩
  have HB : Hid (Below W.heap.size W W1) := by rw [← hW1]; exact (Below.refl _ W).alloc (Nat.le_refl _) _
  have hsz : W.heap.size < W1.heap.size := by rw [← hW1]; simp
  rw [hW1] at X0
  go_enter Try.func7, Try.ntmps7
  go_wp2_with (go_at_call 24; fail)
  clear hW1
  refine (Poly16.New size tap _ h1 h2 h3).mono ?_
  rintro e w2 ⟨b, rfl, hb2, hP2, hB2⟩
  go_wp2_with (go_at_call 24; fail)
  refine (Poly16.New size tap _ h1 h2 h3).mono ?_
  rintro e w3 ⟨c, rfl, hb3, hQ3, hB3⟩
  have HP3 : Hid (Poly16.At w3 b 0 0 size tap) := hP2.below hB3 hP2.lt
  have HQ3 : Hid (Poly16.At w3 c 0 0 size tap) := hQ3
  have hbc : b < c := by have := hP2.lt; omega
  have hWb : W.heap.size < b := by omega
  have X3 : Hid (w3.heap[W.heap.size]? = some (.cells #[.int .u16 s, .int .u16 t] 52 (0, 0))) := (hB3.block _ (by have := hB2.size; omega)).trans ((hB2.block _ hsz).trans X0.out)
  have HB3 : Hid (Below W.heap.size W w3) := HB.out.trans ((hB2.mono (Nat.le_of_lt hsz)).trans (hB3.mono (by have := hB2.size; omega)))
  clear hB3 hQ3 hP2 hB2 X0 HB hb2 hb3
  obtain ⟨x0, x1⟩ := cell2 X3.out
  go_wp2_with (go_at_call 27; fail)
  go_region_held3 (fun w' => w'.cell? ⟨W.heap.size, 0, none⟩ = some (.int .u16 (s : Int)) ∧ w'.cell? ⟨W.heap.size, 1, none⟩ = some (.int .u16 (t : Int))) (go_keep) (first
    | (go_at_call_of 27 b; refine (Poly16.Set b 0 0 size tap s _ h1 h2 h3 ?_).mono ?_; (first | exact HP3.out | exact HP3.out.drew); rintro e w4 ⟨rfl, hP4, ho4⟩; have HP4 : Hid (Poly16.At w4 b 0 (setS size 0 s) size tap) := hP4; have HQ4 : Hid (Poly16.At w4 c 0 0 size tap) := HQ3.out.drew.only ho4 (by omega); have X4 : Hid (w4.heap[W.heap.size]? = some (.cells #[.int .u16 s, .int .u16 t] 52 (0, 0))) := (ho4.block _ (by omega)).trans X3.out; have HB4 : Hid (Below W.heap.size W w4) := HB3.out.drew.trans (ho4.below (by omega)); obtain ⟨y0, y1⟩ := cell2 X4.out; clear hP4 ho4)
    | (go_at_call_of 27 c; refine (Poly16.Set c 0 0 size tap t _ h1 h2 h3 ?_).mono ?_; (exact HQ4.out); rintro e w5 ⟨rfl, hQ5, ho5⟩; have HQ5 : Hid (Poly16.At w5 c 0 (setS size 0 t) size tap) := hQ5; have HP5 : Hid (Poly16.At w5 b 0 (setS size 0 s) size tap) := HP4.out.only ho5 (by omega); have X5 : Hid (w5.heap[W.heap.size]? = some (.cells #[.int .u16 s, .int .u16 t] 52 (0, 0))) := (ho5.block _ (by omega)).trans X4.out; have HB5 : Hid (Below W.heap.size W w5) := HB4.out.trans (ho5.below (by omega)); obtain ⟨z0, z1⟩ := cell2 X5.out; clear hQ5 ho5))
  clear HP3 HQ3 X3 HB3 x0 x1 HP4 HQ4 X4 HB4 y0 y1
  by_cases hs : s < 2 ^ size
  · have hE := setE_yes hs
    have hSs : Hid (setS size 0 s = s) := setS_yes hs
    by_cases ht : t < 2 ^ size
    · have hF := setE_yes ht
      have hGs : Poly16.Good size tap s := ⟨h1, h2, h3, hs⟩
      have hGt : Poly16.Good size tap t := ⟨h1, h2, h3, ht⟩
      have HP : Hid (Poly16.At w5 b 0 s size tap) := by have := HP5.out; rwa [hSs.out] at this
      have HQ : Hid (Poly16.At w5 c 0 t size tap) := by have := HQ5.out; rwa [setS_yes ht] at this
      clear HP5 HQ5 hSs
      go_wp2_with (go_at_call 32; fail)
      refine (Poly16.Step' b 0 s size tap _ hGs HP.out).mono ?_
      rintro e w6 ⟨rfl, hP6, ho6⟩
      have HP6 : Hid (Poly16.At w6 b 0 (nxt size tap s) size tap) := hP6
      have HQ6 : Hid (Poly16.At w6 c 0 t size tap) := HQ.out.only ho6 (by omega)
      have X6 : Hid (w6.heap[W.heap.size]? = some (.cells #[.int .u16 s, .int .u16 t] 52 (0, 0))) := (ho6.block _ (by omega)).trans X5.out
      have HB6 : Hid (Below W.heap.size W w6) := HB5.out.trans (ho6.below (by omega))
      clear hP6 ho6 HP HQ X5 HB5 z0 z1
      go_wp2_with (go_at_call 32; fail)
      refine (Poly16.Step' c 0 t size tap _ hGt HQ6.out).mono ?_
      rintro e w7 ⟨rfl, hQ7, ho7⟩
      have HQ7 : Hid (Poly16.At w7 c 0 (nxt size tap t) size tap) := hQ7
      have HP7 : Hid (Poly16.At w7 b 0 (nxt size tap s) size tap) := HP6.out.only ho7 (by omega)
      have X7 : Hid (w7.heap[W.heap.size]? = some (.cells #[.int .u16 s, .int .u16 t] 52 (0, 0))) := (ho7.block _ (by omega)).trans X6.out
      have HB7 : Hid (Below W.heap.size W w7) := HB6.out.trans (ho7.below (by omega))
      clear hQ7 ho7 HP6 HQ6 X6 HB6
      have p0 := HP7.out.c0
      have q0 := HQ7.out.c0
      have hsz7 : W.heap.size < w7.heap.size := lt_of_block X7.out
      obtain ⟨z0, z1⟩ := cell2 X7.out
      go_wp2_with (go_at_call 28; fail)
      have fin : ((((nxt size tap s : Nat) : Int) == ((nxt size tap t : Nat) : Int)) == ((s : Int) == (t : Int))) = true := by
        by_cases st : s = t
        · subst st; simp
        · have hn : nxt size tap s ≠ nxt size tap t := fun e => st (nxt_inj h1 h2 hs ht e)
          have e1 : (((nxt size tap s : Nat) : Int) == ((nxt size tap t : Nat) : Int)) = false := by rw [beq_eq_false_iff_ne]; omega
          have e2 : ((s : Int) == (t : Int)) = false := by rw [beq_eq_false_iff_ne]; omega
          rw [e1, e2]; rfl
      go_region_held3 (fun w' => w'.cell? ⟨W.heap.size, 0, none⟩ = some (.int .u16 (s : Int)) ∧ w'.cell? ⟨W.heap.size, 1, none⟩ = some (.int .u16 (t : Int))) (go_keep) (first
        | (go_at_call_of 28 b; refine (Poly16.State b 0 (nxt size tap s) _ ?_).mono ?_; (simp [*]); rintro e w8 ⟨rfl, rfl⟩)
        | (go_at_call_of 28 c; refine (Poly16.State c 0 (nxt size tap t) _ ?_).mono ?_; (simp [*]); rintro e w8 ⟨rfl, rfl⟩)
        | (go_at_call 20; refine (awake1 _).mono ?_; rintro e w9 ⟨rfl, hb⟩; have v0 : w9.cell? ⟨W.heap.size, 0, none⟩ = some (.int .u16 (s : Int)) := (hb.cell (p := ⟨W.heap.size, 0, none⟩) (by simpa using hsz7)).trans z0; have v1 : w9.cell? ⟨W.heap.size, 1, none⟩ = some (.int .u16 (t : Int)) := (hb.cell (p := ⟨W.heap.size, 1, none⟩) (by simpa using hsz7)).trans z1))
      go_wp2
      go_ret
      exact ⟨rfl, HB7.out.drew.trans (hb.mono (by have := HB7.out.size; simpa using this))⟩
    · have hF := setE_no ht
      go_wp2_with (first
        | (go_at_call 20; refine (awake1 _).mono ?_; rintro e w9 ⟨rfl, hb⟩))
      go_ret
      exact ⟨rfl, HB5.out.trans (hb.mono HB5.out.size)⟩
  · have hE := setE_no hs
    by_cases ht : t < 2 ^ size
    · have hF := setE_yes ht
      go_wp2_with (first
        | (go_at_call 20; refine (awake1 _).mono ?_; rintro e w9 ⟨rfl, hb⟩))
      go_ret
      exact ⟨rfl, HB5.out.trans (hb.mono HB5.out.size)⟩
    · have hF := setE_no ht
      go_wp2_with (first
        | (go_at_call 20; refine (awake1 _).mono ?_; rintro e w9 ⟨rfl, hb⟩))
      go_ret
      exact ⟨rfl, HB5.out.trans (hb.mono HB5.out.size)⟩

theorem walk (a0 : Int) (_ : (Lit.int .i64 a0).wf = true) (a1 : Int) (_ : (Lit.int .i64 a1).wf = true) (a2_0 a2_1 : Int) (w2 : (Lit.int .u16 a2_0).wf = true) (w3 : (Lit.int .u16 a2_1).wf = true) (W : World) :
    Calls Try.prog 7 #[.int .i64 a0, .int .i64 a1, .agg #[.int .u16 a2_0, .int .u16 a2_1]] W fun e w' => e = .returned (.bool true) ∧ Below W.heap.size W w' := by
  by_cases hv : 2 ≤ a0 ∧ a0 ≤ 16 ∧ 1 ≤ a1 ∧ a1 < a0
  · have hb := bounds_u16 w2
    have hc := bounds_u16 w3
    obtain ⟨k, rfl⟩ := Int.eq_ofNat_of_zero_le (show 0 ≤ a0 by omega)
    obtain ⟨t, rfl⟩ := Int.eq_ofNat_of_zero_le (show 0 ≤ a1 by omega)
    obtain ⟨x, rfl⟩ := Int.eq_ofNat_of_zero_le (show 0 ≤ a2_0 by omega)
    obtain ⟨y, rfl⟩ := Int.eq_ofNat_of_zero_le (show 0 ≤ a2_1 by omega)
    exact good k t x y W (by omega) (by omega) (by omega)
  · exact bad _ _ _ _ W hv

end Go.Proofs.Ythepjdccoidkfaa.polyApart
