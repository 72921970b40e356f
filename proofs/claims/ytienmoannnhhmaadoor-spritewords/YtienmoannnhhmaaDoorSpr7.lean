/- What a thing's calls do: one contract a function. -/
import Derived.Test.YtienmoannnhhmaaDoorSpr5
import Derived.Test.YtienmoannnhhmaaDoorPlace
set_option linter.unusedVariables false
namespace Go.Proofs.YtienmoannnhhmaaDoor.Sp
open Go.RowKit Count

theorem plkept {w w' : World} {b n : Nat} (h : PlAt w b n) (hb : w'.heap[b]? = w.heap[b]?) : PlAt w' b n :=
  ⟨⟨⟨(World.cell?_of_block (w := w) hb).trans h.c.p.c0, (World.cell?_of_block (w := w) hb).trans h.c.p.c1, (World.cell?_of_block (w := w) hb).trans h.c.p.c2, (World.frozen?_of_block (w := w) hb).trans h.c.p.fz⟩, (World.cell?_of_block (w := w) hb).trans h.c.l, h.c.i1, h.c.n1⟩,
    ⟨(World.cell?_of_block (w := w) hb).trans h.d.c0, (World.cell?_of_block (w := w) hb).trans h.d.c1, (World.frozen?_of_block (w := w) hb).trans h.d.fz⟩, h.n1⟩

/-- A thing is block b: its place is block pb, at n; its line is X. -/
structure TAt (w : World) (b pb n X : Nat) : Prop where
  p0 : w.cell? ⟨b, 0, none⟩ = some (.pointer (some ⟨pb, 0, none⟩))
  pl : PlAt w pb n
  dl : DlAt w b 1 X
  ne : b ≠ pb
def S2 (b pb : Nat) (k : Nat) : Prop := k = b ∨ k = pb

section
variable {w w' : World} {b pb n X : Nat}
theorem TAt.lt (h : TAt w b pb n X) : b < w.heap.size := lt_of_cell h.p0
theorem TAt.kept (h : TAt w b pb n X) (hb : w'.heap[b]? = w.heap[b]?) (hp : w'.heap[pb]? = w.heap[pb]?) : TAt w' b pb n X := ⟨(World.cell?_of_block (w := w) hb).trans h.p0, plkept h.pl hp, h.dl.kept hb, h.ne⟩
theorem TAt.below (h : TAt w b pb n X) (hb : Below w.heap.size w w') : TAt w' b pb n X := h.kept (hb.block _ h.lt) (hb.block _ h.pl.lt)
theorem TAt.draws (h : TAt w b pb n X) (q : Nat) : TAt (w.drewN q) b pb n X := h.kept rfl rfl
theorem TAt.turn {S : Nat → Prop} (h : TAt w b pb n X) (ht : Tn S w w') (h1 : ¬ S b) (h2 : ¬ S pb) : TAt w' b pb n X := h.kept (ht.block _ h.lt h1) (ht.block _ h.pl.lt h2)
end

set_option maxRecDepth 100000 in
set_option maxHeartbeats 1000000 in
theorem Count (b pb n X : Nat) (w : World) (h : TAt w b pb n X) : Calls Tryd.prog 20 #[.pointer (some ⟨b, 0, none⟩)] w fun e w' => e = .returned (.int .i64 (n : Int)) ∧ Below w.heap.size w w' := by
  have p0 := h.p0
  have H : Hid (TAt w b pb n X) := h
  clear h
  go_enter Tryd.func20, Tryd.ntmps20
  go_wp2_with (go_at_call 33; refine (PlCount pb n _ H.out.pl).mono ?_; rintro e w1 ⟨rfl, hb⟩)
  go_returns
  exact ⟨rfl, hb⟩

set_option maxRecDepth 100000 in
set_option maxHeartbeats 1000000 in
theorem Put (b pb n X : Nat) (j : Int) (w : World) (h : TAt w b pb n X) : Calls Tryd.prog 10 #[.pointer (some ⟨b, 0, none⟩), .int .i64 j] w fun e w' => e = .returned (.int .i64 (cntE 160 j)) ∧ TAt w' b pb (cntS 160 n j) X ∧ Tn (S2 b pb) w w' := by
  have p0 := h.p0
  have H : Hid (TAt w b pb n X) := h
  clear h
  go_enter Tryd.func10, Tryd.ntmps10
  go_wp2_with (go_at_call 27; fail)
  refine (PlSet pb n j _ H.out.pl).mono ?_
  rintro e w1 ⟨rfl, hP, hT⟩
  have hb := hT.block b H.out.lt H.out.ne
  go_wp2
  go_returns
  exact ⟨rfl, ⟨(World.cell?_of_block (w := w) hb).trans H.out.p0, hP, H.out.dl.kept hb, H.out.ne⟩, Tn.of_touch hT (.inr rfl)⟩

set_option maxRecDepth 100000 in
set_option maxHeartbeats 1000000 in
theorem TickA (b pb n m X c : Nat) (w : World) (hm : m = rndN n 160) (hc : c < 256) (h : TAt w b pb n X) : Calls Tryd.prog 14 #[.pointer (some ⟨b, 0, none⟩), .int .u8 (c : Int)] w fun e w' => e = .returned (.tuple #[]) ∧ TAt w' b pb m (stp X (stB m c)) ∧ Tn (S2 b pb) w w' := by
  have p0 := h.p0
  have H : Hid (TAt w b pb n X) := h
  have HM : Hid (m = rndN n 160) := hm
  clear h hm
  go_enter Tryd.func14, Tryd.ntmps14
  go_wp2_with (go_at_call 30; fail)
  refine (PlTick pb n _ H.out.pl).mono ?_
  rintro e w1 ⟨rfl, hP, hT⟩
  have hb := hT.block b H.out.lt H.out.ne
  have hml : m < 160 := by rw [HM.out]; exact rndN_lt (by decide)
  have H1 : Hid (TAt w1 b pb m X) := (by rw [HM.out]; exact ⟨(World.cell?_of_block (w := w) hb).trans H.out.p0, hP, H.out.dl.kept hb, H.out.ne⟩ : TAt w1 b pb m X)
  have HT1 : Hid (Tn (S2 b pb) w w1) := Tn.of_touch hT (.inr rfl)
  have p1 := H1.out.p0
  clear hP hT hb H p0 HM
  go_wp2
  go_region_with (first
    | (go_at_call 33; refine (PlCount pb m _ (by exact (H1.out.draws 1).pl)).mono ?_; rintro e w2 ⟨rfl, hB2⟩; have H2 : Hid (TAt w2 b pb m X) := (H1.out.draws 1).below hB2; have HT2 : Hid (Tn (S2 b pb) w w2) := (HT1.out.drewN 1).trans (Tn.of_below _ hB2); clear hB2)
    | (go_at_call 32; refine (isStart m c _ hml hc).mono ?_; rintro e w3 ⟨rfl, hB3⟩; have H3 : Hid (TAt w3 b pb m X) := H2.out.below hB3; have HT3 : Hid (Tn (S2 b pb) w w3) := HT2.out.trans (Tn.of_below _ hB3); clear hB3)
    | (go_at_call 31; refine (step b 1 X (stB m c) _ H3.out.dl).mono ?_; rintro e w4 ⟨rfl, hD, hT4⟩; have H4 : Hid (TAt w4 b pb m (stp X (stB m c))) := ⟨(show w4.cell? ⟨b, 0, none⟩ = w3.cell? ⟨b, 0, none⟩ from hT4.cell 0 (by omega)).trans H3.out.p0, plkept H3.out.pl (hT4.block pb H3.out.pl.lt (Ne.symm H3.out.ne)), hD, H3.out.ne⟩; have HT4 : Hid (Tn (S2 b pb) w w4) := HT3.out.trans (Tn.of_touch hT4 (.inl rfl)); clear hD hT4))
  all_goals
    go_wp2
    go_end0
    exact ⟨rfl, H4.out, HT4.out⟩

theorem Tick (b pb n X c : Nat) (w : World) (hc : c < 256) (h : TAt w b pb n X) : Calls Tryd.prog 14 #[.pointer (some ⟨b, 0, none⟩), .int .u8 (c : Int)] w fun e w' => e = .returned (.tuple #[]) ∧ TAt w' b pb (rndN n 160) (stp X (stB (rndN n 160) c)) ∧ Tn (S2 b pb) w w' :=
  TickA b pb n _ X c w rfl hc h

/-- A lead counts from 0 to 7. -/
def ldN (l : Int) : Nat := (min (max l 0) 7).toNat
/-- The dot of two ages by a lead. -/
def dotI (y z d : Nat) : Int := if d ≤ y then (y : Int) - d else if d ≤ z then (z : Int) - d else -1

theorem ldN_is (l : Int) : min (max l 0) 7 = (ldN l : Int) ∧ ldN l ≤ 7 := by unfold ldN; omega

set_option maxRecDepth 100000 in
set_option maxHeartbeats 2000000 in
theorem DotA (b pb n X y z d : Nat) (l : Int) (w : World) (hy : y = (ag X).1) (hz : z = (ag X).2) (hd : min (max l 0) 7 = (d : Int)) (hd7 : d ≤ 7) (hl : -9223372036854775808 ≤ l ∧ l ≤ 9223372036854775807) (hT : Tb w) (h : TAt w b pb n X) : Calls Tryd.prog 16 #[.pointer (some ⟨b, 0, none⟩), .int .i64 l] w fun e w' => e = .returned (.int .i64 (dotI y z d)) ∧ Below w.heap.size w w' := by
  have H : Hid (TAt w b pb n X) := h
  have HT : Hid (Tb w) := hT
  have hm := ag_may X
  rw [← hy, ← hz] at hm
  have ly := hm.1
  have lz := hm.2.1
  have HYZ : Hid (y = (ag X).1 ∧ z = (ag X).2) := ⟨hy, hz⟩
  clear h hT hm hy hz
  have i0 := at2_0 (y : Int) (z : Int)
  have i1 := at2_1 (y : Int) (z : Int)
  by_cases h1 : d ≤ y
  · have h1' : (d : Int) ≤ (y : Int) := by omega
    have HE : Hid (dotI y z d = (y : Int) - (d : Int)) := (if_pos h1 : dotI y z d = _)
    clear h1
    go_enter Tryd.func16, Tryd.ntmps16
    go_wp2_with (go_at_call 36; refine (lastTwo b 1 X _ HT.out H.out.dl).mono ?_; rintro e w1 ⟨rfl, hb⟩; rw [← HYZ.out.1, ← HYZ.out.2])
    refine wp_loop_rounds 3 ?_
    rw [rounds_succ]
    go_wp2
    go_returns
    exact ⟨by rw [HE.out]; rfl, hb⟩
  · have h1' : ¬ (d : Int) ≤ (y : Int) := by omega
    by_cases h2 : d ≤ z
    · have h2' : (d : Int) ≤ (z : Int) := by omega
      have HE : Hid (dotI y z d = (z : Int) - (d : Int)) := ((if_neg h1).trans (if_pos h2) : dotI y z d = _)
      clear h1 h2
      go_enter Tryd.func16, Tryd.ntmps16
      go_wp2_with (go_at_call 36; refine (lastTwo b 1 X _ HT.out H.out.dl).mono ?_; rintro e w1 ⟨rfl, hb⟩; rw [← HYZ.out.1, ← HYZ.out.2])
      refine wp_loop_rounds 3 ?_
      rw [rounds_succ]
      go_wp2
      rw [rounds_succ]
      go_wp2
      go_returns
      exact ⟨by rw [HE.out]; rfl, hb⟩
    · have h2' : ¬ (d : Int) ≤ (z : Int) := by omega
      have HE : Hid (dotI y z d = -1) := ((if_neg h1).trans (if_neg h2) : dotI y z d = _)
      clear h1 h2
      go_enter Tryd.func16, Tryd.ntmps16
      go_wp2_with (go_at_call 36; refine (lastTwo b 1 X _ HT.out H.out.dl).mono ?_; rintro e w1 ⟨rfl, hb⟩; rw [← HYZ.out.1, ← HYZ.out.2])
      refine wp_loop_rounds 3 ?_
      rw [rounds_succ]
      go_wp2
      rw [rounds_succ]
      go_wp2
      rw [rounds_succ]
      go_wp2
      go_returns
      exact ⟨by rw [HE.out]; rfl, hb⟩

theorem Dot (b pb n X : Nat) (l : Int) (w : World) (hl : -9223372036854775808 ≤ l ∧ l ≤ 9223372036854775807) (hT : Tb w) (h : TAt w b pb n X) : Calls Tryd.prog 16 #[.pointer (some ⟨b, 0, none⟩), .int .i64 l] w fun e w' => e = .returned (.int .i64 (dotI (ag X).1 (ag X).2 (ldN l))) ∧ Below w.heap.size w w' :=
  DotA b pb n X _ _ _ l w rfl rfl (ldN_is l).1 (ldN_is l).2 hl hT h

end Go.Proofs.YtienmoannnhhmaaDoor.Sp
