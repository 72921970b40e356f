/- What the calls of package beam do: one contract a function. -/
import Derived.Test.YtienmoannnhhmaaCount
import Derived.Test.YtienmoannnhhmaaBase
import Derived.Deep.RegionWith
import Derived.Handy
namespace Go.Proofs.Ytienmoannnhhmaa.Bm
open Go.RowKit Count

theorem ckept {w w' : World} {b off i n : Nat} (h : CAt w b off i n) (hb : w'.heap[b]? = w.heap[b]?) : CAt w' b off i n :=
  ⟨⟨(World.cell?_of_block (w := w) hb).trans h.p.c0, (World.cell?_of_block (w := w) hb).trans h.p.c1, (World.cell?_of_block (w := w) hb).trans h.p.c2, (World.frozen?_of_block (w := w) hb).trans h.p.fz⟩, (World.cell?_of_block (w := w) hb).trans h.l, h.i1, h.n1⟩
theorem dkept {w w' : World} {b off i n : Nat} (h : DAt w b off i n) (hb : w'.heap[b]? = w.heap[b]?) : DAt w' b off i n :=
  ⟨(World.cell?_of_block (w := w) hb).trans h.c0, (World.cell?_of_block (w := w) hb).trans h.c1, (World.frozen?_of_block (w := w) hb).trans h.fz⟩

/-- A beam at clock t, late or not, is block b, its counter cb, its divider db. -/
structure BAt (w : World) (b cb db t : Nat) (l : Bool) : Prop where
  p0 : w.cell? ⟨b, 0, none⟩ = some (.pointer (some ⟨cb, 0, none⟩))
  p1 : w.cell? ⟨b, 1, none⟩ = some (.pointer (some ⟨db, 0, none⟩))
  p2 : w.cell? ⟨b, 2, none⟩ = some (.bool l)
  fz : w.frozen? ⟨b, 2, none⟩ = false
  c : CAt w cb 0 (t / 4) 57
  d : DAt w db 0 (t % 4) 4
  t1 : t < 228
  bc : b ≠ cb
  bd : b ≠ db
  cd : cb ≠ db

/-- The beam's blocks. -/
def S3 (b cb db : Nat) (k : Nat) : Prop := k = b ∨ k = cb ∨ k = db

section
variable {w w' : World} {b cb db t : Nat} {l : Bool}
theorem BAt.lt (h : BAt w b cb db t l) : b < w.heap.size := lt_of_cell h.p0
theorem BAt.kept (h : BAt w b cb db t l) (hb : w'.heap[b]? = w.heap[b]?) (hc : w'.heap[cb]? = w.heap[cb]?) (hd : w'.heap[db]? = w.heap[db]?) : BAt w' b cb db t l :=
  ⟨(World.cell?_of_block (w := w) hb).trans h.p0, (World.cell?_of_block (w := w) hb).trans h.p1, (World.cell?_of_block (w := w) hb).trans h.p2, (World.frozen?_of_block (w := w) hb).trans h.fz, ckept h.c hc, dkept h.d hd, h.t1, h.bc, h.bd, h.cd⟩
theorem BAt.below (h : BAt w b cb db t l) (hb : Below w.heap.size w w') : BAt w' b cb db t l := h.kept (hb.block _ h.lt) (hb.block _ h.c.lt) (hb.block _ h.d.lt)
theorem BAt.drew (h : BAt w b cb db t l) : BAt w.drew b cb db t l := h.kept rfl rfl rfl
theorem BAt.draws (h : BAt w b cb db t l) (q : Nat) : BAt (w.drewN q) b cb db t l := h.kept rfl rfl rfl
theorem BAt.turn {S : Nat → Prop} (h : BAt w b cb db t l) (ht : Tn S w w') (h1 : ¬ S b) (h2 : ¬ S cb) (h3 : ¬ S db) : BAt w' b cb db t l := h.kept (ht.block _ h.lt h1) (ht.block _ h.c.lt h2) (ht.block _ h.d.lt h3)
theorem BAt.late (h : BAt w b cb db t l) (l' : Bool) : BAt (w.setCell ⟨b, 2, none⟩ (.bool l')) b cb db t l' :=
  ⟨(World.cell?_setCell_other _ _ _ _ (by simp)).trans h.p0, (World.cell?_setCell_other _ _ _ _ (by simp)).trans h.p1, World.cell?_setCell_same' _ _ _ (by rw [h.p2]; rfl), by rw [World.frozen?_setCell]; exact h.fz,
    ckept h.c (Below.heap_setCell _ _ _ _ (Ne.symm h.bc)), dkept h.d (Below.heap_setCell _ _ _ _ (Ne.symm h.bd)), h.t1, h.bc, h.bd, h.cd⟩
theorem BAt.lateT (_h : BAt w b cb db t l) (l' : Bool) : Tn (S3 b cb db) w (w.setCell ⟨b, 2, none⟩ (.bool l')) := (Tn.refl _ w).set b 2 _ (.inl rfl)
end

set_option maxRecDepth 100000 in
set_option maxHeartbeats 400000 in
theorem within (n lo hi : Int) (w : World) : Calls Try.prog 26 #[.int .i64 n, .int .i64 lo, .int .i64 hi] w fun e w' => e = .returned (.bool (decide (lo ≤ n) && decide (n ≤ hi))) ∧ w' = w := by
  by_cases h : lo ≤ n
  · go_enter Try.func26, Try.ntmps26
    go_wp2
    go_ret
    refine ⟨ret_bool ?_, rfl⟩
    simp [h]
  · go_enter Try.func26, Try.ntmps26
    go_wp2
    go_ret
    refine ⟨ret_bool ?_, rfl⟩
    simp; omega

/-- What a fresh beam's parts are. -/
structure Fr (w : World) (cb db : Nat) (w' : World) : Prop where
  hc : w.heap.size ≤ cb
  hd : w.heap.size ≤ db
  ne : cb ≠ db
  c : CAt w' cb 0 0 57
  d : DAt w' db 0 0 4
  old : Below w.heap.size w w'
theorem Fr.of {w w1 w2 : World} {b1 b2 : Nat} (hb1 : w.heap.size ≤ b1) (hC1 : CAt w1 b1 0 0 57) (hB1 : Below w.heap.size w w1) (hb2 : w1.heap.size ≤ b2) (hD2 : DAt w2 b2 0 0 4) (hB2 : Below w1.heap.size w1 w2) : Fr w b1 b2 w2 := by
  have h1 := hC1.lt
  have h2 : w.heap.size ≤ w1.heap.size := hB1.size
  have h3 : w.heap.size ≤ b1 := hb1
  exact ⟨h3, by omega, by omega, hC1.below hB2 hC1.lt, hD2, hB1.trans (hB2.mono h2)⟩

set_option maxRecDepth 100000 in
set_option maxHeartbeats 1000000 in
theorem begin (w : World) : Calls Try.prog 22 #[] w fun e w' => ∃ cb db, e = .returned (.agg #[.pointer (some ⟨cb, 0, none⟩), .pointer (some ⟨db, 0, none⟩)]) ∧ Fr w cb db w' := by
  go_enter Try.func22, Try.ntmps22
  have hh := heap_alloc_new w (.cells #[.pointer none, .pointer none] 47)
  have qf : (w.alloc (.cells #[.pointer none, .pointer none] 47)).frozen? ⟨w.heap.size, 0, none⟩ = false := frozen_of_row _ _ _ _ _ hh
  have qg : (w.alloc (.cells #[.pointer none, .pointer none] 47)).frozen? ⟨w.heap.size, 1, none⟩ = false := frozen_of_row _ _ _ _ _ hh
  obtain ⟨q0, q1⟩ := cell2 hh
  have hBw : Below w.heap.size w (w.alloc (.cells #[.pointer none, .pointer none] 47)) := (Below.refl _ w).alloc (Nat.le_refl _) _
  have hs : w.heap.size < (w.alloc (.cells #[.pointer none, .pointer none] 47)).heap.size := by simp
  go_wp2_with (go_at_call 27; fail)
  generalize w.alloc (.cells #[.pointer none, .pointer none] 47) = wa at hh q0 q1 qf qg hBw hs ⊢
  refine (Of_yes 57 _ (by decide) (by decide)).mono ?_
  rintro e w1 ⟨b1, rfl, hb1, hC1, hB1⟩
  go_wp2_with (go_at_call 28; fail)
  refine (By_yes 4 _ (by decide) (by decide)).mono ?_
  rintro e w2 ⟨b2, rfl, hb2, hD2, hB2⟩
  have HF : Hid (Fr wa b1 b2 w2) := Fr.of hb1 hC1 hB1 hb2 hD2 hB2
  have HO : Hid (Below w.heap.size w wa) := hBw
  have r0 := (HF.out.old.cell (p := ⟨w.heap.size, 0, none⟩) hs).trans q0
  have r1 := (HF.out.old.cell (p := ⟨w.heap.size, 1, none⟩) hs).trans q1
  have rf := (HF.out.old.frozen (p := ⟨w.heap.size, 0, none⟩) hs).trans qf
  have rg := (HF.out.old.frozen (p := ⟨w.heap.size, 1, none⟩) hs).trans qg
  clear hb1 hC1 hB1 hb2 hD2 hB2 hBw hh q0 q1 qf qg
  go_wp2
  have s0 : ((w2.setCell ⟨w.heap.size, 0, none⟩ (.pointer (some ⟨b1, 0, none⟩))).setCell ⟨w.heap.size, 1, none⟩ (.pointer (some ⟨b2, 0, none⟩))).cell? ⟨w.heap.size, 0, none⟩ = some (.pointer (some ⟨b1, 0, none⟩)) :=
    (World.cell?_setCell_other _ _ _ _ (by simp)).trans (World.cell?_setCell_same' _ _ _ (by rw [r0]; rfl))
  have s1 : ((w2.setCell ⟨w.heap.size, 0, none⟩ (.pointer (some ⟨b1, 0, none⟩))).setCell ⟨w.heap.size, 1, none⟩ (.pointer (some ⟨b2, 0, none⟩))).cell? ⟨w.heap.size, 1, none⟩ = some (.pointer (some ⟨b2, 0, none⟩)) :=
    World.cell?_setCell_same' _ _ _ (by rw [World.cell?_setCell_other _ _ _ _ (by simp), r1]; rfl)
  have h1 : (Tn (fun k => k = w.heap.size) w2 ((w2.setCell ⟨w.heap.size, 0, none⟩ (.pointer (some ⟨b1, 0, none⟩))).setCell ⟨w.heap.size, 1, none⟩ (.pointer (some ⟨b2, 0, none⟩)))) := ((Tn.refl (fun k => k = w.heap.size) w2).set w.heap.size 0 _ rfl).set w.heap.size 1 _ rfl
  generalize (w2.setCell ⟨w.heap.size, 0, none⟩ (.pointer (some ⟨b1, 0, none⟩))).setCell ⟨w.heap.size, 1, none⟩ (.pointer (some ⟨b2, 0, none⟩)) = w3 at s0 s1 h1 ⊢
  have hF := HF.out
  have a1 := hF.hc
  have a2 := hF.hd
  have a3 := hF.old.size
  refine bodyPost_ret (v := .agg #[.pointer (some ⟨b1, 0, none⟩), .pointer (some ⟨b2, 0, none⟩)]) (by simp [results, Try.f22, go_sem, s0, s1]) rfl ?_
  exact ⟨b1, b2, rfl, by omega, by omega, hF.ne, ckept hF.c (h1.block _ hF.c.lt (by omega)), dkept hF.d (h1.block _ hF.d.lt (by omega)), (HO.out.trans (hF.old.mono (by omega))).trans (h1.below (n := w.heap.size) (fun k e => by omega) (by omega))⟩

set_option maxRecDepth 100000 in
set_option maxHeartbeats 1000000 in
theorem at' (b cb db t : Nat) (l : Bool) (w : World) (h : BAt w b cb db t l) : Calls Try.prog 25 #[.pointer (some ⟨b, 0, none⟩)] w fun e w' => e = .returned (.int .i64 (t : Int)) ∧ Below w.heap.size w w' := by
  have p0 := h.p0
  have p1 := h.p1
  have hn := h.t1
  have H : Hid (BAt w b cb db t l) := h
  clear h
  obtain ⟨q, hq⟩ : ∃ q, q = t / 4 := ⟨_, rfl⟩
  obtain ⟨r, hr⟩ : ∃ r, r = t % 4 := ⟨_, rfl⟩
  have HC : Hid (CAt w cb 0 q 57) := by have := H.out.c; rwa [← hq] at this
  have HD : Hid (DAt w db 0 r 4) := by have := H.out.d; rwa [← hr] at this
  have b1 : q < 57 := by omega
  have b2 : r < 4 := by omega
  have e1 : IntKind.i64.wrap ((q : Int) * 4) = (q : Int) * 4 := IntWalk.i64_in _ (by omega)
  have e2 : IntKind.i64.wrap ((q : Int) * 4 + (r : Int)) = (t : Int) := by rw [IntWalk.i64_in _ (by omega)]; omega
  clear hq hr
  go_enter Try.func25, Try.ntmps25
  go_wp2
  go_region_with (first
    | (go_at_call 33; refine (CCount cb 0 q 57 _ HC.out.drew).mono ?_; rintro e w1 ⟨rfl, hb⟩; have p1' : w1.cell? ⟨b, 1, none⟩ = some (.pointer (some ⟨db, 0, none⟩)) := (hb.cell (p := ⟨b, 1, none⟩) H.out.lt).trans p1)
    | (go_at_call 34; refine (DCount db 0 r 4 _ (HD.out.drew.below hb HD.out.lt)).mono ?_; rintro e w2 ⟨rfl, rfl⟩))
  all_goals
    go_wp2
    go_ret
    exact ⟨rfl, (Below.refl _ w).drew.trans hb⟩

end Go.Proofs.Ytienmoannnhhmaa.Bm
