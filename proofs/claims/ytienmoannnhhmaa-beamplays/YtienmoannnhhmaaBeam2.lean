/- What the calls of package beam do: one contract a function (the beam's own). -/
import Derived.Test.YtienmoannnhhmaaBeam1
import Derived.Deep.QuietTactic
namespace Go.Proofs.Ytienmoannnhhmaa.Bm
open Go.RowKit Count

/-- Is it dark, a pulse? -/
def dark (t : Nat) (l : Bool) : Bool := decide (t < 68) || (l && decide (t < 76))
def pulse (t : Nat) : Bool := decide (20 ≤ t) && decide (t ≤ 35)
/-- The clock behind. -/
def nx (t : Nat) : Nat := (t + 1) % 228
/-- What Set of a clock answers, and where it is then. -/
theorem dark_no (t : Nat) : (decide ((0 : Int) ≤ (t : Int)) && decide ((t : Int) ≤ 67)) = dark t false := by
  unfold dark; simp; omega
theorem dark_yes (t : Nat) : (decide ((0 : Int) ≤ (t : Int)) && decide ((t : Int) ≤ 75)) = dark t true := by
  unfold dark
  rw [Bool.eq_iff_iff]; simp; omega
theorem pulse_is (t : Nat) : (decide ((20 : Int) ≤ (t : Int)) && decide ((t : Int) ≤ 35)) = pulse t := by
  unfold pulse
  rw [Bool.eq_iff_iff]; simp; omega

set_option maxRecDepth 100000 in
set_option maxHeartbeats 1000000 in
theorem Clock_nil (w : World) : Calls Try.prog 9 #[.pointer none] w fun e w' => e = .returned (.int .i64 0) ∧ w' = w := by
  go_enter Try.func9, Try.ntmps9
  go_wp2
  go_ret
  exact ⟨rfl, rfl⟩

set_option maxRecDepth 100000 in
set_option maxHeartbeats 1000000 in
theorem Begin_nil (w : World) : Calls Try.prog 10 #[.pointer none] w fun e w' => e = .returned (.bool false) ∧ w' = w := by
  go_enter Try.func10, Try.ntmps10
  go_wp2
  go_ret
  exact ⟨rfl, rfl⟩

set_option maxRecDepth 100000 in
set_option maxHeartbeats 1000000 in
theorem Dark_nil (w : World) : Calls Try.prog 11 #[.pointer none] w fun e w' => e = .returned (.bool false) ∧ w' = w := by
  go_enter Try.func11, Try.ntmps11
  go_wp2
  go_ret
  exact ⟨rfl, rfl⟩

set_option maxRecDepth 100000 in
set_option maxHeartbeats 1000000 in
theorem Pulse_nil (w : World) : Calls Try.prog 12 #[.pointer none] w fun e w' => e = .returned (.bool false) ∧ w' = w := by
  go_enter Try.func12, Try.ntmps12
  go_wp2
  go_ret
  exact ⟨rfl, rfl⟩

set_option maxRecDepth 100000 in
set_option maxHeartbeats 1000000 in
theorem Next_nil (w : World) : Calls Try.prog 6 #[.pointer none] w fun e w' => e = .returned (.tuple #[]) ∧ w' = w := by
  go_enter Try.func6, Try.ntmps6
  go_wp2
  go_end0
  exact ⟨rfl, rfl⟩

set_option maxRecDepth 100000 in
set_option maxHeartbeats 1000000 in
theorem Comb_nil (w : World) : Calls Try.prog 7 #[.pointer none] w fun e w' => e = .returned (.tuple #[]) ∧ w' = w := by
  go_enter Try.func7, Try.ntmps7
  go_wp2
  go_end0
  exact ⟨rfl, rfl⟩

set_option maxRecDepth 100000 in
set_option maxHeartbeats 1000000 in
theorem Reset_nil (w : World) : Calls Try.prog 8 #[.pointer none] w fun e w' => e = .returned (.tuple #[]) ∧ w' = w := by
  go_enter Try.func8, Try.ntmps8
  go_wp2
  go_end0
  exact ⟨rfl, rfl⟩

set_option maxRecDepth 100000 in
set_option maxHeartbeats 1000000 in
theorem Words_nil (w : World) : Calls Try.prog 13 #[.pointer none] w fun e w' => e = .returned (.agg #[.int .i64 0, .int .i64 0]) ∧ Below w.heap.size w w' := by
  go_enter Try.func13, Try.ntmps13
  go_wp2
  go_returns
  exact ⟨rfl, by go_grown⟩

set_option maxRecDepth 100000 in
set_option maxHeartbeats 1000000 in
theorem Set_nil (x y : Int) (w : World) : Calls Try.prog 14 #[.pointer none, .agg #[.int .i64 x, .int .i64 y]] w fun e w' => e = .returned (.int .i64 1) ∧ Below w.heap.size w w' := by
  go_enter Try.func14, Try.ntmps14
  go_wp2
  go_returns
  exact ⟨rfl, by go_grown⟩

set_option maxRecDepth 100000 in
set_option maxHeartbeats 1000000 in
theorem Clock (b cb db t : Nat) (l : Bool) (w : World) (h : BAt w b cb db t l) : Calls Try.prog 9 #[.pointer (some ⟨b, 0, none⟩)] w fun e w' => e = .returned (.int .i64 (t : Int)) ∧ Below w.heap.size w w' := by
  have H : Hid (BAt w b cb db t l) := h
  clear h
  go_enter Try.func9, Try.ntmps9
  go_wp2_with (go_at_call 25; refine (at' b cb db t l _ (by first | exact H.out | exact H.out.drew)).mono ?_; rintro e w1 ⟨rfl, hb⟩)
  go_ret
  exact ⟨rfl, hb⟩

set_option maxRecDepth 100000 in
set_option maxHeartbeats 1000000 in
theorem Pulse (b cb db t : Nat) (l : Bool) (w : World) (h : BAt w b cb db t l) : Calls Try.prog 12 #[.pointer (some ⟨b, 0, none⟩)] w fun e w' => e = .returned (.bool (pulse t)) ∧ Below w.heap.size w w' := by
  have H : Hid (BAt w b cb db t l) := h
  clear h
  go_enter Try.func12, Try.ntmps12
  go_wp2_with (first | (go_at_call 25; refine (at' b cb db t l _ (by first | exact H.out | exact H.out.drew)).mono ?_; rintro e w1 ⟨rfl, hb⟩) | (go_at_call 26; refine (within _ _ _ _).mono ?_; rintro e w2 ⟨rfl, rfl⟩))
  go_ret
  exact ⟨ret_bool (pulse_is t), hb⟩

set_option maxRecDepth 100000 in
set_option maxHeartbeats 1000000 in
theorem Dark (b cb db t : Nat) (l : Bool) (w : World) (h : BAt w b cb db t l) : Calls Try.prog 11 #[.pointer (some ⟨b, 0, none⟩)] w fun e w' => e = .returned (.bool (dark t l)) ∧ Below w.heap.size w w' := by
  have p2 := h.p2
  have H : Hid (BAt w b cb db t l) := h
  clear h
  cases l
  · go_enter Try.func11, Try.ntmps11
    go_wp2_with (first | (go_at_call 25; refine (at' b cb db t false _ (by first | exact H.out | exact H.out.drew)).mono ?_; rintro e w1 ⟨rfl, hb⟩) | (go_at_call 26; refine (within _ _ _ _).mono ?_; rintro e w2 ⟨rfl, rfl⟩))
    go_ret
    exact ⟨ret_bool (dark_no t), hb⟩
  · go_enter Try.func11, Try.ntmps11
    go_wp2_with (first | (go_at_call 25; refine (at' b cb db t true _ (by first | exact H.out | exact H.out.drew)).mono ?_; rintro e w1 ⟨rfl, hb⟩) | (go_at_call 26; refine (within _ _ _ _).mono ?_; rintro e w2 ⟨rfl, rfl⟩))
    go_ret
    exact ⟨ret_bool (dark_yes t), hb⟩

set_option maxRecDepth 100000 in
set_option maxHeartbeats 1000000 in
theorem Words (b cb db t : Nat) (l : Bool) (w : World) (h : BAt w b cb db t l) : Calls Try.prog 13 #[.pointer (some ⟨b, 0, none⟩)] w fun e w' => e = .returned (.agg #[.int .i64 (t : Int), .int .i64 (if l then 1 else 0)]) ∧ Below w.heap.size w w' := by
  have hh := heap_alloc_new w (.cells #[.int .i64 0, .int .i64 0] 29)
  have qf : (w.alloc (.cells #[.int .i64 0, .int .i64 0] 29)).frozen? ⟨w.heap.size, 0, none⟩ = false := frozen_of_row _ _ _ _ _ hh
  have qg : (w.alloc (.cells #[.int .i64 0, .int .i64 0] 29)).frozen? ⟨w.heap.size, 1, none⟩ = false := frozen_of_row _ _ _ _ _ hh
  obtain ⟨q0, q1⟩ := cell2 hh
  have hBw : Below w.heap.size w (w.alloc (.cells #[.int .i64 0, .int .i64 0] 29)) := (Below.refl _ w).alloc (Nat.le_refl _) _
  have hs : w.heap.size < (w.alloc (.cells #[.int .i64 0, .int .i64 0] 29)).heap.size := by simp
  have HH : Hid (BAt (w.alloc (.cells #[.int .i64 0, .int .i64 0] 29)) b cb db t l) := h.below hBw
  have p2 := HH.out.p2
  clear h hh
  obtain ⟨n, hn⟩ : ∃ n : Int, n = (if l then 1 else 0) := ⟨_, rfl⟩
  have hn' : Hid (n = (if l then 1 else 0)) := hn
  cases l
  all_goals
    simp only [Bool.false_eq_true, if_true, if_false] at hn
    go_enter Try.func13, Try.ntmps13
    go_wp2_with (go_at_call 25; fail)
    generalize w.alloc (.cells #[.int .i64 0, .int .i64 0] 29) = wa at q0 q1 qf qg hBw hs HH p2 ⊢
    refine (at' b cb db t _ _ HH.out).mono ?_
    rintro e w2 ⟨rfl, hb⟩
    have HO : Hid (Below w.heap.size w w2) := hBw.trans (hb.mono (by omega))
    have r0 := (hb.cell (p := ⟨w.heap.size, 0, none⟩) hs).trans q0
    have r1 := (hb.cell (p := ⟨w.heap.size, 1, none⟩) hs).trans q1
    have rf := (hb.frozen (p := ⟨w.heap.size, 0, none⟩) hs).trans qf
    have rg := (hb.frozen (p := ⟨w.heap.size, 1, none⟩) hs).trans qg
    clear hb hBw q0 q1 qf qg p2 hs HH
    go_wp2
    rw [← hn]
    have s0 : ((w2.setCell ⟨w.heap.size, 0, none⟩ (.int .i64 (t : Int))).setCell ⟨w.heap.size, 1, none⟩ (.int .i64 n)).cell? ⟨w.heap.size, 0, none⟩ = some (.int .i64 (t : Int)) :=
      (World.cell?_setCell_other _ _ _ _ (by simp)).trans (World.cell?_setCell_same' _ _ _ (by rw [r0]; rfl))
    have s1 : ((w2.setCell ⟨w.heap.size, 0, none⟩ (.int .i64 (t : Int))).setCell ⟨w.heap.size, 1, none⟩ (.int .i64 n)).cell? ⟨w.heap.size, 1, none⟩ = some (.int .i64 n) :=
      World.cell?_setCell_same' _ _ _ (by rw [World.cell?_setCell_other _ _ _ _ (by simp), r1]; rfl)
    have h1 : (Tn (fun k => k = w.heap.size) w2 ((w2.setCell ⟨w.heap.size, 0, none⟩ (.int .i64 (t : Int))).setCell ⟨w.heap.size, 1, none⟩ (.int .i64 n))) := ((Tn.refl (fun k => k = w.heap.size) w2).set w.heap.size 0 _ rfl).set w.heap.size 1 _ rfl
    generalize (w2.setCell ⟨w.heap.size, 0, none⟩ (.int .i64 (t : Int))).setCell ⟨w.heap.size, 1, none⟩ (.int .i64 n) = w3 at s0 s1 h1 ⊢
    refine bodyPost_ret (v := .agg #[.int .i64 (t : Int), .int .i64 n]) (by simp [results, Try.f13, go_sem, s0, s1]) rfl ?_
    have := HO.out.size
    exact ⟨by rw [hn'.out], HO.out.trans (h1.below (n := w.heap.size) (fun k e => by omega) this)⟩

set_option maxRecDepth 100000 in
set_option maxHeartbeats 1000000 in
theorem Begin_yes (b cb db : Nat) (l : Bool) (w : World) (h : BAt w b cb db 0 l) : Calls Try.prog 10 #[.pointer (some ⟨b, 0, none⟩)] w fun e w' => e = .returned (.bool true) ∧ BAt w' b cb db 0 false ∧ Tn (S3 b cb db) w w' := by
  have H : Hid (BAt w b cb db 0 l) := h
  clear h
  go_enter Try.func10, Try.ntmps10
  go_wp2_with (go_at_call 25; refine (at' b cb db 0 l _ H.out).mono ?_; rintro e w1 ⟨rfl, hb⟩; have H1 : Hid (BAt w1 b cb db 0 l) := H.out.below hb; have p2 := H1.out.p2; have fz := H1.out.fz)
  go_ret
  exact ⟨rfl, H1.out.late false, (Tn.of_below _ hb).trans (H1.out.lateT false)⟩

set_option maxRecDepth 100000 in
set_option maxHeartbeats 1000000 in
theorem Begin_no (b cb db t : Nat) (l : Bool) (w : World) (ht : t ≠ 0) (h : BAt w b cb db t l) : Calls Try.prog 10 #[.pointer (some ⟨b, 0, none⟩)] w fun e w' => e = .returned (.bool false) ∧ Below w.heap.size w w' := by
  have H : Hid (BAt w b cb db t l) := h
  have hz : ((t : Int) != 0) = true := bne_iff_ne.2 (by omega)
  clear h
  go_enter Try.func10, Try.ntmps10
  go_wp2_with (go_at_call 25; refine (at' b cb db t l _ (by first | exact H.out | exact H.out.drew)).mono ?_; rintro e w1 ⟨rfl, hb⟩)
  go_ret
  exact ⟨rfl, hb⟩

set_option maxRecDepth 100000 in
set_option maxHeartbeats 1000000 in
theorem Comb (b cb db t : Nat) (l : Bool) (w : World) (h : BAt w b cb db t l) : Calls Try.prog 7 #[.pointer (some ⟨b, 0, none⟩)] w fun e w' => e = .returned (.tuple #[]) ∧ BAt w' b cb db t true ∧ Tn (S3 b cb db) w w' := by
  have p2 := h.p2
  have fz := h.fz
  have H : Hid (BAt w b cb db t l) := h
  clear h
  go_enter Try.func7, Try.ntmps7
  go_wp2
  go_end0
  exact ⟨rfl, H.out.late true, H.out.lateT true⟩

set_option maxRecDepth 100000 in
set_option maxHeartbeats 1000000 in
theorem put_yes (b cb db t j : Nat) (l : Bool) (w : World) (hj : j < 228) (h : BAt w b cb db t l) : Calls Try.prog 23 #[.pointer (some ⟨b, 0, none⟩), .int .i64 (j : Int)] w fun e w' => e = .returned (.int .i64 0) ∧ BAt w' b cb db j l ∧ Tn (S3 b cb db) w w' := by
  have p0 := h.p0
  have p1 := h.p1
  have H : Hid (BAt w b cb db t l) := h
  have HC : Hid (cntS 57 (t / 4) ((j : Int) / 4) = j / 4) := by show (if _ then _ else _) = _; rw [if_pos (by omega)]; omega
  have HD : Hid (cntS 4 (t % 4) ((j : Int) % 4) = j % 4) := by show (if _ then _ else _) = _; rw [if_pos (by omega)]; omega
  have hw : (decide ((0 : Int) ≤ (j : Int)) && decide ((j : Int) ≤ 227)) = true := by simp; omega
  clear h
  go_enter Try.func23, Try.ntmps23
  go_wp2_with (go_at_call 26; refine (within _ _ _ _).mono ?_; rintro e w2 ⟨rfl, rfl⟩; rw [hw])
  go_wp2_with (go_at_call 29; fail)
  refine (CSet cb 0 (t / 4) 57 ((j : Int) / 4) _ H.out.c).mono ?_
  rintro e w1 ⟨rfl, hC1, hT1⟩
  rw [HC.out] at hC1
  have HC1 : Hid (CAt w1 cb 0 (j / 4) 57) := hC1
  have hlt := H.out.lt
  have hld := H.out.d.lt
  have hbc := H.out.bc
  have hbd := H.out.bd
  have hcd := H.out.cd
  have HT1 : Hid (Touch cb 0 1 w2 w1) := hT1
  have p1' : w1.cell? ⟨b, 1, none⟩ = some (.pointer (some ⟨db, 0, none⟩)) := (hT1.other hlt hbc).trans p1
  clear hC1 hT1 p0 p1
  go_wp2_with (go_at_call 30; fail)
  refine (DSet db 0 (t % 4) 4 ((j : Int) % 4) _ (dkept H.out.d (HT1.out.block _ hld (Ne.symm hcd)))).mono ?_
  rintro e w3 ⟨rfl, hD3, hT3⟩
  rw [HD.out] at hD3
  go_wp2
  go_ret
  have hsz := HT1.out.size
  have hT : Tn (S3 b cb db) w2 w3 := (Tn.of_touch HT1.out (.inr (.inl rfl))).trans (Tn.of_touch hT3 (.inr (.inr rfl)))
  have e1 : ∀ k, k < w2.heap.size → k ≠ cb → k ≠ db → w3.heap[k]? = w2.heap[k]? := fun k hk h1 h2 => (hT3.block k (by omega) h2).trans (HT1.out.block k hk h1)
  have eb := e1 b hlt hbc hbd
  exact ⟨rfl, ⟨(World.cell?_of_block (w := w2) eb).trans H.out.p0, (World.cell?_of_block (w := w2) eb).trans H.out.p1, (World.cell?_of_block (w := w2) eb).trans H.out.p2, (World.frozen?_of_block (w := w2) eb).trans H.out.fz, ckept HC1.out (hT3.block _ HC1.out.lt hcd), hD3, hj, hbc, hbd, hcd⟩, hT⟩

set_option maxRecDepth 100000 in
set_option maxHeartbeats 1000000 in
theorem put_no (b : Nat) (j : Int) (w : World) (hj : ¬ (0 ≤ j ∧ j < 228)) : Calls Try.prog 23 #[.pointer (some ⟨b, 0, none⟩), .int .i64 j] w fun e w' => e = .returned (.int .i64 6) ∧ w' = w := by
  have hw : (decide ((0 : Int) ≤ j) && decide (j ≤ 227)) = false := by simp; omega
  go_enter Try.func23, Try.ntmps23
  go_wp2_with (go_at_call 26; refine (within _ _ _ _).mono ?_; rintro e w2 ⟨rfl, rfl⟩; rw [hw])
  go_ret
  exact ⟨rfl, rfl⟩

theorem nx_div (t : Nat) (_h : t < 228) (h4 : t % 4 = 3) : rndN (t / 4) 57 = nx t / 4 ∧ nx t % 4 = 0 := by
  unfold rndN nx; omega
theorem nx_no (t : Nat) (_h : t < 228) (h4 : ¬ t % 4 = 3) : nx t / 4 = t / 4 ∧ nx t % 4 = t % 4 + 1 := by
  unfold nx; omega
theorem nx_lt (t : Nat) : nx t < 228 := Nat.mod_lt _ (by decide)

set_option maxRecDepth 100000 in
set_option maxHeartbeats 1000000 in
theorem tick (b cb db t : Nat) (l : Bool) (w : World) (h : BAt w b cb db t l) : Calls Try.prog 24 #[.pointer (some ⟨b, 0, none⟩)] w fun e w' => e = .returned (.tuple #[]) ∧ BAt w' b cb db (nx t) l ∧ Tn (S3 b cb db) w w' := by
  have p0 := h.p0
  have p1 := h.p1
  have H : Hid (BAt w b cb db t l) := h
  have hlt := H.out.lt
  have hlc := H.out.c.lt
  have hbc := H.out.bc
  have hbd := H.out.bd
  have hcd := H.out.cd
  have ht := H.out.t1
  clear h
  by_cases h4 : t % 4 = 3
  · have HD : Hid (rndN (t % 4) 4 = 0 ∧ rndB (t % 4) 4 = true) := rnd_last (by omega)
    have HN : Hid (rndN (t / 4) 57 = nx t / 4 ∧ nx t % 4 = 0) := nx_div t ht h4
    have hD := HD.out.2
    clear h4
    go_enter Try.func24, Try.ntmps24
    go_wp2_with (go_at_call 31; fail)
    refine (DTick db 0 (t % 4) 4 _ (by omega) (by decide) H.out.d).mono ?_
    rintro e w1 ⟨rfl, hD1, hT1⟩
    have HD1 : Hid (DAt w1 db 0 0 4) := by have := hD1; rwa [HD.out.1] at this
    have HT1 : Hid (Touch db 0 1 w w1) := hT1
    have p0' : w1.cell? ⟨b, 0, none⟩ = some (.pointer (some ⟨cb, 0, none⟩)) := (hT1.other hlt hbd).trans p0
    have HC1 : Hid (CAt w1 cb 0 (t / 4) 57) := ckept H.out.c (hT1.block _ hlc hcd)
    clear hD1 hT1 p0 p1
    go_wp2_with (go_at_call 32; fail)
    refine (CTick cb 0 (t / 4) 57 _ HC1.out).mono ?_
    rintro e w2 ⟨rfl, hC2, hT2⟩
    go_wp2
    go_end0
    rw [HN.out.1] at hC2
    have hsz := HT1.out.size
    have eb : w2.heap[b]? = w.heap[b]? := (hT2.block b (by omega) hbc).trans (HT1.out.block b hlt hbd)
    refine ⟨rfl, ⟨(World.cell?_of_block (w := w) eb).trans H.out.p0, (World.cell?_of_block (w := w) eb).trans H.out.p1, (World.cell?_of_block (w := w) eb).trans H.out.p2, (World.frozen?_of_block (w := w) eb).trans H.out.fz, hC2, ?_, nx_lt t, hbc, hbd, hcd⟩, (Tn.of_touch HT1.out (.inr (.inr rfl))).trans (Tn.of_touch hT2 (.inr (.inl rfl)))⟩
    rw [HN.out.2]
    exact dkept HD1.out (hT2.block _ HD1.out.lt (Ne.symm hcd))
  · have HD : Hid (rndN (t % 4) 4 = t % 4 + 1 ∧ rndB (t % 4) 4 = false) := rnd_not (by omega)
    have HN : Hid (nx t / 4 = t / 4 ∧ nx t % 4 = t % 4 + 1) := nx_no t ht h4
    have hD := HD.out.2
    clear h4
    go_enter Try.func24, Try.ntmps24
    go_wp2_with (go_at_call 31; fail)
    refine (DTick db 0 (t % 4) 4 _ (by omega) (by decide) H.out.d).mono ?_
    rintro e w1 ⟨rfl, hD1, hT1⟩
    go_wp2
    go_end0
    rw [HD.out.1] at hD1
    have eb : w1.heap[b]? = w.heap[b]? := hT1.block b hlt hbd
    refine ⟨rfl, ⟨(World.cell?_of_block (w := w) eb).trans H.out.p0, (World.cell?_of_block (w := w) eb).trans H.out.p1, (World.cell?_of_block (w := w) eb).trans H.out.p2, (World.frozen?_of_block (w := w) eb).trans H.out.fz, ?_, ?_, nx_lt t, hbc, hbd, hcd⟩, Tn.of_touch hT1 (.inr (.inr rfl))⟩
    · rw [HN.out.1]; exact ckept H.out.c (hT1.block _ hlc hcd)
    · rw [HN.out.2]; exact hD1

set_option maxRecDepth 100000 in
set_option maxHeartbeats 1000000 in
theorem Next (b cb db t : Nat) (l : Bool) (w : World) (h : BAt w b cb db t l) : Calls Try.prog 6 #[.pointer (some ⟨b, 0, none⟩)] w fun e w' => e = .returned (.tuple #[]) ∧ BAt w' b cb db (nx t) l ∧ Tn (S3 b cb db) w w' := by
  have H : Hid (BAt w b cb db t l) := h
  clear h
  go_enter Try.func6, Try.ntmps6
  go_wp2_with (go_at_call 24; refine (tick b cb db t l _ H.out).mono ?_; rintro e w1 ⟨rfl, hA, hT⟩)
  go_end0
  exact ⟨rfl, hA, hT⟩

set_option maxRecDepth 100000 in
set_option maxHeartbeats 1000000 in
theorem Reset (b cb db t : Nat) (l : Bool) (w : World) (h : BAt w b cb db t l) : Calls Try.prog 8 #[.pointer (some ⟨b, 0, none⟩)] w fun e w' => e = .returned (.tuple #[]) ∧ BAt w' b cb db 0 l ∧ Tn (S3 b cb db) w w' := by
  have H : Hid (BAt w b cb db t l) := h
  clear h
  go_enter Try.func8, Try.ntmps8
  go_wp2_with (go_at_call 23; refine (put_yes b cb db t 0 l _ (by decide) H.out).mono ?_; rintro e w1 ⟨rfl, hA, hT⟩)
  go_end0
  exact ⟨rfl, hA, hT⟩

set_option maxRecDepth 100000 in
set_option maxHeartbeats 1000000 in
theorem Set_yes (b cb db t j : Nat) (y : Int) (l : Bool) (w : World) (hj : j < 228) (hy : y = 0 ∨ y = 1) (h : BAt w b cb db t l) : Calls Try.prog 14 #[.pointer (some ⟨b, 0, none⟩), .agg #[.int .i64 (j : Int), .int .i64 y]] w fun e w' => e = .returned (.int .i64 0) ∧ BAt w' b cb db j (y == 1) ∧ Tn (S3 b cb db) w w' := by
  have hBw : Below w.heap.size w (w.alloc (.cells #[.int .i64 (j : Int), .int .i64 y] 29)) := (Below.refl _ w).alloc (Nat.le_refl _) _
  have HH : Hid (BAt (w.alloc (.cells #[.int .i64 (j : Int), .int .i64 y] 29)) b cb db t l) := h.below hBw
  have HB : Hid (Below w.heap.size w (w.alloc (.cells #[.int .i64 (j : Int), .int .i64 y] 29))) := hBw
  have hw : (decide ((0 : Int) ≤ y) && decide (y ≤ 1)) = true := by simp; omega
  obtain ⟨v, hv⟩ : ∃ v, (y == 1) = v := ⟨_, rfl⟩
  rw [hv]
  clear h hy hBw
  go_enter Try.func14, Try.ntmps14
  have hh := heap_alloc_new w (.cells #[.int .i64 (j : Int), .int .i64 y] 29)
  obtain ⟨q0, q1⟩ := cell2 hh
  go_wp2
  generalize w.alloc (.cells #[.int .i64 (j : Int), .int .i64 y] 29) = wa at HH HB hh q0 q1 ⊢
  go_quiet (fail)
  go_wp2_with (go_at_call 26; fail)
  have HH2 : Hid (BAt (wa.drewN nq) b cb db t l) := HH.out.draws nq
  have HB2 : Hid (Below w.heap.size w (wa.drewN nq)) := below_drewN HB.out nq
  clear hh q0 q1
  generalize wa.drewN nq = wb at HH2 HB2 ⊢
  clear HH HB
  refine (within _ _ _ _).mono ?_
  rintro e w2 ⟨rfl, rfl⟩
  rw [hw]
  go_wp2_with (go_at_call 23; refine (put_yes b cb db t j l _ hj HH2.out).mono ?_; rintro e w1 ⟨rfl, hA, hT⟩; have HA : Hid (BAt w1 b cb db j l) := hA; have p2 := hA.p2; have fz := hA.fz; clear hA)
  go_ret
  exact ⟨rfl, HA.out.late v, ((Tn.of_below _ HB2.out).trans hT).trans (HA.out.lateT v)⟩

set_option maxRecDepth 100000 in
set_option maxHeartbeats 1000000 in
theorem Set_no (b : Nat) (x y : Int) (w : World) (hn : ¬ (0 ≤ x ∧ x < 228 ∧ (y = 0 ∨ y = 1))) : Calls Try.prog 14 #[.pointer (some ⟨b, 0, none⟩), .agg #[.int .i64 x, .int .i64 y]] w fun e w' => e = .returned (.int .i64 6) ∧ Below w.heap.size w w' := by
  have hBw : Hid (Below w.heap.size w (w.alloc (.cells #[.int .i64 x, .int .i64 y] 29))) := (Below.refl _ w).alloc (Nat.le_refl _) _
  have hh := heap_alloc_new w (.cells #[.int .i64 x, .int .i64 y] 29)
  obtain ⟨q0, q1⟩ := cell2 hh
  by_cases hy : y = 0 ∨ y = 1
  · have hw : (decide ((0 : Int) ≤ y) && decide (y ≤ 1)) = true := by simp; omega
    have hx : ¬ (0 ≤ x ∧ x < 228) := fun h => hn ⟨h.1, h.2, hy⟩
    have HX : Hid (¬ (0 ≤ x ∧ x < 228)) := hx
    clear hn hx hy
    go_enter Try.func14, Try.ntmps14
    go_wp2
    generalize w.alloc (.cells #[.int .i64 x, .int .i64 y] 29) = wa at hBw hh q0 q1 ⊢
    go_quiet (fail)
    clear hh q0 q1
    go_wp2_with (first
      | (go_at_call 26; refine (within _ _ _ _).mono ?_; rintro e w2 ⟨rfl, rfl⟩; rw [hw])
      | (go_at_call 23; refine (put_no b x _ HX.out).mono ?_; rintro e w1 ⟨rfl, rfl⟩))
    go_ret
    exact ⟨rfl, below_drewN hBw.out _⟩
  · have hw : (decide ((0 : Int) ≤ y) && decide (y ≤ 1)) = false := by simp; omega
    clear hn hy
    go_enter Try.func14, Try.ntmps14
    go_wp2
    generalize w.alloc (.cells #[.int .i64 x, .int .i64 y] 29) = wa at hBw hh q0 q1 ⊢
    go_quiet (fail)
    clear hh q0 q1
    go_wp2_with (first
      | (go_at_call 26; refine (within _ _ _ _).mono ?_; rintro e w2 ⟨rfl, rfl⟩; rw [hw]))
    go_ret
    exact ⟨rfl, below_drewN hBw.out _⟩

set_option maxRecDepth 100000 in
set_option maxHeartbeats 1000000 in
theorem New_yes (t : Nat) (w : World) (ht : t < 228) : Calls Try.prog 5 #[.int .i64 (t : Int)] w fun e w' => ∃ b cb db, e = .returned (.pointer (some ⟨b, 0, none⟩)) ∧ w.heap.size ≤ b ∧ w.heap.size ≤ cb ∧ w.heap.size ≤ db ∧ BAt w' b cb db t false ∧ Below w.heap.size w w' := by
  go_enter Try.func5, Try.ntmps5
  go_wp2_with (go_at_call 22; fail)
  refine (begin _).mono ?_
  rintro e w1 ⟨cb, db, rfl, hcb, hdb, hcd, hC1, hD1, hB1⟩
  have hlc := hC1.lt
  have hld := hD1.lt
  have hsz := hB1.size
  have hh := heap_alloc_new w1 (.cells #[.pointer (some ⟨cb, 0, none⟩), .pointer (some ⟨db, 0, none⟩), .bool false] 50)
  have hBn : Below w1.heap.size w1 (w1.alloc (.cells #[.pointer (some ⟨cb, 0, none⟩), .pointer (some ⟨db, 0, none⟩), .bool false] 50)) := (Below.refl _ w1).alloc (Nat.le_refl _) _
  have HA : Hid (BAt (w1.alloc (.cells #[.pointer (some ⟨cb, 0, none⟩), .pointer (some ⟨db, 0, none⟩), .bool false] 50)) w1.heap.size cb db 0 false) :=
    ⟨cell_of_row _ _ _ _ _ _ hh, cell_of_row _ _ _ _ _ _ hh, cell_of_row _ _ _ _ _ _ hh, frozen_of_row _ _ _ _ _ hh, hC1.below hBn hlc, hD1.below hBn hld, by decide, by omega, by omega, hcd⟩
  have HB : Hid (Below w.heap.size w (w1.alloc (.cells #[.pointer (some ⟨cb, 0, none⟩), .pointer (some ⟨db, 0, none⟩), .bool false] 50))) := hB1.alloc hB1.size _
  clear hh hBn hC1 hD1 hB1
  go_wp2_with (go_at_call 23; fail)
  refine (put_yes w1.heap.size cb db 0 t false _ ht HA.out).mono ?_
  rintro e w2 ⟨rfl, hA2, hT2⟩
  go_wp2
  go_ret
  refine ⟨_, cb, db, rfl, hsz, hcb, hdb, hA2, HB.out.trans (hT2.below ?_ HB.out.size)⟩
  rintro k (rfl | rfl | rfl) <;> omega

set_option maxRecDepth 100000 in
set_option maxHeartbeats 1000000 in
theorem New_no (x : Int) (w : World) (hx : ¬ (0 ≤ x ∧ x < 228)) : Calls Try.prog 5 #[.int .i64 x] w fun e w' => e = .returned (.pointer none) ∧ Below w.heap.size w w' := by
  have HX : Hid (¬ (0 ≤ x ∧ x < 228)) := hx
  clear hx
  go_enter Try.func5, Try.ntmps5
  go_wp2_with (go_at_call 22; fail)
  refine (begin _).mono ?_
  rintro e w1 ⟨cb, db, rfl, hcb, hdb, hcd, hC1, hD1, hB1⟩
  have HB : Hid (Below w.heap.size w (w1.alloc (.cells #[.pointer (some ⟨cb, 0, none⟩), .pointer (some ⟨db, 0, none⟩), .bool false] 50))) := hB1.alloc hB1.size _
  clear hC1 hD1 hB1
  go_wp2_with (go_at_call 23; fail)
  refine (put_no w1.heap.size x _ HX.out).mono ?_
  rintro e w2 ⟨rfl, rfl⟩
  go_wp2
  go_ret
  exact ⟨rfl, HB.out⟩

end Go.Proofs.Ytienmoannnhhmaa.Bm
