/- A code of one byte. -/
import Derived.Test.YtelmohajdmcnmaaDoorMi7Y
namespace Go.Proofs.YtelmohajdmcnmaaDoor.Mi
open Go.RowKit Alu Ex
set_option linter.unusedVariables false

theorem turn_far {b g o : Nat} {w w' : World} {v : Go.Value} (h : Turn b w w') (hg : w.heap.size ≤ g) : Turn b w (w'.setCell ⟨g, o, none⟩ v) :=
  ⟨h.os, h.tape, h.output, by have := h.size; simp [World.setCell]; omega, fun k hk hb => (Below.heap_setCell _ _ _ _ (show k ≠ g by omega)).trans (h.block k hk hb)⟩

set_option maxRecDepth 100000 in
set_option maxHeartbeats 8000000 in
theorem endIdling (b : Nat) (c : Cp) (w : World) (h : Row w b c.cells) (ok : c.ok) : Calls Tryd.prog 55 #[.pointer (some ⟨b, 0, none⟩)] w fun e w' => e = .returned (.tuple #[]) ∧ Row w' b (c.il).cells ∧ Turn b w w' := by
  have H : Hid (Row w b c.cells) := h
  have c0 := h.at_ 0 _ rfl
  have c1 := h.at_ 1 _ rfl
  have c2 := h.at_ 2 _ rfl
  have c3 := h.at_ 3 _ rfl
  have c4 := h.at_ 4 _ rfl
  have c5 := h.at_ 5 _ rfl
  have c11 := h.at_ 11 _ rfl
  have c16 := h.at_ 16 _ rfl
  have c13 := h.at_ 13 _ rfl
  have hf := h.fz
  clear h
  have SF : Hid (∀ w : World, Calls Tryd.prog 83 #[.string c.nm, .agg #[.int .u8 (c.r.a : Int), .int .u8 (c.r.x : Int), .int .u8 (c.r.y : Int), .int .u8 (c.r.s : Int), .int .u8 (c.r.p : Int), .int .u16 (c.r.pc : Int)]] w fun e w' => e = .returned (.agg #[.int .u8 ((sf c.nm.toList c.r).a : Int), .int .u8 ((sf c.nm.toList c.r).x : Int), .int .u8 ((sf c.nm.toList c.r).y : Int), .int .u8 ((sf c.nm.toList c.r).s : Int), .int .u8 ((sf c.nm.toList c.r).p : Int), .int .u16 ((sf c.nm.toList c.r).pc : Int)]) ∧ Below w.heap.size w w') := fun w => Ex.Self c.nm c.r w ok.r
  have TU : Hid (∀ w : World, Calls Tryd.prog 30 #[.string c.nm, .agg #[.int .u8 (c.r.a : Int), .int .u8 (c.r.x : Int), .int .u8 (c.r.y : Int), .int .u8 (c.r.s : Int), .int .u8 (c.r.p : Int), .int .u16 (c.r.pc : Int)], .int .u8 (c.r.a : Int)] w fun e w' => e = .returned (.tuple #[.int .u8 ((tuV c.nm.toList c.r c.r.a : Nat) : Int), .agg #[.int .u8 ((tuR c.nm.toList c.r c.r.a).a : Int), .int .u8 ((tuR c.nm.toList c.r c.r.a).x : Int), .int .u8 ((tuR c.nm.toList c.r c.r.a).y : Int), .int .u8 ((tuR c.nm.toList c.r c.r.a).s : Int), .int .u8 ((tuR c.nm.toList c.r c.r.a).p : Int), .int .u16 ((tuR c.nm.toList c.r c.r.a).pc : Int)]]) ∧ Below w.heap.size w w') := fun w => Ex.TurnX c.nm c.r.a c.r ok.r.a w ok.r
  have k0 := ok.kd0
  have k1 := ok.kd1
  rcases (show c.kd = 0 ∨ c.kd = 1 ∨ c.kd = 2 ∨ c.kd = 3 ∨ c.kd = 4 ∨ c.kd = 5 ∨ c.kd = 6 ∨ c.kd = 7 ∨ c.kd = 8 ∨ c.kd = 9 ∨ c.kd = 10 ∨ c.kd = 11 ∨ c.kd = 12 by omega) with e | e | e | e | e | e | e | e | e | e | e | e | e
  · rw [e] at c13
    have HE : Hid (c.il = c.fi (sf c.nm.toList c.r)) := by show _ = _; simp [Cp.il, e]
    generalize sf c.nm.toList c.r = q at SF HE
    go_enter Tryd.func55, Tryd.ntmps55
    go_wp2
    go_region_with (first
      | (go_at_call 83; refine (SF.out _).mono ?_; rintro e w1 ⟨rfl, hB1⟩; have HR1 : Hid (Row w1 b c.cells) := H.out.drew.below c.pos hB1; have hT1 : Hid (Turn b _ w1) := (Turn.draws (Turn.refl b _) 1).trans (Turn.of_below hB1))
      | (go_at_call 63; refine (finish b c q _ HR1.out).mono ?_; rintro e w2 ⟨rfl, h2, t2⟩))
    all_goals go_wp2
    all_goals go_returns
    all_goals exact ⟨rfl, by rw [HE.out]; exact h2, hT1.out.trans t2⟩
  · rw [e] at c13
    have HE : Hid (c.il = c.rd (jn c.r.s 1) 23) := by show _ = _; simp [Cp.il, e]
    go_enter Tryd.func55, Tryd.ntmps55
    go_wp2_with (first | (go_at_call 51; refine (stack b c _ H.out ok.r.s).mono ?_; rintro e w' ⟨rfl, rfl⟩) | (go_at_call 48; refine (read b (jn c.r.s 1) 23 c _ H.out).mono ?_; rintro e w1 ⟨rfl, h1, t1⟩))
    go_returns
    exact ⟨rfl, by rw [HE.out]; exact h1, t1⟩
  · rw [e] at c13
    have HE : Hid (c.il = c.rd (jn c.r.s 1) 23) := by show _ = _; simp [Cp.il, e]
    go_enter Tryd.func55, Tryd.ntmps55
    go_wp2_with (first | (go_at_call 51; refine (stack b c _ H.out ok.r.s).mono ?_; rintro e w' ⟨rfl, rfl⟩) | (go_at_call 48; refine (read b (jn c.r.s 1) 23 c _ H.out).mono ?_; rintro e w1 ⟨rfl, h1, t1⟩))
    go_returns
    exact ⟨rfl, by rw [HE.out]; exact h1, t1⟩
  · rw [e] at c13
    have HE : Hid (c.il = c.fi { tuR c.nm.toList c.r c.r.a with a := tuV c.nm.toList c.r c.r.a }) := by show _ = _; simp [Cp.il, e]
    generalize tuV c.nm.toList c.r c.r.a = v at TU HE
    generalize tuR c.nm.toList c.r c.r.a = q at TU HE
    go_enter Tryd.func55, Tryd.ntmps55
    have HD : Hid (∀ X : Obj, Row (w.alloc X) b c.cells) := fun X => H.out.alloc c.pos X
    have hlt : b < w.heap.size := H.out.lt c.pos
    go_wp2_with (fail)
    go_cut [2, 3] (fun s1 s2 wc => ∃ g, s1 = .int .u8 (v : Int) ∧ s2 = .pointer (some ⟨g, 0, none⟩) ∧ Row wc g (rL q) ∧ Row wc b c.cells ∧ Below w.heap.size w wc ∧ w.heap.size ≤ g)
    case first =>
      rename_i hJ hK
      go_region_held3 (fun w' => w'.cell? ⟨b, 0, none⟩ = some (.int .u8 (c.r.a : Int)) ∧ w'.cell? ⟨b, 1, none⟩ = some (.int .u8 (c.r.x : Int)) ∧ w'.cell? ⟨b, 2, none⟩ = some (.int .u8 (c.r.y : Int)) ∧ w'.cell? ⟨b, 3, none⟩ = some (.int .u8 (c.r.s : Int)) ∧ w'.cell? ⟨b, 4, none⟩ = some (.int .u8 (c.r.p : Int)) ∧ w'.cell? ⟨b, 5, none⟩ = some (.int .u16 (c.r.pc : Int)) ∧ w'.cell? ⟨b, 11, none⟩ = some (.string c.nm) ∧ w'.cell? ⟨b, 16, none⟩ = some (.int .u8 (c.hi : Int))) (exact sOf (by repeat (first | with_reducible exact H.out | with_reducible exact HR1.out | with_reducible refine Row.drew ?_ | with_reducible refine Row.alloc ?_ c.pos _ | with_reducible refine Row.far ?_ (by omega)))) (first
        | (go_at_call 30; refine (TU.out _).mono ?_; rintro e w1 ⟨rfl, hB1⟩; have HB1 : Hid (Below _ _ w1) := hB1; have HR1 : Hid (Row w1 b c.cells) := (by show Row w1 b c.cells; first | with_reducible exact H.out.drew.below c.pos hB1 | with_reducible exact H.out.below c.pos hB1 | with_reducible exact (H.out.alloc c.pos _).drew.below c.pos hB1 | with_reducible exact (H.out.alloc c.pos _).below c.pos hB1 | with_reducible exact (H.out.drew.alloc c.pos _).below c.pos hB1 | fail); have hz1 : w.heap.size ≤ w1.heap.size := (by have := hB1.size; simp at this; omega); (try (have HZ : Row w1 w.heap.size zL := (by first | with_reducible exact (newZ _ rfl).drew.below zpos hB1 | with_reducible exact (newZ _ rfl).below zpos hB1 | fail); have z0 := HZ.at_ 0 _ rfl; have z1 := HZ.at_ 1 _ rfl; have z2 := HZ.at_ 2 _ rfl; have z3 := HZ.at_ 3 _ rfl; have z4 := HZ.at_ 4 _ rfl; have z5 := HZ.at_ 5 _ rfl; have zf := HZ.fz))))
      all_goals (refine hK _ _ (Met.intro (hJ _ _ ?_)); (repeat apply Exists.intro); refine ⟨?_, rfl⟩)
      · exact ⟨_, rfl, rfl, Row.new w1 _ _, HR1.out.alloc c.pos _, ((below_drewN (Below.refl _ w) 1).trans hB1).alloc hz1 _, hz1⟩
      · refine ⟨_, rfl, rfl, ((((((HZ.put 0 _).put 1 _).put 2 _).put 3 _).put 4 _).put 5 _).to rfl, ?_, ?_, Nat.le_refl _⟩
        · repeat (first | with_reducible exact HR1.out | with_reducible refine Row.far ?_ (by omega))
        · have hB : Below w.heap.size w w1 := (below_drewN ((Below.refl _ w).alloc (Nat.le_refl _) _) 1).trans (hB1.mono (by simp))
          repeat (first | with_reducible exact hB | with_reducible refine below_set ?_ (by omega))
    case rest =>
      obtain ⟨g, rfl, rfl, hQ, hA, hBw, hg⟩ := hcut
      have HA : Hid (Row wc b c.cells) := hA
      have HQ : Hid (Row wc g (rL q)) := hQ
      have HT : Hid (Turn b w wc) := Turn.of_below hBw
      have hbg : ¬ b = g := by omega
      have q0 := hQ.at_ 0 _ rfl
      have q1 := hQ.at_ 1 _ rfl
      have q2 := hQ.at_ 2 _ rfl
      have q3 := hQ.at_ 3 _ rfl
      have q4 := hQ.at_ 4 _ rfl
      have q5 := hQ.at_ 5 _ rfl
      have qf := hQ.fz
      clear hQ hA hBw c0 c1 c2 c3 c4 c5 c11 c16 c13
      go_wp2_with (go_at_call 63; refine (finish b c { q with a := v } _ (HA.out.far hbg)).mono ?_; rintro e w2 ⟨rfl, h2, t2⟩)
      go_returns
      exact ⟨rfl, by rw [HE.out]; exact h2, (turn_far HT.out hg).trans t2⟩
  · rw [e] at c13
    have HE : Hid (c.il = c.rd (jn c.r.s 1) 23) := by show _ = _; simp [Cp.il, e]
    go_enter Tryd.func55, Tryd.ntmps55
    go_wp2_with (first | (go_at_call 51; refine (stack b c _ H.out ok.r.s).mono ?_; rintro e w' ⟨rfl, rfl⟩) | (go_at_call 48; refine (read b (jn c.r.s 1) 23 c _ H.out).mono ?_; rintro e w1 ⟨rfl, h1, t1⟩))
    go_returns
    exact ⟨rfl, by rw [HE.out]; exact h1, t1⟩
  · rw [e] at c13
    have HE : Hid (c.il = c.pr) := by show _ = _; simp [Cp.il, e]
    go_enter Tryd.func55, Tryd.ntmps55
    go_wp2_with (first | (go_at_call 84; refine (pushRegister b c _ H.out ok).mono ?_; rintro e w1 ⟨rfl, h1, t1⟩))
    go_returns
    exact ⟨rfl, by rw [HE.out]; exact h1, t1⟩
  · rw [e] at c13
    have HE : Hid (c.il = c.rd (jn c.r.s 1) 23) := by show _ = _; simp [Cp.il, e]
    go_enter Tryd.func55, Tryd.ntmps55
    go_wp2_with (first | (go_at_call 51; refine (stack b c _ H.out ok.r.s).mono ?_; rintro e w' ⟨rfl, rfl⟩) | (go_at_call 48; refine (read b (jn c.r.s 1) 23 c _ H.out).mono ?_; rintro e w1 ⟨rfl, h1, t1⟩))
    go_returns
    exact ⟨rfl, by rw [HE.out]; exact h1, t1⟩
  · rw [e] at c13
    have HE : Hid (c.il = c.rd (jn c.r.s 1) 23) := by show _ = _; simp [Cp.il, e]
    go_enter Tryd.func55, Tryd.ntmps55
    go_wp2_with (first | (go_at_call 51; refine (stack b c _ H.out ok.r.s).mono ?_; rintro e w' ⟨rfl, rfl⟩) | (go_at_call 48; refine (read b (jn c.r.s 1) 23 c _ H.out).mono ?_; rintro e w1 ⟨rfl, h1, t1⟩))
    go_returns
    exact ⟨rfl, by rw [HE.out]; exact h1, t1⟩
  · rw [e] at c13
    have HE : Hid (c.il = c.rd (jn c.r.s 1) 23) := by show _ = _; simp [Cp.il, e]
    go_enter Tryd.func55, Tryd.ntmps55
    go_wp2_with (first | (go_at_call 51; refine (stack b c _ H.out ok.r.s).mono ?_; rintro e w' ⟨rfl, rfl⟩) | (go_at_call 48; refine (read b (jn c.r.s 1) 23 c _ H.out).mono ?_; rintro e w1 ⟨rfl, h1, t1⟩))
    go_returns
    exact ⟨rfl, by rw [HE.out]; exact h1, t1⟩
  · rw [e] at c13
    have HE : Hid (c.il = c.rd (jn c.r.s 1) 23) := by show _ = _; simp [Cp.il, e]
    go_enter Tryd.func55, Tryd.ntmps55
    go_wp2_with (first | (go_at_call 51; refine (stack b c _ H.out ok.r.s).mono ?_; rintro e w' ⟨rfl, rfl⟩) | (go_at_call 48; refine (read b (jn c.r.s 1) 23 c _ H.out).mono ?_; rintro e w1 ⟨rfl, h1, t1⟩))
    go_returns
    exact ⟨rfl, by rw [HE.out]; exact h1, t1⟩
  · rw [e] at c13
    have HE : Hid (c.il = c.rd (jn c.r.s 1) 23) := by show _ = _; simp [Cp.il, e]
    go_enter Tryd.func55, Tryd.ntmps55
    go_wp2_with (first | (go_at_call 51; refine (stack b c _ H.out ok.r.s).mono ?_; rintro e w' ⟨rfl, rfl⟩) | (go_at_call 48; refine (read b (jn c.r.s 1) 23 c _ H.out).mono ?_; rintro e w1 ⟨rfl, h1, t1⟩))
    go_returns
    exact ⟨rfl, by rw [HE.out]; exact h1, t1⟩
  · rw [e] at c13
    have HE : Hid (c.il = c.rd (jn c.r.s 1) 23) := by show _ = _; simp [Cp.il, e]
    go_enter Tryd.func55, Tryd.ntmps55
    go_wp2_with (first | (go_at_call 51; refine (stack b c _ H.out ok.r.s).mono ?_; rintro e w' ⟨rfl, rfl⟩) | (go_at_call 48; refine (read b (jn c.r.s 1) 23 c _ H.out).mono ?_; rintro e w1 ⟨rfl, h1, t1⟩))
    go_returns
    exact ⟨rfl, by rw [HE.out]; exact h1, t1⟩
  · rw [e] at c13
    have HE : Hid (c.il = c.rd (jn c.r.s 1) 23) := by show _ = _; simp [Cp.il, e]
    go_enter Tryd.func55, Tryd.ntmps55
    go_wp2_with (first | (go_at_call 51; refine (stack b c _ H.out ok.r.s).mono ?_; rintro e w' ⟨rfl, rfl⟩) | (go_at_call 48; refine (read b (jn c.r.s 1) 23 c _ H.out).mono ?_; rintro e w1 ⟨rfl, h1, t1⟩))
    go_returns
    exact ⟨rfl, by rw [HE.out]; exact h1, t1⟩

end Go.Proofs.YtelmohajdmcnmaaDoor.Mi

/- A cycle's end: the course from code to code. -/
namespace Go.Proofs.YtelmohajdmcnmaaDoor.Mi
open Go.RowKit Alu Ex
set_option linter.unusedVariables false

theorem up16 (n : Nat) (h : n < 65536) : ((n : Int) + 1) % 65536 = (((n + 1) % 65536 : Nat) : Int) := by omega
theorem up16w (n : Nat) (h : n < 65536) : IntKind.u16.wrap ((n : Int) + 1) = (((n + 1) % 65536 : Nat) : Int) := by rw [IntKind.wrap_u16]; omega
theorem up8 (n : Nat) (h : n < 256) : ((n : Int) + 1) % 256 = (((n + 1) % 256 : Nat) : Int) := by omega
theorem up8w (n : Nat) (h : n < 256) : IntKind.u8.wrap ((n : Int) + 1) = (((n + 1) % 256 : Nat) : Int) := by rw [IntKind.wrap_u8]; omega
theorem dn8 (n : Nat) (h : n < 256) : ((n : Int) - 1) % 256 = (((n + 255) % 256 : Nat) : Int) := by omega
theorem dn8w (n : Nat) (h : n < 256) : IntKind.u8.wrap ((n : Int) - 1) = (((n + 255) % 256 : Nat) : Int) := by rw [IntKind.wrap_u8]; omega
theorem dn_lt (r : Rg) : r.dn.s < 256 := Nat.mod_lt _ (by decide)
theorem up_lt (r : Rg) : r.up.s < 256 := Nat.mod_lt _ (by decide)

set_option maxRecDepth 100000 in
set_option maxHeartbeats 16000000 in
theorem endCourse (b v : Nat) (c : Cp) (w : World) (h : Row w b c.cells) (ok : c.ok) (hv : v < 256) (ht : Co.Tab w) (hb : 3 < b) (hst : 0 ≤ c.st ∧ c.st ≤ 12) : Calls Tryd.prog 37 #[.pointer (some ⟨b, 0, none⟩), .int .u8 (v : Int)] w fun e w' => e = .returned (.tuple #[]) ∧ Row w' b (c.clk v).cells ∧ Turn b w w' := by
  have H : Hid (Row w b c.cells) := h
  have c0 := h.at_ 0 _ rfl
  have c1 := h.at_ 1 _ rfl
  have c2 := h.at_ 2 _ rfl
  have c3 := h.at_ 3 _ rfl
  have c4 := h.at_ 4 _ rfl
  have c5 := h.at_ 5 _ rfl
  have c6 := h.at_ 6 _ rfl
  have c7 := h.at_ 7 _ rfl
  have c8 := h.at_ 8 _ rfl
  have c9 := h.at_ 9 _ rfl
  have c10 := h.at_ 10 _ rfl
  have c11 := h.at_ 11 _ rfl
  have c12 := h.at_ 12 _ rfl
  have c13 := h.at_ 13 _ rfl
  have c14 := h.at_ 14 _ rfl
  have c15 := h.at_ 15 _ rfl
  have c16 := h.at_ 16 _ rfl
  have c17 := h.at_ 17 _ rfl
  have c18 := h.at_ 18 _ rfl
  have c19 := h.at_ 19 _ rfl
  have c20 := h.at_ 20 _ rfl
  have c21 := h.at_ 21 _ rfl
  have c22 := h.at_ 22 _ rfl
  have hf := h.fz
  clear h
  have hpc := ok.r.pc
  have hs := ok.r.s
  have hp := ok.r.p
  have had := ok.ad
  have HPC : Hid (((c.r.pc : Int) + 1) % 65536 = (((c.r.pc + 1) % 65536 : Nat) : Int)) := up16 _ hpc
  have HPW : Hid (IntKind.u16.wrap ((c.r.pc : Int) + 1) = (((c.r.pc + 1) % 65536 : Nat) : Int)) := up16w _ hpc
  have HAC : Hid (((c.ad : Int) + 1) % 65536 = (((c.ad + 1) % 65536 : Nat) : Int)) := up16 _ had
  have HAW : Hid (IntKind.u16.wrap ((c.ad : Int) + 1) = (((c.ad + 1) % 65536 : Nat) : Int)) := up16w _ had
  have HDC : Hid (((c.r.s : Int) - 1) % 256 = (((c.r.s + 255) % 256 : Nat) : Int)) := dn8 _ hs
  have HDW : Hid (IntKind.u8.wrap ((c.r.s : Int) - 1) = (((c.r.s + 255) % 256 : Nat) : Int)) := dn8w _ hs
  have HUC : Hid (((c.r.s : Int) + 1) % 256 = (((c.r.s + 1) % 256 : Nat) : Int)) := up8 _ hs
  have HUW : Hid (IntKind.u8.wrap ((c.r.s : Int) + 1) = (((c.r.s + 1) % 256 : Nat) : Int)) := up8w _ hs
  have HO4 : Hid (bits .or .u8 (c.r.p : Int) 4 = ((W c.r.p 4 true : Nat) : Int)) := or4 _ hp
  have HO16 : Hid (bits .or .u8 (c.r.p : Int) 16 = ((W c.r.p 16 true : Nat) : Int)) := or16 _ hp
  rcases (show c.st = 0 ∨ c.st = 1 ∨ c.st = 2 ∨ c.st = 3 ∨ c.st = 4 ∨ c.st = 5 ∨ c.st = 6 ∨ c.st = 7 ∨ c.st = 8 ∨ c.st = 9 ∨ c.st = 10 ∨ c.st = 11 ∨ c.st = 12 by omega) with e | e | e | e | e | e | e | e | e | e | e | e | e
  · rw [e] at c6
    have HE : Hid (c.clk v = c.rd c.r.pc 1) := by show _ = _; unfold Cp.clk; rw [e]; rfl
    go_enter Tryd.func37, Tryd.ntmps37
    go_wp2_with (first | (go_at_call 48; refine (read b c.r.pc 1 c _ H.out).mono ?_; rintro e w1 ⟨rfl, h1, t1⟩))
    go_returns
    exact ⟨rfl, by rw [HE.out]; exact h1, t1⟩
  · rw [e] at c6
    have HE : Hid (c.clk v = c.rd (jn c.r.s 1) 2) := by show _ = _; unfold Cp.clk; rw [e]; rfl
    go_enter Tryd.func37, Tryd.ntmps37
    go_wp2_with (first | (go_at_call 51; refine (stack b c _ H.out hs).mono ?_; rintro e w' ⟨rfl, rfl⟩) | (go_at_call 48; refine (read b (jn c.r.s 1) 2 c _ H.out).mono ?_; rintro e w1 ⟨rfl, h1, t1⟩))
    go_returns
    exact ⟨rfl, by rw [HE.out]; exact h1, t1⟩
  · rw [e] at c6
    have HE : Hid (c.clk v = (c.sr c.r.dn).rd (jn c.r.dn.s 1) 3) := by show _ = _; unfold Cp.clk; rw [e]; rfl
    go_enter Tryd.func37, Tryd.ntmps37
    go_wp2
    (first | rw [HDC.out] | rw [HDW.out])
    go_region_with (first
      | (go_at_call 51; refine (stack b (c.sr c.r.dn) _ (Row.drew ((H.out.put 3 _).to rfl)) (dn_lt _)).mono ?_; rintro e w' ⟨rfl, rfl⟩)
      | (go_at_call 48; refine (read b (jn c.r.dn.s 1) 3 (c.sr c.r.dn) _ (Row.drew ((H.out.put 3 _).to rfl))).mono ?_; rintro e w1 ⟨rfl, h1, t1⟩))
    all_goals go_wp2
    all_goals go_returns
    all_goals exact ⟨rfl, by rw [HE.out]; exact h1, (Turn.draws (Turn.set (Turn.refl b _) _ _) 1).trans t1⟩
  · rw [e] at c6
    have HE : Hid (c.clk v = (c.sr c.r.dn).rd (jn c.r.dn.s 1) 4) := by show _ = _; unfold Cp.clk; rw [e]; rfl
    go_enter Tryd.func37, Tryd.ntmps37
    go_wp2
    (first | rw [HDC.out] | rw [HDW.out])
    go_region_with (first
      | (go_at_call 51; refine (stack b (c.sr c.r.dn) _ (Row.drew ((H.out.put 3 _).to rfl)) (dn_lt _)).mono ?_; rintro e w' ⟨rfl, rfl⟩)
      | (go_at_call 48; refine (read b (jn c.r.dn.s 1) 4 (c.sr c.r.dn) _ (Row.drew ((H.out.put 3 _).to rfl))).mono ?_; rintro e w1 ⟨rfl, h1, t1⟩))
    all_goals go_wp2
    all_goals go_returns
    all_goals exact ⟨rfl, by rw [HE.out]; exact h1, (Turn.draws (Turn.set (Turn.refl b _) _ _) 1).trans t1⟩
  · rw [e] at c6
    have HE : Hid (c.clk v = (c.sr c.r.dn).rd 65532 5) := by show _ = _; unfold Cp.clk; rw [e]; rfl
    go_enter Tryd.func37, Tryd.ntmps37
    go_wp2_with (first | (go_at_call 48; (first | rw [HDC.out] | rw [HDW.out]); refine (read b 65532 5 (c.sr c.r.dn) _ ((H.out.put 3 _).to rfl)).mono ?_; rintro e w1 ⟨rfl, h1, t1⟩))
    go_returns
    exact ⟨rfl, by rw [HE.out]; exact h1, (Turn.set (Turn.refl b _) _ _).trans t1⟩
  · rw [e] at c6
    have HE : Hid (c.clk v = (c.sl v c.hi).rd ((c.ad + 1) % 65536) 6) := by show _ = _; unfold Cp.clk; rw [e]; rfl
    go_enter Tryd.func37, Tryd.ntmps37
    go_wp2_with (first | (go_at_call 48; (first | rw [HAC.out] | rw [HAW.out]); refine (read b ((c.ad + 1) % 65536) 6 (c.sl v c.hi) _ ((H.out.put 15 _).to rfl)).mono ?_; rintro e w1 ⟨rfl, h1, t1⟩))
    go_returns
    exact ⟨rfl, by rw [HE.out]; exact h1, (Turn.set (Turn.refl b _) _ _).trans t1⟩
  · rw [e] at c6
    have HE : Hid (c.clk v = (c.sr (c.r.fl (W c.r.p 4 true))).jp (jn c.lo v)) := by show _ = _; unfold Cp.clk; rw [e]; rfl
    go_enter Tryd.func37, Tryd.ntmps37
    go_wp2_with (first | (go_at_call 53; refine (join8 c.lo v _ ok.lo hv).mono ?_; rintro e w' ⟨rfl, rfl⟩) | (go_at_call 52; (first | rw [HO4.out] | rw [HO4.out]); refine (jump b (jn c.lo v) (c.sr (c.r.fl (W c.r.p 4 true))) _ ((H.out.put 4 _).to rfl)).mono ?_; rintro e w1 ⟨rfl, h1, t1⟩))
    go_returns
    exact ⟨rfl, by rw [HE.out]; exact h1, (Turn.set (Turn.refl b _) _ _).trans t1⟩
  · rw [e] at c6
    have HE : Hid (c.clk v = (c.sr c.r.nx).bg v) := by show _ = _; unfold Cp.clk; rw [e]; rfl
    go_enter Tryd.func37, Tryd.ntmps37
    go_wp2_with (first | (go_at_call 54; (first | rw [HPC.out] | rw [HPW.out]); refine (begin b v (c.sr c.r.nx) _ ((H.out.put 5 _).to rfl) ⟨⟨ok.r.a, ok.r.x, ok.r.y, ok.r.s, ok.r.p, (Nat.mod_lt _ (by decide) : (c.r.pc + 1) % 65536 < 65536)⟩, ok.st, ok.ad, ok.da, ok.op, ok.md, ok.kd0, ok.kd1, ok.lo, ok.hi, ok.rb⟩ hv (ht.below (n := 4) (below_set (Below.refl 4 _) hb) (by decide)) hb).mono ?_; rintro e w1 ⟨rfl, h1, t1⟩))
    go_returns
    exact ⟨rfl, by rw [HE.out]; exact h1, (Turn.set (Turn.refl b _) _ _).trans t1⟩
  · rw [e] at c6
    have HE : Hid (c.clk v = c.il) := by show _ = _; unfold Cp.clk; rw [e]; rfl
    go_enter Tryd.func37, Tryd.ntmps37
    go_wp2_with (first | (go_at_call 55; refine (endIdling b c _ H.out ok).mono ?_; rintro e w1 ⟨rfl, h1, t1⟩))
    go_returns
    exact ⟨rfl, by rw [HE.out]; exact h1, t1⟩
  · rw [e] at c6
    have HE : Hid (c.clk v = (c.sr c.r.nx).tk v) := by show _ = _; unfold Cp.clk; rw [e]; rfl
    go_enter Tryd.func37, Tryd.ntmps37
    go_wp2_with (first | (go_at_call 56; (first | rw [HPC.out] | rw [HPW.out]); refine (take b v (c.sr c.r.nx) _ ((H.out.put 5 _).to rfl) ⟨⟨ok.r.a, ok.r.x, ok.r.y, ok.r.s, ok.r.p, (Nat.mod_lt _ (by decide) : (c.r.pc + 1) % 65536 < 65536)⟩, ok.st, ok.ad, ok.da, ok.op, ok.md, ok.kd0, ok.kd1, ok.lo, ok.hi, ok.rb⟩ hv).mono ?_; rintro e w1 ⟨rfl, h1, t1⟩))
    go_returns
    exact ⟨rfl, by rw [HE.out]; exact h1, (Turn.set (Turn.refl b _) _ _).trans t1⟩
  · rw [e] at c6
    have HE : Hid (c.clk v = c.br) := by show _ = _; unfold Cp.clk; rw [e]; rfl
    go_enter Tryd.func37, Tryd.ntmps37
    go_wp2_with (first | (go_at_call 57; refine (branch b c _ H.out ok).mono ?_; rintro e w1 ⟨rfl, h1, t1⟩))
    go_returns
    exact ⟨rfl, by rw [HE.out]; exact h1, t1⟩
  · rw [e] at c6
    have HE : Hid (c.clk v = c.jp c.tg) := by show _ = _; unfold Cp.clk; rw [e]; rfl
    go_enter Tryd.func37, Tryd.ntmps37
    go_wp2_with (first | (go_at_call 58; refine (target b c _ H.out ok.r.pc ok.lo).mono ?_; rintro e w' ⟨rfl, q, rfl⟩) | (go_at_call 52; refine (jump b c.tg c _ (H.out.draws _)).mono ?_; rintro e w1 ⟨rfl, h1, t1⟩))
    go_returns
    exact ⟨rfl, by rw [HE.out]; exact h1, (Turn.draws (Turn.refl b _) _).trans t1⟩
  · rw [e] at c6
    have HE : Hid (c.clk v = c) := by show _ = _; unfold Cp.clk; rw [e]; rfl
    go_enter Tryd.func37, Tryd.ntmps37
    go_wp2
    go_returns
    exact ⟨rfl, by rw [HE.out]; exact H.out, Turn.refl b _⟩

end Go.Proofs.YtelmohajdmcnmaaDoor.Mi
