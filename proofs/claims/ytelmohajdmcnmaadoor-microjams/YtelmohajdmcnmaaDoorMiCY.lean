/- A cycle's end: a place, and the access there. -/
import Derived.Test.YtelmohajdmcnmaaDoorMi9Y
namespace Go.Proofs.YtelmohajdmcnmaaDoor.Mi
open Go.RowKit Alu Ex
set_option linter.unusedVariables false

theorem sOf9 {w : World} {b : Nat} {c : Cp} (h : Row w b c.cells) : w.cell? ⟨b, 0, none⟩ = some (.int .u8 (c.r.a : Int)) ∧ w.cell? ⟨b, 1, none⟩ = some (.int .u8 (c.r.x : Int)) ∧ w.cell? ⟨b, 2, none⟩ = some (.int .u8 (c.r.y : Int)) ∧ w.cell? ⟨b, 3, none⟩ = some (.int .u8 (c.r.s : Int)) ∧ w.cell? ⟨b, 4, none⟩ = some (.int .u8 (c.r.p : Int)) ∧ w.cell? ⟨b, 5, none⟩ = some (.int .u16 (c.r.pc : Int)) ∧ w.cell? ⟨b, 11, none⟩ = some (.string c.nm) ∧ w.cell? ⟨b, 9, none⟩ = some (.int .u8 (c.da : Int)) := ⟨h.at_ 0 _ rfl, h.at_ 1 _ rfl, h.at_ 2 _ rfl, h.at_ 3 _ rfl, h.at_ 4 _ rfl, h.at_ 5 _ rfl, h.at_ 11 _ rfl, h.at_ 9 _ rfl⟩

end Go.Proofs.YtelmohajdmcnmaaDoor.Mi

/- A cycle's end, step 13. -/
namespace Go.Proofs.YtelmohajdmcnmaaDoor.Mi
open Go.RowKit Alu Ex
set_option linter.unusedVariables false


set_option maxRecDepth 100000 in
set_option maxHeartbeats 8000000 in
theorem endPlace_13 (b v : Nat) (c : Cp) (w : World) (h : Row w b c.cells) (ok : c.ok) (hv : v < 256) (e : c.st = 13) : Calls Tryd.prog 38 #[.pointer (some ⟨b, 0, none⟩), .int .u8 (v : Int)] w fun e w' => e = .returned (.tuple #[]) ∧ Row w' b (c.clk v).cells ∧ Turn b w w' := by
  have H : Hid (Row w b c.cells) := h
  have c5 := h.at_ 5 _ rfl
  have c6 := h.at_ 6 _ rfl
  have c12 := h.at_ 12 _ rfl
  have c15 := h.at_ 15 _ rfl
  have c16 := h.at_ 16 _ rfl
  clear h
  have hf := H.out.fz
  have hpc := ok.r.pc
  have HPC : Hid (((c.r.pc : Int) + 1) % 65536 = (((c.r.pc + 1) % 65536 : Nat) : Int)) := up16 _ hpc
  have HPW : Hid (IntKind.u16.wrap ((c.r.pc : Int) + 1) = (((c.r.pc + 1) % 65536 : Nat) : Int)) := up16w _ hpc
  rw [e] at c6
  have HE : Hid (c.clk v = (if c.md = 12 then (c.sr c.r.nx).rd (jn c.lo v) 16 else ((c.sr c.r.nx).sl c.lo v).rc)) := by show _ = _; unfold Cp.clk; rw [e]; rfl
  by_cases hm : c.md = 12
  · have HE2 : Hid (c.clk v = (c.sr c.r.nx).rd (jn c.lo v) 16) := by show _ = _; rw [HE.out, if_pos hm]
    rw [hm] at c12
    go_enter Tryd.func38, Tryd.ntmps38
    go_wp2_with (first | (go_at_call 53; refine (join8 c.lo v _ ok.lo hv).mono ?_; rintro e w' ⟨rfl, rfl⟩) | (go_at_call 48; (first | rw [HPC.out] | rw [HPW.out]); refine (read b (jn c.lo v) 16 (c.sr c.r.nx) _ ((H.out.put 5 _).to rfl)).mono ?_; rintro e w1 ⟨rfl, h1, t1⟩))
    go_returns
    exact ⟨rfl, by rw [HE2.out]; exact h1, (Turn.set (Turn.refl b _) _ _).trans t1⟩
  · have HE2 : Hid (c.clk v = ((c.sr c.r.nx).sl c.lo v).rc) := by show _ = _; rw [HE.out, if_neg hm]
    have hmb : ((c.md : Int) == (12 : Int)) = false := by rw [beq_eq_false_iff_ne]; omega
    go_enter Tryd.func38, Tryd.ntmps38
    go_wp2_with (first | (go_at_call 62; (first | rw [HPC.out] | rw [HPW.out]); refine (reach b ((c.sr c.r.nx).sl c.lo v) _ (((H.out.put 5 _).put 16 _).to rfl) ⟨⟨ok.r.a, ok.r.x, ok.r.y, ok.r.s, ok.r.p, (Nat.mod_lt _ (by decide) : (c.r.pc + 1) % 65536 < 65536)⟩, ok.st, ok.ad, ok.da, ok.op, ok.md, ok.kd0, ok.kd1, ok.lo, hv, ok.rb⟩).mono ?_; rintro e w1 ⟨rfl, h1, t1⟩))
    go_returns
    exact ⟨rfl, by rw [HE2.out]; exact h1, (Turn.set (Turn.set (Turn.refl b _) _ _) _ _).trans t1⟩

end Go.Proofs.YtelmohajdmcnmaaDoor.Mi

/- A cycle's end, step 14. -/
namespace Go.Proofs.YtelmohajdmcnmaaDoor.Mi
open Go.RowKit Alu Ex
set_option linter.unusedVariables false


set_option maxRecDepth 100000 in
set_option maxHeartbeats 8000000 in
theorem endPlace_14 (b v : Nat) (c : Cp) (w : World) (h : Row w b c.cells) (ok : c.ok) (hv : v < 256) (e : c.st = 14) : Calls Tryd.prog 38 #[.pointer (some ⟨b, 0, none⟩), .int .u8 (v : Int)] w fun e w' => e = .returned (.tuple #[]) ∧ Row w' b (c.clk v).cells ∧ Turn b w w' := by
  have H : Hid (Row w b c.cells) := h
  have c6 := h.at_ 6 _ rfl
  have c15 := h.at_ 15 _ rfl
  clear h
  have hf := H.out.fz
  have hpc := ok.r.pc
  have hs := ok.r.s
  have had := ok.ad
  have hix := ix_lt c ok
  have hlo := ok.lo
  have hhi := ok.hi
  have hsm : c.sm < 256 := Nat.mod_lt _ (by decide)
  have HSC : Hid (((c.lo : Int) + (c.ix : Int)) % 256 = (c.sm : Int)) := by show _ = _; unfold Cp.sm; omega
  have HSW : Hid (IntKind.u8.wrap ((c.lo : Int) + (c.ix : Int)) = (c.sm : Int)) := by show _ = _; rw [IntKind.wrap_u8]; unfold Cp.sm; omega
  rw [e] at c6
  have HE : Hid (c.clk v = c.ac (jn c.sm 0)) := by show _ = _; unfold Cp.clk; rw [e]; rfl
  go_enter Tryd.func38, Tryd.ntmps38
  go_wp2
  go_region_with (first
    | (go_at_call 60; refine (index b c _ H.out.drew ok.md).mono ?_; rintro e w' ⟨rfl, rfl⟩)
    | (go_at_call 53; (first | rw [HSC.out] | rw [HSW.out]); refine (join8 c.sm 0 _ hsm (by decide)).mono ?_; rintro e w' ⟨rfl, rfl⟩)
    | (go_at_call 59; refine (access b (jn c.sm 0) c _ H.out.drew ok (jn_lt hsm (by decide))).mono ?_; rintro e w1 ⟨rfl, h1, t1⟩))
  all_goals go_wp2
  all_goals go_returns
  all_goals exact ⟨rfl, by rw [HE.out]; exact h1, (Turn.draws (Turn.refl b _) 1).trans t1⟩

end Go.Proofs.YtelmohajdmcnmaaDoor.Mi

/- A cycle's end, step 15. -/
namespace Go.Proofs.YtelmohajdmcnmaaDoor.Mi
open Go.RowKit Alu Ex
set_option linter.unusedVariables false


set_option maxRecDepth 100000 in
set_option maxHeartbeats 8000000 in
theorem endPlace_15 (b v : Nat) (c : Cp) (w : World) (h : Row w b c.cells) (ok : c.ok) (hv : v < 256) (e : c.st = 15) : Calls Tryd.prog 38 #[.pointer (some ⟨b, 0, none⟩), .int .u8 (v : Int)] w fun e w' => e = .returned (.tuple #[]) ∧ Row w' b (c.clk v).cells ∧ Turn b w w' := by
  have H : Hid (Row w b c.cells) := h
  have c6 := h.at_ 6 _ rfl
  have c15 := h.at_ 15 _ rfl
  clear h
  have hf := H.out.fz
  have hpc := ok.r.pc
  have hs := ok.r.s
  have had := ok.ad
  have hix := ix_lt c ok
  have hlo := ok.lo
  have hhi := ok.hi
  have hsm : c.sm < 256 := Nat.mod_lt _ (by decide)
  have HSC : Hid (((c.lo : Int) + (c.ix : Int)) % 256 = (c.sm : Int)) := by show _ = _; unfold Cp.sm; omega
  have HSW : Hid (IntKind.u8.wrap ((c.lo : Int) + (c.ix : Int)) = (c.sm : Int)) := by show _ = _; rw [IntKind.wrap_u8]; unfold Cp.sm; omega
  rw [e] at c6
  have HE : Hid (c.clk v = c.rd (jn c.sm 0) 16) := by show _ = _; unfold Cp.clk; rw [e]; rfl
  go_enter Tryd.func38, Tryd.ntmps38
  go_wp2
  go_region_with (first
    | (go_at_call 60; refine (index b c _ H.out.drew ok.md).mono ?_; rintro e w' ⟨rfl, rfl⟩)
    | (go_at_call 53; (first | rw [HSC.out] | rw [HSW.out]); refine (join8 c.sm 0 _ hsm (by decide)).mono ?_; rintro e w' ⟨rfl, rfl⟩)
    | (go_at_call 48; refine (read b (jn c.sm 0) 16 c _ H.out.drew).mono ?_; rintro e w1 ⟨rfl, h1, t1⟩))
  all_goals go_wp2
  all_goals go_returns
  all_goals exact ⟨rfl, by rw [HE.out]; exact h1, (Turn.draws (Turn.refl b _) 1).trans t1⟩

end Go.Proofs.YtelmohajdmcnmaaDoor.Mi

/- A cycle's end, step 16. -/
namespace Go.Proofs.YtelmohajdmcnmaaDoor.Mi
open Go.RowKit Alu Ex
set_option linter.unusedVariables false


set_option maxRecDepth 100000 in
set_option maxHeartbeats 8000000 in
theorem endPlace_16 (b v : Nat) (c : Cp) (w : World) (h : Row w b c.cells) (ok : c.ok) (hv : v < 256) (e : c.st = 16) : Calls Tryd.prog 38 #[.pointer (some ⟨b, 0, none⟩), .int .u8 (v : Int)] w fun e w' => e = .returned (.tuple #[]) ∧ Row w' b (c.clk v).cells ∧ Turn b w w' := by
  have H : Hid (Row w b c.cells) := h
  have c6 := h.at_ 6 _ rfl
  have c7 := h.at_ 7 _ rfl
  have c15 := h.at_ 15 _ rfl
  clear h
  have hf := H.out.fz
  have had := ok.ad
  rw [e] at c6
  have HE : Hid (c.clk v = (c.sl v c.hi).rd (jn ((c.ad % 256 + 1) % 256) (c.ad / 256)) 17) := by show _ = _; unfold Cp.clk; rw [e]; rfl
  have had := ok.ad
  obtain ⟨X, hX⟩ : ∃ X, (c.ad % 256 + 1) % 256 = X := ⟨_, rfl⟩
  obtain ⟨Y, hY⟩ : ∃ Y, c.ad / 256 = Y := ⟨_, rfl⟩
  have hX2 : X < 256 := by omega
  have hY2 : Y < 256 := by omega
  have HXI : Hid (((c.ad : Int) + 1) % 256 = (X : Int)) := by show _ = _; omega
  have HYI : Hid ((c.ad : Int) / 256 = (Y : Int)) := by show _ = _; omega
  rw [hX, hY] at HE
  clear hX hY
  obtain ⟨J, hJ⟩ : ∃ J, jn X Y = J := ⟨_, rfl⟩
  have HJ : Hid (∀ w, Calls Tryd.prog 61 #[.int .u8 (X : Int), .int .u16 (Y : Int)] w fun e w' => e = .returned (.int .u16 (J : Int)) ∧ w' = w) := fun w => hJ ▸ join16 X Y w hX2 hY2
  rw [hJ] at HE
  clear hJ
  go_enter Tryd.func38, Tryd.ntmps38
  go_wp2_with (go_at_call 61; fail)
  rw [HXI.out, HYI.out]
  refine (HJ.out _).mono ?_
  rintro e w' ⟨rfl, rfl⟩
  go_wp2_with (go_at_call 48; refine (read b J 17 (c.sl v c.hi) _ ((H.out.put 15 _).to rfl)).mono ?_; rintro e w1 ⟨rfl, h1, t1⟩)
  go_returns
  exact ⟨rfl, by rw [HE.out]; exact h1, (Turn.set (Turn.refl b _) _ _).trans t1⟩

end Go.Proofs.YtelmohajdmcnmaaDoor.Mi

/- A cycle's end, step 17. -/
namespace Go.Proofs.YtelmohajdmcnmaaDoor.Mi
open Go.RowKit Alu Ex
set_option linter.unusedVariables false


set_option maxRecDepth 100000 in
set_option maxHeartbeats 8000000 in
theorem endPlace_17 (b v : Nat) (c : Cp) (w : World) (h : Row w b c.cells) (ok : c.ok) (hv : v < 256) (e : c.st = 17) : Calls Tryd.prog 38 #[.pointer (some ⟨b, 0, none⟩), .int .u8 (v : Int)] w fun e w' => e = .returned (.tuple #[]) ∧ Row w' b (c.clk v).cells ∧ Turn b w w' := by
  have H : Hid (Row w b c.cells) := h
  have c6 := h.at_ 6 _ rfl
  have c16 := h.at_ 16 _ rfl
  clear h
  have hf := H.out.fz
  rw [e] at c6
  have HE : Hid (c.clk v = (c.sl c.lo v).rc) := by show _ = _; unfold Cp.clk; rw [e]; rfl
  go_enter Tryd.func38, Tryd.ntmps38
  go_wp2_with (first | (go_at_call 62; refine (reach b (c.sl c.lo v) _ ((H.out.put 16 _).to rfl) ⟨ok.r, ok.st, ok.ad, ok.da, ok.op, ok.md, ok.kd0, ok.kd1, ok.lo, hv, ok.rb⟩).mono ?_; rintro e w1 ⟨rfl, h1, t1⟩))
  go_returns
  exact ⟨rfl, by rw [HE.out]; exact h1, (Turn.set (Turn.refl b _) _ _).trans t1⟩

end Go.Proofs.YtelmohajdmcnmaaDoor.Mi

/- A cycle's end, step 18. -/
namespace Go.Proofs.YtelmohajdmcnmaaDoor.Mi
open Go.RowKit Alu Ex
set_option linter.unusedVariables false


set_option maxRecDepth 100000 in
set_option maxHeartbeats 8000000 in
theorem endPlace_18 (b v : Nat) (c : Cp) (w : World) (h : Row w b c.cells) (ok : c.ok) (hv : v < 256) (e : c.st = 18) : Calls Tryd.prog 38 #[.pointer (some ⟨b, 0, none⟩), .int .u8 (v : Int)] w fun e w' => e = .returned (.tuple #[]) ∧ Row w' b (c.clk v).cells ∧ Turn b w w' := by
  have H : Hid (Row w b c.cells) := h
  have c6 := h.at_ 6 _ rfl
  have c15 := h.at_ 15 _ rfl
  have c16 := h.at_ 16 _ rfl
  clear h
  have hf := H.out.fz
  have hpc := ok.r.pc
  have hs := ok.r.s
  have had := ok.ad
  have hix := ix_lt c ok
  have hlo := ok.lo
  have hhi := ok.hi
  have hj := jn_lt hlo hhi
  have HLC : Hid ((((jn c.lo c.hi : Nat) : Int) + (c.ix : Int)) % 65536 = (((jn c.lo c.hi + c.ix) % 65536 : Nat) : Int)) := by show _ = _; omega
  have HLV : Hid (IntKind.u16.wrap (((jn c.lo c.hi : Nat) : Int) + IntKind.u16.wrap (c.ix : Int)) = (((jn c.lo c.hi + c.ix) % 65536 : Nat) : Int)) := by show _ = _; rw [IntKind.wrap_u16, IntKind.wrap_u16]; omega
  have HLW : Hid (IntKind.u16.wrap (((jn c.lo c.hi : Nat) : Int) + (c.ix : Int)) = (((jn c.lo c.hi + c.ix) % 65536 : Nat) : Int)) := by show _ = _; rw [IntKind.wrap_u16]; omega
  rw [e] at c6
  have HE : Hid (c.clk v = c.ac ((jn c.lo c.hi + c.ix) % 65536)) := by show _ = _; unfold Cp.clk; rw [e]; rfl
  go_enter Tryd.func38, Tryd.ntmps38
  go_wp2
  go_region_with (first
    | (go_at_call 60; refine (index b c _ H.out.drew ok.md).mono ?_; rintro e w' ⟨rfl, rfl⟩)
    | (go_at_call 53; refine (join8 c.lo c.hi _ hlo hhi).mono ?_; rintro e w' ⟨rfl, rfl⟩)
    | (go_at_call 59; (first | rw [HLC.out] | rw [HLW.out] | rw [HLV.out]); refine (access b ((jn c.lo c.hi + c.ix) % 65536) c _ H.out.drew ok (Nat.mod_lt _ (by decide))).mono ?_; rintro e w1 ⟨rfl, h1, t1⟩))
  all_goals go_wp2
  all_goals go_returns
  all_goals exact ⟨rfl, by rw [HE.out]; exact h1, (Turn.draws (Turn.refl b _) 1).trans t1⟩

end Go.Proofs.YtelmohajdmcnmaaDoor.Mi

/- A cycle's end, step 19. -/
namespace Go.Proofs.YtelmohajdmcnmaaDoor.Mi
open Go.RowKit Alu Ex
set_option linter.unusedVariables false


set_option maxRecDepth 100000 in
set_option maxHeartbeats 8000000 in
theorem endPlace_19 (b v : Nat) (c : Cp) (w : World) (h : Row w b c.cells) (ok : c.ok) (hv : v < 256) (e : c.st = 19) : Calls Tryd.prog 38 #[.pointer (some ⟨b, 0, none⟩), .int .u8 (v : Int)] w fun e w' => e = .returned (.tuple #[]) ∧ Row w' b (c.clk v).cells ∧ Turn b w w' := by
  have H : Hid (Row w b c.cells) := h
  have c0 := h.at_ 0 _ rfl
  have c1 := h.at_ 1 _ rfl
  have c2 := h.at_ 2 _ rfl
  have c3 := h.at_ 3 _ rfl
  have c4 := h.at_ 4 _ rfl
  have c5 := h.at_ 5 _ rfl
  have c6 := h.at_ 6 _ rfl
  have c11 := h.at_ 11 _ rfl
  clear h
  have hf := H.out.fz
  have RD : Hid (∀ w : World, Calls Tryd.prog 27 #[.string c.nm, .agg #[.int .u8 (c.r.a : Int), .int .u8 (c.r.x : Int), .int .u8 (c.r.y : Int), .int .u8 (c.r.s : Int), .int .u8 (c.r.p : Int), .int .u16 (c.r.pc : Int)], .int .u8 (v : Int)] w fun e w' => e = .returned (.agg #[.int .u8 ((Ex.rd c.nm.toList c.r v).a : Int), .int .u8 ((Ex.rd c.nm.toList c.r v).x : Int), .int .u8 ((Ex.rd c.nm.toList c.r v).y : Int), .int .u8 ((Ex.rd c.nm.toList c.r v).s : Int), .int .u8 ((Ex.rd c.nm.toList c.r v).p : Int), .int .u16 ((Ex.rd c.nm.toList c.r v).pc : Int)]) ∧ Below w.heap.size w w') := fun w => Ex.Read c.nm v c.r hv w ok.r
  rw [e] at c6
  have HE : Hid (c.clk v = c.fi (Ex.rd c.nm.toList c.r v)) := by show _ = _; unfold Cp.clk; rw [e]; rfl
  go_enter Tryd.func38, Tryd.ntmps38
  generalize Ex.rd c.nm.toList c.r v = q at RD HE
  go_wp2
  go_region_with (first
    | (go_at_call 27; refine (RD.out _).mono ?_; rintro e w1 ⟨rfl, hB1⟩; have HR1 : Hid (Row w1 b c.cells) := H.out.drew.below c.pos hB1; have hT1 : Hid (Turn b _ w1) := (Turn.draws (Turn.refl b _) 1).trans (Turn.of_below hB1))
    | (go_at_call 63; refine (finish b c q _ HR1.out).mono ?_; rintro e w2 ⟨rfl, h2, t2⟩))
  all_goals go_wp2
  all_goals go_returns
  all_goals exact ⟨rfl, by rw [HE.out]; exact h2, hT1.out.trans t2⟩

end Go.Proofs.YtelmohajdmcnmaaDoor.Mi

/- A cycle's end, step 20. -/
namespace Go.Proofs.YtelmohajdmcnmaaDoor.Mi
open Go.RowKit Alu Ex
set_option linter.unusedVariables false


set_option maxRecDepth 100000 in
set_option maxHeartbeats 8000000 in
theorem endPlace_20 (b v : Nat) (c : Cp) (w : World) (h : Row w b c.cells) (ok : c.ok) (hv : v < 256) (e : c.st = 20) : Calls Tryd.prog 38 #[.pointer (some ⟨b, 0, none⟩), .int .u8 (v : Int)] w fun e w' => e = .returned (.tuple #[]) ∧ Row w' b (c.clk v).cells ∧ Turn b w w' := by
  have H : Hid (Row w b c.cells) := h
  have c6 := h.at_ 6 _ rfl
  have c7 := h.at_ 7 _ rfl
  clear h
  have hf := H.out.fz
  rw [e] at c6
  have HE : Hid (c.clk v = c.wt c.ad v 21) := by show _ = _; unfold Cp.clk; rw [e]; rfl
  go_enter Tryd.func38, Tryd.ntmps38
  go_wp2_with (first | (go_at_call 64; refine (write b c.ad v 21 c _ H.out).mono ?_; rintro e w1 ⟨rfl, h1, t1⟩))
  go_returns
  exact ⟨rfl, by rw [HE.out]; exact h1, t1⟩

end Go.Proofs.YtelmohajdmcnmaaDoor.Mi

/- A cycle's end, step 21. -/
namespace Go.Proofs.YtelmohajdmcnmaaDoor.Mi
open Go.RowKit Alu Ex
set_option linter.unusedVariables false


set_option maxRecDepth 100000 in
set_option maxHeartbeats 8000000 in
theorem endPlace_21 (b v : Nat) (c : Cp) (w : World) (h : Row w b c.cells) (ok : c.ok) (hv : v < 256) (e : c.st = 21) : Calls Tryd.prog 38 #[.pointer (some ⟨b, 0, none⟩), .int .u8 (v : Int)] w fun e w' => e = .returned (.tuple #[]) ∧ Row w' b (c.clk v).cells ∧ Turn b w w' := by
  have H : Hid (Row w b c.cells) := h
  have c0 := h.at_ 0 _ rfl
  have c1 := h.at_ 1 _ rfl
  have c2 := h.at_ 2 _ rfl
  have c3 := h.at_ 3 _ rfl
  have c4 := h.at_ 4 _ rfl
  have c5 := h.at_ 5 _ rfl
  have c6 := h.at_ 6 _ rfl
  have c7 := h.at_ 7 _ rfl
  have c9 := h.at_ 9 _ rfl
  have c11 := h.at_ 11 _ rfl
  have c16 := h.at_ 16 _ rfl
  clear h
  have hf := H.out.fz
  have TU : Hid (∀ w : World, Calls Tryd.prog 30 #[.string c.nm, .agg #[.int .u8 (c.r.a : Int), .int .u8 (c.r.x : Int), .int .u8 (c.r.y : Int), .int .u8 (c.r.s : Int), .int .u8 (c.r.p : Int), .int .u16 (c.r.pc : Int)], .int .u8 (c.da : Int)] w fun e w' => e = .returned (.tuple #[.int .u8 ((tuV c.nm.toList c.r c.da : Nat) : Int), .agg #[.int .u8 ((tuR c.nm.toList c.r c.da).a : Int), .int .u8 ((tuR c.nm.toList c.r c.da).x : Int), .int .u8 ((tuR c.nm.toList c.r c.da).y : Int), .int .u8 ((tuR c.nm.toList c.r c.da).s : Int), .int .u8 ((tuR c.nm.toList c.r c.da).p : Int), .int .u16 ((tuR c.nm.toList c.r c.da).pc : Int)]]) ∧ Below w.heap.size w w') := fun w => Ex.TurnX c.nm c.da c.r ok.da w ok.r
  rw [e] at c6
  have HE : Hid (c.clk v = Cp.wt { c with rb := tuR c.nm.toList c.r c.da } c.ad (tuV c.nm.toList c.r c.da) 22) := by show _ = _; unfold Cp.clk; rw [e]; rfl
  go_enter Tryd.func38, Tryd.ntmps38
  generalize tuV c.nm.toList c.r c.da = x at TU HE
  generalize tuR c.nm.toList c.r c.da = q at TU HE
  have HD : Hid (∀ X : Obj, Row (w.alloc X) b c.cells) := fun X => H.out.alloc c.pos X
  have hlt : b < w.heap.size := H.out.lt c.pos
  go_wp2_with (fail)
  go_cut [5, 6] (fun s1 s2 wc => ∃ g, s1 = .int .u8 (x : Int) ∧ s2 = .pointer (some ⟨g, 0, none⟩) ∧ Row wc g (rL q) ∧ Row wc b c.cells ∧ Below w.heap.size w wc ∧ w.heap.size ≤ g)
  case first =>
    rename_i hJ hK
    go_region_held3 (fun w' => w'.cell? ⟨b, 0, none⟩ = some (.int .u8 (c.r.a : Int)) ∧ w'.cell? ⟨b, 1, none⟩ = some (.int .u8 (c.r.x : Int)) ∧ w'.cell? ⟨b, 2, none⟩ = some (.int .u8 (c.r.y : Int)) ∧ w'.cell? ⟨b, 3, none⟩ = some (.int .u8 (c.r.s : Int)) ∧ w'.cell? ⟨b, 4, none⟩ = some (.int .u8 (c.r.p : Int)) ∧ w'.cell? ⟨b, 5, none⟩ = some (.int .u16 (c.r.pc : Int)) ∧ w'.cell? ⟨b, 11, none⟩ = some (.string c.nm) ∧ w'.cell? ⟨b, 9, none⟩ = some (.int .u8 (c.da : Int))) (exact sOf9 (by repeat (first | with_reducible exact H.out | with_reducible exact HR1.out | with_reducible refine Row.drew ?_ | with_reducible refine Row.alloc ?_ c.pos _ | with_reducible refine Row.far ?_ (by omega)))) (first
      | (go_at_call 30; refine (TU.out _).mono ?_; rintro e w1 ⟨rfl, hB1⟩; have HB1 : Hid (Below _ _ w1) := hB1; have HR1 : Hid (Row w1 b c.cells) := (by show Row w1 b c.cells; first | with_reducible exact H.out.drew.below c.pos hB1 | with_reducible exact H.out.below c.pos hB1 | with_reducible exact (H.out.alloc c.pos _).drew.below c.pos hB1 | with_reducible exact (H.out.alloc c.pos _).below c.pos hB1 | with_reducible exact (H.out.drew.alloc c.pos _).below c.pos hB1 | fail); have hz1 : w.heap.size ≤ w1.heap.size := (by have := hB1.size; simp at this; omega); (try (have HZ : Row w1 w.heap.size zL := (by first | with_reducible exact (newZ _ rfl).drew.below zpos hB1 | with_reducible exact (newZ _ rfl).below zpos hB1 | fail); have z0 := HZ.at_ 0 _ rfl; have z1 := HZ.at_ 1 _ rfl; have z2 := HZ.at_ 2 _ rfl; have z3 := HZ.at_ 3 _ rfl; have z4 := HZ.at_ 4 _ rfl; have z5 := HZ.at_ 5 _ rfl; have zf := HZ.fz))))
    all_goals (refine hK _ _ (Met.intro (hJ _ _ ?_)); (repeat apply Exists.intro); refine ⟨?_, rfl⟩)
    · exact ⟨_, rfl, rfl, Row.new w1 _ _, HR1.out.alloc c.pos _, ((below_drewN (Below.refl _ w) 1).trans hB1).alloc hz1 _, hz1⟩
    · refine ⟨_, rfl, rfl, ((((((HZ.put 0 _).put 1 _).put 2 _).put 3 _).put 4 _).put 5 _).to rfl, ?_, ?_, Nat.le_refl _⟩
      · repeat (first | with_reducible exact HR1.out | with_reducible refine Row.far ?_ (by omega))
      · have hB : Below w.heap.size w w1 := (below_drewN ((Below.refl _ w).alloc (Nat.le_refl _) _) 1).trans (hB1.mono (by simp))
        repeat (first | with_reducible exact hB | with_reducible refine below_set ?_ (by omega))
  case rest =>
    obtain ⟨g, rfl, rfl, hQ, hA, hBw, hg⟩ := hcut
    have HA : Hid (Row wc b c.cells) := hA
    have HQ : Hid (Row wc g (rL q)) := hQ
    have HT : Hid (Turn b w wc) := Turn.of_below hBw
    have hbg : ¬ b = g := by omega
    have q0 := hQ.at_ 0 _ rfl
    have q1 := hQ.at_ 1 _ rfl
    have q2 := hQ.at_ 2 _ rfl
    have q3 := hQ.at_ 3 _ rfl
    have q4 := hQ.at_ 4 _ rfl
    have q5 := hQ.at_ 5 _ rfl
    have a7 := hA.at_ 7 _ rfl
    have a17 := hA.at_ 17 _ rfl
    have a18 := hA.at_ 18 _ rfl
    have a19 := hA.at_ 19 _ rfl
    have a20 := hA.at_ 20 _ rfl
    have a21 := hA.at_ 21 _ rfl
    have a22 := hA.at_ 22 _ rfl
    have af := hA.fz
    clear hQ hA hBw c0 c1 c2 c3 c4 c5 c6 c7 c9 c11 c16 hf
    go_wp2_with (go_at_call 64; refine (write b c.ad x 22 ({ c with rb := q } : Cp) _ (((((((HA.out.put 17 _).put 18 _).put 19 _).put 20 _).put 21 _).put 22 _).to rfl)).mono ?_; rintro e w2 ⟨rfl, h2, t2⟩)
    go_returns
    exact ⟨rfl, by rw [HE.out]; exact h2, (Turn.set (Turn.set (Turn.set (Turn.set (Turn.set (Turn.set HT.out _ _) _ _) _ _) _ _) _ _) _ _).trans t2⟩

end Go.Proofs.YtelmohajdmcnmaaDoor.Mi

/- A cycle's end, step 22. -/
namespace Go.Proofs.YtelmohajdmcnmaaDoor.Mi
open Go.RowKit Alu Ex
set_option linter.unusedVariables false


set_option maxRecDepth 100000 in
set_option maxHeartbeats 8000000 in
theorem endPlace_22 (b v : Nat) (c : Cp) (w : World) (h : Row w b c.cells) (ok : c.ok) (hv : v < 256) (e : c.st = 22) : Calls Tryd.prog 38 #[.pointer (some ⟨b, 0, none⟩), .int .u8 (v : Int)] w fun e w' => e = .returned (.tuple #[]) ∧ Row w' b (c.clk v).cells ∧ Turn b w w' := by
  have H : Hid (Row w b c.cells) := h
  have c6 := h.at_ 6 _ rfl
  have c17 := h.at_ 17 _ rfl
  have c18 := h.at_ 18 _ rfl
  have c19 := h.at_ 19 _ rfl
  have c20 := h.at_ 20 _ rfl
  have c21 := h.at_ 21 _ rfl
  have c22 := h.at_ 22 _ rfl
  clear h
  have hf := H.out.fz
  rw [e] at c6
  have HE : Hid (c.clk v = c.fi c.rb) := by show _ = _; unfold Cp.clk; rw [e]; rfl
  go_enter Tryd.func38, Tryd.ntmps38
  go_wp2_with (first | (go_at_call 63; refine (finish b c c.rb _ H.out).mono ?_; rintro e w1 ⟨rfl, h1, t1⟩))
  go_returns
  exact ⟨rfl, by rw [HE.out]; exact h1, t1⟩

end Go.Proofs.YtelmohajdmcnmaaDoor.Mi

/- A cycle's end: the stack. -/
namespace Go.Proofs.YtelmohajdmcnmaaDoor.Mi
open Go.RowKit Alu Ex
set_option linter.unusedVariables false

set_option maxRecDepth 100000 in
set_option maxHeartbeats 8000000 in
theorem endStack_23 (b v : Nat) (c : Cp) (w : World) (h : Row w b c.cells) (ok : c.ok) (hv : v < 256) (e : c.st = 23) : Calls Tryd.prog 39 #[.pointer (some ⟨b, 0, none⟩), .int .u8 (v : Int)] w fun e w' => e = .returned (.tuple #[]) ∧ Row w' b (c.clk v).cells ∧ Turn b w w' := by
  have H : Hid (Row w b c.cells) := h
  have c6 := h.at_ 6 _ rfl
  clear h
  have hf := H.out.fz
  rw [e] at c6
  have HE : Hid (c.clk v = c.pk) := by show _ = _; unfold Cp.clk; rw [e]; rfl
  go_enter Tryd.func39, Tryd.ntmps39
  go_wp2_with (first | (go_at_call 65; refine (endPeeking b c _ H.out ok).mono ?_; rintro e w1 ⟨rfl, h1, t1⟩))
  go_returns
  exact ⟨rfl, by rw [HE.out]; exact h1, t1⟩

set_option maxRecDepth 100000 in
set_option maxHeartbeats 8000000 in
theorem endStack_24 (b v : Nat) (c : Cp) (w : World) (h : Row w b c.cells) (ok : c.ok) (hv : v < 256) (e : c.st = 24) : Calls Tryd.prog 39 #[.pointer (some ⟨b, 0, none⟩), .int .u8 (v : Int)] w fun e w' => e = .returned (.tuple #[]) ∧ Row w' b (c.clk v).cells ∧ Turn b w w' := by
  have H : Hid (Row w b c.cells) := h
  have c3 := h.at_ 3 _ rfl
  have c6 := h.at_ 6 _ rfl
  clear h
  have hf := H.out.fz
  have hs := ok.r.s
  have HDC : Hid (((c.r.s : Int) - 1) % 256 = (((c.r.s + 255) % 256 : Nat) : Int)) := dn8 _ hs
  have HDW : Hid (IntKind.u8.wrap ((c.r.s : Int) - 1) = (((c.r.s + 255) % 256 : Nat) : Int)) := dn8w _ hs
  rw [e] at c6
  have HE : Hid (c.clk v = (c.sr c.r.dn).ft) := by show _ = _; unfold Cp.clk; rw [e]; rfl
  go_enter Tryd.func39, Tryd.ntmps39
  go_wp2_with (first | (go_at_call 36; (first | rw [HDC.out] | rw [HDW.out]); refine (fetch b (c.sr c.r.dn) _ ((H.out.put 3 _).to rfl)).mono ?_; rintro e w1 ⟨rfl, h1, t1⟩))
  go_returns
  exact ⟨rfl, by rw [HE.out]; exact h1, (Turn.set (Turn.refl b _) _ _).trans t1⟩

set_option maxRecDepth 100000 in
set_option maxHeartbeats 8000000 in
theorem endStack_25 (b v : Nat) (c : Cp) (w : World) (h : Row w b c.cells) (ok : c.ok) (hv : v < 256) (e : c.st = 25) : Calls Tryd.prog 39 #[.pointer (some ⟨b, 0, none⟩), .int .u8 (v : Int)] w fun e w' => e = .returned (.tuple #[]) ∧ Row w' b (c.clk v).cells ∧ Turn b w w' := by
  have H : Hid (Row w b c.cells) := h
  have c3 := h.at_ 3 _ rfl
  have c5 := h.at_ 5 _ rfl
  have c6 := h.at_ 6 _ rfl
  clear h
  have hf := H.out.fz
  have hs := ok.r.s
  have HDC : Hid (((c.r.s : Int) - 1) % 256 = (((c.r.s + 255) % 256 : Nat) : Int)) := dn8 _ hs
  have HDW : Hid (IntKind.u8.wrap ((c.r.s : Int) - 1) = (((c.r.s + 255) % 256 : Nat) : Int)) := dn8w _ hs
  have HPM : Hid ((c.r.pc : Int) % 256 = ((c.r.pc % 256 : Nat) : Int)) := by show _ = _; omega
  rw [e] at c6
  have HE : Hid (c.clk v = (c.sr c.r.dn).ph (c.r.pc % 256) 26) := by show _ = _; unfold Cp.clk; rw [e]; rfl
  go_enter Tryd.func39, Tryd.ntmps39
  go_wp2_with (first | (go_at_call 66; (first | rw [HDC.out] | rw [HDW.out]); (first | rw [HPM.out] | rw [HPM.out]); refine (push b (c.r.pc % 256) 26 (c.sr c.r.dn) _ ((H.out.put 3 _).to rfl) (dn_lt _)).mono ?_; rintro e w1 ⟨rfl, h1, t1⟩))
  go_returns
  exact ⟨rfl, by rw [HE.out]; exact h1, (Turn.set (Turn.refl b _) _ _).trans t1⟩

set_option maxRecDepth 100000 in
set_option maxHeartbeats 8000000 in
theorem endStack_26 (b v : Nat) (c : Cp) (w : World) (h : Row w b c.cells) (ok : c.ok) (hv : v < 256) (e : c.st = 26) : Calls Tryd.prog 39 #[.pointer (some ⟨b, 0, none⟩), .int .u8 (v : Int)] w fun e w' => e = .returned (.tuple #[]) ∧ Row w' b (c.clk v).cells ∧ Turn b w w' := by
  have H : Hid (Row w b c.cells) := h
  have c3 := h.at_ 3 _ rfl
  have c4 := h.at_ 4 _ rfl
  have c5 := h.at_ 5 _ rfl
  have c6 := h.at_ 6 _ rfl
  have c13 := h.at_ 13 _ rfl
  clear h
  have hf := H.out.fz
  have hs := ok.r.s
  have hp := ok.r.p
  have HDC : Hid (((c.r.s : Int) - 1) % 256 = (((c.r.s + 255) % 256 : Nat) : Int)) := dn8 _ hs
  have HDW : Hid (IntKind.u8.wrap ((c.r.s : Int) - 1) = (((c.r.s + 255) % 256 : Nat) : Int)) := dn8w _ hs
  have HO16 : Hid (bits .or .u8 (c.r.p : Int) 16 = ((W c.r.p 16 true : Nat) : Int)) := or16 _ hp
  rw [e] at c6
  have HE : Hid (c.clk v = (if c.kd = 8 then (c.sr c.r.dn).rd c.r.pc 28 else (c.sr c.r.dn).ph (W c.r.p 16 true) 27)) := by show _ = _; unfold Cp.clk; rw [e]; rfl
  by_cases hk : c.kd = 8
  · have HE2 : Hid (c.clk v = (c.sr c.r.dn).rd c.r.pc 28) := by show _ = _; rw [HE.out, if_pos hk]
    rw [hk] at c13
    go_enter Tryd.func39, Tryd.ntmps39
    go_wp2_with (first | (go_at_call 48; (first | rw [HDC.out] | rw [HDW.out]); refine (read b c.r.pc 28 (c.sr c.r.dn) _ ((H.out.put 3 _).to rfl)).mono ?_; rintro e w1 ⟨rfl, h1, t1⟩))
    go_returns
    exact ⟨rfl, by rw [HE2.out]; exact h1, (Turn.set (Turn.refl b _) _ _).trans t1⟩
  · have HE2 : Hid (c.clk v = (c.sr c.r.dn).ph (W c.r.p 16 true) 27) := by show _ = _; rw [HE.out, if_neg hk]
    have hkb : (c.kd == (8 : Int)) = false := by simpa using hk
    go_enter Tryd.func39, Tryd.ntmps39
    go_wp2_with (first | (go_at_call 66; (first | rw [HDC.out] | rw [HDW.out]); (first | rw [HO16.out] | rw [HO16.out]); refine (push b (W c.r.p 16 true) 27 (c.sr c.r.dn) _ ((H.out.put 3 _).to rfl) (dn_lt _)).mono ?_; rintro e w1 ⟨rfl, h1, t1⟩))
    go_returns
    exact ⟨rfl, by rw [HE2.out]; exact h1, (Turn.set (Turn.refl b _) _ _).trans t1⟩

set_option maxRecDepth 100000 in
set_option maxHeartbeats 8000000 in
theorem endStack_27 (b v : Nat) (c : Cp) (w : World) (h : Row w b c.cells) (ok : c.ok) (hv : v < 256) (e : c.st = 27) : Calls Tryd.prog 39 #[.pointer (some ⟨b, 0, none⟩), .int .u8 (v : Int)] w fun e w' => e = .returned (.tuple #[]) ∧ Row w' b (c.clk v).cells ∧ Turn b w w' := by
  have H : Hid (Row w b c.cells) := h
  have c3 := h.at_ 3 _ rfl
  have c6 := h.at_ 6 _ rfl
  clear h
  have hf := H.out.fz
  have hs := ok.r.s
  have HDC : Hid (((c.r.s : Int) - 1) % 256 = (((c.r.s + 255) % 256 : Nat) : Int)) := dn8 _ hs
  have HDW : Hid (IntKind.u8.wrap ((c.r.s : Int) - 1) = (((c.r.s + 255) % 256 : Nat) : Int)) := dn8w _ hs
  rw [e] at c6
  have HE : Hid (c.clk v = (c.sr c.r.dn).rd 65534 5) := by show _ = _; unfold Cp.clk; rw [e]; rfl
  go_enter Tryd.func39, Tryd.ntmps39
  go_wp2_with (first | (go_at_call 48; (first | rw [HDC.out] | rw [HDW.out]); refine (read b 65534 5 (c.sr c.r.dn) _ ((H.out.put 3 _).to rfl)).mono ?_; rintro e w1 ⟨rfl, h1, t1⟩))
  go_returns
  exact ⟨rfl, by rw [HE.out]; exact h1, (Turn.set (Turn.refl b _) _ _).trans t1⟩

set_option maxRecDepth 100000 in
set_option maxHeartbeats 8000000 in
theorem endStack_28 (b v : Nat) (c : Cp) (w : World) (h : Row w b c.cells) (ok : c.ok) (hv : v < 256) (e : c.st = 28) : Calls Tryd.prog 39 #[.pointer (some ⟨b, 0, none⟩), .int .u8 (v : Int)] w fun e w' => e = .returned (.tuple #[]) ∧ Row w' b (c.clk v).cells ∧ Turn b w w' := by
  have H : Hid (Row w b c.cells) := h
  have c6 := h.at_ 6 _ rfl
  have c15 := h.at_ 15 _ rfl
  clear h
  have hf := H.out.fz
  rw [e] at c6
  have HE : Hid (c.clk v = c.jp (jn c.lo v)) := by show _ = _; unfold Cp.clk; rw [e]; rfl
  go_enter Tryd.func39, Tryd.ntmps39
  go_wp2_with (first | (go_at_call 53; refine (join8 c.lo v _ ok.lo hv).mono ?_; rintro e w' ⟨rfl, rfl⟩) | (go_at_call 52; refine (jump b (jn c.lo v) c _ H.out).mono ?_; rintro e w1 ⟨rfl, h1, t1⟩))
  go_returns
  exact ⟨rfl, by rw [HE.out]; exact h1, t1⟩

set_option maxRecDepth 100000 in
set_option maxHeartbeats 8000000 in
theorem endStack_29 (b v : Nat) (c : Cp) (w : World) (h : Row w b c.cells) (ok : c.ok) (hv : v < 256) (e : c.st = 29) : Calls Tryd.prog 39 #[.pointer (some ⟨b, 0, none⟩), .int .u8 (v : Int)] w fun e w' => e = .returned (.tuple #[]) ∧ Row w' b (c.clk v).cells ∧ Turn b w w' := by
  have H : Hid (Row w b c.cells) := h
  have c3 := h.at_ 3 _ rfl
  have c6 := h.at_ 6 _ rfl
  clear h
  have hf := H.out.fz
  have hs := ok.r.s
  have HUC : Hid (((c.r.s : Int) + 1) % 256 = (((c.r.s + 1) % 256 : Nat) : Int)) := up8 _ hs
  have HUW : Hid (IntKind.u8.wrap ((c.r.s : Int) + 1) = (((c.r.s + 1) % 256 : Nat) : Int)) := up8w _ hs
  rw [e] at c6
  have HE : Hid (c.clk v = (c.sr c.r.up).ur v) := by show _ = _; unfold Cp.clk; rw [e]; rfl
  go_enter Tryd.func39, Tryd.ntmps39
  go_wp2_with (first | (go_at_call 67; (first | rw [HUC.out] | rw [HUW.out]); refine (pullRegister b v (c.sr c.r.up) _ ((H.out.put 3 _).to rfl) ⟨⟨ok.r.a, ok.r.x, ok.r.y, up_lt c.r, ok.r.p, ok.r.pc⟩, ok.st, ok.ad, ok.da, ok.op, ok.md, ok.kd0, ok.kd1, ok.lo, ok.hi, ok.rb⟩ hv).mono ?_; rintro e w1 ⟨rfl, h1, t1⟩))
  go_returns
  exact ⟨rfl, by rw [HE.out]; exact h1, (Turn.set (Turn.refl b _) _ _).trans t1⟩

set_option maxRecDepth 100000 in
set_option maxHeartbeats 8000000 in
theorem endStack_30 (b v : Nat) (c : Cp) (w : World) (h : Row w b c.cells) (ok : c.ok) (hv : v < 256) (e : c.st = 30) : Calls Tryd.prog 39 #[.pointer (some ⟨b, 0, none⟩), .int .u8 (v : Int)] w fun e w' => e = .returned (.tuple #[]) ∧ Row w' b (c.clk v).cells ∧ Turn b w w' := by
  have H : Hid (Row w b c.cells) := h
  have c3 := h.at_ 3 _ rfl
  have c4 := h.at_ 4 _ rfl
  have c6 := h.at_ 6 _ rfl
  clear h
  have hf := H.out.fz
  have hs := ok.r.s
  have HUC : Hid (((c.r.s : Int) + 1) % 256 = (((c.r.s + 1) % 256 : Nat) : Int)) := up8 _ hs
  have HUW : Hid (IntKind.u8.wrap ((c.r.s : Int) + 1) = (((c.r.s + 1) % 256 : Nat) : Int)) := up8w _ hs
  have HCF : Hid (∀ w : World, Calls Tryd.prog 50 #[.int .u8 (v : Int)] w fun e w' => e = .returned (.int .u8 ((clF v : Nat) : Int)) ∧ w' = w) := fun w => cleanFlags v w hv
  rw [e] at c6
  have HE : Hid (c.clk v = (c.sr (c.r.up.fl (clF v))).pl 31) := by show _ = _; unfold Cp.clk; rw [e]; rfl
  go_enter Tryd.func39, Tryd.ntmps39
  go_wp2_with (first | (go_at_call 50; refine (HCF.out _).mono ?_; rintro e w' ⟨rfl, rfl⟩) | (go_at_call 68; (first | rw [HUC.out] | rw [HUW.out]); refine (pull b 31 (c.sr (c.r.up.fl (clF v))) _ (((H.out.put 3 _).put 4 _).to rfl) (up_lt c.r)).mono ?_; rintro e w1 ⟨rfl, h1, t1⟩))
  go_returns
  exact ⟨rfl, by rw [HE.out]; exact h1, (Turn.set (Turn.set (Turn.refl b _) _ _) _ _).trans t1⟩

set_option maxRecDepth 100000 in
set_option maxHeartbeats 8000000 in
theorem endStack_31 (b v : Nat) (c : Cp) (w : World) (h : Row w b c.cells) (ok : c.ok) (hv : v < 256) (e : c.st = 31) : Calls Tryd.prog 39 #[.pointer (some ⟨b, 0, none⟩), .int .u8 (v : Int)] w fun e w' => e = .returned (.tuple #[]) ∧ Row w' b (c.clk v).cells ∧ Turn b w w' := by
  have H : Hid (Row w b c.cells) := h
  have c3 := h.at_ 3 _ rfl
  have c6 := h.at_ 6 _ rfl
  have c15 := h.at_ 15 _ rfl
  clear h
  have hf := H.out.fz
  have hs := ok.r.s
  have HUC : Hid (((c.r.s : Int) + 1) % 256 = (((c.r.s + 1) % 256 : Nat) : Int)) := up8 _ hs
  have HUW : Hid (IntKind.u8.wrap ((c.r.s : Int) + 1) = (((c.r.s + 1) % 256 : Nat) : Int)) := up8w _ hs
  rw [e] at c6
  have HE : Hid (c.clk v = ((c.sr c.r.up).sl v c.hi).pl 32) := by show _ = _; unfold Cp.clk; rw [e]; rfl
  go_enter Tryd.func39, Tryd.ntmps39
  go_wp2_with (first | (go_at_call 68; (first | rw [HUC.out] | rw [HUW.out]); refine (pull b 32 ((c.sr c.r.up).sl v c.hi) _ (((H.out.put 3 _).put 15 _).to rfl) (up_lt c.r)).mono ?_; rintro e w1 ⟨rfl, h1, t1⟩))
  go_returns
  exact ⟨rfl, by rw [HE.out]; exact h1, (Turn.set (Turn.set (Turn.refl b _) _ _) _ _).trans t1⟩

set_option maxRecDepth 100000 in
set_option maxHeartbeats 8000000 in
theorem endStack_32 (b v : Nat) (c : Cp) (w : World) (h : Row w b c.cells) (ok : c.ok) (hv : v < 256) (e : c.st = 32) : Calls Tryd.prog 39 #[.pointer (some ⟨b, 0, none⟩), .int .u8 (v : Int)] w fun e w' => e = .returned (.tuple #[]) ∧ Row w' b (c.clk v).cells ∧ Turn b w w' := by
  have H : Hid (Row w b c.cells) := h
  have c3 := h.at_ 3 _ rfl
  have c6 := h.at_ 6 _ rfl
  have c15 := h.at_ 15 _ rfl
  clear h
  have hf := H.out.fz
  have hs := ok.r.s
  have HUC : Hid (((c.r.s : Int) + 1) % 256 = (((c.r.s + 1) % 256 : Nat) : Int)) := up8 _ hs
  have HUW : Hid (IntKind.u8.wrap ((c.r.s : Int) + 1) = (((c.r.s + 1) % 256 : Nat) : Int)) := up8w _ hs
  rw [e] at c6
  have HE : Hid (c.clk v = (c.sr c.r.up).cb (jn c.lo v)) := by show _ = _; unfold Cp.clk; rw [e]; rfl
  go_enter Tryd.func39, Tryd.ntmps39
  go_wp2_with (first | (go_at_call 53; refine (join8 c.lo v _ ok.lo hv).mono ?_; rintro e w' ⟨rfl, rfl⟩) | (go_at_call 69; (first | rw [HUC.out] | rw [HUW.out]); refine (comeBack b (jn c.lo v) (c.sr c.r.up) _ ((H.out.put 3 _).to rfl) ⟨⟨ok.r.a, ok.r.x, ok.r.y, up_lt c.r, ok.r.p, ok.r.pc⟩, ok.st, ok.ad, ok.da, ok.op, ok.md, ok.kd0, ok.kd1, ok.lo, ok.hi, ok.rb⟩ (jn_lt ok.lo hv)).mono ?_; rintro e w1 ⟨rfl, h1, t1⟩))
  go_returns
  exact ⟨rfl, by rw [HE.out]; exact h1, (Turn.set (Turn.refl b _) _ _).trans t1⟩

set_option maxRecDepth 100000 in
set_option maxHeartbeats 8000000 in
theorem endStack_33 (b v : Nat) (c : Cp) (w : World) (h : Row w b c.cells) (ok : c.ok) (hv : v < 256) (e : c.st = 33) : Calls Tryd.prog 39 #[.pointer (some ⟨b, 0, none⟩), .int .u8 (v : Int)] w fun e w' => e = .returned (.tuple #[]) ∧ Row w' b (c.clk v).cells ∧ Turn b w w' := by
  have H : Hid (Row w b c.cells) := h
  have c5 := h.at_ 5 _ rfl
  have c6 := h.at_ 6 _ rfl
  clear h
  have hf := H.out.fz
  have hpc := ok.r.pc
  have HPC : Hid (((c.r.pc : Int) + 1) % 65536 = (((c.r.pc + 1) % 65536 : Nat) : Int)) := up16 _ hpc
  have HPW : Hid (IntKind.u16.wrap ((c.r.pc : Int) + 1) = (((c.r.pc + 1) % 65536 : Nat) : Int)) := up16w _ hpc
  rw [e] at c6
  have HE : Hid (c.clk v = c.jp ((c.r.pc + 1) % 65536)) := by show _ = _; unfold Cp.clk; rw [e]; rfl
  go_enter Tryd.func39, Tryd.ntmps39
  go_wp2_with (first | (go_at_call 52; (first | rw [HPC.out] | rw [HPW.out]); refine (jump b ((c.r.pc + 1) % 65536) c _ H.out).mono ?_; rintro e w1 ⟨rfl, h1, t1⟩))
  go_returns
  exact ⟨rfl, by rw [HE.out]; exact h1, t1⟩


end Go.Proofs.YtelmohajdmcnmaaDoor.Mi

/- A cycle's end, and what the processor tells. -/
namespace Go.Proofs.YtelmohajdmcnmaaDoor.Mi
open Go.RowKit Alu Ex
set_option linter.unusedVariables false

theorem endPlace (b v : Nat) (c : Cp) (w : World) (h : Row w b c.cells) (ok : c.ok) (hv : v < 256) (h0 : 13 ≤ c.st) (h1 : c.st ≤ 22) : Calls Tryd.prog 38 #[.pointer (some ⟨b, 0, none⟩), .int .u8 (v : Int)] w fun e w' => e = .returned (.tuple #[]) ∧ Row w' b (c.clk v).cells ∧ Turn b w w' := by
  rcases (show c.st = 13 ∨ c.st = 14 ∨ c.st = 15 ∨ c.st = 16 ∨ c.st = 17 ∨ c.st = 18 ∨ c.st = 19 ∨ c.st = 20 ∨ c.st = 21 ∨ c.st = 22 by omega) with e | e | e | e | e | e | e | e | e | e
  · exact endPlace_13 b v c w h ok hv e
  · exact endPlace_14 b v c w h ok hv e
  · exact endPlace_15 b v c w h ok hv e
  · exact endPlace_16 b v c w h ok hv e
  · exact endPlace_17 b v c w h ok hv e
  · exact endPlace_18 b v c w h ok hv e
  · exact endPlace_19 b v c w h ok hv e
  · exact endPlace_20 b v c w h ok hv e
  · exact endPlace_21 b v c w h ok hv e
  · exact endPlace_22 b v c w h ok hv e
theorem endStack (b v : Nat) (c : Cp) (w : World) (h : Row w b c.cells) (ok : c.ok) (hv : v < 256) (h0 : 23 ≤ c.st) : Calls Tryd.prog 39 #[.pointer (some ⟨b, 0, none⟩), .int .u8 (v : Int)] w fun e w' => e = .returned (.tuple #[]) ∧ Row w' b (c.clk v).cells ∧ Turn b w w' := by
  have := ok.st
  rcases (show c.st = 23 ∨ c.st = 24 ∨ c.st = 25 ∨ c.st = 26 ∨ c.st = 27 ∨ c.st = 28 ∨ c.st = 29 ∨ c.st = 30 ∨ c.st = 31 ∨ c.st = 32 ∨ c.st = 33 by omega) with e | e | e | e | e | e | e | e | e | e | e
  · exact endStack_23 b v c w h ok hv e
  · exact endStack_24 b v c w h ok hv e
  · exact endStack_25 b v c w h ok hv e
  · exact endStack_26 b v c w h ok hv e
  · exact endStack_27 b v c w h ok hv e
  · exact endStack_28 b v c w h ok hv e
  · exact endStack_29 b v c w h ok hv e
  · exact endStack_30 b v c w h ok hv e
  · exact endStack_31 b v c w h ok hv e
  · exact endStack_32 b v c w h ok hv e
  · exact endStack_33 b v c w h ok hv e

set_option maxHeartbeats 1000000 in
theorem Clock (b v : Nat) (c : Cp) (w : World) (h : Row w b c.cells) (ok : c.ok) (hv : v < 256) (ht : Co.Tab w) (hb : 3 < b) : Calls Tryd.prog 21 #[.pointer (some ⟨b, 0, none⟩), .int .u8 (v : Int)] w fun e w' => e = .returned (.tuple #[]) ∧ Row w' b (c.clk v).cells ∧ Turn b w w' := by
  have H : Hid (Row w b c.cells) := h
  have HT : Hid (Co.Tab w) := ht
  have c6 := h.at_ 6 _ rfl
  clear h ht
  by_cases h1 : c.st ≤ 12
  · have g1 : (c.st : Int) ≤ 12 := by omega
    go_enter Tryd.func21, Tryd.ntmps21
    go_wp2_with (go_at_call 37; refine (endCourse b v c _ H.out ok hv HT.out hb ⟨Nat.zero_le _, h1⟩).mono ?_; rintro e w1 ⟨rfl, r1, t1⟩)
    go_returns
    exact ⟨rfl, r1, t1⟩
  · have g1 : ¬ (c.st : Int) ≤ 12 := by omega
    by_cases h2 : c.st ≤ 22
    · have g2 : (c.st : Int) ≤ 22 := by omega
      go_enter Tryd.func21, Tryd.ntmps21
      go_wp2_with (go_at_call 38; refine (endPlace b v c _ H.out ok hv (by omega) h2).mono ?_; rintro e w1 ⟨rfl, r1, t1⟩)
      go_returns
      exact ⟨rfl, r1, t1⟩
    · have g2 : ¬ (c.st : Int) ≤ 22 := by omega
      go_enter Tryd.func21, Tryd.ntmps21
      go_wp2_with (go_at_call 39; refine (endStack b v c _ H.out ok hv (by omega)).mono ?_; rintro e w1 ⟨rfl, r1, t1⟩)
      go_returns
      exact ⟨rfl, r1, t1⟩

end Go.Proofs.YtelmohajdmcnmaaDoor.Mi
