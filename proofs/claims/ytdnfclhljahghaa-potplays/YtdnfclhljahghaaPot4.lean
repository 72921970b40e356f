/- What a law holds of its ports; the calls over that; what the chapter's examples come to. -/
import Derived.Test.YtdnfclhljahghaaPot3
namespace Go.Proofs.Ytdnfclhljahghaa.Po
open Go.RowKit
set_option linter.unusedVariables false

/-- The ports are new since W; of what W had nothing has turned. -/
structure Pb (W : World) (b : Nat) (p : Pt) (w : World) : Prop where
  p : PAt w b p
  old : Below W.heap.size W w
  hb : W.heap.size ≤ b

section
variable {W w w' : World} {b : Nat} {p : Pt}
theorem Pb.below (h : Pb W b p w) (hb : Below w.heap.size w w') : Pb W b p w' := ⟨h.p.below hb, h.old.trans (hb.mono h.old.size), h.hb⟩
theorem Pb.turn {q : Pt} (h : Pb W b p w) (hp : PAt w' b q) (ht : Turn b w w') : Pb W b q w' := ⟨hp, h.old.trans (ht.below h.hb h.old.size), h.hb⟩
theorem Pb.draws (h : Pb W b p w) (q : Nat) : Pb W b p (w.drewN q) := ⟨h.p.draws q, below_drewN h.old q, h.hb⟩
theorem Pb.alloc (h : Pb W b p w) (o : Obj) : Pb W b p (w.alloc o) := h.below ((Below.refl _ w).alloc (Nat.le_refl _) o)
end

theorem NewB (W : World) : Calls Try.prog 26 #[] W fun e w' => ∃ b, e = .returned (.pointer (some ⟨b, 0, none⟩)) ∧ Pb W b Pt.new w' := by
  refine (New W).mono ?_
  rintro e w' ⟨b, rfl, h1, h2, h3⟩
  exact ⟨b, rfl, h2, h3, h1⟩
theorem InB {W w : World} {b : Nat} {p : Pt} (n : Int) (v : Nat) (hv : v < 256) (h : Pb W b p w) : Calls Try.prog 28 #[.pointer (some ⟨b, 0, none⟩), .int .i64 n, .int .u8 (v : Int)] w fun e w' => e = .returned (.tuple #[]) ∧ Pb W b (p.in_ n v) w' := by
  refine (In b p n v w hv h.p).mono ?_
  rintro e w' ⟨rfl, h1, h2⟩
  exact ⟨rfl, h.turn h1 h2⟩
theorem LineB {W w : World} {b : Nat} {p : Pt} (h : Pb W b p w) : Calls Try.prog 30 #[.pointer (some ⟨b, 0, none⟩)] w fun e w' => e = .returned (.tuple #[]) ∧ Pb W b p.line w' := by
  refine (Line b p w h.p).mono ?_
  rintro e w' ⟨rfl, h1, h2⟩
  exact ⟨rfl, h.turn h1 h2⟩
theorem DumpB {W w : World} {b : Nat} {p : Pt} (on : Bool) (h : Pb W b p w) : Calls Try.prog 32 #[.pointer (some ⟨b, 0, none⟩), .bool on] w fun e w' => e = .returned (.tuple #[]) ∧ Pb W b (p.dump on) w' := by
  refine (Dump b p on w h.p).mono ?_
  rintro e w' ⟨rfl, h1, h2⟩
  exact ⟨rfl, h.turn h1 h2⟩
theorem LatchB {W w : World} {b : Nat} {p : Pt} (on : Bool) (h : Pb W b p w) : Calls Try.prog 34 #[.pointer (some ⟨b, 0, none⟩), .bool on] w fun e w' => e = .returned (.tuple #[]) ∧ Pb W b (p.latch on) w' := by
  refine (Latch b p on w h.p).mono ?_
  rintro e w' ⟨rfl, h1, h2⟩
  exact ⟨rfl, h.turn h1 h2⟩
theorem HighB {W w : World} {b : Nat} {p : Pt} (n : Int) (r : Bool) (hr : p.high n = r) (h : Pb W b p w) : Calls Try.prog 39 #[.pointer (some ⟨b, 0, none⟩), .int .i64 n] w fun e w' => e = .returned (.bool r) ∧ Pb W b p w' := by
  refine (High b p n w h.p).mono ?_
  rintro e w' ⟨rfl, h1⟩
  exact ⟨by rw [hr], h.below h1⟩

set_option maxRecDepth 100000 in
set_option maxHeartbeats 2000000 in
theorem awake20 (w : World) : Calls Try.prog 43 #[] w fun e w' => e = .returned (.bool true) ∧ Below w.heap.size w w' := by
  go_enter Try.func43, Try.ntmps43
  go_wp2_with (go_at_call 26; fail)
  refine (NewB w).mono ?_
  rintro e w1 ⟨b, rfl, h⟩
  have H1 : Hid (Pb w b Pt.new w1) := h
  clear h
  go_wp2_with (go_at_call 28; fail)
  refine (InB 0 2 (by decide) H1.out).mono ?_
  rintro e w2 ⟨rfl, h⟩
  have H2 : Hid (Pb w b (Pt.new.in_ 0 2) w2) := h
  clear h H1
  go_wp2_with (go_at_call 32; fail)
  refine (DumpB true H2.out).mono ?_
  rintro e w3 ⟨rfl, h⟩
  have H3 : Hid (Pb w b ((Pt.new.in_ 0 2).dump true) w3) := h
  clear h H2
  go_wp2_with (go_at_call 32; fail)
  refine (DumpB false H3.out).mono ?_
  rintro e w4 ⟨rfl, h⟩
  have H4 : Hid (Pb w b (((Pt.new.in_ 0 2).dump true).dump false) w4) := h
  clear h H3
  go_wp2_with (go_at_call 30; fail)
  refine (LineB H4.out).mono ?_
  rintro e w5 ⟨rfl, h⟩
  have H5 : Hid (Pb w b (((Pt.new.in_ 0 2).dump true).dump false).line w5) := h
  clear h H4
  go_wp2_with (go_at_call 30; fail)
  refine (LineB H5.out).mono ?_
  rintro e w6 ⟨rfl, h⟩
  have H6 : Hid (Pb w b (((Pt.new.in_ 0 2).dump true).dump false).line.line w6) := h
  clear h H5
  go_wp2_with (go_at_call 39; fail)
  refine (HighB 0 false (by decide) H6.out).mono ?_
  rintro e w7 ⟨rfl, h⟩
  have H7 : Hid (Pb w b (((Pt.new.in_ 0 2).dump true).dump false).line.line w7) := h
  clear h H6
  go_wp2_with (go_at_call 30; fail)
  refine (LineB H7.out).mono ?_
  rintro e w8 ⟨rfl, h⟩
  have H8 : Hid (Pb w b (((Pt.new.in_ 0 2).dump true).dump false).line.line.line w8) := h
  clear h H7
  go_wp2_with (go_at_call 39; fail)
  refine (HighB 0 true (by decide) H8.out).mono ?_
  rintro e w9 ⟨rfl, h⟩
  have H9 : Hid (Pb w b (((Pt.new.in_ 0 2).dump true).dump false).line.line.line w9) := h
  clear h H8
  go_wp2_with (go_at_call 34; fail)
  refine (LatchB true H9.out).mono ?_
  rintro e w10 ⟨rfl, h⟩
  have H10 : Hid (Pb w b ((((Pt.new.in_ 0 2).dump true).dump false).line.line.line.latch true) w10) := h
  clear h H9
  go_wp2_with (go_at_call 28; fail)
  refine (InB 4 0 (by decide) H10.out).mono ?_
  rintro e w11 ⟨rfl, h⟩
  have H11 : Hid (Pb w b (((((Pt.new.in_ 0 2).dump true).dump false).line.line.line.latch true).in_ 4 0) w11) := h
  clear h H10
  go_wp2_with (go_at_call 28; fail)
  refine (InB 4 128 (by decide) H11.out).mono ?_
  rintro e w12 ⟨rfl, h⟩
  have H12 : Hid (Pb w b ((((((Pt.new.in_ 0 2).dump true).dump false).line.line.line.latch true).in_ 4 0).in_ 4 128) w12) := h
  clear h H11
  go_wp2_with (go_at_call 39; fail)
  refine (HighB 4 false (by decide) H12.out).mono ?_
  rintro e w13 ⟨rfl, h⟩
  have H13 : Hid (Pb w b ((((((Pt.new.in_ 0 2).dump true).dump false).line.line.line.latch true).in_ 4 0).in_ 4 128) w13) := h
  clear h H12
  go_wp2_with (go_at_call 34; fail)
  refine (LatchB false H13.out).mono ?_
  rintro e w14 ⟨rfl, h⟩
  have H14 : Hid (Pb w b (((((((Pt.new.in_ 0 2).dump true).dump false).line.line.line.latch true).in_ 4 0).in_ 4 128).latch false) w14) := h
  clear h H13
  go_wp2_with (go_at_call 39; fail)
  refine (HighB 4 true (by decide) H14.out).mono ?_
  rintro e w15 ⟨rfl, h⟩
  go_wp2
  go_returns
  exact ⟨rfl, h.old⟩

end Go.Proofs.Ytdnfclhljahghaa.Po
