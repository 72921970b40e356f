/- What the processor tells; a new one. -/
import Derived.Test.YtelmohajdmcnmaaDoorMi4Y
import Derived.Deep.MidRow
import Derived.Test.YtelmohajdmcnmaaDoorMiCY
namespace Go.Proofs.YtelmohajdmcnmaaDoor.Mi
open Go.RowKit Alu Ex
set_option linter.unusedVariables false

theorem and13 (n : Nat) (h : n < 65536) : bits .and .u16 (n : Int) 8191 = ((n % 8192 : Nat) : Int) := by
  rw [show (8191 : Int) = ((8191 : Nat) : Int) from rfl, u16_and_nat _ _ h (by decide)]
  congr 1
  exact Nat.and_two_pow_sub_one_eq_mod n 13
/-- What is asked, as a value. -/
def Cp.pins (c : Cp) : Array Go.Value := #[.int .u16 ((c.ad % 8192 : Nat) : Int), .bool c.wr, .int .u8 (c.da : Int)]

set_option maxHeartbeats 1000000 in
theorem Pins (b : Nat) (c : Cp) (w : World) (h : Row w b c.cells) (ha : c.ad < 65536) : Calls Tryd.prog 18 #[.pointer (some ⟨b, 0, none⟩)] w fun e w' => e = .returned (.agg c.pins) ∧ Below w.heap.size w w' := by
  have HX : Hid (∀ X : Obj, Row (w.alloc X) b c.cells) := fun X => h.alloc c.pos X
  have c7 : ∀ X : Obj, (w.alloc X).cell? ⟨b, 7, none⟩ = _ := fun X => (HX.out X).at_ 7 _ rfl
  have c8 : ∀ X : Obj, (w.alloc X).cell? ⟨b, 8, none⟩ = _ := fun X => (HX.out X).at_ 8 _ rfl
  have c9 : ∀ X : Obj, (w.alloc X).cell? ⟨b, 9, none⟩ = _ := fun X => (HX.out X).at_ 9 _ rfl
  have HA : Hid (bits .and .u16 (c.ad : Int) 8191 = ((c.ad % 8192 : Nat) : Int)) := and13 _ ha
  clear h
  go_enter Tryd.func18, Tryd.ntmps18
  go_wp2
  rw [HA.out]
  go_returns
  exact ⟨rfl, ((Below.refl _ w).alloc (Nat.le_refl _) _).alloc (by simp) _⟩

set_option maxHeartbeats 1000000 in
theorem Regs (b : Nat) (c : Cp) (w : World) (h : Row w b c.cells) : Calls Tryd.prog 19 #[.pointer (some ⟨b, 0, none⟩)] w fun e w' => e = .returned (.agg (rG c.r)) ∧ Below w.heap.size w w' := by
  have HX : Hid (∀ X : Obj, Row (w.alloc X) b c.cells) := fun X => h.alloc c.pos X
  have c0 : ∀ X : Obj, (w.alloc X).cell? ⟨b, 0, none⟩ = _ := fun X => (HX.out X).at_ 0 _ rfl
  have c1 : ∀ X : Obj, (w.alloc X).cell? ⟨b, 1, none⟩ = _ := fun X => (HX.out X).at_ 1 _ rfl
  have c2 : ∀ X : Obj, (w.alloc X).cell? ⟨b, 2, none⟩ = _ := fun X => (HX.out X).at_ 2 _ rfl
  have c3 : ∀ X : Obj, (w.alloc X).cell? ⟨b, 3, none⟩ = _ := fun X => (HX.out X).at_ 3 _ rfl
  have c4 : ∀ X : Obj, (w.alloc X).cell? ⟨b, 4, none⟩ = _ := fun X => (HX.out X).at_ 4 _ rfl
  have c5 : ∀ X : Obj, (w.alloc X).cell? ⟨b, 5, none⟩ = _ := fun X => (HX.out X).at_ 5 _ rfl
  clear h
  go_enter Tryd.func19, Tryd.ntmps19
  go_wp2
  go_returns
  exact ⟨rfl, (Below.refl _ w).alloc (Nat.le_refl _) _⟩

set_option maxHeartbeats 1000000 in
theorem Fresh (b : Nat) (c : Cp) (w : World) (h : Row w b c.cells) : Calls Tryd.prog 13 #[.pointer (some ⟨b, 0, none⟩)] w fun e w' => e = .returned (.bool (c.st == 7)) ∧ w' = w := by
  have c6 := h.at_ 6 _ rfl
  clear h
  have HE : Hid ((c.st == 7) = ((c.st : Int) == 7)) := by show _ = _; cases hq : (c.st == 7) <;> simp at hq ⊢ <;> omega
  go_enter Tryd.func13, Tryd.ntmps13
  go_wp2
  go_returns
  exact ⟨ret_bool HE.out.symm, rfl⟩

set_option maxHeartbeats 1000000 in
theorem Jammed (b : Nat) (c : Cp) (w : World) (h : Row w b c.cells) : Calls Tryd.prog 23 #[.pointer (some ⟨b, 0, none⟩)] w fun e w' => e = .returned (.bool (c.st == 12)) ∧ w' = w := by
  have c6 := h.at_ 6 _ rfl
  clear h
  have HE : Hid ((c.st == 12) = ((c.st : Int) == 12)) := by show _ = _; cases hq : (c.st == 12) <;> simp at hq ⊢ <;> omega
  go_enter Tryd.func23, Tryd.ntmps23
  go_wp2
  go_returns
  exact ⟨ret_bool HE.out.symm, rfl⟩

set_option maxHeartbeats 1000000 in
theorem CodeM (b : Nat) (c : Cp) (w : World) (h : Row w b c.cells) : Calls Tryd.prog 15 #[.pointer (some ⟨b, 0, none⟩)] w fun e w' => e = .returned (.int .u8 (c.op : Int)) ∧ w' = w := by
  have c10 := h.at_ 10 _ rfl
  clear h
  go_enter Tryd.func15, Tryd.ntmps15
  go_wp2
  go_returns
  exact ⟨rfl, rfl⟩

/-! ### A processor that is not there -/
set_option maxHeartbeats 1000000 in
theorem nilClock (v : Int) (w : World) : Calls Tryd.prog 21 #[.pointer none, .int .u8 v] w fun e w' => e = .returned (.tuple #[]) ∧ w' = w := by
  go_enter Tryd.func21, Tryd.ntmps21
  go_wp2
  go_returns
  exact ⟨rfl, rfl⟩
set_option maxHeartbeats 1000000 in
theorem nilPins (w : World) : Calls Tryd.prog 18 #[.pointer none] w fun e w' => e = .returned (.agg #[.int .u16 0, .bool false, .int .u8 0]) ∧ Below w.heap.size w w' := by
  go_enter Tryd.func18, Tryd.ntmps18
  go_wp2
  go_returns
  exact ⟨rfl, (Below.refl _ w).alloc (Nat.le_refl _) _⟩
set_option maxHeartbeats 1000000 in
theorem nilRegs (w : World) : Calls Tryd.prog 19 #[.pointer none] w fun e w' => e = .returned (.agg #[.int .u8 0, .int .u8 0, .int .u8 0, .int .u8 0, .int .u8 0, .int .u16 0]) ∧ Below w.heap.size w w' := by
  go_enter Tryd.func19, Tryd.ntmps19
  go_wp2
  go_returns
  exact ⟨rfl, (Below.refl _ w).alloc (Nat.le_refl _) _⟩
set_option maxHeartbeats 1000000 in
theorem nilFresh (w : World) : Calls Tryd.prog 13 #[.pointer none] w fun e w' => e = .returned (.bool false) ∧ w' = w := by
  go_enter Tryd.func13, Tryd.ntmps13
  go_wp2
  go_returns
  exact ⟨rfl, rfl⟩
set_option maxHeartbeats 1000000 in
theorem nilJammed (w : World) : Calls Tryd.prog 23 #[.pointer none] w fun e w' => e = .returned (.bool false) ∧ w' = w := by
  go_enter Tryd.func23, Tryd.ntmps23
  go_wp2
  go_returns
  exact ⟨rfl, rfl⟩
set_option maxHeartbeats 1000000 in
theorem nilCode (w : World) : Calls Tryd.prog 15 #[.pointer none] w fun e w' => e = .returned (.int .u8 0) ∧ w' = w := by
  go_enter Tryd.func15, Tryd.ntmps15
  go_wp2
  go_returns
  exact ⟨rfl, rfl⟩
set_option maxHeartbeats 1000000 in
theorem nilCopy (w : World) : Calls Tryd.prog 24 #[.pointer none] w fun e w' => e = .returned (.pointer none) ∧ w' = w := by
  go_enter Tryd.func24, Tryd.ntmps24
  go_wp2
  go_returns
  exact ⟨rfl, rfl⟩

end Go.Proofs.YtelmohajdmcnmaaDoor.Mi

/- A new processor. -/
namespace Go.Proofs.YtelmohajdmcnmaaDoor.Mi
open Go.RowKit Alu Ex
set_option linter.unusedVariables false

set_option maxHeartbeats 1000000 in
theorem clean (r : Rg) (w : World) (hp : r.p < 256) : Calls Tryd.prog 34 #[.agg (rG r)] w fun e w' => e = .returned (.agg (rG (r.fl (clF r.p)))) ∧ Below w.heap.size w w' := by
  unfold rG
  go_enter Tryd.func34, Tryd.ntmps34
  go_wp2_with (go_at_call 50; refine (cleanFlags r.p _ hp).mono ?_; rintro e w' ⟨rfl, rfl⟩)
  go_returns
  exact ⟨rfl, ((Below.refl _ w).alloc (Nat.le_refl _) _).alloc (by simp) _⟩

def zR : Rg := ⟨0, 0, 0, 0, 0, 0⟩
/-- A new one's cells, with these registers. -/
def Cp.of (r : Rg) : Cp := ⟨r, 0, 0, false, 0, 0, ByteArray.empty, 0, 0, false, 0, 0, zR⟩

set_option maxRecDepth 100000 in
set_option maxHeartbeats 1000000 in
theorem At (r : Rg) (jam : Bool) (w : World) (hr : r.ok) : Calls Tryd.prog 20 #[.agg (rG r), .bool jam] w fun e w' => ∃ b, e = .returned (.pointer (some ⟨b, 0, none⟩)) ∧ w.heap.size ≤ b ∧ Row w' b (if jam then (Cp.of (r.fl (clF r.p))).jm else (Cp.of (r.fl (clF r.p))).ft).cells ∧ Below w.heap.size w w' := by
  have CL : Hid (∀ w, Calls Tryd.prog 34 #[.agg (rG r)] w fun e w' => e = .returned (.agg (rG (r.fl (clF r.p)))) ∧ Below w.heap.size w w') := fun w => clean r w hr.p
  have hp := clF_lt _ hr.p
  generalize r.fl (clF r.p) = q at CL
  unfold rG at CL
  unfold rG
  cases jam
  · skip
    go_enter Tryd.func20, Tryd.ntmps20
    go_wp2_with (go_at_call 34; fail)
    refine (CL.out _).mono ?_
    rintro e w1 ⟨rfl, hB1⟩
    have hB : Hid (Below w.heap.size w w1) := ((Below.refl _ w).alloc (Nat.le_refl _) _).trans (hB1.mono (by simp))
    have hs : Hid (w.heap.size ≤ w1.heap.size) := hB.out.size
    clear hB1
    go_wp2_with (go_at_call 36; refine (fetch _ (Cp.of q) _ ((Row.new w1 _ _).to rfl)).mono ?_; rintro e w2 ⟨rfl, h2, t2⟩)
    go_returns
    exact ⟨_, rfl, hs.out, h2, (hB.out.alloc hs.out _).trans (t2.below hs.out (by simp; have := hs.out; omega))⟩
  · skip
    go_enter Tryd.func20, Tryd.ntmps20
    go_wp2_with (go_at_call 34; fail)
    refine (CL.out _).mono ?_
    rintro e w1 ⟨rfl, hB1⟩
    have hB : Hid (Below w.heap.size w w1) := ((Below.refl _ w).alloc (Nat.le_refl _) _).trans (hB1.mono (by simp))
    have hs : Hid (w.heap.size ≤ w1.heap.size) := hB.out.size
    clear hB1
    go_wp2_with (go_at_call 35; refine (jam _ (Cp.of q) _ ((Row.new w1 _ _).to rfl)).mono ?_; rintro e w2 ⟨rfl, h2, t2⟩)
    go_returns
    exact ⟨_, rfl, hs.out, h2, (hB.out.alloc hs.out _).trans (t2.below hs.out (by simp; have := hs.out; omega))⟩

/-! ### The chapter's example -/
def a0 : Cp := (Cp.of ⟨0, 0, 0, 0, 32, 4096⟩).ft
def aR (pc : Nat) : Rg := ⟨0, 0, 0, 0, 32, pc⟩
def a1 : Cp := ⟨aR 4097, 9, 4097, false, 0, 230, Co.nameB 230, Co.modeN 230, Co.kindN 230, Co.knownB 230, 0, 0, zR⟩
def a2 : Cp := ⟨aR 4098, 20, 16, false, 0, 230, Co.nameB 230, Co.modeN 230, Co.kindN 230, Co.knownB 230, 16, 0, zR⟩
def a3 : Cp := ⟨aR 4098, 21, 16, true, 7, 230, Co.nameB 230, Co.modeN 230, Co.kindN 230, Co.knownB 230, 16, 0, zR⟩
def a4 : Cp := ⟨aR 4098, 22, 16, true, 8, 230, Co.nameB 230, Co.modeN 230, Co.kindN 230, Co.knownB 230, 16, 0, aR 4098⟩
def a5 : Cp := ⟨aR 4098, 7, 4098, false, 0, 230, Co.nameB 230, Co.modeN 230, Co.kindN 230, Co.knownB 230, 16, 0, aR 4098⟩
theorem k230 : Co.kindN 230 = 3 := by decide +kernel
theorem m230 : Co.modeN 230 = 3 := by decide +kernel
theorem n230 : (Co.nameB 230).toList = [73, 78, 67] := by rw [ByteArray.toList_eq]; decide +kernel
theorem t230v : tuV [73, 78, 67] (aR 4098) 7 = 8 := by decide +kernel
theorem rg_eq {r q : Rg} (h0 : r.a = q.a) (h1 : r.x = q.x) (h2 : r.y = q.y) (h3 : r.s = q.s) (h4 : r.p = q.p) (h5 : r.pc = q.pc) : r = q := by
  cases r; cases q; simp only at h0 h1 h2 h3 h4 h5; subst_vars; rfl
theorem t230r : tuR [73, 78, 67] (aR 4098) 7 = aR 4098 := rg_eq (by decide +kernel) (by decide +kernel) (by decide +kernel) (by decide +kernel) (by decide +kernel) (by decide +kernel)
set_option maxRecDepth 100000 in
theorem s1 : a0.clk 230 = a1 := by
  show Cp.b1 { a0 with r := aR 4097, op := 230, nm := Co.nameB 230, md := Co.modeN 230, kd := Co.kindN 230, kn := Co.knownB 230 } = _
  unfold Cp.b1
  rw [if_neg (by show ¬ Co.kindN 230 = 12; rw [k230]; decide), if_neg (by rintro ⟨e, -⟩; revert e; show ¬ Co.lenF (Co.modeN 230) = 1; rw [m230]; decide)]
  rfl
set_option maxRecDepth 100000 in
theorem s2 : a1.clk 16 = a2 := by
  show Cp.t1 { a1 with r := aR 4098, lo := 16, hi := 0 } 16 = _
  unfold Cp.t1
  rw [if_neg (by show ¬ Co.kindN 230 = 11; rw [k230]; decide), if_neg (by show ¬ Co.kindN 230 = 8; rw [k230]; decide), if_neg (by show ¬ Co.kindN 230 = 4; rw [k230]; decide)]
  unfold Cp.tm
  rw [if_neg (by show ¬ Co.modeN 230 = 2; rw [m230]; decide), if_pos (by show Co.modeN 230 = 3; exact m230)]
  unfold Cp.ac
  rw [if_neg (by show ¬ Co.kindN 230 = 7; rw [k230]; decide), if_neg (by show ¬ Co.kindN 230 = 2; rw [k230]; decide), if_pos (by show Co.kindN 230 = 3; exact k230)]
  rfl
set_option maxRecDepth 100000 in
theorem s3 : a2.clk 7 = a3 := rfl
set_option maxRecDepth 100000 in
theorem s4 : a3.clk 0 = a4 := by
  show Cp.wt { a3 with rb := tuR (Co.nameB 230).toList (aR 4098) 7 } 16 (tuV (Co.nameB 230).toList (aR 4098) 7) 22 = _
  rw [n230, t230v, t230r]
  rfl
set_option maxRecDepth 100000 in
theorem s5 : a4.clk 0 = a5 := rfl
theorem zok : zR.ok := ⟨by decide, by decide, by decide, by decide, by decide, by decide⟩
theorem aok (pc : Nat) (h : pc < 65536) : (aR pc).ok := ⟨(by show (0 : Nat) < 256; omega), (by show (0 : Nat) < 256; omega), (by show (0 : Nat) < 256; omega), (by show (0 : Nat) < 256; omega), (by show (32 : Nat) < 256; omega), h⟩
theorem md230 : Co.modeN 230 ≤ 12 := by rw [m230]; omega
theorem kd0230 : 0 ≤ Co.kindN 230 := by rw [k230]; omega
theorem kd1230 : Co.kindN 230 ≤ 12 := by rw [k230]; omega
theorem ok0 : a0.ok := ⟨aok 4096 (by omega), (by show (7 : Nat) ≤ 33; omega), (by show (4096 : Nat) < 65536; omega), (by show (0 : Nat) < 256; omega), (by show (0 : Nat) < 256; omega), (by show (0 : Nat) ≤ 12; omega), (by show (0 : Int) ≤ 0; omega), (by show (0 : Int) ≤ 12; omega), (by show (0 : Nat) < 256; omega), (by show (0 : Nat) < 256; omega), zok⟩
theorem okG {pc st ad da op lo hi md : Nat} {kd : Int} {wr kn : Bool} {nm : ByteArray} {rb : Rg} (h1 : pc < 65536) (h2 : st ≤ 33) (h3 : ad < 65536) (h4 : da < 256) (h5 : op < 256) (h6 : md ≤ 12) (h7 : 0 ≤ kd) (h8 : kd ≤ 12) (h9 : lo < 256) (h10 : hi < 256) (h11 : rb.ok) : Cp.ok ⟨aR pc, st, ad, wr, da, op, nm, md, kd, kn, lo, hi, rb⟩ := ⟨aok pc h1, h2, h3, h4, h5, h6, h7, h8, h9, h10, h11⟩
theorem ok1 : a1.ok := okG (by omega) (by omega) (by omega) (by omega) (by omega) md230 kd0230 kd1230 (by omega) (by omega) zok
theorem ok2 : a2.ok := okG (by omega) (by omega) (by omega) (by omega) (by omega) md230 kd0230 kd1230 (by omega) (by omega) zok
theorem ok3 : a3.ok := okG (by omega) (by omega) (by omega) (by omega) (by omega) md230 kd0230 kd1230 (by omega) (by omega) zok
theorem ok4 : a4.ok := okG (by omega) (by omega) (by omega) (by omega) (by omega) md230 kd0230 kd1230 (by omega) (by omega) (aok 4098 (by omega))
theorem ok5 : a5.ok := okG (by omega) (by omega) (by omega) (by omega) (by omega) md230 kd0230 kd1230 (by omega) (by omega) (aok 4098 (by omega))
theorem pn0 (b : Nat) (w : World) (h : Row w b a0.cells) : Calls Tryd.prog 18 #[.pointer (some ⟨b, 0, none⟩)] w fun e w' => e = .returned (.agg #[.int .u16 4096, .bool false, .int .u8 0]) ∧ Below w.heap.size w w' := Pins b a0 w h ok0.ad
theorem pn1 (b : Nat) (w : World) (h : Row w b a1.cells) : Calls Tryd.prog 18 #[.pointer (some ⟨b, 0, none⟩)] w fun e w' => e = .returned (.agg #[.int .u16 4097, .bool false, .int .u8 0]) ∧ Below w.heap.size w w' := Pins b a1 w h ok1.ad
theorem pn2 (b : Nat) (w : World) (h : Row w b a2.cells) : Calls Tryd.prog 18 #[.pointer (some ⟨b, 0, none⟩)] w fun e w' => e = .returned (.agg #[.int .u16 16, .bool false, .int .u8 0]) ∧ Below w.heap.size w w' := Pins b a2 w h ok2.ad
theorem pn3 (b : Nat) (w : World) (h : Row w b a3.cells) : Calls Tryd.prog 18 #[.pointer (some ⟨b, 0, none⟩)] w fun e w' => e = .returned (.agg #[.int .u16 16, .bool true, .int .u8 7]) ∧ Below w.heap.size w w' := Pins b a3 w h ok3.ad
theorem pn4 (b : Nat) (w : World) (h : Row w b a4.cells) : Calls Tryd.prog 18 #[.pointer (some ⟨b, 0, none⟩)] w fun e w' => e = .returned (.agg #[.int .u16 16, .bool true, .int .u8 8]) ∧ Below w.heap.size w w' := Pins b a4 w h ok4.ad

end Go.Proofs.YtelmohajdmcnmaaDoor.Mi

/- The chapter's example, run. -/
namespace Go.Proofs.YtelmohajdmcnmaaDoor.Mi
open Go.RowKit Alu Ex
set_option linter.unusedVariables false

def pl0 : List Go.Value := [.int .u16 4096, .bool false, .int .u8 0]
def pl1 : List Go.Value := [.int .u16 4097, .bool false, .int .u8 0]
def pl2 : List Go.Value := [.int .u16 16, .bool false, .int .u8 0]
def pl3 : List Go.Value := [.int .u16 16, .bool true, .int .u8 7]
def pl4 : List Go.Value := [.int .u16 16, .bool true, .int .u8 8]
theorem at0 (w : World) : Calls Tryd.prog 20 #[.agg #[.int .u8 0, .int .u8 0, .int .u8 0, .int .u8 0, .int .u8 0, .int .u16 4096], .bool false] w fun e w' => ∃ b, e = .returned (.pointer (some ⟨b, 0, none⟩)) ∧ w.heap.size ≤ b ∧ Row w' b a0.cells ∧ Below w.heap.size w w' := At ⟨0, 0, 0, 0, 0, 4096⟩ false w ⟨by decide, by decide, by decide, by decide, by decide, by decide⟩
theorem ck0 (b : Nat) (w : World) (h : Row w b a0.cells) (ht : Co.Tab w) (hb : 3 < b) : Calls Tryd.prog 21 #[.pointer (some ⟨b, 0, none⟩), .int .u8 230] w fun e w' => e = .returned (.tuple #[]) ∧ Row w' b a1.cells ∧ Turn b w w' := by
  have := Clock b 230 a0 w h ok0 (by decide) ht hb
  rwa [s1] at this
theorem ck1 (b : Nat) (w : World) (h : Row w b a1.cells) (ht : Co.Tab w) (hb : 3 < b) : Calls Tryd.prog 21 #[.pointer (some ⟨b, 0, none⟩), .int .u8 16] w fun e w' => e = .returned (.tuple #[]) ∧ Row w' b a2.cells ∧ Turn b w w' := by
  have := Clock b 16 a1 w h ok1 (by decide) ht hb
  rwa [s2] at this
theorem ck2 (b : Nat) (w : World) (h : Row w b a2.cells) (ht : Co.Tab w) (hb : 3 < b) : Calls Tryd.prog 21 #[.pointer (some ⟨b, 0, none⟩), .int .u8 7] w fun e w' => e = .returned (.tuple #[]) ∧ Row w' b a3.cells ∧ Turn b w w' := by
  have := Clock b 7 a2 w h ok2 (by decide) ht hb
  rwa [s3] at this
theorem ck3 (b : Nat) (w : World) (h : Row w b a3.cells) (ht : Co.Tab w) (hb : 3 < b) : Calls Tryd.prog 21 #[.pointer (some ⟨b, 0, none⟩), .int .u8 0] w fun e w' => e = .returned (.tuple #[]) ∧ Row w' b a4.cells ∧ Turn b w w' := by
  have := Clock b 0 a3 w h ok3 (by decide) ht hb
  rwa [s4] at this
theorem ck4 (b : Nat) (w : World) (h : Row w b a4.cells) (ht : Co.Tab w) (hb : 3 < b) : Calls Tryd.prog 21 #[.pointer (some ⟨b, 0, none⟩), .int .u8 0] w fun e w' => e = .returned (.tuple #[]) ∧ Row w' b a5.cells ∧ Turn b w w' := by
  have := Clock b 0 a4 w h ok4 (by decide) ht hb
  rwa [s5] at this
theorem tabTurn {b : Nat} {w w' : World} (h : Co.Tab w) (t : Turn b w w') (hb : 3 < b) (hs : b ≤ w.heap.size) : Co.Tab w' := h.below (n := b) ⟨t.os, t.tape, t.output, t.size, fun k hk => t.block k (by omega) (by omega)⟩ hb
theorem tabTurn4 {b : Nat} {w w' : World} (h : Co.Tab w) (t : Turn b w w') (hb : 3 < b) : Co.Tab w' := by
  have hl := h.lt
  exact h.below (n := 4) ⟨t.os, t.tape, t.output, t.size, fun k hk => t.block k (by omega) (by omega)⟩ (by decide)

set_option maxRecDepth 100000 in
set_option maxHeartbeats 4000000 in
theorem awake12 (w : World) (ht : Co.Tab w) : Calls Tryd.prog 17 #[] w fun e w' => e = .returned (.bool true) ∧ Below w.heap.size w w' := by
  have HT : Hid (Co.Tab w) := ht
  have hlt := ht.lt
  clear ht
  go_enter Tryd.func17, Tryd.ntmps17
  go_wp2_with (go_at_call 20; fail)
  refine (at0 _).mono ?_
  rintro e w0 ⟨b, rfl, hb, hR, hB⟩
  have HR0 : Hid (Row w0 b a0.cells) := hR
  have HB0 : Hid (Below w.heap.size w w0) := hB
  have HT0 : Hid (Co.Tab w0) := HT.out.next hB
  have hb3 : 3 < b := by omega
  clear hR hB
  go_wp2_with (go_at_call 18; fail)
  refine (pn0 b _ HR0.out).mono ?_
  rintro e p0 ⟨rfl, hP⟩
  have hz0 : w.heap.size ≤ p0.heap.size := Nat.le_trans HB0.out.size hP.size
  have hbl : b < p0.heap.size := Nat.lt_of_lt_of_le (HR0.out.lt (Cp.pos _)) hP.size
  have HX : Hid (∀ X : Obj, Row (p0.alloc X) b a0.cells) := fun X => (HR0.out.below (Cp.pos _) hP).alloc (Cp.pos _) X
  have HXT : Hid (∀ X : Obj, Co.Tab (p0.alloc X)) := fun X => (HT0.out.next hP).next ((Below.refl _ _).alloc (Nat.le_refl _) X)
  have HXB : Hid (∀ X : Obj, Below w.heap.size w (p0.alloc X)) := fun X => (HB0.out.trans (hP.mono HB0.out.size)).alloc hz0 X
  clear hP
  go_wp2_with (go_at_call 21; fail)
  refine (ck0 b _ (HX.out _) (HXT.out _) hb3).mono ?_
  rintro e w1 ⟨rfl, hR, hT⟩
  have HR1 : Hid (Row w1 b a1.cells) := hR
  have HT1 : Hid (Co.Tab w1) := tabTurn4 (HXT.out _) hT hb3
  have HB1 : Hid (Below w.heap.size w w1) := (HXB.out _).trans (hT.below hb (HXB.out _).size)
  have hne0 : ¬ p0.heap.size = b := by omega
  have HG0 : Hid (Row w1 p0.heap.size pl0) := (Row.new p0 _ _).turn (by decide) hT hne0
  generalize p0.heap.size = g0 at HG0 hne0 hz0 hbl ⊢
  clear hR hT HX HXT HXB HR0 HT0 HB0 hbl
  go_wp2_with (go_at_call 18; fail)
  refine (pn1 b _ HR1.out).mono ?_
  rintro e p1 ⟨rfl, hP⟩
  have hz1 : w.heap.size ≤ p1.heap.size := Nat.le_trans HB1.out.size hP.size
  have hbl : b < p1.heap.size := Nat.lt_of_lt_of_le (HR1.out.lt (Cp.pos _)) hP.size
  have HX : Hid (∀ X : Obj, Row (p1.alloc X) b a1.cells) := fun X => (HR1.out.below (Cp.pos _) hP).alloc (Cp.pos _) X
  have HXT : Hid (∀ X : Obj, Co.Tab (p1.alloc X)) := fun X => (HT1.out.next hP).next ((Below.refl _ _).alloc (Nat.le_refl _) X)
  have HXB : Hid (∀ X : Obj, Below w.heap.size w (p1.alloc X)) := fun X => (HB1.out.trans (hP.mono HB1.out.size)).alloc hz1 X
  have HQ0 : Hid (∀ X : Obj, Row (p1.alloc X) g0 pl0) := fun X => (HG0.out.below (by decide) hP).alloc (by decide) X
  clear hP
  go_wp2_with (go_at_call 21; fail)
  refine (ck1 b _ (HX.out _) (HXT.out _) hb3).mono ?_
  rintro e w2 ⟨rfl, hR, hT⟩
  have HR2 : Hid (Row w2 b a2.cells) := hR
  have HT2 : Hid (Co.Tab w2) := tabTurn4 (HXT.out _) hT hb3
  have HB2 : Hid (Below w.heap.size w w2) := (HXB.out _).trans (hT.below hb (HXB.out _).size)
  have hne1 : ¬ p1.heap.size = b := by omega
  have HG1 : Hid (Row w2 p1.heap.size pl1) := (Row.new p1 _ _).turn (by decide) hT hne1
  have HG0 : Hid (Row w2 g0 pl0) := (HQ0.out _).turn (by decide) hT hne0
  clear HQ0
  generalize p1.heap.size = g1 at HG1 hne1 hz1 hbl ⊢
  clear hR hT HX HXT HXB HR1 HT1 HB1 hbl
  go_wp2_with (go_at_call 18; fail)
  refine (pn2 b _ HR2.out).mono ?_
  rintro e p2 ⟨rfl, hP⟩
  have hz2 : w.heap.size ≤ p2.heap.size := Nat.le_trans HB2.out.size hP.size
  have hbl : b < p2.heap.size := Nat.lt_of_lt_of_le (HR2.out.lt (Cp.pos _)) hP.size
  have HX : Hid (∀ X : Obj, Row (p2.alloc X) b a2.cells) := fun X => (HR2.out.below (Cp.pos _) hP).alloc (Cp.pos _) X
  have HXT : Hid (∀ X : Obj, Co.Tab (p2.alloc X)) := fun X => (HT2.out.next hP).next ((Below.refl _ _).alloc (Nat.le_refl _) X)
  have HXB : Hid (∀ X : Obj, Below w.heap.size w (p2.alloc X)) := fun X => (HB2.out.trans (hP.mono HB2.out.size)).alloc hz2 X
  have HQ0 : Hid (∀ X : Obj, Row (p2.alloc X) g0 pl0) := fun X => (HG0.out.below (by decide) hP).alloc (by decide) X
  have HQ1 : Hid (∀ X : Obj, Row (p2.alloc X) g1 pl1) := fun X => (HG1.out.below (by decide) hP).alloc (by decide) X
  clear hP
  go_wp2_with (go_at_call 21; fail)
  refine (ck2 b _ (HX.out _) (HXT.out _) hb3).mono ?_
  rintro e w3 ⟨rfl, hR, hT⟩
  have HR3 : Hid (Row w3 b a3.cells) := hR
  have HT3 : Hid (Co.Tab w3) := tabTurn4 (HXT.out _) hT hb3
  have HB3 : Hid (Below w.heap.size w w3) := (HXB.out _).trans (hT.below hb (HXB.out _).size)
  have hne2 : ¬ p2.heap.size = b := by omega
  have HG2 : Hid (Row w3 p2.heap.size pl2) := (Row.new p2 _ _).turn (by decide) hT hne2
  have HG0 : Hid (Row w3 g0 pl0) := (HQ0.out _).turn (by decide) hT hne0
  clear HQ0
  have HG1 : Hid (Row w3 g1 pl1) := (HQ1.out _).turn (by decide) hT hne1
  clear HQ1
  generalize p2.heap.size = g2 at HG2 hne2 hz2 hbl ⊢
  clear hR hT HX HXT HXB HR2 HT2 HB2 hbl
  go_wp2_with (go_at_call 18; fail)
  refine (pn3 b _ HR3.out).mono ?_
  rintro e p3 ⟨rfl, hP⟩
  have hz3 : w.heap.size ≤ p3.heap.size := Nat.le_trans HB3.out.size hP.size
  have hbl : b < p3.heap.size := Nat.lt_of_lt_of_le (HR3.out.lt (Cp.pos _)) hP.size
  have HX : Hid (∀ X : Obj, Row (p3.alloc X) b a3.cells) := fun X => (HR3.out.below (Cp.pos _) hP).alloc (Cp.pos _) X
  have HXT : Hid (∀ X : Obj, Co.Tab (p3.alloc X)) := fun X => (HT3.out.next hP).next ((Below.refl _ _).alloc (Nat.le_refl _) X)
  have HXB : Hid (∀ X : Obj, Below w.heap.size w (p3.alloc X)) := fun X => (HB3.out.trans (hP.mono HB3.out.size)).alloc hz3 X
  have HQ0 : Hid (∀ X : Obj, Row (p3.alloc X) g0 pl0) := fun X => (HG0.out.below (by decide) hP).alloc (by decide) X
  have HQ1 : Hid (∀ X : Obj, Row (p3.alloc X) g1 pl1) := fun X => (HG1.out.below (by decide) hP).alloc (by decide) X
  have HQ2 : Hid (∀ X : Obj, Row (p3.alloc X) g2 pl2) := fun X => (HG2.out.below (by decide) hP).alloc (by decide) X
  clear hP
  go_wp2_with (go_at_call 21; fail)
  refine (ck3 b _ (HX.out _) (HXT.out _) hb3).mono ?_
  rintro e w4 ⟨rfl, hR, hT⟩
  have HR4 : Hid (Row w4 b a4.cells) := hR
  have HT4 : Hid (Co.Tab w4) := tabTurn4 (HXT.out _) hT hb3
  have HB4 : Hid (Below w.heap.size w w4) := (HXB.out _).trans (hT.below hb (HXB.out _).size)
  have hne3 : ¬ p3.heap.size = b := by omega
  have HG3 : Hid (Row w4 p3.heap.size pl3) := (Row.new p3 _ _).turn (by decide) hT hne3
  have HG0 : Hid (Row w4 g0 pl0) := (HQ0.out _).turn (by decide) hT hne0
  clear HQ0
  have HG1 : Hid (Row w4 g1 pl1) := (HQ1.out _).turn (by decide) hT hne1
  clear HQ1
  have HG2 : Hid (Row w4 g2 pl2) := (HQ2.out _).turn (by decide) hT hne2
  clear HQ2
  generalize p3.heap.size = g3 at HG3 hne3 hz3 hbl ⊢
  clear hR hT HX HXT HXB HR3 HT3 HB3 hbl
  go_wp2_with (go_at_call 18; fail)
  refine (pn4 b _ HR4.out).mono ?_
  rintro e p4 ⟨rfl, hP⟩
  have hz4 : w.heap.size ≤ p4.heap.size := Nat.le_trans HB4.out.size hP.size
  have hbl : b < p4.heap.size := Nat.lt_of_lt_of_le (HR4.out.lt (Cp.pos _)) hP.size
  have HX : Hid (∀ X : Obj, Row (p4.alloc X) b a4.cells) := fun X => (HR4.out.below (Cp.pos _) hP).alloc (Cp.pos _) X
  have HXT : Hid (∀ X : Obj, Co.Tab (p4.alloc X)) := fun X => (HT4.out.next hP).next ((Below.refl _ _).alloc (Nat.le_refl _) X)
  have HXB : Hid (∀ X : Obj, Below w.heap.size w (p4.alloc X)) := fun X => (HB4.out.trans (hP.mono HB4.out.size)).alloc hz4 X
  have HQ0 : Hid (∀ X : Obj, Row (p4.alloc X) g0 pl0) := fun X => (HG0.out.below (by decide) hP).alloc (by decide) X
  have HQ1 : Hid (∀ X : Obj, Row (p4.alloc X) g1 pl1) := fun X => (HG1.out.below (by decide) hP).alloc (by decide) X
  have HQ2 : Hid (∀ X : Obj, Row (p4.alloc X) g2 pl2) := fun X => (HG2.out.below (by decide) hP).alloc (by decide) X
  have HQ3 : Hid (∀ X : Obj, Row (p4.alloc X) g3 pl3) := fun X => (HG3.out.below (by decide) hP).alloc (by decide) X
  clear hP
  go_wp2_with (go_at_call 21; fail)
  refine (ck4 b _ (HX.out _) (HXT.out _) hb3).mono ?_
  rintro e w5 ⟨rfl, hR, hT⟩
  have HR5 : Hid (Row w5 b a5.cells) := hR
  have HT5 : Hid (Co.Tab w5) := tabTurn4 (HXT.out _) hT hb3
  have HB5 : Hid (Below w.heap.size w w5) := (HXB.out _).trans (hT.below hb (HXB.out _).size)
  have hne4 : ¬ p4.heap.size = b := by omega
  have HG4 : Hid (Row w5 p4.heap.size pl4) := (Row.new p4 _ _).turn (by decide) hT hne4
  have HG0 : Hid (Row w5 g0 pl0) := (HQ0.out _).turn (by decide) hT hne0
  clear HQ0
  have HG1 : Hid (Row w5 g1 pl1) := (HQ1.out _).turn (by decide) hT hne1
  clear HQ1
  have HG2 : Hid (Row w5 g2 pl2) := (HQ2.out _).turn (by decide) hT hne2
  clear HQ2
  have HG3 : Hid (Row w5 g3 pl3) := (HQ3.out _).turn (by decide) hT hne3
  clear HQ3
  generalize p4.heap.size = g4 at HG4 hne4 hz4 hbl ⊢
  clear hR hT HX HXT HXB HR4 HT4 HB4 hbl
  have x00 := HG0.out.at_ 0 _ rfl
  have x01 := HG0.out.at_ 1 _ rfl
  have x02 := HG0.out.at_ 2 _ rfl
  have x10 := HG1.out.at_ 0 _ rfl
  have x11 := HG1.out.at_ 1 _ rfl
  have x12 := HG1.out.at_ 2 _ rfl
  have x20 := HG2.out.at_ 0 _ rfl
  have x21 := HG2.out.at_ 1 _ rfl
  have x22 := HG2.out.at_ 2 _ rfl
  have x30 := HG3.out.at_ 0 _ rfl
  have x31 := HG3.out.at_ 1 _ rfl
  have x32 := HG3.out.at_ 2 _ rfl
  have x40 := HG4.out.at_ 0 _ rfl
  have x41 := HG4.out.at_ 1 _ rfl
  have x42 := HG4.out.at_ 2 _ rfl
  have HF : Hid (∀ w, Row w b a5.cells → Calls Tryd.prog 13 #[.pointer (some ⟨b, 0, none⟩)] w fun e w' => e = .returned (.bool true) ∧ w' = w) := fun w h => Fresh b a5 w h
  have HC : Hid (∀ w, Row w b a5.cells → Calls Tryd.prog 15 #[.pointer (some ⟨b, 0, none⟩)] w fun e w' => e = .returned (.int .u8 230) ∧ w' = w) := fun w h => CodeM b a5 w h
  go_wp2_with (first
    | (go_at_call 13; refine (HF.out _ HR5.out).mono ?_; rintro e w' ⟨rfl, rfl⟩)
    | (go_at_call 15; refine (HC.out _ HR5.out).mono ?_; rintro e w' ⟨rfl, rfl⟩))
  go_ret
  exact ⟨rfl, HB5.out⟩

end Go.Proofs.YtelmohajdmcnmaaDoor.Mi
