/- A new processor. -/
import Derived.Test.YtelmohajdmcnmaaDoorMiD
namespace Go.Proofs.YtelmohajdmcnmaaDoor.Mi
open Go.RowKit Alu Ex
set_option linter.unusedVariables false

set_option maxHeartbeats 1000000 in
theorem clean (r : Rg) (w : World) (hp : r.p < 256) : Calls Tryd.prog 34 #[.agg (rG r)] w fun e w' => e = .returned (.agg (rG (r.fl (clF r.p)))) ∧ Below w.heap.size w w' := by
  unfold rG
  go_enter Tryd.func34, Tryd.ntmps34
  go_wp2_with (go_at_call 50; refine (cleanFlags r.p _ hp).mono ?_; rintro e w' ⟨rfl, rfl⟩)
  go_returns
  exact ⟨rfl, ((Below.refl _ w).alloc (Nat.le_refl _) _).alloc (by simp) _⟩

def zR : Rg := ⟨0, 0, 0, 0, 0, 0⟩
/-- A new one's cells, with these registers. -/
def Cp.of (r : Rg) : Cp := ⟨r, 0, 0, false, 0, 0, ByteArray.empty, 0, 0, false, 0, 0, zR⟩

set_option maxRecDepth 100000 in
set_option maxHeartbeats 1000000 in
theorem At (r : Rg) (jam : Bool) (w : World) (hr : r.ok) : Calls Tryd.prog 20 #[.agg (rG r), .bool jam] w fun e w' => ∃ b, e = .returned (.pointer (some ⟨b, 0, none⟩)) ∧ w.heap.size ≤ b ∧ Row w' b (if jam then (Cp.of (r.fl (clF r.p))).jm else (Cp.of (r.fl (clF r.p))).ft).cells ∧ Below w.heap.size w w' := by
  have CL : Hid (∀ w, Calls Tryd.prog 34 #[.agg (rG r)] w fun e w' => e = .returned (.agg (rG (r.fl (clF r.p)))) ∧ Below w.heap.size w w') := fun w => clean r w hr.p
  have hp := clF_lt _ hr.p
  generalize r.fl (clF r.p) = q at CL
  unfold rG at CL
  unfold rG
  cases jam
  · skip
    go_enter Tryd.func20, Tryd.ntmps20
    go_wp2_with (go_at_call 34; fail)
    refine (CL.out _).mono ?_
    rintro e w1 ⟨rfl, hB1⟩
    have hB : Hid (Below w.heap.size w w1) := ((Below.refl _ w).alloc (Nat.le_refl _) _).trans (hB1.mono (by simp))
    have hs : Hid (w.heap.size ≤ w1.heap.size) := hB.out.size
    clear hB1
    go_wp2_with (go_at_call 36; refine (fetch _ (Cp.of q) _ ((Row.new w1 _ _).to rfl)).mono ?_; rintro e w2 ⟨rfl, h2, t2⟩)
    go_returns
    exact ⟨_, rfl, hs.out, h2, (hB.out.alloc hs.out _).trans (t2.below hs.out (by simp; have := hs.out; omega))⟩
  · skip
    go_enter Tryd.func20, Tryd.ntmps20
    go_wp2_with (go_at_call 34; fail)
    refine (CL.out _).mono ?_
    rintro e w1 ⟨rfl, hB1⟩
    have hB : Hid (Below w.heap.size w w1) := ((Below.refl _ w).alloc (Nat.le_refl _) _).trans (hB1.mono (by simp))
    have hs : Hid (w.heap.size ≤ w1.heap.size) := hB.out.size
    clear hB1
    go_wp2_with (go_at_call 35; refine (jam _ (Cp.of q) _ ((Row.new w1 _ _).to rfl)).mono ?_; rintro e w2 ⟨rfl, h2, t2⟩)
    go_returns
    exact ⟨_, rfl, hs.out, h2, (hB.out.alloc hs.out _).trans (t2.below hs.out (by simp; have := hs.out; omega))⟩

/-! ### The chapter's example -/
def a0 : Cp := (Cp.of ⟨0, 0, 0, 0, 32, 4096⟩).ft
def aR (pc : Nat) : Rg := ⟨0, 0, 0, 0, 32, pc⟩
def a1 : Cp := ⟨aR 4097, 9, 4097, false, 0, 230, Co.nameB 230, Co.modeN 230, Co.kindN 230, Co.knownB 230, 0, 0, zR⟩
def a2 : Cp := ⟨aR 4098, 20, 16, false, 0, 230, Co.nameB 230, Co.modeN 230, Co.kindN 230, Co.knownB 230, 16, 0, zR⟩
def a3 : Cp := ⟨aR 4098, 21, 16, true, 7, 230, Co.nameB 230, Co.modeN 230, Co.kindN 230, Co.knownB 230, 16, 0, zR⟩
def a4 : Cp := ⟨aR 4098, 22, 16, true, 8, 230, Co.nameB 230, Co.modeN 230, Co.kindN 230, Co.knownB 230, 16, 0, aR 4098⟩
def a5 : Cp := ⟨aR 4098, 7, 4098, false, 0, 230, Co.nameB 230, Co.modeN 230, Co.kindN 230, Co.knownB 230, 16, 0, aR 4098⟩
theorem k230 : Co.kindN 230 = 3 := by decide +kernel
theorem m230 : Co.modeN 230 = 3 := by decide +kernel
theorem n230 : (Co.nameB 230).toList = [73, 78, 67] := by rw [ByteArray.toList_eq]; decide +kernel
theorem t230v : tuV [73, 78, 67] (aR 4098) 7 = 8 := by decide +kernel
theorem rg_eq {r q : Rg} (h0 : r.a = q.a) (h1 : r.x = q.x) (h2 : r.y = q.y) (h3 : r.s = q.s) (h4 : r.p = q.p) (h5 : r.pc = q.pc) : r = q := by
  cases r; cases q; simp only at h0 h1 h2 h3 h4 h5; subst_vars; rfl
theorem t230r : tuR [73, 78, 67] (aR 4098) 7 = aR 4098 := rg_eq (by decide +kernel) (by decide +kernel) (by decide +kernel) (by decide +kernel) (by decide +kernel) (by decide +kernel)
set_option maxRecDepth 100000 in
theorem s1 : a0.clk 230 = a1 := by
  show Cp.b1 { a0 with r := aR 4097, op := 230, nm := Co.nameB 230, md := Co.modeN 230, kd := Co.kindN 230, kn := Co.knownB 230 } = _
  unfold Cp.b1
  rw [if_neg (by show ¬ Co.kindN 230 = 12; rw [k230]; decide), if_neg (by rintro ⟨e, -⟩; revert e; show ¬ Co.lenF (Co.modeN 230) = 1; rw [m230]; decide)]
  rfl
set_option maxRecDepth 100000 in
theorem s2 : a1.clk 16 = a2 := by
  show Cp.t1 { a1 with r := aR 4098, lo := 16, hi := 0 } 16 = _
  unfold Cp.t1
  rw [if_neg (by show ¬ Co.kindN 230 = 11; rw [k230]; decide), if_neg (by show ¬ Co.kindN 230 = 8; rw [k230]; decide), if_neg (by show ¬ Co.kindN 230 = 4; rw [k230]; decide)]
  unfold Cp.tm
  rw [if_neg (by show ¬ Co.modeN 230 = 2; rw [m230]; decide), if_pos (by show Co.modeN 230 = 3; exact m230)]
  unfold Cp.ac
  rw [if_neg (by show ¬ Co.kindN 230 = 7; rw [k230]; decide), if_neg (by show ¬ Co.kindN 230 = 2; rw [k230]; decide), if_pos (by show Co.kindN 230 = 3; exact k230)]
  rfl
set_option maxRecDepth 100000 in
theorem s3 : a2.clk 7 = a3 := rfl
set_option maxRecDepth 100000 in
theorem s4 : a3.clk 0 = a4 := by
  show Cp.wt { a3 with rb := tuR (Co.nameB 230).toList (aR 4098) 7 } 16 (tuV (Co.nameB 230).toList (aR 4098) 7) 22 = _
  rw [n230, t230v, t230r]
  rfl
set_option maxRecDepth 100000 in
theorem s5 : a4.clk 0 = a5 := rfl
theorem zok : zR.ok := ⟨by decide, by decide, by decide, by decide, by decide, by decide⟩
theorem aok (pc : Nat) (h : pc < 65536) : (aR pc).ok := ⟨(by show (0 : Nat) < 256; omega), (by show (0 : Nat) < 256; omega), (by show (0 : Nat) < 256; omega), (by show (0 : Nat) < 256; omega), (by show (32 : Nat) < 256; omega), h⟩
theorem md230 : Co.modeN 230 ≤ 12 := by rw [m230]; omega
theorem kd0230 : 0 ≤ Co.kindN 230 := by rw [k230]; omega
theorem kd1230 : Co.kindN 230 ≤ 12 := by rw [k230]; omega
theorem ok0 : a0.ok := ⟨aok 4096 (by omega), (by show (7 : Nat) ≤ 33; omega), (by show (4096 : Nat) < 65536; omega), (by show (0 : Nat) < 256; omega), (by show (0 : Nat) < 256; omega), (by show (0 : Nat) ≤ 12; omega), (by show (0 : Int) ≤ 0; omega), (by show (0 : Int) ≤ 12; omega), (by show (0 : Nat) < 256; omega), (by show (0 : Nat) < 256; omega), zok⟩
theorem okG {pc st ad da op lo hi md : Nat} {kd : Int} {wr kn : Bool} {nm : ByteArray} {rb : Rg} (h1 : pc < 65536) (h2 : st ≤ 33) (h3 : ad < 65536) (h4 : da < 256) (h5 : op < 256) (h6 : md ≤ 12) (h7 : 0 ≤ kd) (h8 : kd ≤ 12) (h9 : lo < 256) (h10 : hi < 256) (h11 : rb.ok) : Cp.ok ⟨aR pc, st, ad, wr, da, op, nm, md, kd, kn, lo, hi, rb⟩ := ⟨aok pc h1, h2, h3, h4, h5, h6, h7, h8, h9, h10, h11⟩
theorem ok1 : a1.ok := okG (by omega) (by omega) (by omega) (by omega) (by omega) md230 kd0230 kd1230 (by omega) (by omega) zok
theorem ok2 : a2.ok := okG (by omega) (by omega) (by omega) (by omega) (by omega) md230 kd0230 kd1230 (by omega) (by omega) zok
theorem ok3 : a3.ok := okG (by omega) (by omega) (by omega) (by omega) (by omega) md230 kd0230 kd1230 (by omega) (by omega) zok
theorem ok4 : a4.ok := okG (by omega) (by omega) (by omega) (by omega) (by omega) md230 kd0230 kd1230 (by omega) (by omega) (aok 4098 (by omega))
theorem ok5 : a5.ok := okG (by omega) (by omega) (by omega) (by omega) (by omega) md230 kd0230 kd1230 (by omega) (by omega) (aok 4098 (by omega))
theorem pn0 (b : Nat) (w : World) (h : Row w b a0.cells) : Calls Tryd.prog 18 #[.pointer (some ⟨b, 0, none⟩)] w fun e w' => e = .returned (.agg #[.int .u16 4096, .bool false, .int .u8 0]) ∧ Below w.heap.size w w' := Pins b a0 w h ok0.ad
theorem pn1 (b : Nat) (w : World) (h : Row w b a1.cells) : Calls Tryd.prog 18 #[.pointer (some ⟨b, 0, none⟩)] w fun e w' => e = .returned (.agg #[.int .u16 4097, .bool false, .int .u8 0]) ∧ Below w.heap.size w w' := Pins b a1 w h ok1.ad
theorem pn2 (b : Nat) (w : World) (h : Row w b a2.cells) : Calls Tryd.prog 18 #[.pointer (some ⟨b, 0, none⟩)] w fun e w' => e = .returned (.agg #[.int .u16 16, .bool false, .int .u8 0]) ∧ Below w.heap.size w w' := Pins b a2 w h ok2.ad
theorem pn3 (b : Nat) (w : World) (h : Row w b a3.cells) : Calls Tryd.prog 18 #[.pointer (some ⟨b, 0, none⟩)] w fun e w' => e = .returned (.agg #[.int .u16 16, .bool true, .int .u8 7]) ∧ Below w.heap.size w w' := Pins b a3 w h ok3.ad
theorem pn4 (b : Nat) (w : World) (h : Row w b a4.cells) : Calls Tryd.prog 18 #[.pointer (some ⟨b, 0, none⟩)] w fun e w' => e = .returned (.agg #[.int .u16 16, .bool true, .int .u8 8]) ∧ Below w.heap.size w w' := Pins b a4 w h ok4.ad

end Go.Proofs.YtelmohajdmcnmaaDoor.Mi
