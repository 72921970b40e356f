/- The registers where they lie, and the small calls of package exec. -/
import Derived.Test.YtelmohajdmcnmaaDoorExM
import Derived.Deep.RegionHeld3
import Derived.Lib.SmallJoins
namespace Go.Proofs.YtelmohajdmcnmaaDoor.Ex
open Go.RowKit Alu

theorem ret_bool {a b : Bool} (h : a = b) : Ending.returned (.bool a) = .returned (.bool b) := by rw [h]
theorem lt_of_cell {w : World} {b o : Nat} {v : Value} (h : w.cell? ⟨b, o, none⟩ = some v) : b < w.heap.size := by
  by_cases hb : b < w.heap.size
  · exact hb
  · simp [World.cell?, Array.getElem?_eq_none (Nat.le_of_not_lt hb)] at h

/-! ### The ways out of blocks, step by step (cheap for the kernel) -/
theorem then_exit {K : Act → World → Prop} {Q : Exit → Act → World → Prop} {i : Nat} {a : Act} {w : World} (h : Q (.exit i) a w) : Exit.then K Q (.exit i) a w := h
theorem then_normal {K : Act → World → Prop} {Q : Exit → Act → World → Prop} {a : Act} {w : World} (h : K a w) : Exit.then K Q .normal a w := h
theorem then_ret {K : Act → World → Prop} {Q : Exit → Act → World → Prop} {a : Act} {w : World} (h : Q .ret a w) : Exit.then K Q .ret a w := h
theorem inB_ne {Q : Exit → Act → World → Prop} {i j : Nat} {a : Act} {w : World} (hn : (decide (i = j)) = false) (h : Q (.exit i) a w) : Exit.inBlock j Q (.exit i) a w := by
  have hn' : ¬ i = j := of_decide_eq_false hn
  show if i = j then Q .normal a w else Q (.exit i) a w
  rw [if_neg hn']; exact h
theorem inB_eq {Q : Exit → Act → World → Prop} {i : Nat} {a : Act} {w : World} (h : Q .normal a w) : Exit.inBlock i Q (.exit i) a w := by
  show if i = i then Q .normal a w else Q (.exit i) a w
  rw [if_pos rfl]; exact h
theorem inB_normal {Q : Exit → Act → World → Prop} {i : Nat} {a : Act} {w : World} (h : Q .normal a w) : Exit.inBlock i Q .normal a w := h
theorem inB_ret {Q : Exit → Act → World → Prop} {i : Nat} {a : Act} {w : World} (h : Q .ret a w) : Exit.inBlock i Q .ret a w := h

/-- Of what there was, only block b has turned. -/
structure Turn (b : Nat) (w w' : World) : Prop where
  os : w'.os = w.os
  tape : w'.tape = w.tape
  output : w'.output = w.output
  size : w.heap.size ≤ w'.heap.size
  block : ∀ k, k < w.heap.size → k ≠ b → w'.heap[k]? = w.heap[k]?

theorem Turn.refl (b : Nat) (w : World) : Turn b w w := ⟨rfl, rfl, rfl, Nat.le_refl _, fun _ _ _ => rfl⟩
theorem Turn.trans {b : Nat} {w w' w'' : World} (h : Turn b w w') (g : Turn b w' w'') : Turn b w w'' :=
  ⟨g.os.trans h.os, g.tape.trans h.tape, g.output.trans h.output, Nat.le_trans h.size g.size, fun i hi hb => (g.block i (Nat.lt_of_lt_of_le hi h.size) hb).trans (h.block i hi hb)⟩
theorem Turn.set {b : Nat} {w w' : World} (h : Turn b w w') (o : Nat) (v : Value) : Turn b w (w'.setCell ⟨b, o, none⟩ v) :=
  h.trans ⟨rfl, rfl, rfl, by simp [World.setCell], fun _ _ hb => Below.heap_setCell _ _ _ _ hb⟩
theorem Turn.draws {b : Nat} {w w' : World} (h : Turn b w w') (q : Nat) : Turn b w (w'.drewN q) := ⟨h.os, h.tape, h.output, h.size, h.block⟩
theorem Turn.below {b n : Nat} {w w' : World} (h : Turn b w w') (hn : n ≤ b) (hs : n ≤ w.heap.size) : Below n w w' := ⟨h.os, h.tape, h.output, h.size, fun k hk => h.block k (by omega) (by omega)⟩
theorem Turn.of_below {b : Nat} {w w' : World} (h : Below w.heap.size w w') : Turn b w w' := ⟨h.os, h.tape, h.output, h.size, fun k hk _ => h.block k hk⟩

/-- Registers lie at block b from cell o on. -/
structure RAt (w : World) (b o : Nat) (r : Rg) : Prop where
  c0 : w.cell? ⟨b, o, none⟩ = some (.int .u8 (r.a : Int))
  c1 : w.cell? ⟨b, o + 1, none⟩ = some (.int .u8 (r.x : Int))
  c2 : w.cell? ⟨b, o + 2, none⟩ = some (.int .u8 (r.y : Int))
  c3 : w.cell? ⟨b, o + 3, none⟩ = some (.int .u8 (r.s : Int))
  c4 : w.cell? ⟨b, o + 4, none⟩ = some (.int .u8 (r.p : Int))
  c5 : w.cell? ⟨b, o + 5, none⟩ = some (.int .u16 (r.pc : Int))
  fz : ∀ j, w.frozen? ⟨b, j, none⟩ = false

section
variable {w w' : World} {b c o : Nat} {r : Rg}
theorem RAt.lt (h : RAt w b o r) : b < w.heap.size := lt_of_cell h.c0
theorem RAt.kept (h : RAt w b o r) (hb : w'.heap[b]? = w.heap[b]?) : RAt w' b o r :=
  ⟨(World.cell?_of_block (w := w) hb).trans h.c0, (World.cell?_of_block (w := w) hb).trans h.c1, (World.cell?_of_block (w := w) hb).trans h.c2, (World.cell?_of_block (w := w) hb).trans h.c3, (World.cell?_of_block (w := w) hb).trans h.c4, (World.cell?_of_block (w := w) hb).trans h.c5, fun o => (World.frozen?_of_block (w := w) hb).trans (h.fz o)⟩
theorem RAt.below (h : RAt w b o r) (hb : Below w.heap.size w w') : RAt w' b o r := h.kept (hb.block b h.lt)
theorem RAt.turn (h : RAt w b o r) (ht : Turn c w w') (hc : b ≠ c) : RAt w' b o r := h.kept (ht.block b h.lt hc)
theorem RAt.draws (h : RAt w b o r) (q : Nat) : RAt (w.drewN q) b o r := ⟨h.c0, h.c1, h.c2, h.c3, h.c4, h.c5, h.fz⟩
theorem RAt.to {r' : Rg} (h : RAt w b o r) (e : r = r') : RAt w b o r' := e ▸ h
end
section
variable {w : World} {b o : Nat} {a x y s p pc : Nat}
theorem RAt.put0 (h : RAt w b o ⟨a, x, y, s, p, pc⟩) (n : Nat) : RAt (w.setCell ⟨b, o, none⟩ (.int .u8 (n : Int))) b o ⟨n, x, y, s, p, pc⟩ :=
  ⟨World.cell?_setCell_same' _ _ _ (by rw [h.c0]; rfl), (World.cell?_setCell_other _ _ _ _ (by simp)).trans h.c1, (World.cell?_setCell_other _ _ _ _ (by simp)).trans h.c2, (World.cell?_setCell_other _ _ _ _ (by simp)).trans h.c3, (World.cell?_setCell_other _ _ _ _ (by simp)).trans h.c4, (World.cell?_setCell_other _ _ _ _ (by simp)).trans h.c5, fun o => by rw [World.frozen?_setCell]; exact h.fz o⟩
theorem RAt.put1 (h : RAt w b o ⟨a, x, y, s, p, pc⟩) (n : Nat) : RAt (w.setCell ⟨b, o + 1, none⟩ (.int .u8 (n : Int))) b o ⟨a, n, y, s, p, pc⟩ :=
  ⟨(World.cell?_setCell_other _ _ _ _ (by simp)).trans h.c0, World.cell?_setCell_same' _ _ _ (by rw [h.c1]; rfl), (World.cell?_setCell_other _ _ _ _ (by simp)).trans h.c2, (World.cell?_setCell_other _ _ _ _ (by simp)).trans h.c3, (World.cell?_setCell_other _ _ _ _ (by simp)).trans h.c4, (World.cell?_setCell_other _ _ _ _ (by simp)).trans h.c5, fun o => by rw [World.frozen?_setCell]; exact h.fz o⟩
theorem RAt.put2 (h : RAt w b o ⟨a, x, y, s, p, pc⟩) (n : Nat) : RAt (w.setCell ⟨b, o + 2, none⟩ (.int .u8 (n : Int))) b o ⟨a, x, n, s, p, pc⟩ :=
  ⟨(World.cell?_setCell_other _ _ _ _ (by simp)).trans h.c0, (World.cell?_setCell_other _ _ _ _ (by simp)).trans h.c1, World.cell?_setCell_same' _ _ _ (by rw [h.c2]; rfl), (World.cell?_setCell_other _ _ _ _ (by simp)).trans h.c3, (World.cell?_setCell_other _ _ _ _ (by simp)).trans h.c4, (World.cell?_setCell_other _ _ _ _ (by simp)).trans h.c5, fun o => by rw [World.frozen?_setCell]; exact h.fz o⟩
theorem RAt.put3 (h : RAt w b o ⟨a, x, y, s, p, pc⟩) (n : Nat) : RAt (w.setCell ⟨b, o + 3, none⟩ (.int .u8 (n : Int))) b o ⟨a, x, y, n, p, pc⟩ :=
  ⟨(World.cell?_setCell_other _ _ _ _ (by simp)).trans h.c0, (World.cell?_setCell_other _ _ _ _ (by simp)).trans h.c1, (World.cell?_setCell_other _ _ _ _ (by simp)).trans h.c2, World.cell?_setCell_same' _ _ _ (by rw [h.c3]; rfl), (World.cell?_setCell_other _ _ _ _ (by simp)).trans h.c4, (World.cell?_setCell_other _ _ _ _ (by simp)).trans h.c5, fun o => by rw [World.frozen?_setCell]; exact h.fz o⟩
theorem RAt.put4 (h : RAt w b o ⟨a, x, y, s, p, pc⟩) (n : Nat) : RAt (w.setCell ⟨b, o + 4, none⟩ (.int .u8 (n : Int))) b o ⟨a, x, y, s, n, pc⟩ :=
  ⟨(World.cell?_setCell_other _ _ _ _ (by simp)).trans h.c0, (World.cell?_setCell_other _ _ _ _ (by simp)).trans h.c1, (World.cell?_setCell_other _ _ _ _ (by simp)).trans h.c2, (World.cell?_setCell_other _ _ _ _ (by simp)).trans h.c3, World.cell?_setCell_same' _ _ _ (by rw [h.c4]; rfl), (World.cell?_setCell_other _ _ _ _ (by simp)).trans h.c5, fun o => by rw [World.frozen?_setCell]; exact h.fz o⟩
theorem RAt.put5 (h : RAt w b o ⟨a, x, y, s, p, pc⟩) (n : Nat) : RAt (w.setCell ⟨b, o + 5, none⟩ (.int .u16 (n : Int))) b o ⟨a, x, y, s, p, n⟩ :=
  ⟨(World.cell?_setCell_other _ _ _ _ (by simp)).trans h.c0, (World.cell?_setCell_other _ _ _ _ (by simp)).trans h.c1, (World.cell?_setCell_other _ _ _ _ (by simp)).trans h.c2, (World.cell?_setCell_other _ _ _ _ (by simp)).trans h.c3, (World.cell?_setCell_other _ _ _ _ (by simp)).trans h.c4, World.cell?_setCell_same' _ _ _ (by rw [h.c5]; rfl), fun o => by rw [World.frozen?_setCell]; exact h.fz o⟩
end

/-- The flags marked, all else as it was. -/
def mkR (r : Rg) (v : Nat) : Rg := ⟨r.a, r.x, r.y, r.s, mk r.p (v : Int), r.pc⟩

set_option maxHeartbeats 400000 in
theorem mark (b v : Nat) (r : Rg) (w : World) (h : RAt w b 0 r) (hv : v < 256) (hp : r.p < 256) : Calls Tryd.prog 89 #[.pointer (some ⟨b, 0, none⟩), .int .u8 (v : Int)] w fun e w' => e = .returned (.tuple #[]) ∧ RAt w' b 0 (mkR r v) ∧ Turn b w w' := by
  have H : Hid (RAt w b 0 ⟨r.a, r.x, r.y, r.s, r.p, r.pc⟩) := h
  obtain ⟨h0, h1, h2, h3, h4, h5, hf⟩ := h
  simp only [Nat.zero_add] at h1 h2 h3 h4 h5
  go_enter Tryd.func89, Tryd.ntmps89
  go_wp2_with (go_at_call 94; refine (Alu.Mark _ _ _ hp (by omega) (by omega)).mono ?_; rintro e w' ⟨rfl, rfl⟩)
  go_returns
  exact ⟨rfl, H.out.put4 _, (Turn.refl b _).set _ _⟩

/-! ### put: a byte into a register, or into another place -/

-- each register
set_option maxHeartbeats 400000 in
theorem putA (b v : Nat) (r : Rg) (w : World) (h : RAt w b 0 r) (hv : v < 256) (hp : r.p < 256) : Calls Tryd.prog 73 #[.pointer (some ⟨b, 0, none⟩), .pointer (some ⟨b, 0, none⟩), .int .u8 (v : Int)] w fun e w' => e = .returned (.tuple #[]) ∧ RAt w' b 0 (mkR ⟨v, r.x, r.y, r.s, r.p, r.pc⟩ v) ∧ Turn b w w' := by
  have H : Hid (RAt (w.setCell ⟨b, 0, none⟩ (.int .u8 (v : Int))) b 0 ⟨v, r.x, r.y, r.s, r.p, r.pc⟩) := RAt.put0 (show RAt w b 0 ⟨r.a, r.x, r.y, r.s, r.p, r.pc⟩ from h) v
  obtain ⟨h0, h1, h2, h3, h4, h5, hf⟩ := h
  simp only [Nat.zero_add] at h1 h2 h3 h4 h5
  go_enter Tryd.func73, Tryd.ntmps73
  go_wp2_with (go_at_call 89; refine (mark _ _ _ _ H.out hv hp).mono ?_; rintro e w' ⟨rfl, hR, hT⟩)
  go_returns
  exact ⟨rfl, hR, ((Turn.refl b w).set _ _).trans hT⟩

set_option maxHeartbeats 400000 in
theorem putX (b v : Nat) (r : Rg) (w : World) (h : RAt w b 0 r) (hv : v < 256) (hp : r.p < 256) : Calls Tryd.prog 73 #[.pointer (some ⟨b, 0, none⟩), .pointer (some ⟨b, 1, none⟩), .int .u8 (v : Int)] w fun e w' => e = .returned (.tuple #[]) ∧ RAt w' b 0 (mkR ⟨r.a, v, r.y, r.s, r.p, r.pc⟩ v) ∧ Turn b w w' := by
  have H : Hid (RAt (w.setCell ⟨b, 1, none⟩ (.int .u8 (v : Int))) b 0 ⟨r.a, v, r.y, r.s, r.p, r.pc⟩) := RAt.put1 (show RAt w b 0 ⟨r.a, r.x, r.y, r.s, r.p, r.pc⟩ from h) v
  obtain ⟨h0, h1, h2, h3, h4, h5, hf⟩ := h
  simp only [Nat.zero_add] at h1 h2 h3 h4 h5
  go_enter Tryd.func73, Tryd.ntmps73
  go_wp2_with (go_at_call 89; refine (mark _ _ _ _ H.out hv hp).mono ?_; rintro e w' ⟨rfl, hR, hT⟩)
  go_returns
  exact ⟨rfl, hR, ((Turn.refl b w).set _ _).trans hT⟩

set_option maxHeartbeats 400000 in
theorem putY (b v : Nat) (r : Rg) (w : World) (h : RAt w b 0 r) (hv : v < 256) (hp : r.p < 256) : Calls Tryd.prog 73 #[.pointer (some ⟨b, 0, none⟩), .pointer (some ⟨b, 2, none⟩), .int .u8 (v : Int)] w fun e w' => e = .returned (.tuple #[]) ∧ RAt w' b 0 (mkR ⟨r.a, r.x, v, r.s, r.p, r.pc⟩ v) ∧ Turn b w w' := by
  have H : Hid (RAt (w.setCell ⟨b, 2, none⟩ (.int .u8 (v : Int))) b 0 ⟨r.a, r.x, v, r.s, r.p, r.pc⟩) := RAt.put2 (show RAt w b 0 ⟨r.a, r.x, r.y, r.s, r.p, r.pc⟩ from h) v
  obtain ⟨h0, h1, h2, h3, h4, h5, hf⟩ := h
  simp only [Nat.zero_add] at h1 h2 h3 h4 h5
  go_enter Tryd.func73, Tryd.ntmps73
  go_wp2_with (go_at_call 89; refine (mark _ _ _ _ H.out hv hp).mono ?_; rintro e w' ⟨rfl, hR, hT⟩)
  go_returns
  exact ⟨rfl, hR, ((Turn.refl b w).set _ _).trans hT⟩

/-- Of what there was, only the blocks b and c have turned. -/
structure Turn2 (b c : Nat) (w w' : World) : Prop where
  os : w'.os = w.os
  tape : w'.tape = w.tape
  output : w'.output = w.output
  size : w.heap.size ≤ w'.heap.size
  block : ∀ k, k < w.heap.size → k ≠ b → k ≠ c → w'.heap[k]? = w.heap[k]?

set_option maxHeartbeats 400000 in
theorem putM (b c u v : Nat) (r : Rg) (w : World) (h : RAt w b 0 r) (hv : v < 256) (hp : r.p < 256) (hc : w.cell? ⟨c, 0, none⟩ = some (.int .u8 (u : Int))) (hcf : w.frozen? ⟨c, 0, none⟩ = false) (hn : b ≠ c) : Calls Tryd.prog 73 #[.pointer (some ⟨b, 0, none⟩), .pointer (some ⟨c, 0, none⟩), .int .u8 (v : Int)] w fun e w' => e = .returned (.tuple #[]) ∧ RAt w' b 0 (mkR r v) ∧ w'.cell? ⟨c, 0, none⟩ = some (.int .u8 (v : Int)) ∧ Turn2 b c w w' := by
  have hk : ∀ k, k ≠ c → (w.setCell ⟨c, 0, none⟩ (.int .u8 (v : Int))).heap[k]? = w.heap[k]? := fun k hk => Below.heap_setCell _ _ _ _ hk
  have H : Hid (RAt (w.setCell ⟨c, 0, none⟩ (.int .u8 (v : Int))) b 0 r) := h.kept (hk b hn)
  have HC : Hid ((w.setCell ⟨c, 0, none⟩ (.int .u8 (v : Int))).cell? ⟨c, 0, none⟩ = some (.int .u8 (v : Int))) := World.cell?_setCell_same' _ _ _ (by rw [hc]; rfl)
  have HK : Hid (∀ k, k ≠ c → (w.setCell ⟨c, 0, none⟩ (.int .u8 (v : Int))).heap[k]? = w.heap[k]?) := hk
  have hlt : Hid (c < w.heap.size) := lt_of_cell hc
  clear hk
  obtain ⟨h0, h1, h2, h3, h4, h5, hf⟩ := h
  simp only [Nat.zero_add] at h1 h2 h3 h4 h5
  go_enter Tryd.func73, Tryd.ntmps73
  go_wp2_with (go_at_call 89; refine (mark _ _ _ _ H.out hv hp).mono ?_; rintro e w' ⟨rfl, hR, hT⟩)
  go_returns
  have hs : (w.setCell ⟨c, 0, none⟩ (.int .u8 (v : Int))).heap.size = w.heap.size := by simp [World.setCell]
  refine ⟨rfl, hR, (World.cell?_of_block (hT.block c (by rw [hs]; exact hlt.out) (Ne.symm hn))).trans HC.out, ⟨hT.os, hT.tape, hT.output, by rw [← hs]; exact hT.size, fun k h1 h2 h3 => (hT.block k (by rw [hs]; exact h1) h2).trans (HK.out k h3)⟩⟩

theorem flag_yes : ∀ p : Nat, p < 256 → ∀ f : Nat, f < 256 → bits .or .u8 (bits .andNot .u8 (p : Int) (f : Int)) (f : Int) = ((W p f true : Nat) : Int) := by
  intro p hp f hf
  rw [u8_andNot_nat _ _ hp hf, u8_or_nat _ _ (Nat.lt_of_le_of_lt Nat.and_le_left hp) hf]
  congr 1
  unfold W
  simp only [if_true, Int.toNat_natCast]
  have : ∀ p : Nat, p < 256 → ∀ f : Nat, f < 256 → (p &&& (255 - f)) ||| f = p ||| f := by
    intro p hp f hf
    apply Nat.eq_of_testBit_eq
    intro i
    rw [Nat.testBit_or, Nat.testBit_or, Nat.testBit_and, show 255 - f = 2 ^ 8 - (f + 1) by omega, Nat.testBit_two_pow_sub_succ (by omega)]
    by_cases hi : i < 8
    · simp [hi]; cases p.testBit i <;> cases f.testBit i <;> rfl
    · have : p.testBit i = false := Nat.testBit_lt_two_pow (Nat.lt_of_lt_of_le (show p < 2 ^ 8 by omega) (Nat.pow_le_pow_right (by omega) (by omega)))
      simp [hi, this]
  exact this p hp f hf

set_option maxHeartbeats 400000 in
theorem flag (b f : Nat) (is : Bool) (r : Rg) (w : World) (h : RAt w b 0 r) (hp : r.p < 256) (hf : f < 256) : Calls Tryd.prog 98 #[.pointer (some ⟨b, 0, none⟩), .int .u8 (f : Int), .bool is] w fun e w' => e = .returned (.tuple #[]) ∧ RAt w' b 0 ⟨r.a, r.x, r.y, r.s, W r.p f is, r.pc⟩ ∧ Turn b w w' := by
  have H : Hid (RAt w b 0 ⟨r.a, r.x, r.y, r.s, r.p, r.pc⟩) := h
  have HY : Hid (bits .or .u8 (bits .andNot .u8 (r.p : Int) (f : Int)) (f : Int) = ((W r.p f true : Nat) : Int)) := flag_yes r.p hp f hf
  have HN : Hid (bits .andNot .u8 (r.p : Int) (f : Int) = ((W r.p f false : Nat) : Int)) := by
    show _ = _
    rw [u8_andNot_nat _ _ hp hf]; simp [W]
  obtain ⟨h0, h1, h2, h3, h4, h5, hf2⟩ := h
  simp only [Nat.zero_add] at h1 h2 h3 h4 h5
  cases is
  all_goals
    go_enter Tryd.func98, Tryd.ntmps98
    go_wp2
    go_returns
  · rw [HN.out]
    exact ⟨rfl, H.out.put4 _, (Turn.refl b _).set _ _⟩
  · rw [HY.out]
    exact ⟨rfl, RAt.put4 (RAt.put4 H.out _) _, ((Turn.refl b _).set _ _).set _ _⟩

end Go.Proofs.YtelmohajdmcnmaaDoor.Ex
