/- Plain numbers: a step of a shift register of 'size' bits with a tap, its orbits, and that each of them comes round. -/
import Derived.Laws.BitsAllLaws
import Derived.WalkKit
namespace Go.Proofs.Ytdnfclhljahghaa

theorem ret_bool {a b : Bool} (h : a = b) : Ending.returned (.bool a) = .returned (.bool b) := by rw [h]
theorem ret_int {k : IntKind} {a b : Int} (h : a = b) : Ending.returned (.int k a) = .returned (.int k b) := by rw [h]

/-- The cells of a block that is known whole. -/
theorem cell2 {w : World} {b : Nat} {t : TypeId} {c0 c1 : Value} (h : w.heap[b]? = some (.cells #[c0, c1] t (0, 0))) :
    w.cell? ⟨b, 0, none⟩ = some c0 ∧ w.cell? ⟨b, 1, none⟩ = some c1 := ⟨cell_of_row _ _ _ _ _ _ h, cell_of_row _ _ _ _ _ _ h⟩
theorem cell3 {w : World} {b : Nat} {t : TypeId} {c0 c1 c2 : Value} (h : w.heap[b]? = some (.cells #[c0, c1, c2] t (0, 0))) :
    w.cell? ⟨b, 0, none⟩ = some c0 ∧ w.cell? ⟨b, 1, none⟩ = some c1 ∧ w.cell? ⟨b, 2, none⟩ = some c2 := ⟨cell_of_row _ _ _ _ _ _ h, cell_of_row _ _ _ _ _ _ h, cell_of_row _ _ _ _ _ _ h⟩
theorem cell4 {w : World} {b : Nat} {t : TypeId} {c0 c1 c2 c3 : Value} (h : w.heap[b]? = some (.cells #[c0, c1, c2, c3] t (0, 0))) :
    w.cell? ⟨b, 0, none⟩ = some c0 ∧ w.cell? ⟨b, 1, none⟩ = some c1 ∧ w.cell? ⟨b, 2, none⟩ = some c2 ∧ w.cell? ⟨b, 3, none⟩ = some c3 :=
  ⟨cell_of_row _ _ _ _ _ _ h, cell_of_row _ _ _ _ _ _ h, cell_of_row _ _ _ _ _ _ h, cell_of_row _ _ _ _ _ _ h⟩

open Go.RowKit in
/-- Nothing but block b has turned. -/
structure Only (b : Nat) (w w' : World) : Prop where
  os : w'.os = w.os
  tape : w'.tape = w.tape
  output : w'.output = w.output
  size : w'.heap.size = w.heap.size
  block : ∀ k, k ≠ b → w'.heap[k]? = w.heap[k]?

open Go.RowKit in
theorem Only.below {b n : Nat} {w w' : World} (h : Only b w w') (hn : n ≤ b) : Below n w w' := ⟨h.os, h.tape, h.output, by rw [h.size]; exact Nat.le_refl _, fun k hk => h.block k (by omega)⟩
theorem Only.refl (b : Nat) (w : World) : Only b w w := ⟨rfl, rfl, rfl, rfl, fun _ _ => rfl⟩
theorem Only.trans {b : Nat} {w w' w'' : World} (h : Only b w w') (g : Only b w' w'') : Only b w w'' := ⟨g.os.trans h.os, g.tape.trans h.tape, g.output.trans h.output, g.size.trans h.size, fun i hi => (g.block i hi).trans (h.block i hi)⟩
open Go.RowKit in
theorem Only.setCell (w : World) (a : Addr) (v : Value) : Only a.block w (w.setCell a v) := ⟨rfl, rfl, rfl, by simp [World.setCell], fun k hk => Below.heap_setCell _ _ _ _ hk⟩
theorem Only.cell {b : Nat} {w w' : World} (h : Only b w w') {p : Addr} (hp : p.block ≠ b) : w'.cell? p = w.cell? p := World.cell?_of_block (w := w) (h.block p.block hp)
theorem Only.frozen {b : Nat} {w w' : World} (h : Only b w w') {p : Addr} (hp : p.block ≠ b) : w'.frozen? p = w.frozen? p := World.frozen?_of_block (w := w) (h.block p.block hp)
theorem Only.drew {b : Nat} {w w' : World} (h : Only b w.drew w') : Only b w w' := ⟨h.os, h.tape, h.output, h.size, h.block⟩

/-- Of what there was, only cells from lo to hi of block b have turned. -/
structure Touch (b lo hi : Nat) (w w' : World) : Prop where
  os : w'.os = w.os
  tape : w'.tape = w.tape
  output : w'.output = w.output
  size : w.heap.size ≤ w'.heap.size
  block : ∀ k, k < w.heap.size → k ≠ b → w'.heap[k]? = w.heap[k]?
  cell : ∀ o, o < lo ∨ hi ≤ o → w'.cell? ⟨b, o, none⟩ = w.cell? ⟨b, o, none⟩
  fz : ∀ o, w'.frozen? ⟨b, o, none⟩ = w.frozen? ⟨b, o, none⟩

theorem Touch.refl (b lo hi : Nat) (w : World) : Touch b lo hi w w := ⟨rfl, rfl, rfl, Nat.le_refl _, fun _ _ _ => rfl, fun _ _ => rfl, fun _ => rfl⟩
theorem Touch.trans {b lo hi : Nat} {w w' w'' : World} (h : Touch b lo hi w w') (g : Touch b lo hi w' w'') : Touch b lo hi w w'' :=
  ⟨g.os.trans h.os, g.tape.trans h.tape, g.output.trans h.output, Nat.le_trans h.size g.size, fun i hi hb => (g.block i (Nat.lt_of_lt_of_le hi h.size) hb).trans (h.block i hi hb),
    fun o ho => (g.cell o ho).trans (h.cell o ho), fun o => (g.fz o).trans (h.fz o)⟩
theorem Touch.mono {b lo hi lo' hi' : Nat} {w w' : World} (h : Touch b lo hi w w') (h1 : lo' ≤ lo) (h2 : hi ≤ hi') : Touch b lo' hi' w w' :=
  ⟨h.os, h.tape, h.output, h.size, h.block, fun o ho => h.cell o (by omega), h.fz⟩
open Go.RowKit in
theorem Touch.setCell {b o lo hi : Nat} (w : World) (v : Value) (h1 : lo ≤ o) (h2 : o < hi) : Touch b lo hi w (w.setCell ⟨b, o, none⟩ v) :=
  ⟨rfl, rfl, rfl, by simp [World.setCell], fun _ _ hb => Below.heap_setCell _ _ _ _ hb, fun _ hp => World.cell?_setCell_other _ _ _ _ (by intro e; injection e; omega), fun _ => World.frozen?_setCell _ _ _ _⟩
open Go.RowKit in
theorem Touch.of_below {b lo hi : Nat} {w w' : World} (h : Below w.heap.size w w') (hb : b < w.heap.size) : Touch b lo hi w w' :=
  ⟨h.os, h.tape, h.output, h.size, fun k hk _ => h.block k hk, fun o _ => h.cell (p := ⟨b, o, none⟩) hb, fun o => h.frozen (p := ⟨b, o, none⟩) hb⟩
open Go.RowKit in
theorem Touch.below {b lo hi n : Nat} {w w' : World} (h : Touch b lo hi w w') (hn : n ≤ b) (hs : n ≤ w.heap.size) : Below n w w' :=
  ⟨h.os, h.tape, h.output, h.size, fun k hk => h.block k (by omega) (by omega)⟩
theorem Touch.drew {b lo hi : Nat} {w w' : World} (h : Touch b lo hi w.drew w') : Touch b lo hi w w' := ⟨h.os, h.tape, h.output, h.size, h.block, h.cell, h.fz⟩
theorem Touch.drewN {b lo hi : Nat} {w w' : World} (h : Touch b lo hi w w') : Touch b lo hi w w'.drew := ⟨h.os, h.tape, h.output, h.size, h.block, h.cell, h.fz⟩
theorem Touch.other {b lo hi c o : Nat} {w w' : World} (h : Touch b lo hi w w') (hc : c < w.heap.size) (hne : c ≠ b) : w'.cell? ⟨c, o, none⟩ = w.cell? ⟨c, o, none⟩ := World.cell?_of_block (w := w) (h.block c hc hne)
theorem Touch.otherFz {b lo hi c o : Nat} {w w' : World} (h : Touch b lo hi w w') (hc : c < w.heap.size) (hne : c ≠ b) : w'.frozen? ⟨c, o, none⟩ = w.frozen? ⟨c, o, none⟩ := World.frozen?_of_block (w := w) (h.block c hc hne)

/-- What Set answers, and the state behind it. -/
def setE (size t : Nat) : Int := if t < 2 ^ size then 0 else 6
def setS (size s t : Nat) : Nat := if t < 2 ^ size then t else s
theorem setE_yes {size t : Nat} (h : t < 2 ^ size) : setE size t = 0 := if_pos h
theorem setE_no {size t : Nat} (h : ¬ t < 2 ^ size) : setE size t = 6 := if_neg h
theorem setS_yes {size s t : Nat} (h : t < 2 ^ size) : setS size s t = t := if_pos h
theorem setS_no {size s t : Nat} (h : ¬ t < 2 ^ size) : setS size s t = s := if_neg h

/-- The state behind a step. -/
def nxt (size tap s : Nat) : Nat := s / 2 + if s % 2 = s / 2 ^ tap % 2 then 2 ^ (size - 1) else 0

/-- The state behind k steps. -/
def orb (size tap : Nat) : Nat → Nat → Nat
  | 0, s => s
  | k + 1, s => nxt size tap (orb size tap k s)

theorem pow_pred {size : Nat} (h : 1 ≤ size) : 2 ^ size = 2 * 2 ^ (size - 1) := by
  obtain ⟨k, rfl⟩ : ∃ k, size = k + 1 := ⟨size - 1, by omega⟩
  simp [Nat.pow_succ]; omega

theorem nxt_lt {size tap s : Nat} (h : 1 ≤ size) (hs : s < 2 ^ size) : nxt size tap s < 2 ^ size := by
  have := pow_pred h
  unfold nxt
  split <;> omega

theorem nxt_inj {size tap s t : Nat} (h1 : 1 ≤ tap) (h2 : tap < size) (hs : s < 2 ^ size) (ht : t < 2 ^ size) (e : nxt size tap s = nxt size tap t) : s = t := by
  have hp := pow_pred (size := size) (by omega)
  have d : ∀ x : Nat, x / 2 ^ tap = x / 2 / 2 ^ (tap - 1) := fun x => by
    rw [Nat.div_div_eq_div_mul, ← pow_pred h1]
  unfold nxt at e
  have e1 : s / 2 = t / 2 := by
    generalize 2 ^ (size - 1) = q at *
    split at e <;> split at e <;> omega
  have e2 : s / 2 ^ tap = t / 2 ^ tap := by rw [d, d, e1]
  rw [e2] at e
  have hc : t / 2 ^ tap % 2 < 2 := Nat.mod_lt _ (by omega)
  generalize t / 2 ^ tap % 2 = c at *
  have hq : 0 < 2 ^ (size - 1) := Nat.two_pow_pos _
  generalize 2 ^ (size - 1) = q at *
  split at e <;> split at e <;> omega

theorem orb_lt {size tap s : Nat} (h : 1 ≤ size) (hs : s < 2 ^ size) : ∀ k, orb size tap k s < 2 ^ size
  | 0 => hs
  | k + 1 => nxt_lt h (orb_lt h hs k)

theorem orb_add (size tap s : Nat) (j : Nat) : ∀ k, orb size tap (k + j) s = orb size tap k (orb size tap j s)
  | 0 => by simp [orb]
  | k + 1 => by
    rw [show k + 1 + j = (k + j) + 1 from by omega]
    simp only [orb]
    rw [orb_add size tap s j k]

theorem orb_inj {size tap s t : Nat} (h1 : 1 ≤ tap) (h2 : tap < size) (hs : s < 2 ^ size) (ht : t < 2 ^ size) : ∀ k, orb size tap k s = orb size tap k t → s = t
  | 0, e => e
  | k + 1, e => orb_inj h1 h2 hs ht k (nxt_inj h1 h2 (orb_lt (by omega) hs k) (orb_lt (by omega) ht k) e)

/-- n + 1 places for n numbers: two hold the same. -/
theorem pigeon : ∀ (n : Nat) (f : Nat → Nat), (∀ i, i ≤ n → f i < n) → ∃ i j, i < j ∧ j ≤ n ∧ f i = f j
  | 0, _, h => absurd (h 0 (Nat.le_refl _)) (Nat.not_lt_zero _)
  | n + 1, f, h => by
    by_cases hc : ∃ i, i ≤ n ∧ f i = f (n + 1)
    · obtain ⟨i, hi, e⟩ := hc
      exact ⟨i, n + 1, by omega, Nat.le_refl _, e⟩
    · have hl := h (n + 1) (Nat.le_refl _)
      obtain ⟨i, j, hij, hj, e⟩ := pigeon n (fun i => if f i = n then f (n + 1) else f i) (fun i hi => by
        have := h i (by omega)
        have hne : f i ≠ f (n + 1) := fun e => hc ⟨i, hi, e⟩
        split <;> omega)
      have hi' : f i ≠ f (n + 1) := fun e => hc ⟨i, by omega, e⟩
      have hj' : f j ≠ f (n + 1) := fun e => hc ⟨j, by omega, e⟩
      refine ⟨i, j, hij, by omega, ?_⟩
      split at e <;> split at e <;> omega

theorem comes_round {size tap s : Nat} (h1 : 1 ≤ tap) (h2 : tap < size) (hs : s < 2 ^ size) : ∃ p, 1 ≤ p ∧ p ≤ 2 ^ size ∧ orb size tap p s = s := by
  obtain ⟨i, j, hij, hj, e⟩ := pigeon (2 ^ size) (fun k => orb size tap k s) (fun k _ => orb_lt (by omega) hs k)
  refine ⟨j - i, by omega, by omega, ?_⟩
  have a := orb_add size tap s (j - i) i
  rw [show i + (j - i) = j from by omega] at a
  exact (orb_inj h1 h2 hs (orb_lt (by omega) hs _) i (by rw [← a]; exact e)).symm

/-- The least number with a property that some number has. -/
theorem least (P : Nat → Prop) : ∀ n, P n → ∃ p, p ≤ n ∧ P p ∧ ∀ q, q < p → ¬ P q := by
  intro n
  induction n using Nat.strongRecOn with
  | ind n ih =>
    intro h
    by_cases hc : ∃ q, q < n ∧ P q
    · obtain ⟨q, hq, hp⟩ := hc
      obtain ⟨p, a, b, c⟩ := ih q hq hp
      exact ⟨p, by omega, b, c⟩
    · exact ⟨n, Nat.le_refl _, h, fun q hq hp => hc ⟨q, hq, hp⟩⟩

/-- p is the period of s. -/
structure IsPer (size tap s p : Nat) : Prop where
  pos : 1 ≤ p
  le : p ≤ 2 ^ size
  back : orb size tap p s = s
  first : ∀ q, 1 ≤ q → q < p → orb size tap q s ≠ s

theorem isPer {size tap s : Nat} (h1 : 1 ≤ tap) (h2 : tap < size) (hs : s < 2 ^ size) : ∃ p, IsPer size tap s p := by
  obtain ⟨p, a, b, c⟩ := comes_round h1 h2 hs
  obtain ⟨q, x, ⟨y1, y2⟩, z⟩ := least (fun q => 1 ≤ q ∧ orb size tap q s = s) p ⟨a, c⟩
  exact ⟨q, y1, by omega, y2, fun r hr hq e => z r hq ⟨hr, e⟩⟩

theorem IsPer.one {size tap s p q : Nat} (h : IsPer size tap s p) (k : IsPer size tap s q) : p = q := by
  rcases Nat.lt_trichotomy p q with hl | rfl | hl
  · exact absurd h.back (k.first p h.pos hl)
  · rfl
  · exact absurd k.back (h.first q k.pos hl)

/-- The states of one round from s on. -/
def ring (size tap s p : Nat) : List Nat := (List.range p).map (fun k => orb size tap k s)

theorem ring_length (size tap s p : Nat) : (ring size tap s p).length = p := by simp [ring]

theorem ring_succ (size tap s p : Nat) : ring size tap s (p + 1) = ring size tap s p ++ [orb size tap p s] := by simp [ring, List.range_succ]

/-- No two states of a round are the same. -/
theorem IsPer.apart {size tap s p : Nat} (h : IsPer size tap s p) (h1 : 1 ≤ tap) (h2 : tap < size) (hs : s < 2 ^ size) {i j : Nat} (hij : i < j) (hj : j < p) : orb size tap i s ≠ orb size tap j s := fun e => by
  have a := orb_add size tap s (j - i) i
  rw [show i + (j - i) = j from by omega, ← e] at a
  exact h.first (j - i) (by omega) (by omega) (orb_inj h1 h2 hs (orb_lt (by omega) hs _) i a).symm

/-- Where in its round a state is. -/
def spot (size tap s p x : Nat) : Nat := (ring size tap s p).findIdx (· == x)

theorem spot_first {size tap s p x k : Nat} (hk : k < p) (he : orb size tap k s = x) (hn : ∀ j, j < k → orb size tap j s ≠ x) : spot size tap s p x = k := by
  unfold spot
  rw [List.findIdx_eq (by rw [ring_length]; exact hk)]
  refine ⟨by simp [ring, he], fun j hj => ?_⟩
  have := hn j hj
  simpa [ring] using this

theorem spot_orb {size tap s p : Nat} (h : IsPer size tap s p) (h1 : 1 ≤ tap) (h2 : tap < size) (hs : s < 2 ^ size) {k : Nat} (hk : k < p) : spot size tap s p (orb size tap k s) = k :=
  spot_first hk rfl (fun _ hj => h.apart h1 h2 hs hj hk)

theorem ring_prefix {size tap s p k : Nat} (hk : k ≤ p) : ring size tap s k <+: ring size tap s p := by
  rw [List.prefix_iff_getElem?]
  intro i h
  rw [ring_length] at h
  simp [ring, show i < p from by omega]

/-- Behind how many steps from 0 on t comes (0, if it never does); and does it come? -/
def plN (size tap p t : Nat) : Nat := if t ∈ ring size tap 0 p then spot size tap 0 p t else 0
def plB (size tap p t : Nat) : Bool := decide (t ∈ ring size tap 0 p)

theorem place_no {size tap p t : Nat} (h : ∀ y, y ∈ ring size tap 0 p → y ≠ t) : plN size tap p t = 0 ∧ plB size tap p t = false := by
  have hn : t ∉ ring size tap 0 p := fun m => h t m rfl
  exact ⟨by unfold plN; rw [if_neg hn], decide_eq_false hn⟩

theorem place_first {size tap p t k : Nat} (hk : k < p) (he : orb size tap k 0 = t) (hn : ∀ j, j < k → orb size tap j 0 ≠ t) : plN size tap p t = k ∧ plB size tap p t = true := by
  have hm : t ∈ ring size tap 0 p := by simp [ring]; exact ⟨k, hk, he⟩
  exact ⟨by unfold plN; rw [if_pos hm]; exact spot_first hk he hn, decide_eq_true hm⟩

theorem place_yes {size tap p t : Nat} {pre : List Nat} (h : pre ++ [t] <+: ring size tap 0 p) (hn : ∀ y, y ∈ pre → y ≠ t) : plN size tap p t = pre.length ∧ plB size tap p t = true := by
  have hl : pre.length < p := by have := h.length_le; rw [ring_length] at this; simp at this; omega
  have hget : ∀ i (hi : i < (pre ++ [t]).length), (pre ++ [t])[i] = orb size tap i 0 := fun i hi => by
    rw [h.getElem hi]; simp [ring]
  refine place_first hl ?_ fun j hj => ?_
  · have := hget pre.length (by simp); simpa using this.symm
  · have := hget j (by simp; omega)
    rw [List.getElem_append_left hj] at this
    rw [← this]; exact hn _ (List.getElem_mem _)

/-- Bit j of a state is what falls out j steps later. -/
theorem nxt_bit {size tap x j : Nat} (hj : j + 1 < size) : nxt size tap x / 2 ^ j % 2 = x / 2 ^ (j + 1) % 2 := by
  have e : x / 2 ^ (j + 1) = x / 2 / 2 ^ j := by rw [Nat.div_div_eq_div_mul, Nat.pow_succ, Nat.mul_comm]
  rw [e]
  unfold nxt
  split
  · obtain ⟨k, hk⟩ : ∃ k, size - 1 = j + 1 + k := ⟨size - 1 - (j + 1), by omega⟩
    rw [hk, Nat.pow_add, Nat.pow_succ, Nat.mul_assoc, Nat.add_mul_div_left _ _ (Nat.two_pow_pos j)]
    omega
  · simp

theorem win {size tap s : Nat} : ∀ (j i : Nat), j < size → orb size tap i s / 2 ^ j % 2 = orb size tap (i + j) s % 2
  | 0, i, _ => by simp
  | j + 1, i, h => by
    have a := nxt_bit (tap := tap) (x := orb size tap i s) h
    rw [← a]
    have b := win (size := size) (tap := tap) (s := s) j (i + 1) (by omega)
    simp only [orb] at b
    rw [b, show i + 1 + j = i + (j + 1) from by omega]

/-- The bit at the top behind a step. -/
theorem nxt_top {size tap x : Nat} (h : 1 ≤ size) (hx : x < 2 ^ size) : nxt size tap x / 2 ^ (size - 1) % 2 = if x % 2 = x / 2 ^ tap % 2 then 1 else 0 := by
  have hp := pow_pred h
  have hq : 0 < 2 ^ (size - 1) := Nat.two_pow_pos _
  have h2 : x / 2 / 2 ^ (size - 1) = 0 := Nat.div_eq_of_lt (by omega)
  unfold nxt
  split
  · rw [show x / 2 + 2 ^ (size - 1) = x / 2 + 2 ^ (size - 1) * 1 from by omega, Nat.add_mul_div_left _ _ hq, h2]
  · simp [h2]

theorem row_rec {size tap s : Nat} (h1 : 1 ≤ tap) (h2 : tap < size) (hs : s < 2 ^ size) (k : Nat) :
    orb size tap (k + size) s % 2 = if orb size tap k s % 2 = orb size tap (k + tap) s % 2 then 1 else 0 := by
  have a := win (size := size) (tap := tap) (s := s) (size - 1) (k + 1) (by omega)
  rw [show k + 1 + (size - 1) = k + size from by omega] at a
  simp only [orb] at a
  rw [← a, nxt_top (by omega) (orb_lt (by omega) hs k), win tap k h2]

/-- The count behind one more, of n, and whether it came round. -/
def rndN (i n : Nat) : Nat := (i + 1) % n
def rndB (i n : Nat) : Bool := decide ((i + 1) % n = 0)
theorem rnd_last {i n : Nat} (h : i + 1 = n) : rndN i n = 0 ∧ rndB i n = true := by subst h; simp [rndN, rndB]
theorem rnd_not {i n : Nat} (h : i + 1 < n) : rndN i n = i + 1 ∧ rndB i n = false := by simp [rndN, rndB, Nat.mod_eq_of_lt h]
theorem rndN_lt {i n : Nat} (h : 1 ≤ n) : rndN i n < n := Nat.mod_lt _ (by omega)
/-- A divider's phase. -/
def phase (i n : Nat) : Int := if i = 0 then 1 else if i = n / 2 then 2 else 0
/-- What a Set of a count answers, and where it is then. -/
def cntE (n : Nat) (j : Int) : Int := if 0 ≤ j ∧ j < n then 0 else 6
def cntS (n i : Nat) (j : Int) : Nat := if 0 ≤ j ∧ j < n then j.toNat else i

/-- 2 to the n, under a name that nothing opens. -/
def p2 (n : Nat) : Nat := 2 ^ n
theorem p2_succ (n : Nat) : p2 (n + 1) = 2 * p2 n := by unfold p2; rw [Nat.pow_succ]; omega
theorem p2_le {n m : Nat} (h : n ≤ m) : p2 n ≤ p2 m := Nat.pow_le_pow_right (n := 2) (by omega) h
theorem p2_pos (n : Nat) : 1 ≤ p2 n := Nat.two_pow_pos n

/-- A number is made of its bits. -/
def bitSum (f : Nat → Nat) : Nat → Nat
  | 0 => 0
  | n + 1 => bitSum f n + f n * 2 ^ n

theorem bitSum_mod (x : Nat) : ∀ n, bitSum (fun j => x / 2 ^ j % 2) n = x % 2 ^ n
  | 0 => by simp [bitSum, Nat.mod_one]
  | n + 1 => by
    simp only [bitSum]
    rw [bitSum_mod x n, Nat.pow_succ, Nat.mod_mul]
    rw [Nat.mul_comm]

theorem bitSum_congr {f g : Nat → Nat} : ∀ n, (∀ j, j < n → f j = g j) → bitSum f n = bitSum g n
  | 0, _ => rfl
  | n + 1, h => by
    simp only [bitSum]
    rw [bitSum_congr n (fun j hj => h j (by omega)), h n (by omega)]

theorem bitSum_orb {size tap s k : Nat} (h : 1 ≤ size) (hs : s < 2 ^ size) : bitSum (fun j => orb size tap (k + j) s % 2) size = orb size tap k s := by
  rw [bitSum_congr size (fun j hj => (win (tap := tap) (s := s) j k hj).symm), bitSum_mod, Nat.mod_eq_of_lt (orb_lt h hs k)]

theorem bitSum_lt (f : Nat → Nat) (hf : ∀ j, f j ≤ 1) : ∀ n, bitSum f n < 2 ^ n
  | 0 => by simp [bitSum]
  | n + 1 => by
    have := bitSum_lt f hf n
    have := hf n
    have h2 : f n * 2 ^ n ≤ 1 * 2 ^ n := Nat.mul_le_mul_right _ this
    simp only [bitSum, Nat.pow_succ]
    omega

theorem xor_mod (a b : Nat) : (a ^^^ b) % 2 = (a + b) % 2 := by
  have h : (a ^^^ b) % 2 = 1 ↔ ¬ (a % 2 = 1 ↔ b % 2 = 1) := Nat.xor_mod_two_eq_one
  omega

/-- The words' own reckoning of a step, in a byte. -/
theorem step8 {size tap s : Nat} (h1 : 1 ≤ tap) (h2 : tap < size) (h3 : size ≤ 8) (hs : s < 2 ^ size) :
    bits .or .u8 ((s : Int) / 2) (bits .and .u8 (bits .xor .u8 IntKind.u8.max (bits .xor .u8 (s : Int) ((s : Int) / 2 ^ tap))) 1 * 2 ^ (size - 1) % 256) = ((nxt size tap s : Nat) : Int) := by
  have hp := pow_pred (size := size) (by omega)
  have h8 : 2 ^ size ≤ 2 ^ 8 := Nat.pow_le_pow_right (by omega) h3
  have hq : 0 < 2 ^ (size - 1) := Nat.two_pow_pos _
  have e1 : ((s : Int) / 2 ^ tap) = ((s / 2 ^ tap : Nat) : Int) := by rw [Int.natCast_ediv]; simp
  have l1 : s / 2 ^ tap < 256 := Nat.lt_of_le_of_lt (Nat.div_le_self _ _) (by omega)
  have l2 : s ^^^ (s / 2 ^ tap) < 256 := Nat.xor_lt_two_pow (n := 8) (by omega) l1
  rw [e1, u8_xor_nat _ _ (by omega) l1, show (IntKind.u8.max : Int) = ((255 : Nat) : Int) from rfl, u8_xor_nat _ _ (by omega) l2]
  have l3 : 255 ^^^ (s ^^^ (s / 2 ^ tap)) < 256 := Nat.xor_lt_two_pow (n := 8) (by omega) l2
  rw [show (1 : Int) = ((1 : Nat) : Int) from rfl, u8_and_nat _ _ l3 (by omega), nat_mask1]
  have e2 : (255 ^^^ (s ^^^ (s / 2 ^ tap))) % 2 = if s % 2 = s / 2 ^ tap % 2 then 1 else 0 := by
    have a := xor_mod 255 (s ^^^ (s / 2 ^ tap))
    have b := xor_mod s (s / 2 ^ tap)
    split <;> omega
  rw [e2, show ((s : Int) / 2) = ((s / 2 : Nat) : Int) from by omega]
  have e3 : (((if s % 2 = s / 2 ^ tap % 2 then 1 else 0 : Nat) : Int) * 2 ^ (size - 1) % 256) = (((if s % 2 = s / 2 ^ tap % 2 then 2 ^ (size - 1) else 0 : Nat)) : Int) := by
    have hx : ((2 : Int) ^ (size - 1)) = ((2 ^ (size - 1) : Nat) : Int) := by rw [Int.natCast_pow]; rfl
    rw [hx]
    split <;> omega
  rw [e3, u8_or_nat _ _ (by omega) (by split <;> omega)]
  unfold nxt
  congr 1
  split
  · rw [Nat.or_comm, nat_join (size - 1) _ _ (by simp) (by omega), Nat.add_comm]
  · simp

/-- The words' own reckoning of a step, in sixteen bits. -/
theorem step16 {size tap s : Nat} (h1 : 1 ≤ tap) (h2 : tap < size) (h3 : size ≤ 16) (hs : s < 2 ^ size) :
    bits .or .u16 ((s : Int) / 2) (bits .and .u16 (bits .xor .u16 IntKind.u16.max (bits .xor .u16 (s : Int) ((s : Int) / 2 ^ tap))) 1 * 2 ^ (size - 1) % 65536) = ((nxt size tap s : Nat) : Int) := by
  have hp := pow_pred (size := size) (by omega)
  have h8 : 2 ^ size ≤ 2 ^ 16 := Nat.pow_le_pow_right (by omega) h3
  have hq : 0 < 2 ^ (size - 1) := Nat.two_pow_pos _
  have e1 : ((s : Int) / 2 ^ tap) = ((s / 2 ^ tap : Nat) : Int) := by rw [Int.natCast_ediv]; simp
  have l1 : s / 2 ^ tap < 65536 := Nat.lt_of_le_of_lt (Nat.div_le_self _ _) (by omega)
  have l2 : s ^^^ (s / 2 ^ tap) < 65536 := Nat.xor_lt_two_pow (n := 16) (by omega) l1
  rw [e1, u16_xor_nat _ _ (by omega) l1, show (IntKind.u16.max : Int) = ((65535 : Nat) : Int) from rfl, u16_xor_nat _ _ (by omega) l2]
  have l3 : 65535 ^^^ (s ^^^ (s / 2 ^ tap)) < 65536 := Nat.xor_lt_two_pow (n := 16) (by omega) l2
  rw [show (1 : Int) = ((1 : Nat) : Int) from rfl, u16_and_nat _ _ l3 (by omega), nat_mask1]
  have e2 : (65535 ^^^ (s ^^^ (s / 2 ^ tap))) % 2 = if s % 2 = s / 2 ^ tap % 2 then 1 else 0 := by
    have a := xor_mod 65535 (s ^^^ (s / 2 ^ tap))
    have b := xor_mod s (s / 2 ^ tap)
    split <;> omega
  rw [e2, show ((s : Int) / 2) = ((s / 2 : Nat) : Int) from by omega]
  have e3 : (((if s % 2 = s / 2 ^ tap % 2 then 1 else 0 : Nat) : Int) * 2 ^ (size - 1) % 65536) = (((if s % 2 = s / 2 ^ tap % 2 then 2 ^ (size - 1) else 0 : Nat)) : Int) := by
    have hx : ((2 : Int) ^ (size - 1)) = ((2 ^ (size - 1) : Nat) : Int) := by rw [Int.natCast_pow]; rfl
    rw [hx]
    split <;> omega
  rw [e3, u16_or_nat _ _ (by omega) (by split <;> omega)]
  unfold nxt
  congr 1
  split
  · rw [Nat.or_comm, nat_join (size - 1) _ _ (by simp) (by omega), Nat.add_comm]
  · simp

/-- Behind how many steps, from k on, s comes again: what the kernel reckons. -/
def backAt (size tap s : Nat) : Nat → Nat → Nat → Nat
  | 0, _, k => k
  | f + 1, cur, k => if cur = s then k else backAt size tap s f (nxt size tap cur) (k + 1)

theorem backAt_spec (size tap s : Nat) : ∀ (f k m : Nat), backAt size tap s f (orb size tap k s) k = m → m < k + f → orb size tap m s = s ∧ k ≤ m ∧ ∀ q, k ≤ q → q < m → orb size tap q s ≠ s
  | 0, k, m, h, hm => by simp only [backAt] at h; omega
  | f + 1, k, m, h, hm => by
    simp only [backAt] at h
    by_cases hc : orb size tap k s = s
    · rw [if_pos hc] at h
      subst h
      exact ⟨hc, Nat.le_refl _, fun q a b => by omega⟩
    · rw [if_neg hc] at h
      obtain ⟨a, b, c⟩ := backAt_spec size tap s f (k + 1) m h (by omega)
      refine ⟨a, by omega, fun q hq hq' => ?_⟩
      by_cases e : q = k
      · subst e; exact hc
      · exact c q (by omega) hq'

theorem isPer_back {size tap s p : Nat} (h1 : 1 ≤ p) (h2 : p ≤ 2 ^ size) (h : backAt size tap s p (nxt size tap s) 1 = p) : IsPer size tap s p := by
  obtain ⟨a, _, c⟩ := backAt_spec size tap s p 1 p h (by omega)
  exact ⟨h1, h2, a, c⟩

/-- Which states come within f steps, as the bits of one number: what the kernel reckons. -/
def covers (size tap : Nat) : Nat → Nat → Nat → Nat
  | 0, _, acc => acc
  | f + 1, cur, acc => covers size tap f (nxt size tap cur) (acc ||| 2 ^ cur)

theorem orb_succ' (size tap s : Nat) : ∀ k, orb size tap (k + 1) s = orb size tap k (nxt size tap s)
  | 0 => rfl
  | k + 1 => by
    show nxt size tap (orb size tap (k + 1) s) = nxt size tap (orb size tap k (nxt size tap s))
    rw [orb_succ' size tap s k]

theorem covers_spec (size tap : Nat) : ∀ (f cur acc x : Nat), (covers size tap f cur acc).testBit x = true → acc.testBit x = true ∨ ∃ k, k < f ∧ orb size tap k cur = x
  | 0, _, _, _, h => .inl h
  | f + 1, cur, acc, x, h => by
    simp only [covers] at h
    rcases covers_spec size tap f _ _ x h with h' | ⟨k, hk, e⟩
    · rw [Nat.testBit_or, Bool.or_eq_true] at h'
      rcases h' with h' | h'
      · exact .inl h'
      · refine .inr ⟨0, by omega, ?_⟩
        rw [Nat.testBit_two_pow] at h'
        simpa [orb] using h'
    · exact .inr ⟨k + 1, by omega, by rw [orb_succ']; exact e⟩

/-- All states but the last one lie on the round of 0. -/
theorem covered {size tap p x : Nat} (hc : covers size tap p 0 0 = 2 ^ p - 1) (hx : x < p) : ∃ k, k < p ∧ orb size tap k 0 = x := by
  have h : (covers size tap p 0 0).testBit x = true := by rw [hc, Nat.testBit_two_pow_sub_one]; simpa using hx
  rcases covers_spec size tap p 0 0 x h with h' | h'
  · simp at h'
  · exact h'

/-- Whoever lies on a round has its period. -/
theorem IsPer.on {size tap p : Nat} (h : IsPer size tap 0 p) (h1 : 1 ≤ tap) (h2 : tap < size) (k : Nat) : IsPer size tap (orb size tap k 0) p := by
  have h0 : 0 < 2 ^ size := Nat.two_pow_pos _
  refine ⟨h.pos, h.le, ?_, fun q hq hq' e => ?_⟩
  · rw [← orb_add, Nat.add_comm, orb_add, h.back]
  · rw [← orb_add, Nat.add_comm, orb_add] at e
    exact h.first q hq hq' (orb_inj h1 h2 (orb_lt (by omega) h0 q) h0 k e)

theorem chip4 : IsPer 4 1 0 15 ∧ covers 4 1 15 0 0 = 2 ^ 15 - 1 := ⟨isPer_back (by decide) (by decide) (by decide +kernel), by decide +kernel⟩
theorem chip5 : IsPer 5 2 0 31 ∧ covers 5 2 31 0 0 = 2 ^ 31 - 1 := ⟨isPer_back (by decide) (by decide) (by decide +kernel), by decide +kernel⟩
theorem chip6 : IsPer 6 1 0 63 ∧ covers 6 1 63 0 0 = 2 ^ 63 - 1 := ⟨isPer_back (by decide) (by decide) (by decide +kernel), by decide +kernel⟩
theorem chip9 : IsPer 9 4 0 511 ∧ covers 9 4 511 0 0 = 2 ^ 511 - 1 := ⟨isPer_back (by decide) (by decide) (by decide +kernel), by decide +kernel⟩

theorem chip_per {size tap p x : Nat} (h : IsPer size tap 0 p ∧ covers size tap p 0 0 = 2 ^ p - 1) (h1 : 1 ≤ tap) (h2 : tap < size) (hx : x < p) : IsPer size tap x p := by
  obtain ⟨k, _, rfl⟩ := covered h.2 hx
  exact h.1.on h1 h2 k

end Go.Proofs.Ytdnfclhljahghaa
