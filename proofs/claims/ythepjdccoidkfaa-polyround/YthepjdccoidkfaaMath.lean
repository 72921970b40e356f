/- Plain numbers: a step of a shift register of 'size' bits with a tap, its orbits, and that each of them comes round. -/
import Derived.Laws.BitsAllLaws
import Derived.WalkKit
namespace Go.Proofs.Ythepjdccoidkfaa

/-- The cells of a block that is known whole. -/
theorem cell2 {w : World} {b : Nat} {t : TypeId} {c0 c1 : Value} (h : w.heap[b]? = some (.cells #[c0, c1] t (0, 0))) :
    w.cell? ⟨b, 0, none⟩ = some c0 ∧ w.cell? ⟨b, 1, none⟩ = some c1 := ⟨cell_of_row _ _ _ _ _ _ h, cell_of_row _ _ _ _ _ _ h⟩
theorem cell3 {w : World} {b : Nat} {t : TypeId} {c0 c1 c2 : Value} (h : w.heap[b]? = some (.cells #[c0, c1, c2] t (0, 0))) :
    w.cell? ⟨b, 0, none⟩ = some c0 ∧ w.cell? ⟨b, 1, none⟩ = some c1 ∧ w.cell? ⟨b, 2, none⟩ = some c2 := ⟨cell_of_row _ _ _ _ _ _ h, cell_of_row _ _ _ _ _ _ h, cell_of_row _ _ _ _ _ _ h⟩
theorem cell4 {w : World} {b : Nat} {t : TypeId} {c0 c1 c2 c3 : Value} (h : w.heap[b]? = some (.cells #[c0, c1, c2, c3] t (0, 0))) :
    w.cell? ⟨b, 0, none⟩ = some c0 ∧ w.cell? ⟨b, 1, none⟩ = some c1 ∧ w.cell? ⟨b, 2, none⟩ = some c2 ∧ w.cell? ⟨b, 3, none⟩ = some c3 :=
  ⟨cell_of_row _ _ _ _ _ _ h, cell_of_row _ _ _ _ _ _ h, cell_of_row _ _ _ _ _ _ h, cell_of_row _ _ _ _ _ _ h⟩

/-- The state behind a step. -/
def nxt (size tap s : Nat) : Nat := s / 2 + if s % 2 = s / 2 ^ tap % 2 then 2 ^ (size - 1) else 0

/-- The state behind k steps. -/
def orb (size tap : Nat) : Nat → Nat → Nat
  | 0, s => s
  | k + 1, s => nxt size tap (orb size tap k s)

theorem pow_pred {size : Nat} (h : 1 ≤ size) : 2 ^ size = 2 * 2 ^ (size - 1) := by
  obtain ⟨k, rfl⟩ : ∃ k, size = k + 1 := ⟨size - 1, by omega⟩
  simp [Nat.pow_succ]; omega

theorem nxt_lt {size tap s : Nat} (h : 1 ≤ size) (hs : s < 2 ^ size) : nxt size tap s < 2 ^ size := by
  have := pow_pred h
  unfold nxt
  split <;> omega

theorem nxt_inj {size tap s t : Nat} (h1 : 1 ≤ tap) (h2 : tap < size) (hs : s < 2 ^ size) (ht : t < 2 ^ size) (e : nxt size tap s = nxt size tap t) : s = t := by
  have hp := pow_pred (size := size) (by omega)
  have d : ∀ x : Nat, x / 2 ^ tap = x / 2 / 2 ^ (tap - 1) := fun x => by
    rw [Nat.div_div_eq_div_mul, ← pow_pred h1]
  unfold nxt at e
  have e1 : s / 2 = t / 2 := by
    generalize 2 ^ (size - 1) = q at *
    split at e <;> split at e <;> omega
  have e2 : s / 2 ^ tap = t / 2 ^ tap := by rw [d, d, e1]
  rw [e2] at e
  have hc : t / 2 ^ tap % 2 < 2 := Nat.mod_lt _ (by omega)
  generalize t / 2 ^ tap % 2 = c at *
  have hq : 0 < 2 ^ (size - 1) := Nat.two_pow_pos _
  generalize 2 ^ (size - 1) = q at *
  split at e <;> split at e <;> omega

theorem orb_lt {size tap s : Nat} (h : 1 ≤ size) (hs : s < 2 ^ size) : ∀ k, orb size tap k s < 2 ^ size
  | 0 => hs
  | k + 1 => nxt_lt h (orb_lt h hs k)

theorem orb_add (size tap s : Nat) (j : Nat) : ∀ k, orb size tap (k + j) s = orb size tap k (orb size tap j s)
  | 0 => by simp [orb]
  | k + 1 => by
    rw [show k + 1 + j = (k + j) + 1 from by omega]
    simp only [orb]
    rw [orb_add size tap s j k]

theorem orb_inj {size tap s t : Nat} (h1 : 1 ≤ tap) (h2 : tap < size) (hs : s < 2 ^ size) (ht : t < 2 ^ size) : ∀ k, orb size tap k s = orb size tap k t → s = t
  | 0, e => e
  | k + 1, e => orb_inj h1 h2 hs ht k (nxt_inj h1 h2 (orb_lt (by omega) hs k) (orb_lt (by omega) ht k) e)

/-- n + 1 places for n numbers: two hold the same. -/
theorem pigeon : ∀ (n : Nat) (f : Nat → Nat), (∀ i, i ≤ n → f i < n) → ∃ i j, i < j ∧ j ≤ n ∧ f i = f j
  | 0, _, h => absurd (h 0 (Nat.le_refl _)) (Nat.not_lt_zero _)
  | n + 1, f, h => by
    by_cases hc : ∃ i, i ≤ n ∧ f i = f (n + 1)
    · obtain ⟨i, hi, e⟩ := hc
      exact ⟨i, n + 1, by omega, Nat.le_refl _, e⟩
    · have hl := h (n + 1) (Nat.le_refl _)
      obtain ⟨i, j, hij, hj, e⟩ := pigeon n (fun i => if f i = n then f (n + 1) else f i) (fun i hi => by
        have := h i (by omega)
        have hne : f i ≠ f (n + 1) := fun e => hc ⟨i, hi, e⟩
        split <;> omega)
      have hi' : f i ≠ f (n + 1) := fun e => hc ⟨i, by omega, e⟩
      have hj' : f j ≠ f (n + 1) := fun e => hc ⟨j, by omega, e⟩
      refine ⟨i, j, hij, by omega, ?_⟩
      split at e <;> split at e <;> omega

theorem comes_round {size tap s : Nat} (h1 : 1 ≤ tap) (h2 : tap < size) (hs : s < 2 ^ size) : ∃ p, 1 ≤ p ∧ p ≤ 2 ^ size ∧ orb size tap p s = s := by
  obtain ⟨i, j, hij, hj, e⟩ := pigeon (2 ^ size) (fun k => orb size tap k s) (fun k _ => orb_lt (by omega) hs k)
  refine ⟨j - i, by omega, by omega, ?_⟩
  have a := orb_add size tap s (j - i) i
  rw [show i + (j - i) = j from by omega] at a
  exact (orb_inj h1 h2 hs (orb_lt (by omega) hs _) i (by rw [← a]; exact e)).symm

/-- The least number with a property that some number has. -/
theorem least (P : Nat → Prop) : ∀ n, P n → ∃ p, p ≤ n ∧ P p ∧ ∀ q, q < p → ¬ P q := by
  intro n
  induction n using Nat.strongRecOn with
  | ind n ih =>
    intro h
    by_cases hc : ∃ q, q < n ∧ P q
    · obtain ⟨q, hq, hp⟩ := hc
      obtain ⟨p, a, b, c⟩ := ih q hq hp
      exact ⟨p, by omega, b, c⟩
    · exact ⟨n, Nat.le_refl _, h, fun q hq hp => hc ⟨q, hq, hp⟩⟩

/-- p is the period of s. -/
structure IsPer (size tap s p : Nat) : Prop where
  pos : 1 ≤ p
  le : p ≤ 2 ^ size
  back : orb size tap p s = s
  first : ∀ q, 1 ≤ q → q < p → orb size tap q s ≠ s

theorem isPer {size tap s : Nat} (h1 : 1 ≤ tap) (h2 : tap < size) (hs : s < 2 ^ size) : ∃ p, IsPer size tap s p := by
  obtain ⟨p, a, b, c⟩ := comes_round h1 h2 hs
  obtain ⟨q, x, ⟨y1, y2⟩, z⟩ := least (fun q => 1 ≤ q ∧ orb size tap q s = s) p ⟨a, c⟩
  exact ⟨q, y1, by omega, y2, fun r hr hq e => z r hq ⟨hr, e⟩⟩

theorem IsPer.one {size tap s p q : Nat} (h : IsPer size tap s p) (k : IsPer size tap s q) : p = q := by
  rcases Nat.lt_trichotomy p q with hl | rfl | hl
  · exact absurd h.back (k.first p h.pos hl)
  · rfl
  · exact absurd k.back (h.first q k.pos hl)

/-- The states of one round from s on. -/
def ring (size tap s p : Nat) : List Nat := (List.range p).map (fun k => orb size tap k s)

theorem ring_length (size tap s p : Nat) : (ring size tap s p).length = p := by simp [ring]

theorem ring_succ (size tap s p : Nat) : ring size tap s (p + 1) = ring size tap s p ++ [orb size tap p s] := by simp [ring, List.range_succ]

/-- No two states of a round are the same. -/
theorem IsPer.apart {size tap s p : Nat} (h : IsPer size tap s p) (h1 : 1 ≤ tap) (h2 : tap < size) (hs : s < 2 ^ size) {i j : Nat} (hij : i < j) (hj : j < p) : orb size tap i s ≠ orb size tap j s := fun e => by
  have a := orb_add size tap s (j - i) i
  rw [show i + (j - i) = j from by omega, ← e] at a
  exact h.first (j - i) (by omega) (by omega) (orb_inj h1 h2 hs (orb_lt (by omega) hs _) i a).symm

/-- Where in its round a state is. -/
def spot (size tap s p x : Nat) : Nat := (ring size tap s p).findIdx (· == x)

theorem spot_first {size tap s p x k : Nat} (hk : k < p) (he : orb size tap k s = x) (hn : ∀ j, j < k → orb size tap j s ≠ x) : spot size tap s p x = k := by
  unfold spot
  rw [List.findIdx_eq (by rw [ring_length]; exact hk)]
  refine ⟨by simp [ring, he], fun j hj => ?_⟩
  have := hn j hj
  simpa [ring] using this

theorem spot_orb {size tap s p : Nat} (h : IsPer size tap s p) (h1 : 1 ≤ tap) (h2 : tap < size) (hs : s < 2 ^ size) {k : Nat} (hk : k < p) : spot size tap s p (orb size tap k s) = k :=
  spot_first hk rfl (fun _ hj => h.apart h1 h2 hs hj hk)

theorem ring_prefix {size tap s p k : Nat} (hk : k ≤ p) : ring size tap s k <+: ring size tap s p := by
  rw [List.prefix_iff_getElem?]
  intro i h
  rw [ring_length] at h
  simp [ring, show i < p from by omega]

/-- Behind how many steps from 0 on t comes (0, if it never does); and does it come? -/
def plN (size tap p t : Nat) : Nat := if t ∈ ring size tap 0 p then spot size tap 0 p t else 0
def plB (size tap p t : Nat) : Bool := decide (t ∈ ring size tap 0 p)

theorem place_no {size tap p t : Nat} (h : ∀ y, y ∈ ring size tap 0 p → y ≠ t) : plN size tap p t = 0 ∧ plB size tap p t = false := by
  have hn : t ∉ ring size tap 0 p := fun m => h t m rfl
  exact ⟨by unfold plN; rw [if_neg hn], decide_eq_false hn⟩

theorem place_first {size tap p t k : Nat} (hk : k < p) (he : orb size tap k 0 = t) (hn : ∀ j, j < k → orb size tap j 0 ≠ t) : plN size tap p t = k ∧ plB size tap p t = true := by
  have hm : t ∈ ring size tap 0 p := by simp [ring]; exact ⟨k, hk, he⟩
  exact ⟨by unfold plN; rw [if_pos hm]; exact spot_first hk he hn, decide_eq_true hm⟩

theorem place_yes {size tap p t : Nat} {pre : List Nat} (h : pre ++ [t] <+: ring size tap 0 p) (hn : ∀ y, y ∈ pre → y ≠ t) : plN size tap p t = pre.length ∧ plB size tap p t = true := by
  have hl : pre.length < p := by have := h.length_le; rw [ring_length] at this; simp at this; omega
  have hget : ∀ i (hi : i < (pre ++ [t]).length), (pre ++ [t])[i] = orb size tap i 0 := fun i hi => by
    rw [h.getElem hi]; simp [ring]
  refine place_first hl ?_ fun j hj => ?_
  · have := hget pre.length (by simp); simpa using this.symm
  · have := hget j (by simp; omega)
    rw [List.getElem_append_left hj] at this
    rw [← this]; exact hn _ (List.getElem_mem _)

theorem xor_mod (a b : Nat) : (a ^^^ b) % 2 = (a + b) % 2 := by
  have h : (a ^^^ b) % 2 = 1 ↔ ¬ (a % 2 = 1 ↔ b % 2 = 1) := Nat.xor_mod_two_eq_one
  omega

/-- The words' own reckoning of a step, in a byte. -/
theorem step8 {size tap s : Nat} (h1 : 1 ≤ tap) (h2 : tap < size) (h3 : size ≤ 8) (hs : s < 2 ^ size) :
    bits .or .u8 ((s : Int) / 2) (bits .and .u8 (bits .xor .u8 IntKind.u8.max (bits .xor .u8 (s : Int) ((s : Int) / 2 ^ tap))) 1 * 2 ^ (size - 1) % 256) = ((nxt size tap s : Nat) : Int) := by
  have hp := pow_pred (size := size) (by omega)
  have h8 : 2 ^ size ≤ 2 ^ 8 := Nat.pow_le_pow_right (by omega) h3
  have hq : 0 < 2 ^ (size - 1) := Nat.two_pow_pos _
  have e1 : ((s : Int) / 2 ^ tap) = ((s / 2 ^ tap : Nat) : Int) := by rw [Int.natCast_ediv]; simp
  have l1 : s / 2 ^ tap < 256 := Nat.lt_of_le_of_lt (Nat.div_le_self _ _) (by omega)
  have l2 : s ^^^ (s / 2 ^ tap) < 256 := Nat.xor_lt_two_pow (n := 8) (by omega) l1
  rw [e1, u8_xor_nat _ _ (by omega) l1, show (IntKind.u8.max : Int) = ((255 : Nat) : Int) from rfl, u8_xor_nat _ _ (by omega) l2]
  have l3 : 255 ^^^ (s ^^^ (s / 2 ^ tap)) < 256 := Nat.xor_lt_two_pow (n := 8) (by omega) l2
  rw [show (1 : Int) = ((1 : Nat) : Int) from rfl, u8_and_nat _ _ l3 (by omega), nat_mask1]
  have e2 : (255 ^^^ (s ^^^ (s / 2 ^ tap))) % 2 = if s % 2 = s / 2 ^ tap % 2 then 1 else 0 := by
    have a := xor_mod 255 (s ^^^ (s / 2 ^ tap))
    have b := xor_mod s (s / 2 ^ tap)
    split <;> omega
  rw [e2, show ((s : Int) / 2) = ((s / 2 : Nat) : Int) from by omega]
  have e3 : (((if s % 2 = s / 2 ^ tap % 2 then 1 else 0 : Nat) : Int) * 2 ^ (size - 1) % 256) = (((if s % 2 = s / 2 ^ tap % 2 then 2 ^ (size - 1) else 0 : Nat)) : Int) := by
    have hx : ((2 : Int) ^ (size - 1)) = ((2 ^ (size - 1) : Nat) : Int) := by rw [Int.natCast_pow]; rfl
    rw [hx]
    split <;> omega
  rw [e3, u8_or_nat _ _ (by omega) (by split <;> omega)]
  unfold nxt
  congr 1
  split
  · rw [Nat.or_comm, nat_join (size - 1) _ _ (by simp) (by omega), Nat.add_comm]
  · simp

/-- The words' own reckoning of a step, in sixteen bits. -/
theorem step16 {size tap s : Nat} (h1 : 1 ≤ tap) (h2 : tap < size) (h3 : size ≤ 16) (hs : s < 2 ^ size) :
    bits .or .u16 ((s : Int) / 2) (bits .and .u16 (bits .xor .u16 IntKind.u16.max (bits .xor .u16 (s : Int) ((s : Int) / 2 ^ tap))) 1 * 2 ^ (size - 1) % 65536) = ((nxt size tap s : Nat) : Int) := by
  have hp := pow_pred (size := size) (by omega)
  have h8 : 2 ^ size ≤ 2 ^ 16 := Nat.pow_le_pow_right (by omega) h3
  have hq : 0 < 2 ^ (size - 1) := Nat.two_pow_pos _
  have e1 : ((s : Int) / 2 ^ tap) = ((s / 2 ^ tap : Nat) : Int) := by rw [Int.natCast_ediv]; simp
  have l1 : s / 2 ^ tap < 65536 := Nat.lt_of_le_of_lt (Nat.div_le_self _ _) (by omega)
  have l2 : s ^^^ (s / 2 ^ tap) < 65536 := Nat.xor_lt_two_pow (n := 16) (by omega) l1
  rw [e1, u16_xor_nat _ _ (by omega) l1, show (IntKind.u16.max : Int) = ((65535 : Nat) : Int) from rfl, u16_xor_nat _ _ (by omega) l2]
  have l3 : 65535 ^^^ (s ^^^ (s / 2 ^ tap)) < 65536 := Nat.xor_lt_two_pow (n := 16) (by omega) l2
  rw [show (1 : Int) = ((1 : Nat) : Int) from rfl, u16_and_nat _ _ l3 (by omega), nat_mask1]
  have e2 : (65535 ^^^ (s ^^^ (s / 2 ^ tap))) % 2 = if s % 2 = s / 2 ^ tap % 2 then 1 else 0 := by
    have a := xor_mod 65535 (s ^^^ (s / 2 ^ tap))
    have b := xor_mod s (s / 2 ^ tap)
    split <;> omega
  rw [e2, show ((s : Int) / 2) = ((s / 2 : Nat) : Int) from by omega]
  have e3 : (((if s % 2 = s / 2 ^ tap % 2 then 1 else 0 : Nat) : Int) * 2 ^ (size - 1) % 65536) = (((if s % 2 = s / 2 ^ tap % 2 then 2 ^ (size - 1) else 0 : Nat)) : Int) := by
    have hx : ((2 : Int) ^ (size - 1)) = ((2 ^ (size - 1) : Nat) : Int) := by rw [Int.natCast_pow]; rfl
    rw [hx]
    split <;> omega
  rw [e3, u16_or_nat _ _ (by omega) (by split <;> omega)]
  unfold nxt
  congr 1
  split
  · rw [Nat.or_comm, nat_join (size - 1) _ _ (by simp) (by omega), Nat.add_comm]
  · simp

end Go.Proofs.Ythepjdccoidkfaa
