/- Voices of the controls 4, 5, 1, 8, beat by beat: plain numbers. (Written by wip/gen/gen_tonerounds.py.) -/
import Derived.Test.YtdnfclhljahghaaTone8
namespace Go.Proofs.Ytdnfclhljahghaa.To
open Go.RowKit
set_option linter.unusedVariables false

/-- So many beats. -/
def bs : Nat → Vo → Vo
  | 0, p => p
  | n + 1, p => (bs n p).beat

theorem beat_c (p : Vo) : p.beat.c = p.c := by unfold Vo.beat; (repeat' split); all_goals rfl
theorem beat_r (p : Vo) : p.beat.r = p.r := by unfold Vo.beat; (repeat' split); all_goals rfl
theorem beat_vv (p : Vo) : p.beat.v = p.v := by unfold Vo.beat; (repeat' split); all_goals rfl
theorem bs_c : ∀ (n : Nat) (p : Vo), (bs n p).c = p.c
  | 0, p => rfl
  | n + 1, p => by rw [show bs (n + 1) p = (bs n p).beat from rfl, beat_c, bs_c n p]
theorem bs_r : ∀ (n : Nat) (p : Vo), (bs n p).r = p.r
  | 0, p => rfl
  | n + 1, p => by rw [show bs (n + 1) p = (bs n p).beat from rfl, beat_r, bs_r n p]
theorem bs_k : ∀ (n : Nat) (p : Vo), (bs n p).k = p.k
  | 0, p => rfl
  | n + 1, p => by rw [show bs (n + 1) p = (bs n p).beat from rfl, Vo.beat_k, bs_k n p]
theorem bs_v : ∀ (n : Nat) (p : Vo), (bs n p).v = p.v
  | 0, p => rfl
  | n + 1, p => by rw [show bs (n + 1) p = (bs n p).beat from rfl, beat_vv, bs_v n p]
theorem len_of {p q : Vo} (hc : p.c = q.c) (hr : p.r = q.r) : p.len = q.len := by unfold Vo.len; rw [hc, hr]

theorem tk_form (p : Vo) (hk : p.k = 0) (L : Nat) (hL : p.len = L) (h1 : 1 ≤ L) : ∀ n, tk n p = { bs (n / L) p with k := n % L }
  | 0 => by
    rw [Nat.zero_div, Nat.zero_mod]
    show p = { p with k := 0 }
    rw [← hk]
  | n + 1 => by
    show (tk n p).tick = _
    rw [tk_form p hk L hL h1 n]
    have hlen : ({ bs (n / L) p with k := n % L } : Vo).len = L := by rw [← hL]; exact len_of (bs_c _ _) (bs_r _ _)
    have hd := Nat.div_add_mod n L
    have hm := Nat.mod_lt n (show 0 < L by omega)
    unfold Vo.tick
    rw [hlen]
    by_cases h : n % L + 1 < L
    · rw [if_pos h]
      have e1 : (n + 1) / L = n / L := by
        have e : n / L * L = L * (n / L) := Nat.mul_comm _ _
        exact Nat.div_eq_of_lt_le (by omega) (by rw [Nat.add_mul]; omega)
      have e2 : (n + 1) % L = n % L + 1 := by
        have h3 := Nat.div_add_mod (n + 1) L
        rw [e1] at h3
        omega
      rw [e1, e2]
    · rw [if_neg h]
      have hL' : n + 1 = L * (n / L + 1) := by rw [Nat.mul_add]; omega
      have e1 : (n + 1) / L = n / L + 1 := by rw [hL']; exact Nat.mul_div_cancel_left _ (by omega)
      have e2 : (n + 1) % L = 0 := by rw [hL']; exact Nat.mul_mod_right _ _
      rw [e1, e2]
      have hb : ({ ({ bs (n / L) p with k := n % L } : Vo) with k := 0 } : Vo) = bs (n / L) p := by
        have := bs_k (n / L) p
        rw [hk] at this
        show ({ bs (n / L) p with k := 0 } : Vo) = bs (n / L) p
        rw [← this]
      rw [hb]
      show (bs (n / L) p).beat = { (bs (n / L) p).beat with k := 0 }
      have : (bs (n / L) p).beat.k = 0 := by rw [Vo.beat_k, bs_k, hk]
      rw [← this]

theorem tk_add (p : Vo) (a : Nat) : ∀ b, tk b (tk a p) = tk (a + b) p
  | 0 => rfl
  | b + 1 => by
    show (tk b (tk a p)).tick = (tk (a + b) p).tick
    rw [tk_add p a b]

theorem beat4 (q : Vo) (hc : q.c = 4 ∨ q.c = 5) : q.beat = { ({ q with f5 := nxt 5 2 q.f5 } : Vo) with hi := !q.hi } := by
  have g : goB q.c (nxt 5 2 q.f5) (decide (q.f5 % 2 = 1)) = true := by unfold goB; rw [if_neg (by omega), if_neg (by omega)]
  unfold Vo.beat
  rw [if_neg (by rw [g]; decide), if_pos (by omega)]
theorem beat1 (q : Vo) (hc : q.c = 1) : q.beat = { ({ q with f5 := nxt 5 2 q.f5 } : Vo) with hi := decide (q.f4 % 2 = 1), f4 := nxt 4 1 q.f4 } := by
  have g : goB q.c (nxt 5 2 q.f5) (decide (q.f5 % 2 = 1)) = true := by unfold goB; rw [if_neg (by omega), if_neg (by omega)]
  unfold Vo.beat
  rw [if_neg (by rw [g]; decide), if_neg (by omega), if_neg (by omega), if_neg (by omega)]
theorem beat8 (q : Vo) (hc : q.c = 8) : q.beat = { ({ q with f5 := nxt 5 2 q.f5 } : Vo) with hi := decide (q.f9 % 2 = 1), f9 := nxt 9 4 q.f9 } := by
  have g : goB q.c (nxt 5 2 q.f5) (decide (q.f5 % 2 = 1)) = true := by unfold goB; rw [if_neg (by omega), if_neg (by omega)]
  unfold Vo.beat
  rw [if_neg (by rw [g]; decide), if_neg (by omega), if_pos (by omega)]

/-- Pure voices turn. -/
theorem turn4 (p : Vo) (hc : p.c = 4 ∨ p.c = 5) : ∀ n, (bs n p).f4 = p.f4 ∧ (bs n p).f9 = p.f9 ∧ (bs n p).hi = (if n % 2 = 1 then !p.hi else p.hi)
  | 0 => ⟨rfl, rfl, rfl⟩
  | n + 1 => by
    obtain ⟨h1, h2, h3⟩ := turn4 p hc n
    have hc' := bs_c n p
    have e : (bs (n + 1) p) = { ({ bs n p with f5 := nxt 5 2 (bs n p).f5 } : Vo) with hi := !(bs n p).hi } := beat4 _ (by omega)
    rw [e]
    refine ⟨h1, h2, ?_⟩
    show (!(bs n p).hi) = _
    rw [h3]
    by_cases hn : n % 2 = 1
    · rw [if_pos hn, if_neg (by omega)]; simp
    · rw [if_neg hn, if_pos (by omega)]
/-- Control 1: the poly (4, 1). -/
theorem turn1 (p : Vo) (hc : p.c = 1) : ∀ n, (bs n p).f4 = orb 4 1 n p.f4 ∧ (bs n p).f9 = p.f9 ∧ (bs (n + 1) p).hi = decide (orb 4 1 n p.f4 % 2 = 1) := by
  have step : ∀ n, bs (n + 1) p = { ({ bs n p with f5 := nxt 5 2 (bs n p).f5 } : Vo) with hi := decide ((bs n p).f4 % 2 = 1), f4 := nxt 4 1 (bs n p).f4 } := fun n => beat1 _ (by rw [bs_c]; exact hc)
  have both : ∀ n, (bs n p).f4 = orb 4 1 n p.f4 ∧ (bs n p).f9 = p.f9 := fun n => by
    induction n with
    | zero => exact ⟨rfl, rfl⟩
    | succ n ih =>
      rw [step n]
      exact ⟨by show nxt 4 1 (bs n p).f4 = _; rw [ih.1]; rfl, ih.2⟩
  intro n
  refine ⟨(both n).1, (both n).2, ?_⟩
  rw [step n, ← (both n).1]
/-- Control 8: the poly (9, 4). -/
theorem turn8 (p : Vo) (hc : p.c = 8) : ∀ n, (bs n p).f9 = orb 9 4 n p.f9 ∧ (bs n p).f4 = p.f4 ∧ (bs (n + 1) p).hi = decide (orb 9 4 n p.f9 % 2 = 1) := by
  have step : ∀ n, bs (n + 1) p = { ({ bs n p with f5 := nxt 5 2 (bs n p).f5 } : Vo) with hi := decide ((bs n p).f9 % 2 = 1), f9 := nxt 9 4 (bs n p).f9 } := fun n => beat8 _ (by rw [bs_c]; exact hc)
  have both : ∀ n, (bs n p).f9 = orb 9 4 n p.f9 ∧ (bs n p).f4 = p.f4 := fun n => by
    induction n with
    | zero => exact ⟨rfl, rfl⟩
    | succ n ih =>
      rw [step n]
      exact ⟨by show nxt 9 4 (bs n p).f9 = _; rw [ih.1]; rfl, ih.2⟩
  intro n
  refine ⟨(both n).1, (both n).2, ?_⟩
  rw [step n, ← (both n).1]

/-- The two are alike but for the poly (5, 2). -/
def Alike (p q : Vo) : Prop := q.k = p.k ∧ q.hi = p.hi ∧ q.f4 = p.f4 ∧ q.f9 = p.f9

theorem rounds (c t : Nat) (hct : (c = 4 ∧ t = 2) ∨ (c = 5 ∧ t = 2) ∨ (c = 1 ∧ t = 15) ∨ (c = 8 ∧ t = 511)) (r v a : Nat) :
    Alike (tk (r + 1 + a) { Vo.new with c := c, r := r, v := v }) (tk (t * (r + 1)) (tk (r + 1 + a) { Vo.new with c := c, r := r, v := v })) := by
  have hlen : ({ Vo.new with c := c, r := r, v := v } : Vo).len = r + 1 := by unfold Vo.len; rw [if_neg (by simp only; omega)]
  rw [tk_add]
  have e1 := tk_form ({ Vo.new with c := c, r := r, v := v } : Vo) rfl (r + 1) hlen (by omega) (r + 1 + a)
  have e2 := tk_form ({ Vo.new with c := c, r := r, v := v } : Vo) rfl (r + 1) hlen (by omega) (r + 1 + a + t * (r + 1))
  rw [e1, e2]
  have d2 : (r + 1 + a + t * (r + 1)) / (r + 1) = (r + 1 + a) / (r + 1) + t := Nat.add_mul_div_right _ _ (by omega)
  have m2 : (r + 1 + a + t * (r + 1)) % (r + 1) = (r + 1 + a) % (r + 1) := Nat.add_mul_mod_self_right _ _ _
  obtain ⟨m, hm⟩ : ∃ m, (r + 1 + a) / (r + 1) = m + 1 := ⟨a / (r + 1), by rw [Nat.add_comm (r + 1) a, Nat.add_div_right _ (by omega)]⟩
  rw [d2, m2, hm]
  generalize hp : ({ Vo.new with c := c, r := r, v := v } : Vo) = p
  have hpc : p.c = c := by rw [← hp]
  have hp4 : p.f4 = 0 := by rw [← hp]; rfl
  have hp9 : p.f9 = 0 := by rw [← hp]; rfl
  refine ⟨rfl, ?_, ?_, ?_⟩
  all_goals
    simp only
    rcases hct with ⟨h, ht⟩ | ⟨h, ht⟩ | ⟨h, ht⟩ | ⟨h, ht⟩
  · have a1 := (turn4 p (.inl (by omega)) (m + 1 + t)).2.2
    have a2 := (turn4 p (.inl (by omega)) (m + 1)).2.2
    rw [a1, a2, show (m + 1 + t) % 2 = (m + 1) % 2 by omega]
  · have a1 := (turn4 p (.inr (by omega)) (m + 1 + t)).2.2
    have a2 := (turn4 p (.inr (by omega)) (m + 1)).2.2
    rw [a1, a2, show (m + 1 + t) % 2 = (m + 1) % 2 by omega]
  · have a1 := (turn1 p (by omega) (m + t)).2.2
    have a2 := (turn1 p (by omega) m).2.2
    rw [show m + 1 + t = m + t + 1 by omega, a1, a2, ht, orb_add, hp4, chip4.1.back]
  · have a1 := (turn8 p (by omega) (m + t)).2.2
    have a2 := (turn8 p (by omega) m).2.2
    rw [show m + 1 + t = m + t + 1 by omega, a1, a2, ht, orb_add, hp9, chip9.1.back]
  · rw [(turn4 p (.inl (by omega)) (m + 1 + t)).1, (turn4 p (.inl (by omega)) (m + 1)).1]
  · rw [(turn4 p (.inr (by omega)) (m + 1 + t)).1, (turn4 p (.inr (by omega)) (m + 1)).1]
  · rw [(turn1 p (by omega) (m + 1 + t)).1, (turn1 p (by omega) (m + 1)).1, ht, orb_add, hp4, chip4.1.back]
  · rw [(turn8 p (by omega) (m + 1 + t)).2.1, (turn8 p (by omega) (m + 1)).2.1]
  · rw [(turn4 p (.inl (by omega)) (m + 1 + t)).2.1, (turn4 p (.inl (by omega)) (m + 1)).2.1]
  · rw [(turn4 p (.inr (by omega)) (m + 1 + t)).2.1, (turn4 p (.inr (by omega)) (m + 1)).2.1]
  · rw [(turn1 p (by omega) (m + 1 + t)).2.1, (turn1 p (by omega) (m + 1)).2.1]
  · rw [(turn8 p (by omega) (m + 1 + t)).1, (turn8 p (by omega) (m + 1)).1, ht, orb_add, hp9, chip9.1.back]

theorem tk_vv : ∀ (n : Nat) (p : Vo), (tk n p).v = p.v
  | 0, p => rfl
  | n + 1, p => by
    rw [show tk (n + 1) p = (tk n p).tick from rfl, ← tk_vv n p]
    unfold Vo.tick
    split
    · rfl
    · rw [beat_vv]

end Go.Proofs.Ytdnfclhljahghaa.To
