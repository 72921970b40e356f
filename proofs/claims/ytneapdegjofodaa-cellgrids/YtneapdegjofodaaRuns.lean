/- Plain lists: the runs of a row, and the row of runs. -/
import Derived.WalkKit
namespace Go.Proofs.Ytneapdegjofodaa

/-- One thing more. -/
def runStep (out : List (Int × Int)) (x : Int) : List (Int × Int) :=
  match out.getLast? with
  | some (y, c) => if y = x then out.dropLast ++ [(y, c + 1)] else out ++ [(x, 1)]
  | none => [(x, 1)]
/-- The runs of a row. -/
def runs (l : List Int) : List (Int × Int) := l.foldl runStep []

theorem runs_snoc (l : List Int) (x : Int) : runs (l ++ [x]) = runStep (runs l) x := by simp [runs, List.foldl_append]

theorem runStep_same {out : List (Int × Int)} {y c : Int} : runStep (out ++ [(y, c)]) y = out ++ [(y, c + 1)] := by simp [runStep]
theorem runStep_new {out : List (Int × Int)} {x : Int} (h : ∀ y c, out.getLast? = some (y, c) → y ≠ x) : runStep out x = out ++ [(x, 1)] := by
  unfold runStep
  split
  · rename_i y c e; rw [if_neg (h y c e)]
  · rename_i e; rw [List.getLast?_eq_none_iff.1 e]; rfl

/-- A row's next run, begun anew. -/
theorem runs_run {l : List Int} {x : Int} (h : ∀ y c, (runs l).getLast? = some (y, c) → y ≠ x) : ∀ n : Nat, runs (l ++ List.replicate (n + 1) x) = runs l ++ [(x, (n : Int) + 1)]
  | 0 => by
    show runs (l ++ [x]) = _
    rw [runs_snoc, runStep_new h]; simp
  | n + 1 => by
    have e : l ++ List.replicate (n + 1 + 1) x = (l ++ List.replicate (n + 1) x) ++ [x] := by rw [List.replicate_succ' (n := n + 1), List.append_assoc]
    rw [e, runs_snoc, runs_run h n, runStep_same]
    simp

theorem runs_take {l : List Int} {x : Int} {k n : Nat} (h : ∀ y c, (runs (l.take k)).getLast? = some (y, c) → y ≠ x) (hx : ∀ j, j ≤ n → l[k + j]? = some x) :
    runs (l.take (k + (n + 1))) = runs (l.take k) ++ [(x, (n : Int) + 1)] := by
  rw [← runs_run h n]
  congr 1
  have hk : k + n < l.length := by
    have := hx n (Nat.le_refl _)
    exact (List.getElem?_eq_some_iff.1 this).1
  apply List.ext_getElem?
  intro i
  by_cases hi : i < k
  · rw [List.getElem?_take_of_lt (by omega), List.getElem?_append_left (by simp; omega), List.getElem?_take_of_lt hi]
  · by_cases hi2 : i < k + (n + 1)
    · rw [List.getElem?_take_of_lt hi2, List.getElem?_append_right (by simp; omega), List.length_take, Nat.min_eq_left (by omega)]
      have := hx (i - k) (by omega)
      rw [show k + (i - k) = i from by omega] at this
      rw [this, List.getElem?_replicate, if_pos (by omega)]
    · rw [List.getElem?_take_eq_none (by omega), List.getElem?_eq_none (by simp; omega)]

/-- The row of runs. -/
def expand (R : List (Int × Int)) : List Int := R.flatMap fun p => List.replicate p.2.toNat p.1
theorem expand_snoc (R : List (Int × Int)) (p : Int × Int) : expand (R ++ [p]) = expand R ++ List.replicate p.2.toNat p.1 := by simp [expand]

/-- All counts are 1 or more. -/
def Counted (R : List (Int × Int)) : Prop := ∀ p, p ∈ R → 1 ≤ p.2
/-- No two neighbours are alike. -/
def Apart (R : List (Int × Int)) : Prop := ∀ (i : Nat) (p q : Int × Int), R[i]? = some p → R[i + 1]? = some q → p.1 ≠ q.1

theorem apart_snoc {R : List (Int × Int)} {p : Int × Int} (h : Apart R) (hl : ∀ q, R.getLast? = some q → q.1 ≠ p.1) : Apart (R ++ [p]) := by
  intro i a b ha hb
  have hlen := (List.getElem?_eq_some_iff.1 hb).1
  simp only [List.length_append, List.length_cons, List.length_nil] at hlen
  by_cases hi : i + 1 < R.length
  · rw [List.getElem?_append_left hi] at hb
    rw [List.getElem?_append_left (by omega)] at ha
    exact h i a b ha hb
  · have e : i + 1 = R.length := by omega
    rw [List.getElem?_append_right (by omega), e] at hb
    simp at hb
    subst hb
    rw [List.getElem?_append_left (by omega)] at ha
    apply hl
    rw [List.getLast?_eq_getElem?, show R.length - 1 = i from by omega]
    exact ha

theorem apart_init {R : List (Int × Int)} {p : Int × Int} (h : Apart (R ++ [p])) : Apart R := fun i a b ha hb => by
  have h2 := (List.getElem?_eq_some_iff.1 hb).1
  exact h i a b (by rw [List.getElem?_append_left (by omega)]; exact ha) (by rw [List.getElem?_append_left h2]; exact hb)

structure Good (l : List Int) (R : List (Int × Int)) : Prop where
  ex : expand R = l
  cnt : Counted R
  apart : Apart R
  len : R.length ≤ l.length

theorem good_step {l : List Int} {R : List (Int × Int)} (h : Good l R) (x : Int) : Good (l ++ [x]) (runStep R x) := by
  by_cases hc : ∃ c, R.getLast? = some (x, c)
  · obtain ⟨c, hc⟩ := hc
    obtain ⟨R', rfl⟩ : ∃ R', R = R' ++ [(x, c)] := List.getLast?_eq_some_iff.1 hc
    have hcc : 1 ≤ c := h.cnt (x, c) (by simp)
    rw [runStep_same]
    refine ⟨?_, fun p hp => ?_, fun i a b ha hb => ?_, ?_⟩
    · have := h.ex
      rw [expand_snoc] at this ⊢
      rw [← this, show (c + 1).toNat = c.toNat + 1 from by omega, List.replicate_succ', List.append_assoc]
    · rcases List.mem_append.1 hp with hp | hp
      · exact h.cnt p (by simp [hp])
      · rw [List.mem_singleton.1 hp]; show 1 ≤ c + 1; omega
    · have hap := h.apart
      have hlen := (List.getElem?_eq_some_iff.1 hb).1
      simp only [List.length_append, List.length_cons, List.length_nil] at hlen
      by_cases hi : i + 1 < R'.length
      · rw [List.getElem?_append_left hi] at hb
        rw [List.getElem?_append_left (by omega)] at ha
        exact apart_init hap i a b ha hb
      · have e : i + 1 = R'.length := by omega
        rw [List.getElem?_append_right (by omega), e] at hb
        simp at hb
        subst hb
        rw [List.getElem?_append_left (by omega)] at ha
        exact hap i a (x, c) (by rw [List.getElem?_append_left (by omega)]; exact ha) (by rw [List.getElem?_append_right (by omega), e]; simp)
    · have := h.len; simp at this ⊢; omega
  · have hn : ∀ y c, R.getLast? = some (y, c) → y ≠ x := fun y c e hy => hc ⟨c, by rw [e, hy]⟩
    rw [runStep_new hn]
    refine ⟨by rw [expand_snoc, h.ex]; rfl, fun p hp => ?_, apart_snoc h.apart (fun q e => hn q.1 q.2 (by rw [e])), by have := h.len; simp; omega⟩
    rcases List.mem_append.1 hp with hp | hp
    · exact h.cnt p hp
    · rw [List.mem_singleton.1 hp]; exact Int.le_refl 1

theorem good_runs (l : List Int) : Good l (runs l) := by
  have : ∀ (m : List Int) (l0 : List Int) (R : List (Int × Int)), Good l0 R → Good (l0 ++ m) (m.foldl runStep R) := by
    intro m
    induction m with
    | nil => intro l0 R h; simpa using h
    | cons x m ih =>
      intro l0 R h
      have := ih (l0 ++ [x]) (runStep R x) (good_step h x)
      simpa [List.append_assoc] using this
  have h := this l [] [] ⟨rfl, (fun p hp => by cases hp), (fun i a b ha => by simp at ha), by simp⟩
  simpa [runs] using h

/-- What is wrong with runs that begin behind acc things: 0 nothing, 6 a count below 1, 13 more than most. -/
def runE (most : Int) : Int → List (Int × Int) → Int
  | _, [] => 0
  | acc, p :: R => if p.2 < 1 then 6 else if most - acc < p.2 then 13 else runE most (acc + p.2) R

/-- How many things there are. -/
def runN : List (Int × Int) → Int
  | [] => 0
  | p :: R => p.2 + runN R

theorem runN_expand : ∀ {R : List (Int × Int)}, Counted R → runN R = ((expand R).length : Int)
  | [], _ => rfl
  | p :: R, h => by
    have h1 := h p (by simp)
    have h2 := runN_expand (R := R) (fun q hq => h q (by simp [hq]))
    show p.2 + runN R = _
    rw [h2]
    simp [expand]
    omega

theorem runE_ok {most : Int} : ∀ {R : List (Int × Int)} {acc : Int}, runE most acc R = 0 → Counted R ∧ (R ≠ [] → acc + runN R ≤ most)
  | [], acc, _ => ⟨fun p hp => (by cases hp), fun h => absurd rfl h⟩
  | p :: R, acc, h => by
    simp only [runE] at h
    split at h
    · omega
    · split at h
      · omega
      · obtain ⟨a, b⟩ := runE_ok h
        refine ⟨fun q hq => ?_, fun _ => ?_⟩
        · rcases List.mem_cons.1 hq with rfl | hq
          · omega
          · exact a q hq
        · show acc + (p.2 + runN R) ≤ most
          by_cases hR : R = []
          · subst hR; simp [runN]; omega
          · have := b hR; omega

theorem runE_good {most : Int} : ∀ {R : List (Int × Int)} {acc : Int}, Counted R → runE most acc R = if R ≠ [] ∧ most < acc + runN R then 13 else 0
  | [], acc, _ => by simp [runE]
  | p :: R, acc, h => by
    have h1 := h p (by simp)
    have hR : Counted R := fun q hq => h q (by simp [hq])
    have hn : 0 ≤ runN R := by rw [runN_expand hR]; omega
    have ih := runE_good (most := most) (R := R) (acc := acc + p.2) hR
    show (if p.2 < 1 then 6 else if most - acc < p.2 then 13 else runE most (acc + p.2) R) = _
    rw [if_neg (by omega), ih]
    show _ = if p :: R ≠ [] ∧ most < acc + (p.2 + runN R) then (13 : Int) else 0
    by_cases hm : most - acc < p.2
    · rw [if_pos hm, if_pos ⟨by simp, by omega⟩]
    · rw [if_neg hm]
      by_cases he : R = []
      · subst he; rw [if_neg (by simp), if_neg (by simp [runN]; omega)]
      · by_cases hk : most < acc + p.2 + runN R
        · rw [if_pos ⟨he, hk⟩, if_pos ⟨by simp, by omega⟩]
        · rw [if_neg (fun h => hk h.2), if_neg (fun h => hk (by omega))]

end Go.Proofs.Ytneapdegjofodaa
