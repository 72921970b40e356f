/- A region that draws its order, whose operations only read but for the last ones, which wait for all the others: one walk of the order of the text. -/
import Derived.WalkKit
import Derived.BigQuiet
import Derived.Deep.QuietTactic
namespace Go.Proofs.Ytdnfclhljahghaa
open Go Go.RowKit
set_option linter.unusedVariables false
section
variable {P : Program} {ops : Array Oper} {md : Region.Mode} {C : World → Prop}

/-- What is listed has all listed that it waits for. -/
def Down (md : Region.Mode) (ops : Array Oper) (listed : Array Bool) : Prop := ∀ (j : Nat) (o : Oper), ops[j]? = some o → listed.getD j true = true → ∀ e ∈ o.after, Region.binds md e = true → listed.getD e.on false = true

/-- Operation s waits for operation i. -/
def waitsFor (md : Region.Mode) (ops : Array Oper) (s i : Nat) : Bool := match ops[s]? with | some o => o.after.any (fun e => Region.binds md e && e.on == i) | none => false

theorem waits_spec {s i : Nat} (h : waitsFor md ops s i = true) : ∃ o, ops[s]? = some o ∧ ∃ e ∈ o.after, Region.binds md e = true ∧ e.on = i := by
  unfold waitsFor at h
  split at h
  · rename_i o ho
    obtain ⟨i', hi', he⟩ := Array.any_eq_true.1 h
    simp only [Bool.and_eq_true, beq_iff_eq] at he
    exact ⟨o, ho, _, Array.getElem_mem hi', he.1, he.2⟩
  · cases h

theorem getD_both {listed : Array Bool} {j : Nat} (h : listed.getD j false = true) : listed.getD j true = true := by
  rcases Nat.lt_or_ge j listed.size with h' | h'
  · simp [h'] at h ⊢; exact h
  · simp [Array.getElem?_eq_none h']

theorem Down.step {listed : Array Bool} {i : Nat} (h : Down md ops listed) (hi : i ∈ Region.ready md ops listed) : Down md ops (listed.setIfInBounds i true) := by
  intro j o ho hl e he hb
  by_cases hji : j = i
  · subst hji
    obtain ⟨_, o', ho', hall⟩ := mem_ready.1 hi
    rw [ho] at ho'
    obtain rfl := Option.some.inj ho'
    exact getD_set_true (hall e he hb)
  · rw [getD_set_ne true (Ne.symm hji)] at hl
    exact getD_set_true (h j o ho hl e he hb)

/-- Each of the first k is awaited by a later one up to the k-th; those behind wait for one another. -/
def awaited (md : Region.Mode) (ops : Array Oper) (k : Nat) : Bool :=
  (List.range k).all (fun i => (List.range (k + 1)).any (fun s => decide (i < s) && waitsFor md ops s i)) &&
  (List.range ops.size).all (fun j => decide (j ≤ k) || (List.range j).any (fun s => decide (k ≤ s) && waitsFor md ops j s))

/-- All that j waits for is listed. -/
def Free (md : Region.Mode) (ops : Array Oper) (listed : Array Bool) (j : Nat) : Prop := ∀ o, ops[j]? = some o → ∀ e ∈ o.after, Region.binds md e = true → listed.getD e.on false = true

theorem Free.spec {listed : Array Bool} {j i : Nat} (h : Free md ops listed j) (hw : waitsFor md ops j i = true) : listed.getD i false = true := by
  obtain ⟨o, ho, e, he, hb, rfl⟩ := waits_spec hw
  exact h o ho e he hb
theorem Down.free {listed : Array Bool} {j : Nat} (h : Down md ops listed) (hl : listed.getD j false = true) : Free md ops listed j := fun o ho => h j o ho (getD_both hl)

theorem down_all {k : Nat} {listed : Array Bool} (hA : awaited md ops k = true) (hD : Down md ops listed) (hl : Free md ops listed k) : ∀ n i, i < k → k - i ≤ n → listed.getD i false = true := by
  intro n
  induction n with
  | zero => intro i h1 h2; omega
  | succ n ih =>
    intro i h1 h2
    simp only [awaited, Bool.and_eq_true, List.all_eq_true, List.mem_range] at hA
    have := hA.1 i h1
    simp only [List.any_eq_true, List.mem_range, Bool.and_eq_true, decide_eq_true_eq] at this
    obtain ⟨s, hs, his, hw⟩ := this
    by_cases hsk : s = k
    · subst hsk; exact hl.spec hw
    · exact (hD.free (ih s (by omega) (by omega))).spec hw

theorem down_wait {k : Nat} {listed : Array Bool} (hA : awaited md ops k = true) (hD : Down md ops listed) : ∀ n j, j ≤ n → k ≤ j → j < ops.size → Free md ops listed j → Free md ops listed k := by
  intro n
  induction n with
  | zero => intro j h1 h2 _ hf; obtain rfl : k = j := by omega
            exact hf
  | succ n ih =>
    intro j h1 h2 hsz hf
    by_cases hkj : k = j
    · subst hkj; exact hf
    · have hA' := hA
      simp only [awaited, Bool.and_eq_true, List.all_eq_true, List.mem_range] at hA'
      have := hA'.2 j hsz
      simp only [Bool.or_eq_true, List.any_eq_true, List.mem_range, Bool.and_eq_true, decide_eq_true_eq] at this
      rcases this with h | ⟨s, hs, hks, hw⟩
      · omega
      · exact ih s (by omega) hks (by omega) (hD.free (hf.spec hw))

/-- As long as one of the first k is not listed, none of the others may come. -/
theorem wait {k i : Nat} {listed : Array Bool} (hA : awaited md ops k = true) (hD : Down md ops listed) (hik : i < k) (hi : i ∈ Region.ready md ops listed) : ∀ j ∈ Region.ready md ops listed, j < k := by
  intro j hj
  apply Decidable.byContradiction
  intro hkj
  obtain ⟨_, o, ho, hall⟩ := mem_ready.1 hj
  have h1 := down_wait hA hD j j (Nat.le_refl _) (by omega) (Array.getElem?_eq_some_iff.1 ho).1 (fun o' ho' => by rw [ho] at ho'; obtain rfl := Option.some.inj ho'; exact hall)
  have h2 := down_all hA hD h1 k i hik (by omega)
  have h3 := (mem_ready.1 hi).1
  rw [getD_both h2] at h3
  cases h3

/-- Whatever order is picked of the first k. -/
def wpPre (P : Program) (md : Region.Mode) (ops : Array Oper) (C : World → Prop) (k : Nat) (Q : Array Bool → Act → Prop) : Nat → Array Bool → Act → Prop
  | 0, listed, a => (∀ j ∈ Region.ready md ops listed, k ≤ j) ∧ Q listed a
  | f + 1, listed, a => (∃ i, i ∈ Region.ready md ops listed) ∧ ∀ i ∈ Region.ready md ops listed, i < k ∧ qOp P ops C i (wpPre P md ops C k Q f (listed.setIfInBounds i true)) a

theorem wpAny_of_pre {k m : Nat} {Q : Array Bool → Act → Prop} {Q' : Exit → Act → World → Prop} (hQ : ∀ listed a w, C w → Q listed a → wpAny P md ops Q' m listed a w) : ∀ (f : Nat) (listed : Array Bool) (a : Act) (w : World), C w → wpPre P md ops C k Q f listed a → wpAny P md ops Q' (m + f) listed a w
  | 0, _, _, _, hw, h => hQ _ _ _ hw h.2
  | f + 1, listed, a, w, hw, h => by
    refine ⟨fun h0 => ?_, fun i hi => wpOp_of_qOp hw (fun a' w' hw' => wpAny_of_pre hQ f _ a' w' hw') (h.2 i hi).2⟩
    obtain ⟨i, hi⟩ := h.1
    rw [h0] at hi
    cases hi

theorem wpPre_first {Q : Array Bool → Act → Prop} {k i : Nat} {oi : Oper} {v : Value} (hA : awaited md ops k = true) (hik : i < k) (hi : ops[i]? = some oi) (hsel : ∀ (j : Nat) (o : Oper) cs b, ops[j]? = some o → o.op ≠ .select cs b) :
    ∀ (f : Nat) (listed : Array Bool) (a : Act), Down md ops listed →
      (∀ j oj, ops[j]? = some oj → j ≠ i → listed.getD j true = false → (∀ e ∈ oj.after, Region.binds md e = true → e.on ≠ i) → oi.apart ops oj = true) →
      i ∈ Region.ready md ops listed → YieldsIn P ops C oi v a →
      wpPre P md ops C k Q f (listed.setIfInBounds i true) (a.put oi.dst v) → wpPre P md ops C k Q (f + 1) listed a := by
  intro f
  induction f with
  | zero =>
    intro listed a hD _ hr hy H
    refine ⟨⟨i, hr⟩, fun j hj => ⟨wait hA hD hik hr j hj, ?_⟩⟩
    by_cases hji : j = i
    · subst hji; exact hy.qOp hi H
    · have h1 := H.1 j (ready_mono hj hji)
      have h2 := wait hA hD hik hr j hj
      omega
  | succ f ih =>
    intro listed a hD hfree hr hy H
    refine ⟨⟨i, hr⟩, fun j hj => ⟨wait hA hD hik hr j hj, ?_⟩⟩
    by_cases hji : j = i
    · subst hji; exact hy.qOp hi H
    · have h1 := (H.2 j (ready_mono hj hji)).2
      obtain ⟨hjun, oj, hoj, hall⟩ := mem_ready.1 hj
      have hnot : ∀ e ∈ oj.after, Region.binds md e = true → e.on ≠ i := fun e he hb heq => by
        have h1 := hall e he hb
        have h0 := (mem_ready.1 hr).1
        rw [heq] at h1
        rw [getD_both h1] at h0
        cases h0
      have h2 := qOp_put hoj (hfree j oj hoj hji hjun hnot) (fun cs b => hsel i oi cs b hi) (fun cs b => hsel j oj cs b hoj) hy h1
      have hfree' : ∀ k ok, ops[k]? = some ok → k ≠ i → (listed.setIfInBounds j true).getD k true = false →
          (∀ e ∈ ok.after, Region.binds md e = true → e.on ≠ i) → oi.apart ops ok = true := fun k ok hk hki hun hno => by
        refine hfree k ok hk hki ?_ hno
        by_cases hjk : j = k
        · subst hjk; exact hjun
        · rw [getD_set_ne true hjk] at hun; exact hun
      refine qOp_mono (fun a' h3 => ih (listed.setIfInBounds j true) a' (hD.step hj) hfree' (ready_mono hr (Ne.symm hji)) h3.1 ?_) h2
      rw [Array.setIfInBounds_comm _ _ hji]
      exact h3.2

/-- The order of the text, of the first k. -/
def lexK (md : Region.Mode) (ops : Array Oper) (k : Nat) (L0 : Array Bool) : Nat → Nat → Array Bool → Bool
  | 0, _, listed => (Region.ready md ops listed).all (fun j => decide (k ≤ j)) && listed == L0
  | f + 1, i, listed => (Region.ready md ops listed).contains i && Region.free md ops listed i && decide (i < k) && lexK md ops k L0 f (i + 1) (listed.setIfInBounds i true)

theorem wpPre_lex {Q : Act → Prop} {k : Nat} {L0 : Array Bool} (hA : awaited md ops k = true) (hs : Region.noSelect ops = true) : ∀ (l : List Oper) (i : Nat) (listed : Array Bool) (a : Act), (∀ j o, l[j]? = some o → ops[i + j]? = some o) → Down md ops listed →
    lexK md ops k L0 l.length i listed = true → wpQuiet P ops C Q l a → wpPre P md ops C k (fun L a => L = L0 ∧ Q a) l.length listed a
  | [], _, listed, _, _, _, hB, h => by
    simp only [List.length_nil, lexK, Bool.and_eq_true, List.all_eq_true, decide_eq_true_eq, beq_iff_eq] at hB
    exact ⟨hB.1, hB.2, h⟩
  | o :: l, i, listed, a, hl, hD, hB, h => by
    have h0 : ops[i]? = some o := by simpa using hl 0 o rfl
    simp only [List.length_cons, lexK, Bool.and_eq_true, decide_eq_true_eq] at hB
    obtain ⟨⟨⟨hr, hf⟩, hik⟩, hB'⟩ := hB
    have hr' : i ∈ Region.ready md ops listed := by simpa using hr
    have hst : qOp P ops C i (wpQuiet P ops C Q l) a := by unfold qOp; simp only [h0]; exact h
    obtain ⟨v, hy, hK⟩ := yieldsIn_of_qOp h0 hst
    exact wpPre_first hA hik h0 (Region.noSelect_spec hs) l.length listed a hD (Region.free_spec h0 hf) hr' hy
      (wpPre_lex hA hs l (i + 1) _ _ (fun j o' hj => by have := hl (j + 1) o' hj; simpa [Nat.add_assoc, Nat.add_comm 1 j] using this) (hD.step hr') hB' hK)

/-- Those behind, one behind the other. -/
def chainB (md : Region.Mode) (ops : Array Oper) : Nat → Nat → Array Bool → Bool
  | 0, _, listed => (Region.ready md ops listed).isEmpty
  | f + 1, i, listed => (Region.ready md ops listed) == [i] && chainB md ops f (i + 1) (listed.setIfInBounds i true)

theorem wpAny_chain {Q : Exit → Act → World → Prop} : ∀ (l : List Oper) (i : Nat) (listed : Array Bool) (a : Act) (w : World), (∀ j o, l[j]? = some o → ops[i + j]? = some o) → chainB md ops l.length i listed = true → wpList P ops Q l a w → wpAny P md ops Q l.length listed a w
  | [], _, listed, _, _, _, hB, h => by
    simp only [List.length_nil, chainB, List.isEmpty_iff] at hB
    exact ⟨hB, h⟩
  | o :: l, i, listed, a, w, hl, hB, h => by
    simp only [List.length_cons, chainB, Bool.and_eq_true, beq_iff_eq] at hB
    obtain ⟨hr, hB'⟩ := hB
    have h0 : ops[i]? = some o := by simpa using hl 0 o rfl
    refine ⟨fun he => (by rw [hr] at he; cases he), fun j hj => ?_⟩
    rw [hr] at hj
    obtain rfl : j = i := by simpa using hj
    have h1 : wpOp P ops Q j (wpList P ops Q l) a w := by unfold wpOp; simp only [h0]; exact h
    exact wpOp_mono (fun a' w' h' => wpAny_chain l (j + 1) _ a' w' (fun n o' hn => by have := hl (n + 1) o' hn; simpa [Nat.add_assoc, Nat.add_comm 1 n] using this) hB' h') h1

def splitB (ops : Array Oper) (k m : Nat) : Bool :=
  let L0 := Array.replicate k true ++ Array.replicate m false
  (k + m == ops.size) && awaited .any ops k && Region.noSelect ops && lexK .any ops k L0 k 0 (Array.replicate ops.size false) && chainB .any ops m k L0

/-- **The region**: k operations that only read, m behind them. -/
theorem wp_region_then {id : Nat} {Q : Exit → Act → World → Prop} {a : Act} {w : World} {l : List Oper} (k m : Nat) (hm : P.follows .mixedOrders = true) (hB : splitB l.toArray k m = true)
    (h : wpQuiet P l.toArray (fun w' => ∃ n, w' = w.drewN n) (fun a' => ∀ w', (∃ n, w' = w.drewN n) → wpList P l.toArray Q (l.drop k) a' w') (l.take k) a) : (Code.region id l.toArray true).wp P Q a w := by
  simp only [splitB, Bool.and_eq_true, beq_iff_eq] at hB
  obtain ⟨⟨⟨⟨hk, hA⟩, hs⟩, hL⟩, hC⟩ := hB
  have hk' : k + m = l.length := by simpa using hk
  refine wp_region_any hm ?_
  have hD : Down .any l.toArray (Array.replicate l.toArray.size false) := by
    intro j o ho hl e he hb
    have hsz := (Array.getElem?_eq_some_iff.1 ho).1
    simp only [List.size_toArray] at hsz
    simp [hsz] at hl
  have hlen : (l.take k).length = k := by rw [List.length_take]; omega
  have hlen2 : (l.drop k).length = m := by rw [List.length_drop]; omega
  have h1 := wpPre_lex (P := P) (C := fun w' => ∃ n, w' = w.drewN n) hA hs (l.take k) 0 (Array.replicate l.toArray.size false) a
    (fun j o hj => by
      have hjk : j < k := by have := (List.getElem?_eq_some_iff.1 hj).1; omega
      rw [List.getElem?_take_of_lt hjk] at hj
      simpa using hj) hD (by rw [hlen]; exact hL) h
  rw [hlen] at h1
  have h2 := wpAny_of_pre (P := P) (C := fun w' => ∃ n, w' = w.drewN n) (m := m) (Q' := Q) (fun L a' w' hw' hq => by
    obtain ⟨rfl, hq⟩ := hq
    have h3 := wpAny_chain (P := P) (Q := Q) (l.drop k) k _ a' w' (fun j o hj => by rw [List.getElem?_drop] at hj; simpa using hj) (by rw [hlen2]; exact hC) (hq w' hw')
    rw [hlen2] at h3
    exact h3) k _ a { w with drawn := w.drawn + 1 } ⟨1, rfl⟩ h1
  have e : m + k = l.toArray.size := by simp; omega
  rw [e] at h2
  exact h2
end
end Go.Proofs.Ytdnfclhljahghaa
