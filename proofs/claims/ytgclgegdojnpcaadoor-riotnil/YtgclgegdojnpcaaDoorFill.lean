/- A value that is built of parts. -/
import Derived.Test.YtgclgegdojnpcaaDoorRiot4
import Derived.Laws.BytesArg
set_option linter.unusedSimpArgs false
set_option linter.unusedVariables false
namespace Go.Proofs.YtgclgegdojnpcaaDoor.Ri
open Go.RowKit Po

theorem fold_list : ∀ (L : List Go.Value) (A : List Go.Value) (off k : Nat), off + k + L.length ≤ A.length →
    (L.zipIdx k).foldl (fun (cs : Array Go.Value) (x : Go.Value × Nat) => cs.setIfInBounds (off + x.2) x.1) A.toArray = (A.take (off + k) ++ L ++ A.drop (off + k + L.length)).toArray
  | [], A, off, k, h => by simp
  | v :: L, A, off, k, h => by
    simp only [List.length_cons] at h
    rw [List.zipIdx_cons, List.foldl_cons]
    have e : (A.toArray.setIfInBounds (off + k) v) = (A.set (off + k) v).toArray := by simp
    show (L.zipIdx (k + 1)).foldl _ (A.toArray.setIfInBounds (off + k) v) = _
    rw [e, fold_list L (A.set (off + k) v) off (k + 1) (by simp; omega)]
    congr 1
    rw [show off + (k + 1) = off + k + 1 by omega, List.take_add_one, List.take_set_of_le (Nat.le_refl _), List.getElem?_set_self (by omega), List.drop_set_of_lt (by omega)]
    simp only [List.length_cons, Option.toList_some]
    rw [show off + k + 1 + L.length = off + k + (L.length + 1) by omega]
    simp
theorem fill_step {place : Nat → Option (Nat × Nat)} {i off size : Nat} {v : Go.Value} {L A : List Go.Value} (rest : List (Nat × Go.Value)) (hp : place i = some (off, size)) (hv : v.cells = L.toArray) (hs : L.length = size) (hl : off + size ≤ A.length) :
    Instr.fill place A.toArray ((i, v) :: rest) = Instr.fill place (A.take off ++ L ++ A.drop (off + size)).toArray rest := by
  rw [Instr.fill, hp]
  simp only [hv]
  rw [if_neg (by simp; omega)]
  congr 1
  have := fold_list L A off 0 (by omega)
  rw [Nat.add_zero, hs] at this
  rw [← this]
  simp


/-- A riot's cells. -/
def rcells (l : List Int) (pa pb pt pe : Go.Value) : List Go.Value := bytes l ++ [pa, pb, pt, pe]
def zer : List Int := List.replicate 128 0
abbrev ptr (k : Nat) : Go.Value := .pointer (some ⟨k, 0, none⟩)

theorem infoRiot' : ∃ it, Tryd.prog.info? 66 = some it ∧ it.zero = some (.agg (rcells zer (.pointer none) (.pointer none) (.pointer none) (.pointer none)).toArray) := by
  have h : (Tryd.prog.info? 66).map (·.zero) = some (some (.agg (rcells zer (.pointer none) (.pointer none) (.pointer none) (.pointer none)).toArray)) := by kernel_rfl
  obtain ⟨i, h1, h2⟩ := Option.map_eq_some_iff.1 h
  exact ⟨i, h1, h2⟩
theorem built_fill (parts : List (Nat × Go.Value)) : Tryd.prog.built 66 parts = Instr.fill (#[(0, 128), (128, 2), (130, 1), (131, 1)][·]?) (rcells zer (.pointer none) (.pointer none) (.pointer none) (.pointer none)).toArray parts := by
  obtain ⟨it, h1, h2⟩ := infoRiot'
  unfold Program.built
  rw [h1, Tryd.underlying66]
  simp only [h2]
  generalize hp : List.mapM (m := Option) _ _ = o
  have : o = some [(0, 128), (128, 2), (130, 1), (131, 1)] := by rw [← hp]; kernel_rfl
  rw [this]
  rfl
theorem built_riot (l : List Int) (hl : l.length = 128) (t e : Nat) :
    Tryd.prog.built 66 [(0, .agg (bytes l).toArray), (2, ptr t), (3, ptr e)] = some (rcells l (.pointer none) (.pointer none) (ptr t) (ptr e)).toArray := by
  have hz : (bytes zer).length = 128 := by rw [bytes_length]; rfl
  have hb : (bytes l).length = 128 := by rw [bytes_length, hl]
  rw [built_fill]
  unfold rcells
  rw [fill_step (L := bytes l) (off := 0) (size := 128) _ rfl rfl hb (by simp [hz])]
  simp only [List.take_zero, List.nil_append, Nat.zero_add]
  rw [List.drop_append_of_le_length (by omega), List.drop_eq_nil_of_le (by omega), List.nil_append]
  rw [fill_step (L := [ptr t]) (off := 130) (size := 1) _ rfl rfl rfl (by simp [hb])]
  rw [fill_step (L := [ptr e]) (off := 131) (size := 1) _ rfl rfl rfl (by simp [hb])]
  rw [Instr.fill]
  congr 2
  have h1 : ∀ k (x y : List Go.Value), (bytes l ++ x).take (128 + k) = bytes l ++ x.take k := fun k x _ => by rw [List.take_append, hb, List.take_of_length_le (by omega), Nat.add_sub_cancel_left]
  have h2 : ∀ k (x y : List Go.Value), (bytes l ++ x).drop (128 + k) = x.drop k := fun k x _ => by rw [List.drop_append, hb, List.drop_eq_nil_of_le (by omega), Nat.add_sub_cancel_left, List.nil_append]
  rw [show (130 : Nat) = 128 + 2 from rfl, show (131 : Nat) = 128 + 3 from rfl, h1 2 _ [], show 128 + 2 + 1 = 128 + 3 from rfl, h2 3 _ []]
  simp only [List.append_assoc]
  rw [h1 3 _ [], show 128 + 3 + 1 = 128 + 4 from rfl, h2 4 _ [], List.append_assoc]
  rfl
theorem run_riot (l : List Int) (hl : l.length = 128) (t e : Nat) (w : World) :
    (Instr.build 66 #[(0, .agg (bytes l).toArray), (2, ptr t), (3, ptr e)]).run Tryd.prog w = .ok (.agg (rcells l (.pointer none) (.pointer none) (ptr t) (ptr e)).toArray) w :=
  run_build w _ _ _ (built_riot l hl t e)
theorem info128 : (Tryd.prog.info? 22).map (·.size) = some 128 := by kernel_rfl

theorem zero_riot : Tryd.zeroCells66 = (rcells zer (.pointer none) (.pointer none) (.pointer none) (.pointer none)).toArray := by kernel_rfl
theorem fold_riot (l : List Int) (hl : l.length = 128) : List.foldl (fun (cs : Array Go.Value) (x : Go.Value × Nat) => cs.setIfInBounds x.snd x.fst) Tryd.zeroCells66 (bytes l).zipIdx = (rcells l (.pointer none) (.pointer none) (.pointer none) (.pointer none)).toArray := by
  have hz : (bytes zer).length = 128 := by rw [bytes_length]; rfl
  have hb : (bytes l).length = 128 := by rw [bytes_length, hl]
  have := fold_list (bytes l) (rcells zer (.pointer none) (.pointer none) (.pointer none) (.pointer none)) 0 0 (by unfold rcells; simp [hz, hb])
  simp only [Nat.zero_add, Nat.add_zero] at this
  rw [zero_riot, this]
  unfold rcells
  rw [hb, List.take_zero, List.nil_append, List.drop_append_of_le_length (by omega), List.drop_eq_nil_of_le (by omega), List.nil_append]
theorem rcells_len (l : List Int) (hl : l.length = 128) (a b c d : Go.Value) : (rcells l a b c d).length = 132 := by unfold rcells; simp [bytes_length, hl]
theorem rcells_set (l : List Int) (hl : l.length = 128) (a b c d x : Go.Value) : (rcells l a b c d).set 128 x = rcells l x b c d ∧ (rcells l a b c d).set 129 x = rcells l a x c d ∧ (rcells l a b c d).set 130 x = rcells l a b x d ∧ (rcells l a b c d).set 131 x = rcells l a b c x := by
  have hb : (bytes l).length = 128 := by rw [bytes_length, hl]
  unfold rcells
  refine ⟨?_, ?_, ?_, ?_⟩
  all_goals
    rw [List.set_append_right _ _ (by omega), hb]
    rfl

end Go.Proofs.YtgclgegdojnpcaaDoor.Ri
