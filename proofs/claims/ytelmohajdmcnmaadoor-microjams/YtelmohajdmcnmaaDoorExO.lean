/- What each name does keeps bytes bytes: plain mathematics. -/
import Derived.Test.YtelmohajdmcnmaaDoorExM
namespace Go.Proofs.YtelmohajdmcnmaaDoor.Ex
open Go.RowKit Alu

theorem ite_ok {c : Prop} [Decidable c] {x y : Rg} (hx : x.ok) (hy : y.ok) : (if c then x else y).ok := by
  by_cases h : c
  · rw [if_pos h]; exact hx
  · rw [if_neg h]; exact hy
theorem ite_lt {c : Prop} [Decidable c] {x y : Nat} (hx : x < 256) (hy : y < 256) : (if c then x else y) < 256 := by
  by_cases h : c
  · rw [if_pos h]; exact hx
  · rw [if_neg h]; exact hy

theorem rd_ok (n : List UInt8) (r : Rg) (m : Nat) (hr : r.ok) (hm : m < 256) : (rd n r m).ok := by
  obtain ⟨ha, hx, hy, hs, hp, hpc⟩ := hr
  unfold rd
  repeat' (with_reducible apply ite_ok)
  all_goals
    refine ⟨?_, ?_, ?_, ?_, ?_, ?_⟩
    all_goals (try dsimp only)
    all_goals first
      | exact ha
      | exact hx
      | exact hy
      | exact hs
      | exact hp
      | exact hpc
      | exact hm
      | exact mk_lt _ _ hp
      | exact or8 ha hm
      | exact and8 hm
      | exact xor8 ha hm
      | exact and8 hs
      | exact addN_lt _ _ _
      | exact subN_lt _ _ _
      | exact addQ_lt _ _ _ hp
      | exact binQ_lt _ _ _ hp
      | exact cmpQ_lt _ _ hp
      | exact bitN_lt _ _ hp
      | exact W_lt _ _ _ (mk_lt _ _ hp) (by decide)
      | exact rightN_lt _ _ (and8 hm)
      | exact rightQ_lt _ _ hp
      | exact oddN_lt _ _ hm
      | exact oddQ_lt _ _ hp
      | exact Nat.mod_lt _ (show (0 : Nat) < 256 by decide)

theorem sf_ok (n : List UInt8) (r : Rg) (hr : r.ok) : (sf n r).ok := by
  obtain ⟨ha, hx, hy, hs, hp, hpc⟩ := hr
  unfold sf
  repeat' (with_reducible apply ite_ok)
  all_goals
    refine ⟨?_, ?_, ?_, ?_, ?_, ?_⟩
    all_goals (try dsimp only)
    all_goals first
      | exact ha
      | exact hx
      | exact hy
      | exact hs
      | exact hp
      | exact hpc
      | exact mk_lt _ _ hp
      | exact W_lt _ _ _ hp (by decide)
      | exact Nat.mod_lt _ (show (0 : Nat) < 256 by decide)

theorem stV_lt (n : List UInt8) (r : Rg) (h : Nat) (hr : r.ok) (hh : h < 256) : stV n r h < 256 := by
  obtain ⟨ha, hx, hy, hs, hp, hpc⟩ := hr
  unfold stV
  repeat' (with_reducible apply ite_lt)
  all_goals first
    | exact ha
    | exact hx
    | exact hy
    | exact and8 hx
    | exact and8 hh
    | decide

theorem stR_ok (n : List UInt8) (r : Rg) (hr : r.ok) : (stR n r).ok := by
  obtain ⟨ha, hx, hy, hs, hp, hpc⟩ := hr
  unfold stR
  apply ite_ok
  · exact ⟨ha, hx, hy, and8 hx, hp, hpc⟩
  · exact ⟨ha, hx, hy, hs, hp, hpc⟩

theorem tbV_lt (n : List UInt8) (r : Rg) (m : Nat) (hm : m < 256) : tbV n r m < 256 := by
  unfold tbV
  repeat' (with_reducible apply ite_lt)
  all_goals first
    | exact leftN_lt _ _ _
    | exact rightN_lt _ _ hm
    | exact hm
    | exact Nat.mod_lt _ (show (0 : Nat) < 256 by decide)

theorem tbR_ok (n : List UInt8) (r : Rg) (m : Nat) (hr : r.ok) : (tbR n r m).ok := by
  obtain ⟨ha, hx, hy, hs, hp, hpc⟩ := hr
  unfold tbR
  repeat' (with_reducible apply ite_ok)
  all_goals
    refine ⟨?_, ?_, ?_, ?_, ?_, ?_⟩
    all_goals (try dsimp only)
    all_goals first
      | exact ha
      | exact hx
      | exact hy
      | exact hs
      | exact hp
      | exact hpc
      | exact mk_lt _ _ hp
      | exact leftQ_lt _ _ hp
      | exact rightQ_lt _ _ hp

theorem tuV_lt (n : List UInt8) (r : Rg) (m : Nat) (hm : m < 256) : tuV n r m < 256 := by
  unfold tuV
  repeat' (with_reducible apply ite_lt)
  all_goals exact tbV_lt _ _ _ hm

theorem tuR_ok (n : List UInt8) (r : Rg) (m : Nat) (hr : r.ok) (hm : m < 256) : (tuR n r m).ok := by
  unfold tuR
  repeat' (with_reducible apply ite_ok)
  all_goals first
    | exact rd_ok _ _ _ (tbR_ok _ _ _ hr) (tbV_lt _ _ _ hm)
    | exact tbR_ok _ _ _ hr

end Go.Proofs.YtelmohajdmcnmaaDoor.Ex
