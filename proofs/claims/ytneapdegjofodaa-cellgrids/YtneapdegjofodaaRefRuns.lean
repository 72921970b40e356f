/- What the document's own runs come to: Pack, Unpack. -/
import Derived.Test.YtneapdegjofodaaRef
import Derived.Test.YtneapdegjofodaaPackInt
import Derived.Test.YtneapdegjofodaaUnpack2
import Derived.Lib.SmallJoins
namespace Go.Proofs.Ytneapdegjofodaa.Ref3
open Go.RowKit PackInt Unpack

theorem infoRun : (Try.prog.info? 57).map (fun i => (i.zero, i.size, i.bytes)) = some (some (.agg #[.int .i64 0, .int .i64 0]), 2, 16) := by kernel_rfl

theorem runs_last (l : List Int) (y : Int) : ∃ R c, runs (l ++ [y]) = R ++ [(y, c)] := by
  rw [runs_snoc]
  unfold runStep
  split
  · rename_i z c e
    by_cases hz : z = y
    · subst hz; rw [if_pos rfl]; exact ⟨_, _, rfl⟩
    · rw [if_neg hz]; exact ⟨_, _, rfl⟩
  · exact ⟨[], 1, rfl⟩

theorem count_le {l : List Int} {R : List (Int × Int)} {y c : Int} (h : runs l = R ++ [(y, c)]) : 1 ≤ c ∧ c ≤ l.length := by
  have hg := good_runs l
  rw [h] at hg
  have h1 : 1 ≤ c := hg.cnt (y, c) (by simp)
  have h2 := congrArg List.length hg.ex
  rw [expand_snoc] at h2
  simp at h2
  omega

theorem cells_bump (R : List (Int × Int)) (y c d : Int) : (cells (R ++ [(y, c)])).set (R.length * 2 + 1) (.int .i64 d) = cells (R ++ [(y, d)]) := by
  rw [cells_snoc, cells_snoc, List.set_append_right _ _ (by rw [cells_length]; omega), cells_length]
  rw [show R.length * 2 + 1 - R.length * 2 = 1 from by omega]
  rfl

/-- A row of the call's own behind an append of one run. -/
theorem pack_grown {w wr w1 : World} {r v' : Value} {R : List (Int × Int)} {x : Int} {q : Nat} (hO : wr.ownsRow w.heap.size 57 2 r R.length (cells R)) (hB : Below w.heap.size w wr)
    (hg : ((wr.drewN q).alloc (.cells #[.int .i64 x, .int .i64 1] 57)).grownBy w1 r.ownBlock) (hO' : w1.ownsRow w.heap.size 57 2 v' (R.length + 1) (cells R ++ [.int .i64 x, .int .i64 1])) :
    w1.ownsRow w.heap.size 57 2 v' (R ++ [(x, 1)]).length (cells (R ++ [(x, 1)])) ∧ Below w.heap.size w w1 := by
  refine ⟨by rw [cells_snoc]; simpa using hO', ?_⟩
  have hs := hB.size
  exact ((below_drewN hB q).alloc (by simpa using hs) _).grown hg (by simp; omega) (fun j e => (hO.lt j e).1)

set_option maxRecDepth 100000 in
set_option maxHeartbeats 2000000 in
theorem RPack (l : List Int) (n : Nat) (ao : Option Addr) (cap b off : Nat) (w : World) (h : Seen (fun x => .int .i64 x) w ao cap b off l) (hn : n = l.length) (hl : n ≤ 100000) :
    Calls Try.prog 24 #[.slice ao n cap] w fun e w' => ∃ v, e = .returned v ∧ w'.ownsRow w.heap.size 57 2 v (runs l).length (cells (runs l)) ∧ Below w.heap.size w w' := by
  obtain ⟨i0, hi0, hz0, hz1, hz2⟩ := info_parts infoRun
  have HS : Hid (Seen (fun x => .int .i64 x) w ao cap b off l) := h
  have HN : Hid (n = l.length) := hn
  clear h hn
  go_enter Try.func24, Try.ntmps24
  go_wp2
  go_loopw [3, 4] (fun r i wr => ∃ k : Nat, k ≤ n ∧ i = .int .i64 (k : Int) ∧ wr.ownsRow w.heap.size 57 2 r (runs (l.take k)).length (cells (runs (l.take k))) ∧ Below w.heap.size w wr)
    (fun _ i _ => n - (intOf i).toNat)
  case atStart => exact ⟨0, by omega, rfl, World.ownsRow_nil _ _ _ _, Below.refl _ _⟩
  case round =>
    obtain ⟨k, hk, rfl, hOr, hBr⟩ := hrel
    have hrl : (runs (l.take k)).length ≤ 100000 := by have := (good_runs (l.take k)).len; rw [List.length_take] at this; omega
    have hsz := hBr.size
    have HB : Hid (Below w.heap.size w wr) := hBr
    by_cases hkl : k < n
    · obtain ⟨x, hx⟩ : ∃ x, l[k]? = some x := ⟨_, List.getElem?_eq_getElem (by rw [← HN.out]; exact hkl)⟩
      have hne : l ≠ [] := fun e => by rw [e] at hx; cases hx
      have hao := HS.out.at_ hne
      subst hao
      have hbw := HS.out.lt hne
      have cx : wr.cell? ⟨b, off + k, none⟩ = some (.int .i64 x) := (hBr.cell (p := ⟨b, off + k, none⟩) hbw).trans (HS.out.cell k x hx)
      have hts : l.take (k + 1) = l.take k ++ [x] := by rw [List.take_add_one, hx]; rfl
      have k0' : (0 : Int) ≤ (k : Int) := by omega
      have k1' : (k : Int) < (n : Int) := by omega
      by_cases hk0 : k = 0
      · subst hk0
        have HO : Hid (wr.ownsRow w.heap.size 57 2 u3 0 []) := hOr
        have HF : Hid (runs (l.take 1) = [] ++ [(x, 1)]) := by show _ = _; rw [show (1 : Nat) = 0 + 1 from rfl, hts, runs_snoc]; rfl
        have cx0 : wr.cell? ⟨b, off, none⟩ = some (.int .i64 x) := by simpa using cx
        clear hOr hBr hx hne hts cx
        go_wp2
        go_quiet (fail)
        go_wp2_with (at_builtin; refine wpList_append_own _ rfl _ _ 51 rfl w.heap.size 57 i0 _ 2 16 Try.underlying51 hi0 hz0 hz1 hz2 rfl (by decide) _ _ _ rfl (World.ownsRow.alloc (show World.ownsRow _ _ _ _ _ _ _ from HO.out) _) _ 1 1 [_, _] rfl rfl (cell_two_new _ _ _ _) (by simp [Value.oneCell']) (by unfold maxLen; omega) (by omega) (by simp; omega) ?_; intro v' w1 hown' hgrow _)
        have hg : ((wr.drewN nq).alloc (.cells #[.int .i64 x, .int .i64 1] 57)).grownBy w1 u3.ownBlock := hgrow
        obtain ⟨r1, r2⟩ := pack_grown (R := []) HO.out HB.out hg hown'
        go_roundw
        case rel => exact ⟨1, by omega, by go_num, by rw [HF.out]; exact r1, r2⟩
        case measure => simp [intOf]; omega
      · obtain ⟨k', rfl⟩ : ∃ k', k = k' + 1 := ⟨k - 1, by omega⟩
        obtain ⟨y, hy⟩ : ∃ y, l[k']? = some y := ⟨_, List.getElem?_eq_getElem (by rw [← HN.out]; omega)⟩
        have cy : wr.cell? ⟨b, off + k', none⟩ = some (.int .i64 y) := (hBr.cell (p := ⟨b, off + k', none⟩) hbw).trans (HS.out.cell k' y hy)
        have hty : l.take (k' + 1) = l.take k' ++ [y] := by rw [List.take_add_one, hy]; rfl
        obtain ⟨R, c, hR⟩ := runs_last (l.take k') y
        rw [← hty] at hR
        have hcl := count_le hR
        rw [List.length_take] at hcl
        have hd : decide ((0 : Int) < ((k' : Int) + 1)) = true := by rw [decide_eq_true_iff]; omega
        have hcy : c ≤ 100000 := by omega
        by_cases hxy : x = y
        · subst hxy
          have HF : Hid (runs (l.take (k' + 1 + 1)) = R ++ [(x, c + 1)]) := by show _ = _; rw [hts, runs_snoc, hR, runStep_same]
          rw [hR] at hOr
          obtain ⟨g, cp, rfl⟩ := Joins.ownsRow_form hOr (by simp)
          have ej : (R ++ [(x, c)]).length = R.length + 1 := by simp
          obtain ⟨m, hm⟩ : ∃ m, m = R.length := ⟨_, rfl⟩
          have cc : wr.cell? ⟨g, m * 2 + 1, none⟩ = some (.int .i64 c) := by
            rw [hOr.cellAt (m * 2 + 1) (by rw [ej]; omega), hm]
            exact (cells_at _ R.length (x, c) (by rw [List.getElem?_append_right (Nat.le_refl _), Nat.sub_self]; rfl)).2
          have fc := hOr.frozenAt (m * 2 + 1)
          have hst := (hOr.stored (m * 2 + 1) (.int .i64 (c + 1))).1
          rw [hm, cells_bump] at hst
          have HST : Hid ((wr.setCell ⟨g, m * 2 + 1, none⟩ (.int .i64 (c + 1))).ownsRow w.heap.size 57 2 (.slice (some ⟨g, 0, none⟩) (m + 1) cp) (m + 1) (cells (R ++ [(x, c + 1)]))) := by show World.ownsRow _ _ _ _ _ _ _; rw [hm]; rw [ej] at hst; exact hst
          have hg := (hOr.lt g rfl).1
          have hmr : m + 1 ≤ 100000 := by rw [hR, ej] at hrl; omega
          rw [ej, ← hm]
          have HM : Hid ((R ++ [(x, c + 1)]).length = m + 1) := by show _ = _; rw [hm]; simp
          have hc1 := hcl.1
          clear hOr hBr hx hne hts hst hy hty hR hcl hm ej
          go_wp2
          go_quiet (fail)
          go_wp2
          go_roundw
          case rel => exact ⟨k' + 1 + 1, by omega, by go_num, by rw [HF.out, HM.out]; exact HST.out, (below_drewN HB.out nq).setCell (p := ⟨g, m * 2 + 1, none⟩) hg _⟩
          case measure => simp [intOf]; omega
        · have hbe : (x == y) = false := beq_eq_false_iff_ne.2 hxy
          have HF : Hid (runs (l.take (k' + 1 + 1)) = runs (l.take (k' + 1)) ++ [(x, 1)]) := by
            show _ = _
            rw [hts, runs_snoc]
            exact runStep_new (fun z c' e => by rw [hR] at e; simp at e; rw [← e.1]; exact fun h => hxy h.symm)
          have HO : Hid (wr.ownsRow w.heap.size 57 2 u3 (runs (l.take (k' + 1))).length (cells (runs (l.take (k' + 1))))) := hOr
          clear hOr hBr hx hne hts hy hty hR hcl hxy
          go_wp2
          go_quiet (fail)
          go_wp2_with (at_builtin; refine wpList_append_own _ rfl _ _ 51 rfl w.heap.size 57 i0 _ 2 16 Try.underlying51 hi0 hz0 hz1 hz2 rfl (by decide) _ _ _ rfl (World.ownsRow.alloc (show World.ownsRow _ _ _ _ _ _ _ from HO.out) _) _ 1 1 [_, _] rfl rfl (cell_two_new _ _ _ _) (by simp [Value.oneCell']) (by unfold maxLen; omega) (by omega) (by simp; omega) ?_; intro v' w1 hown' hgrow _)
          have hg : ((wr.drewN nq).alloc (.cells #[.int .i64 x, .int .i64 1] 57)).grownBy w1 u3.ownBlock := hgrow
          obtain ⟨r1, r2⟩ := pack_grown HO.out HB.out hg hown'
          go_roundw
          case rel => exact ⟨k' + 1 + 1, by omega, by go_num, by rw [HF.out]; exact r1, r2⟩
          case measure => simp [intOf]; omega
    · have hkn : k = n := by omega
      subst hkn
      have HO : Hid (wr.ownsRow w.heap.size 57 2 u3 (runs l).length (cells (runs l))) := by rw [HN.out, List.take_length] at hOr; exact hOr
      clear hOr hBr
      go_wp2
      go_ret
      exact ⟨_, rfl, HO.out, HB.out⟩

end Go.Proofs.Ytneapdegjofodaa.Ref3
