/- Find: which code a name with a mode is. -/
import Derived.Test.YtcbfhjgdnffjlaaDoorCode9
import Derived.Stop.RegionWithIn
namespace Go.Proofs.YtcbfhjgdnffjlaaDoor.Co
open Go.RowKit Go.Shelf

attribute [local go_sem] Oper.semAt_some

/-- Is x a code of that name and mode? -/
def hit (l : List UInt8) (m : Nat) (x : Fin 256) : Bool := decide (bl (nameB x.val) = l) && decide (modeN x.val = m)
/-- A documented one? -/
def known (l : List UInt8) (m : Nat) (x : Fin 256) : Bool := hit l m x && knownF ((x.val : Nat) : Int) l
/-- The first one. -/
def firstO (l : List UInt8) (m : Nat) (L : List (Fin 256)) : Nat := ((L.find? (hit l m)).map (·.val)).getD 0
def firstB (l : List UInt8) (m : Nat) (L : List (Fin 256)) : Bool := (L.find? (hit l m)).isSome
/-- The answer. -/
def findO (l : List UInt8) (m : Nat) : Nat := match codes.find? (known l m) with | some x => x.val | none => firstO l m codes
def findB (l : List UInt8) (m : Nat) : Bool := match codes.find? (known l m) with | some _ => true | none => firstB l m codes

theorem find_no {l : List UInt8} {m : Nat} (h : ∀ y ∈ codes, known l m y = false) : findO l m = firstO l m codes ∧ findB l m = firstB l m codes := by
  have : codes.find? (known l m) = none := List.find?_eq_none.2 (fun y hy => by simp [h y hy])
  unfold findO findB
  rw [this]
  exact ⟨rfl, rfl⟩
theorem find_yes {l : List UInt8} {m : Nat} {pre : List (Fin 256)} {x : Fin 256} (hp : pre ++ [x] <+: codes) (h : ∀ y ∈ pre, known l m y = false) (hx : known l m x = true) : findO l m = x.val ∧ findB l m = true := by
  obtain ⟨t, ht⟩ := hp
  have : codes.find? (known l m) = some x := by
    rw [← ht, List.append_assoc, List.find?_append, List.find?_eq_none.2 (fun y hy => by simp [h y hy])]
    simp [hx]
  unfold findO findB
  rw [this]
  exact ⟨rfl, rfl⟩
theorem first_skip {l : List UInt8} {m : Nat} {pre : List (Fin 256)} {x : Fin 256} (hx : hit l m x = false) : firstO l m (pre ++ [x]) = firstO l m pre ∧ firstB l m (pre ++ [x]) = firstB l m pre := by
  unfold firstO firstB
  rw [List.find?_append]
  simp [hx]
theorem first_had {l : List UInt8} {m : Nat} {pre : List (Fin 256)} {x : Fin 256} (h : firstB l m pre = true) : firstO l m (pre ++ [x]) = firstO l m pre ∧ firstB l m (pre ++ [x]) = true := by
  unfold firstB at h
  obtain ⟨y, hy⟩ := Option.isSome_iff_exists.1 h
  unfold firstO firstB
  rw [List.find?_append, hy]
  simp
theorem first_new {l : List UInt8} {m : Nat} {pre : List (Fin 256)} {x : Fin 256} (h : firstB l m pre = false) (hx : hit l m x = true) : firstO l m (pre ++ [x]) = x.val ∧ firstB l m (pre ++ [x]) = true := by
  unfold firstB at h
  have hy : pre.find? (hit l m) = none := by simpa using h
  unfold firstO firstB
  rw [List.find?_append, hy]
  simp [hx]

theorem new_cell (W : World) (v : Value) (t : TypeId) : (W.alloc (.cells #[v] t)).cell? ⟨W.heap.size, 0, none⟩ = some v ∧ (W.alloc (.cells #[v] t)).frozen? ⟨W.heap.size, 0, none⟩ = false := by
  have h : (W.alloc (.cells #[v] t)).heap[W.heap.size]? = some (.cells #[v] t (0, 0)) := World.alloc_heap_new W _
  exact ⟨cell_of_one h, free_of_one h⟩
/-- A box of one cell. -/
def B1 (W : World) (b : Nat) (v : Value) : Prop := W.cell? ⟨b, 0, none⟩ = some v ∧ W.frozen? ⟨b, 0, none⟩ = false
theorem B1.alloc {W : World} {b : Nat} {v : Value} (h : B1 W b v) (o : Obj) : B1 (W.alloc o) b v :=
  ⟨cell_kept h.1 (World.grownBy_alloc W o none) (fun r e => by cases e), (frozen_kept h.1 (World.grownBy_alloc W o none) (fun r e => by cases e)).trans h.2⟩
theorem B1.new (W : World) (v : Value) (t : TypeId) : B1 (W.alloc (.cells #[v] t)) W.heap.size v := new_cell W v t
theorem B1.grown {W W' : World} {b : Nat} {v : Value} {row : Option Nat} (h : B1 W b v) (hg : W.grownBy W' row) (hr : ∀ r, row = some r → ∃ o : Obj, W.heap[r]? = some o ∧ o.isCells = false) : B1 W' b v :=
  ⟨cell_kept h.1 hg hr, (frozen_kept h.1 hg hr).trans h.2⟩
theorem B1.below {W W' : World} {b n : Nat} {v : Value} (h : B1 W b v) (hb : Below n W W') (hn : b < n) : B1 W' b v :=
  ⟨(hb.cell (p := ⟨b, 0, none⟩) hn).trans h.1, (hb.frozen (p := ⟨b, 0, none⟩) hn).trans h.2⟩
theorem B1.set {W : World} {b : Nat} {v : Value} (h : B1 W b v) (u : Value) : B1 (W.setCell ⟨b, 0, none⟩ u) b u :=
  ⟨World.cell?_setCell_same' _ _ _ (by rw [h.1]; rfl), by rw [World.frozen?_setCell]; exact h.2⟩
theorem B1.other {W : World} {b c : Nat} {v : Value} (h : B1 W b v) (u : Value) (hc : b ≠ c) : B1 (W.setCell ⟨c, 0, none⟩ u) b v :=
  ⟨(World.cell?_setCell_other _ _ _ _ (fun e => hc (congrArg Addr.block e).symm)).trans h.1, by rw [World.frozen?_setCell]; exact h.2⟩
theorem B1.drewN {W : World} {b : Nat} {v : Value} (h : B1 W b v) (n : Nat) : B1 (W.drewN n) b v := h
theorem B1.lt {W : World} {b : Nat} {v : Value} (h : B1 W b v) : b < W.heap.size := by
  have := h.1
  by_cases hb : b < W.heap.size
  · exact hb
  · simp [World.cell?, Array.getElem?_eq_none (Nat.le_of_not_lt hb)] at this

theorem nameC (op : Nat) (w : World) (h : op < 256) : Calls Tryd.prog 18 #[.string (cellB op)] w fun e w' => e = .returned (.string (nameB op)) ∧ w' = w := cname _ _ (cellB_size op h)
theorem modeC (op : Nat) (w : World) (h : op < 256) (ht : Tab w) : Calls Tryd.prog 19 #[.string (cellB op)] w fun e w' => e = .returned (.int .u8 ((modeN op : Nat) : Int)) ∧ w' = w := mode _ _ (cellB_size op h) ht
theorem knownC (op : Int) (c : ByteArray) (w : World) : Calls Tryd.prog 21 #[.int .u8 op, .string c] w fun e w' => e = .returned (.bool (knownF op (bl c))) ∧ w' = w := by
  have := isKnown op c w
  rwa [bl_eq] at this
theorem keepsDrewN (W : World) (n : Nat) : KeepsOthers W (W.drewN n) := ⟨Nat.le_refl _, fun _ _ h _ => h⟩

/-- What stands when the codes of pre have been looked at. -/
structure Fj (w : World) (s : ByteArray) (m : Nat) (pre : List (Fin 256)) (W : World) : Prop where
  no : ∀ y ∈ pre, known (bl s) m y = false
  nm : B1 W w.heap.size (.string s)
  md : B1 W (w.heap.size + 1) (.int .u8 (m : Int))
  r0 : B1 W (w.heap.size + 1 + 1) (.int .u8 0)
  r1 : B1 W (w.heap.size + 1 + 1 + 1) (.bool false)
  le : B1 W (w.heap.size + 1 + 1 + 1 + 1) (.int .u8 ((firstO (bl s) m pre : Nat) : Int))
  th : B1 W (w.heap.size + 1 + 1 + 1 + 1 + 1) (.bool (firstB (bl s) m pre))
structure Fx (w : World) (s : ByteArray) (m : Nat) (c : Code) (pre : List (Fin 256)) (W : World) : Prop where
  ret : c = .ret
  at_ : ∃ pre0 x, pre = pre0 ++ [x] ∧ (∀ y ∈ pre0, known (bl s) m y = false) ∧ known (bl s) m x = true ∧ B1 W (w.heap.size + 1 + 1) (.int .u8 ((x.val : Nat) : Int))
  r1 : B1 W (w.heap.size + 1 + 1 + 1) (.bool true)

theorem Fj.drew {w : World} {s : ByteArray} {m : Nat} {pre : List (Fin 256)} {W : World} (h : Fj w s m pre W) : Fj w s m pre W.drew := ⟨h.no, h.nm, h.md, h.r0, h.r1, h.le, h.th⟩
theorem Fj.skip {w : World} {s : ByteArray} {m : Nat} {pre : List (Fin 256)} {W : World} {x : Fin 256} (h : Fj w s m pre W) (hx : hit (bl s) m x = false) : Fj w s m (pre ++ [x]) W := by
  obtain ⟨e1, e2⟩ := first_skip (pre := pre) hx
  refine ⟨fun y hy => ?_, h.nm, h.md, h.r0, h.r1, by rw [e1]; exact h.le, by rw [e2]; exact h.th⟩
  rcases List.mem_append.1 hy with hy | hy
  · exact h.no y hy
  · rw [List.mem_singleton.1 hy]; unfold known; rw [hx]; rfl
theorem Fj.had {w : World} {s : ByteArray} {m : Nat} {pre : List (Fin 256)} {W : World} {x : Fin 256} (h : Fj w s m pre W) (hk : known (bl s) m x = false) (hb : firstB (bl s) m pre = true) : Fj w s m (pre ++ [x]) W := by
  obtain ⟨e1, e2⟩ := first_had (x := x) hb
  refine ⟨fun y hy => ?_, h.nm, h.md, h.r0, h.r1, by rw [e1]; exact h.le, by rw [e2, ← hb]; exact h.th⟩
  rcases List.mem_append.1 hy with hy | hy
  · exact h.no y hy
  · rw [List.mem_singleton.1 hy]; exact hk
theorem Fj.new {w : World} {s : ByteArray} {m : Nat} {pre : List (Fin 256)} {W : World} {x : Fin 256} (h : Fj w s m pre W) (hx : hit (bl s) m x = true) (hk : known (bl s) m x = false) (hb : firstB (bl s) m pre = false) :
    Fj w s m (pre ++ [x]) ((W.setCell ⟨w.heap.size + 1 + 1 + 1 + 1, 0, none⟩ (.int .u8 ((x.val : Nat) : Int))).setCell ⟨w.heap.size + 1 + 1 + 1 + 1 + 1, 0, none⟩ (.bool true)) := by
  obtain ⟨e1, e2⟩ := first_new hb hx
  refine ⟨fun y hy => ?_, (h.nm.other _ (by omega)).other _ (by omega), (h.md.other _ (by omega)).other _ (by omega), (h.r0.other _ (by omega)).other _ (by omega), (h.r1.other _ (by omega)).other _ (by omega), by rw [e1]; exact (h.le.set _).other _ (by omega), by rw [e2]; exact (h.th.other _ (by omega)).set _⟩
  rcases List.mem_append.1 hy with hy | hy
  · exact h.no y hy
  · rw [List.mem_singleton.1 hy]; exact hk

set_option maxRecDepth 100000 in
set_option maxHeartbeats 2000000 in
theorem Find_in (s : ByteArray) (m : Nat) (w : World) (ht : Tab w) :
    CallsIn Fence.wide 3 Tryd.prog 14 #[.string s, .int .u8 (m : Int)] w fun e w' => e = .returned (.tuple #[.int .u8 ((findO (bl s) m : Nat) : Int), .bool (findB (bl s) m)]) ∧ Below w.heap.size w w' := by
  have hlt := ht.lt
  refine callsIn_of_wp_marks Tryd.func14 rfl trivial ?_ rfl
  simp only [Tryd.ntmps14, List.size_toArray, List.length_cons, List.length_nil, Nat.reduceAdd, Nat.reduceSub, Array.replicate_succ, Array.replicate_zero, List.push_toArray, List.append_toArray, List.nil_append, List.cons_append]
  gi_wp2
  have hB0 : Below w.heap.size w ((((((w.alloc (.cells #[.string s] 9)).alloc (.cells #[.int .u8 (m : Int)] 22)).alloc (.cells #[.int .u8 0] 5)).alloc (.cells #[.bool false] 4)).alloc (.cells #[.int .u8 0] 5)).alloc (.cells #[.bool false] 4)) := ((((((Below.refl _ w).alloc (Nat.le_refl _) _).alloc (by simp) _).alloc (by simp; omega) _).alloc (by simp; omega) _).alloc (by simp; omega) _).alloc (by simp; omega) _
  have hz : ((((((w.alloc (.cells #[.string s] 9)).alloc (.cells #[.int .u8 (m : Int)] 22)).alloc (.cells #[.int .u8 0] 5)).alloc (.cells #[.bool false] 4)).alloc (.cells #[.int .u8 0] 5)).alloc (.cells #[.bool false] 4)).heap.size = w.heap.size + 6 := by simp
  have hF : Fj w s m [] ((((((w.alloc (.cells #[.string s] 9)).alloc (.cells #[.int .u8 (m : Int)] 22)).alloc (.cells #[.int .u8 0] 5)).alloc (.cells #[.bool false] 4)).alloc (.cells #[.int .u8 0] 5)).alloc (.cells #[.bool false] 4)) := by
    have n0 := B1.new w (.string s) 9
    have n1 := B1.new (w.alloc (.cells #[.string s] 9)) (.int .u8 (m : Int)) 22
    have n2 := B1.new ((w.alloc (.cells #[.string s] 9)).alloc (.cells #[.int .u8 (m : Int)] 22)) (.int .u8 0) 5
    have n3 := B1.new (((w.alloc (.cells #[.string s] 9)).alloc (.cells #[.int .u8 (m : Int)] 22)).alloc (.cells #[.int .u8 0] 5)) (.bool false) 4
    have n4 := B1.new ((((w.alloc (.cells #[.string s] 9)).alloc (.cells #[.int .u8 (m : Int)] 22)).alloc (.cells #[.int .u8 0] 5)).alloc (.cells #[.bool false] 4)) (.int .u8 0) 5
    have n5 := B1.new (((((w.alloc (.cells #[.string s] 9)).alloc (.cells #[.int .u8 (m : Int)] 22)).alloc (.cells #[.int .u8 0] 5)).alloc (.cells #[.bool false] 4)).alloc (.cells #[.int .u8 0] 5)) (.bool false) 4
    simp only [World.size_alloc] at n1 n2 n3 n4 n5
    exact ⟨fun y hy => by simp at hy, ((((n0.alloc _).alloc _).alloc _).alloc _).alloc _, (((n1.alloc _).alloc _).alloc _).alloc _, ((n2.alloc _).alloc _).alloc _, (n3.alloc _).alloc _, n4.alloc _, n5⟩
  generalize ((((((w.alloc (.cells #[.string s] 9)).alloc (.cells #[.int .u8 (m : Int)] 22)).alloc (.cells #[.int .u8 0] 5)).alloc (.cells #[.bool false] 4)).alloc (.cells #[.int .u8 0] 5)).alloc (.cells #[.bool false] 4)) = w6 at hB0 hz hF
  refine wpIn_rangeFunc_ownF rfl (by decide) (gf := 27) (lb := #[]) rfl trivial (enters_of Tryd.func27 (by kernel_rfl) rfl) (cells_stops _ (by decide) w6)
    (fun _ _ => trivial) (fun _ _ _ _ _ _ _ _ => trivial) (Below.refl _ _) (fun _ => rfl)
    (fun pre W => Fj w s m pre W ∧ Below w.heap.size w W)
    (fun c pre W => Fx w s m c pre W ∧ Below w.heap.size w W)
    (OwnFrom.and (Own.from (fun p A B row hs hg hr => ⟨hs.no, hs.nm.grown hg hr, hs.md.grown hg hr, hs.r0.grown hg hr, hs.r1.grown hg hr, hs.le.grown hg hr, hs.th.grown hg hr⟩) _) (ownFrom_below (Nat.le_refl _) (by omega)))
    (fun c => OwnFrom.and (Own.from (fun p A B row hs hg hr => ⟨hs.ret, (let ⟨p0, x, y1, y2, y3, y4⟩ := hs.at_; ⟨p0, x, y1, y2, y3, y4.grown hg hr⟩), hs.r1.grown hg hr⟩) _) (ownFrom_below (Nat.le_refl _) (by omega)))
    ⟨hF, hB0⟩
    (fun x => { tmps := #[.string s, .int .u8 (m : Int), .pointer (some ⟨w.heap.size, 0, none⟩), .pointer (some ⟨w.heap.size + 1, 0, none⟩), .pointer (some ⟨w.heap.size + 1 + 1, 0, none⟩), .pointer (some ⟨w.heap.size + 1 + 1 + 1, 0, none⟩), .pointer (some ⟨w.heap.size + 1 + 1 + 1 + 1, 0, none⟩), .pointer (some ⟨w.heap.size + 1 + 1 + 1 + 1 + 1, 0, none⟩), .int .u8 ((x.val : Nat) : Int), .string (cellB x.val), .int .u8 ((x.val : Nat) : Int), .string (cellB x.val), undef, undef, undef, undef, undef, undef, undef, undef, undef, undef, undef, undef, undef, undef, undef, undef, undef, undef, undef], defers := [] }) ?assign ?body ?done ?stop
  case assign =>
    intro l x W K hK
    unfold encs
    gi_wp2
    simpa using hK
  case body =>
    rintro l pre x W ⟨hF, hB⟩ hlen
    have HT : Hid (Tab W) := ht.below hB hlt
    have HJ : Hid (Fj w s m pre W) := hF
    obtain ⟨f0, ⟨c0, d0⟩, ⟨c1, d1⟩, ⟨c2, d2⟩, ⟨c3, d3⟩, ⟨c4, d4⟩, ⟨c5, d5⟩⟩ := hF
    have hx := x.isLt
    have HB : Hid (Below w.heap.size w W) := hB
    have HI : Hid (hit (bl s) m x = (decide (bl (nameB x.val) = bl s) && decide (modeN x.val = m))) := (rfl : _ = _)
    have HK : Hid (known (bl s) m x = (hit (bl s) m x && knownF ((x.val : Nat) : Int) (bl s))) := (rfl : _ = _)
    have HE : Hid (((nameB x.val).toList == s.toList) = decide (bl (nameB x.val) = bl s)) := bl_beq _ _
    clear f0 hB hB0 ht hz hlen
    cases hnm : ((nameB x.val).toList == s.toList)
    · have HH : Hid (hit (bl s) m x = false) := by show _ = _; rw [HI.out, ← HE.out, hnm]; rfl
      gi_wp2
      gi_region_with (first
        | (refine ⟨trivial, ?_⟩; gi_at_call 18; refine (CallsIn.inRound l (callsIn_wide.2 (nameC _ _ hx))).mono ?_; rintro e w' ⟨rfl, rfl⟩)
        | (refine ⟨trivial, ?_⟩))
      all_goals gi_wp2
      all_goals exact ⟨keepsDrewN _ 1, trivial, (HJ.out.skip HH.out).drew, HB.out.trans ⟨rfl, rfl, rfl, Nat.le_refl _, fun _ _ => rfl⟩⟩
    · by_cases hmd : modeN x.val = m
      · have HH : Hid (hit (bl s) m x = true) := by show _ = _; rw [HI.out, ← HE.out, hnm, decide_eq_true hmd]; rfl
        have hmb : (((modeN x.val : Nat) : Int) == (m : Int)) = true := by simp; omega
        have hmn : (((modeN x.val : Nat) : Int) != (m : Int)) = false := by simp; omega
        clear hmd
        cases hkn : knownF ((x.val : Nat) : Int) (bl s)
        · have HKn : Hid (known (bl s) m x = false) := by show _ = _; rw [HK.out, hkn, Bool.and_false]
          cases hth : firstB (bl s) m pre
          · rw [hth] at c5
            gi_wp2
            gi_region_with (first
              | (refine ⟨trivial, ?_⟩; gi_at_call 18; refine (CallsIn.inRound l (callsIn_wide.2 (nameC _ _ hx))).mono ?_; rintro e w' ⟨rfl, rfl⟩)
              | (refine ⟨trivial, ?_⟩; gi_at_call 19; refine (CallsIn.inRound l (callsIn_wide.2 (modeC _ _ hx (by exact HT.out.same rfl)))).mono ?_; rintro e w' ⟨rfl, rfl⟩))
            all_goals gi_wp2_with (refine ⟨trivial, ?_⟩; gi_at_call 21; refine (CallsIn.inRound l (callsIn_wide.2 (knownC _ _ _))).mono ?_; rintro e w' ⟨rfl, rfl⟩)
            all_goals exact ⟨((KeepsOthers.setCell _ _ _).trans (KeepsOthers.setCell _ _ _)).trans (keepsDrewN _ 1), trivial, (HJ.out.new HH.out HKn.out hth).drew, ((HB.out.setCell (p := ⟨w.heap.size + 1 + 1 + 1 + 1, 0, none⟩) (by simp; omega) _).setCell (p := ⟨w.heap.size + 1 + 1 + 1 + 1 + 1, 0, none⟩) (by simp; omega) _).trans ⟨rfl, rfl, rfl, Nat.le_refl _, fun _ _ => rfl⟩⟩
          · rw [hth] at c5
            gi_wp2
            gi_region_with (first
              | (refine ⟨trivial, ?_⟩; gi_at_call 18; refine (CallsIn.inRound l (callsIn_wide.2 (nameC _ _ hx))).mono ?_; rintro e w' ⟨rfl, rfl⟩)
              | (refine ⟨trivial, ?_⟩; gi_at_call 19; refine (CallsIn.inRound l (callsIn_wide.2 (modeC _ _ hx (by exact HT.out.same rfl)))).mono ?_; rintro e w' ⟨rfl, rfl⟩))
            all_goals gi_wp2_with (refine ⟨trivial, ?_⟩; gi_at_call 21; refine (CallsIn.inRound l (callsIn_wide.2 (knownC _ _ _))).mono ?_; rintro e w' ⟨rfl, rfl⟩)
            all_goals exact ⟨keepsDrewN _ 1, trivial, (HJ.out.had HKn.out hth).drew, HB.out.trans ⟨rfl, rfl, rfl, Nat.le_refl _, fun _ _ => rfl⟩⟩
        · have HKn : Hid (known (bl s) m x = true) := by show _ = _; rw [HK.out, hkn, HH.out]; rfl
          gi_wp2
          gi_region_with (first
            | (refine ⟨trivial, ?_⟩; gi_at_call 18; refine (CallsIn.inRound l (callsIn_wide.2 (nameC _ _ hx))).mono ?_; rintro e w' ⟨rfl, rfl⟩)
            | (refine ⟨trivial, ?_⟩; gi_at_call 19; refine (CallsIn.inRound l (callsIn_wide.2 (modeC _ _ hx (by exact HT.out.same rfl)))).mono ?_; rintro e w' ⟨rfl, rfl⟩))
          all_goals gi_wp2_with (refine ⟨trivial, ?_⟩; gi_at_call 21; refine (CallsIn.inRound l (callsIn_wide.2 (knownC _ _ _))).mono ?_; rintro e w' ⟨rfl, rfl⟩)
          all_goals exact ⟨((KeepsOthers.setCell _ _ _).trans (KeepsOthers.setCell _ _ _)).trans (keepsDrewN _ 1), ⟨rfl, ⟨pre, x, rfl, HJ.out.no, HKn.out, ((HJ.out.r0.set _).other _ (by omega)).drewN 1⟩, ((HJ.out.r1.other _ (by omega)).set _).drewN 1⟩, ((HB.out.setCell (p := ⟨w.heap.size + 1 + 1, 0, none⟩) (by simp; omega) _).setCell (p := ⟨w.heap.size + 1 + 1 + 1, 0, none⟩) (by simp; omega) _).trans ⟨rfl, rfl, rfl, Nat.le_refl _, fun _ _ => rfl⟩⟩
      · have HH : Hid (hit (bl s) m x = false) := by show _ = _; rw [HI.out, decide_eq_false hmd, Bool.and_false]
        have hmb : (((modeN x.val : Nat) : Int) == (m : Int)) = false := by rw [beq_eq_false_iff_ne]; omega
        have hmn : (((modeN x.val : Nat) : Int) != (m : Int)) = true := by simp; omega
        clear hmd
        gi_wp2
        gi_region_with (first
          | (refine ⟨trivial, ?_⟩; gi_at_call 18; refine (CallsIn.inRound l (callsIn_wide.2 (nameC _ _ hx))).mono ?_; rintro e w' ⟨rfl, rfl⟩)
          | (refine ⟨trivial, ?_⟩; gi_at_call 19; refine (CallsIn.inRound l (callsIn_wide.2 (modeC _ _ hx (by exact HT.out.same rfl)))).mono ?_; rintro e w' ⟨rfl, rfl⟩))
        all_goals gi_wp2
        all_goals exact ⟨keepsDrewN _ 1, trivial, (HJ.out.skip HH.out).drew, HB.out.trans ⟨rfl, rfl, rfl, Nat.le_refl _, fun _ _ => rfl⟩⟩
  case done =>
    rintro D ys W hD rfl ⟨hF, hB⟩ hK
    have HB : Hid (Below w.heap.size w W) := hB
    have HJ : Hid (Fj w s m codes W) := hF
    have HN : Hid (findO (bl s) m = firstO (bl s) m codes ∧ findB (bl s) m = firstB (bl s) m codes) := find_no hF.no
    obtain ⟨_, ⟨c0, d0⟩, ⟨c1, d1⟩, ⟨c2, d2⟩, ⟨c3, d3⟩, ⟨c4, d4⟩, ⟨c5, d5⟩⟩ := hF
    clear hB hB0 ht
    gi_wp2
    gi_region_with fail
    all_goals gi_wp2
    all_goals
      have hK' := (((KeepsOthers.setCell W ⟨w.heap.size + 1 + 1, 0, none⟩ (.int .u8 ((firstO (bl s) m codes : Nat) : Int))).trans (KeepsOthers.setCell _ ⟨w.heap.size + 1 + 1 + 1, 0, none⟩ (.bool (firstB (bl s) m codes)))).trans (keepsDrewN _ 1)).same D _ hK rfl
      have k1 : B1 (((W.setCell ⟨w.heap.size + 1 + 1, 0, none⟩ (.int .u8 ((firstO (bl s) m codes : Nat) : Int))).setCell ⟨w.heap.size + 1 + 1 + 1, 0, none⟩ (.bool (firstB (bl s) m codes))).drewN 1) (w.heap.size + 1 + 1) _ := ((HJ.out.r0.set _).other _ (by omega)).drewN 1
      have k2 : B1 (((W.setCell ⟨w.heap.size + 1 + 1, 0, none⟩ (.int .u8 ((firstO (bl s) m codes : Nat) : Int))).setCell ⟨w.heap.size + 1 + 1 + 1, 0, none⟩ (.bool (firstB (bl s) m codes))).drewN 1) (w.heap.size + 1 + 1 + 1) _ := ((HJ.out.r1.other _ (by omega)).set _).drewN 1
      have hBF : Below w.heap.size w (((W.setCell ⟨w.heap.size + 1 + 1, 0, none⟩ (.int .u8 ((firstO (bl s) m codes : Nat) : Int))).setCell ⟨w.heap.size + 1 + 1 + 1, 0, none⟩ (.bool (firstB (bl s) m codes))).drewN 1) := ((HB.out.setCell (p := ⟨w.heap.size + 1 + 1, 0, none⟩) (by simp; omega) _).setCell (p := ⟨w.heap.size + 1 + 1 + 1, 0, none⟩) (by simp; omega) _).trans ⟨rfl, rfl, rfl, Nat.le_refl _, fun _ _ => rfl⟩
      change bodyPostM _ _ _ _ _ _ _ (((W.setCell ⟨w.heap.size + 1 + 1, 0, none⟩ (.int .u8 ((firstO (bl s) m codes : Nat) : Int))).setCell ⟨w.heap.size + 1 + 1 + 1, 0, none⟩ (.bool (firstB (bl s) m codes))).drewN 1)
      generalize ((W.setCell ⟨w.heap.size + 1 + 1, 0, none⟩ (.int .u8 ((firstO (bl s) m codes : Nat) : Int))).setCell ⟨w.heap.size + 1 + 1 + 1, 0, none⟩ (.bool (firstB (bl s) m codes))).drewN 1 = WD at hK' k1 k2 hBF
      refine ⟨by simp, .inl ⟨_, _, rfl, run_takeDeferred hK', ?_⟩⟩
      have e1 := cell_kept k1.1 (grownBy_putObj' _ D (.deferred none)) (fun r e => by cases e; exact ⟨_, hK', rfl⟩)
      have e2 := cell_kept k2.1 (grownBy_putObj' _ D (.deferred none)) (fun r e => by cases e; exact ⟨_, hK', rfl⟩)
      refine ⟨.tuple #[.int .u8 ((firstO (bl s) m codes : Nat) : Int), .bool (firstB (bl s) m codes)], ?_, by rw [HN.out.1, HN.out.2], hBF.trans (belowK_b (w := w) (Nat.le_refl _) WD D _ _ (by omega) hK' rfl rfl)⟩
      simp [results, Tryd.f14, go_sem, e1, e2]
  case stop =>
    rintro D c pre W hD hpre ⟨⟨rfl, ⟨pre0, x, rfl, hy, hk, k1⟩, k2⟩, hB⟩ hK
    have HN : Hid (findO (bl s) m = x.val ∧ findB (bl s) m = true) := find_yes hpre hy hk
    clear hy hpre hk
    gi_wp2
    refine ⟨by simp, .inl ⟨_, _, rfl, run_takeDeferred hK, ?_⟩⟩
    have e1 := cell_kept k1.1 (grownBy_putObj' _ D (.deferred none)) (fun r e => by cases e; exact ⟨_, hK, rfl⟩)
    have e2 := cell_kept k2.1 (grownBy_putObj' _ D (.deferred none)) (fun r e => by cases e; exact ⟨_, hK, rfl⟩)
    refine ⟨.tuple #[.int .u8 ((x.val : Nat) : Int), .bool true], ?_, by rw [HN.out.1, HN.out.2], hB.trans (belowK_b (w := w) (Nat.le_refl _) W D _ _ (by omega) hK rfl rfl)⟩
    simp [results, Tryd.f14, go_sem, e1, e2]

theorem Find (s : ByteArray) (m : Nat) (w : World) (ht : Tab w) : Calls Tryd.prog 14 #[.string s, .int .u8 (m : Int)] w fun e w' => e = .returned (.tuple #[.int .u8 ((findO (bl s) m : Nat) : Int), .bool (findB (bl s) m)]) ∧ Below w.heap.size w w' :=
  callsIn_wide.1 (Find_in s m w ht)

end Go.Proofs.YtcbfhjgdnffjlaaDoor.Co
