/- What a code is. -/
import Derived.Test.YtelmohajdmcnmaaDoorCode6
import Derived.Test.YtelmohajdmcnmaaDoorCode2
namespace Go.Proofs.YtelmohajdmcnmaaDoor.Co
open Go.RowKit Go.Maps Go.WideMaps

/-- The kind that the map has for a name. -/
def kindK (l : List UInt8) : Int := match kindD.atKey (.string l) (.lit (.int .u8 0)) with | .lit (.int _ n) => n | _ => 0
def kindH (l : List UInt8) : Bool := Maps.has kindD (.string l)
/-- The kind of a name and a mode. -/
def kindF (l : List UInt8) (m : Int) : Int := if kindH l then kindK l else if m = 11 then 4 else if m = 0 then 0 else 1

theorem zeroKind (w : World) : (zeroValue 45).run Tryd.prog w = .ok (.int .u8 0) w := by kernel_rfl

set_option maxRecDepth 100000 in
set_option maxHeartbeats 1000000 in
theorem kindOf (s : ByteArray) (m : Int) (w : World) (hs : s.size ≤ 1000) : Calls Tryd.prog 43 #[.string s, .int .u8 m] w fun e w' => e = .returned (.int .u8 (kindF (bl s) m)) ∧ Below w.heap.size w w' := by
  have hk : keyOf Tryd.prog 9 (.string s) = some (.string (bl s)) := keyOf_string_mk Tryd.underlying9 (Nat.le_trans hs (by decide))
  have HK : Hid (keyOf Tryd.prog 9 (.string s) = some (.string (bl s))) := hk
  clear hk
  have HF : Hid (kindF (bl s) m = if kindH (bl s) then kindK (bl s) else if m = 11 then 4 else if m = 0 then 0 else 1) := (rfl : _ = _)
  have HH : Hid (∀ b, kindH (bl s) = b → Maps.has kindD (.string (bl s)) = b) := fun b h => h
  cases hh : kindH (bl s)
  · have hh' := HH.out _ hh
    rw [hh] at HF
    by_cases h1 : m = 11
    · subst h1
      go_enter Tryd.func43, Tryd.ntmps43
      go_wp2_with (first
        | (go_at_call 72; refine (kinds _).mono ?_; rintro e w2 ⟨b, rfl, ho, hB⟩)
        | (at_lookup; refine wpList_lookup_own_ok_int _ rfl _ _ 98 rfl 9 45 .u8 keys Tryd.underlying98 Tryd.underlying45 (zeroKind _) _ _ _ rfl ho _ _ rfl HK.out ?_; intro c hat hwc))
      go_ret
      exact ⟨ret_int (by rw [HF.out]; rfl), hB⟩
    by_cases h0 : m = 0
    · subst h0
      go_enter Tryd.func43, Tryd.ntmps43
      go_wp2_with (first
        | (go_at_call 72; refine (kinds _).mono ?_; rintro e w2 ⟨b, rfl, ho, hB⟩)
        | (at_lookup; refine wpList_lookup_own_ok_int _ rfl _ _ 98 rfl 9 45 .u8 keys Tryd.underlying98 Tryd.underlying45 (zeroKind _) _ _ _ rfl ho _ _ rfl HK.out ?_; intro c hat hwc))
      go_ret
      exact ⟨ret_int (by rw [HF.out]; rfl), hB⟩
    · go_enter Tryd.func43, Tryd.ntmps43
      go_wp2_with (first
        | (go_at_call 72; refine (kinds _).mono ?_; rintro e w2 ⟨b, rfl, ho, hB⟩)
        | (at_lookup; refine wpList_lookup_own_ok_int _ rfl _ _ 98 rfl 9 45 .u8 keys Tryd.underlying98 Tryd.underlying45 (zeroKind _) _ _ _ rfl ho _ _ rfl HK.out ?_; intro c hat hwc))
      go_ret
      exact ⟨ret_int (by rw [HF.out, if_neg (by decide), if_neg h1, if_neg h0]), hB⟩
  · have hh' := HH.out _ hh
    rw [hh] at HF
    go_enter Tryd.func43, Tryd.ntmps43
    go_wp2_with (first
      | (go_at_call 72; refine (kinds _).mono ?_; rintro e w2 ⟨b, rfl, ho, hB⟩)
      | (at_lookup; refine wpList_lookup_own_ok_int _ rfl _ _ 98 rfl 9 45 .u8 keys Tryd.underlying98 Tryd.underlying45 (zeroKind _) _ _ _ rfl ho _ _ rfl HK.out ?_; intro c hat hwc; have HC : Hid (kindK (bl s) = c) := (by show _ = _; unfold kindK; rw [hat]); clear hat))
    go_ret
    exact ⟨ret_int (by rw [HF.out]; simp [HC.out]), hB⟩

/-- A code's name, mode, kind, and whether it is documented. -/
def nameB (op : Nat) : ByteArray := (cellB op).extract 0 3
def modeN (op : Nat) : Nat := modeF (bl ((cellB op).extract 4 7))
def kindN (op : Nat) : Int := kindF (bl (nameB op)) (modeN op)
def knownB (op : Nat) : Bool := knownF op (bl (nameB op))
def codeV (op : Nat) : Array Value := #[.string (nameB op), .int .u8 (modeN op), .int .u8 (kindN op), .bool (knownB op)]
theorem nameB_size (op : Nat) (h : op < 256) : (nameB op).size = 3 := by
  unfold nameB
  rw [ByteArray.size_extract, cellB_size op h]
  rfl

/-- A box of four cells, whatever they hold. -/
structure Box4 (w : World) (b : Nat) (v0 v1 v2 v3 : Value) : Prop where
  c0 : w.cell? ⟨b, 0, none⟩ = some v0
  c1 : w.cell? ⟨b, 1, none⟩ = some v1
  c2 : w.cell? ⟨b, 2, none⟩ = some v2
  c3 : w.cell? ⟨b, 3, none⟩ = some v3
  f0 : w.frozen? ⟨b, 0, none⟩ = false
  f1 : w.frozen? ⟨b, 1, none⟩ = false
  f2 : w.frozen? ⟨b, 2, none⟩ = false
  f3 : w.frozen? ⟨b, 3, none⟩ = false
theorem Box4.new (w : World) (v0 v1 v2 v3 : Value) (t : TypeId) : Box4 (w.alloc (.cells #[v0, v1, v2, v3] t)) w.heap.size v0 v1 v2 v3 := by
  have h : (w.alloc (.cells #[v0, v1, v2, v3] t)).heap[w.heap.size]? = some (.cells #[v0, v1, v2, v3] t (0, 0)) := heap_alloc_new w _
  exact ⟨cell_of_row _ _ _ _ _ _ h, cell_of_row _ _ _ _ _ _ h, cell_of_row _ _ _ _ _ _ h, cell_of_row _ _ _ _ _ _ h, frozen_of_row _ _ _ _ _ h, frozen_of_row _ _ _ _ _ h, frozen_of_row _ _ _ _ _ h, frozen_of_row _ _ _ _ _ h⟩
theorem Box4.lt {w : World} {b : Nat} {v0 v1 v2 v3 : Value} (h : Box4 w b v0 v1 v2 v3) : b < w.heap.size := by
  have := h.c0
  by_cases hb : b < w.heap.size
  · exact hb
  · simp [World.cell?, Array.getElem?_eq_none (Nat.le_of_not_lt hb)] at this
theorem Box4.below {w w' : World} {b n : Nat} {v0 v1 v2 v3 : Value} (h : Box4 w b v0 v1 v2 v3) (hb : Below n w w') (hn : b < n) : Box4 w' b v0 v1 v2 v3 :=
  ⟨(hb.cell (p := ⟨b, 0, none⟩) hn).trans h.c0, (hb.cell (p := ⟨b, 1, none⟩) hn).trans h.c1, (hb.cell (p := ⟨b, 2, none⟩) hn).trans h.c2, (hb.cell (p := ⟨b, 3, none⟩) hn).trans h.c3,
   (hb.frozen (p := ⟨b, 0, none⟩) hn).trans h.f0, (hb.frozen (p := ⟨b, 1, none⟩) hn).trans h.f1, (hb.frozen (p := ⟨b, 2, none⟩) hn).trans h.f2, (hb.frozen (p := ⟨b, 3, none⟩) hn).trans h.f3⟩
theorem Box4.next {w w' : World} {b : Nat} {v0 v1 v2 v3 : Value} (h : Box4 w b v0 v1 v2 v3) (hb : Below w.heap.size w w') : Box4 w' b v0 v1 v2 v3 := h.below hb h.lt

theorem Box4.set {w : World} {b : Nat} {v0 v1 v2 v3 : Value} (h : Box4 w b v0 v1 v2 v3) (u0 u1 u2 u3 : Value) : Box4 ((((w.setCell ⟨b, 0, none⟩ u0).setCell ⟨b, 1, none⟩ u1).setCell ⟨b, 2, none⟩ u2).setCell ⟨b, 3, none⟩ u3) b u0 u1 u2 u3 := by
  have o : ∀ (W : World) (i j : Nat) (x : Value), i ≠ j → (W.setCell ⟨b, j, none⟩ x).cell? ⟨b, i, none⟩ = W.cell? ⟨b, i, none⟩ := fun W i j x hij => World.cell?_setCell_other _ _ _ _ (fun e => hij (congrArg Addr.off e).symm)
  have s : ∀ (W : World) (i : Nat) (x : Value), (W.cell? ⟨b, i, none⟩).isSome = true → (W.setCell ⟨b, i, none⟩ x).cell? ⟨b, i, none⟩ = some x := fun W i x hx => World.cell?_setCell_same' _ _ _ hx
  refine ⟨?_, ?_, ?_, ?_, ?_, ?_, ?_, ?_⟩
  · rw [o _ 0 3 _ (by omega), o _ 0 2 _ (by omega), o _ 0 1 _ (by omega), s _ 0 _ (by rw [h.c0]; rfl)]
  · rw [o _ 1 3 _ (by omega), o _ 1 2 _ (by omega), s _ 1 _ (by rw [o _ 1 0 _ (by omega), h.c1]; rfl)]
  · rw [o _ 2 3 _ (by omega), s _ 2 _ (by rw [o _ 2 1 _ (by omega), o _ 2 0 _ (by omega), h.c2]; rfl)]
  · rw [s _ 3 _ (by rw [o _ 3 2 _ (by omega), o _ 3 1 _ (by omega), o _ 3 0 _ (by omega), h.c3]; rfl)]
  · simp only [World.frozen?_setCell]; exact h.f0
  · simp only [World.frozen?_setCell]; exact h.f1
  · simp only [World.frozen?_setCell]; exact h.f2
  · simp only [World.frozen?_setCell]; exact h.f3
theorem below_set4 {w w' : World} {b : Nat} (h : Below b w w') (u0 u1 u2 u3 : Value) : Below b w ((((w'.setCell ⟨b, 0, none⟩ u0).setCell ⟨b, 1, none⟩ u1).setCell ⟨b, 2, none⟩ u2).setCell ⟨b, 3, none⟩ u3) :=
  (((h.setCell (p := ⟨b, 0, none⟩) (Nat.le_refl _) _).setCell (p := ⟨b, 1, none⟩) (Nat.le_refl _) _).setCell (p := ⟨b, 2, none⟩) (Nat.le_refl _) _).setCell (p := ⟨b, 3, none⟩) (Nat.le_refl _) _

set_option maxRecDepth 100000 in
set_option maxHeartbeats 1000000 in
theorem Of (op : Nat) (w : World) (h : op < 256) (ht : Tab w) : Calls Tryd.prog 22 #[.int .u8 (op : Int)] w fun e w' => e = .returned (.agg (codeV op)) ∧ Below w.heap.size w w' := by
  have hc := cellB_size op h
  have hn := nameB_size op h
  have HN : Hid (nameB op = (cellB op).extract 0 3) := (rfl : _ = _)
  have HM : Hid (modeN op = modeF (bl ((cellB op).extract 4 7))) := (rfl : _ = _)
  have HK : Hid (kindN op = kindF (bl (nameB op)) (modeN op)) := (rfl : _ = _)
  have HV : Hid (codeV op = #[.string (nameB op), .int .u8 (modeN op), .int .u8 (kindN op), .bool (knownB op)]) := (rfl : _ = _)
  have HB1 : Hid (Below w.heap.size w (w.alloc (.cells #[.string ⟨#[]⟩, .int .u8 0, .int .u8 0, .bool false] 47))) := (Below.refl _ _).alloc (Nat.le_refl _) _
  have HX1 : Hid (Box4 (w.alloc (.cells #[.string ⟨#[]⟩, .int .u8 0, .int .u8 0, .bool false] 47)) w.heap.size (.string ⟨#[]⟩) (.int .u8 0) (.int .u8 0) (.bool false)) := Box4.new w _ _ _ _ _
  have HT1 : Hid (Tab (w.alloc (.cells #[.string ⟨#[]⟩, .int .u8 0, .int .u8 0, .bool false] 47))) := ht.next HB1.out
  clear ht
  go_enter Tryd.func22, Tryd.ntmps22
  go_wp2_with (go_at_call 40; fail)
  refine (cellOf op _ h).mono ?_
  rintro e w2 ⟨rfl, hB2⟩
  have HX2 : Hid (Box4 w2 w.heap.size (.string ⟨#[]⟩) (.int .u8 0) (.int .u8 0) (.bool false)) := HX1.out.next hB2
  have HB2 : Hid (Below w.heap.size w w2) := HB1.out.trans (hB2.mono HB1.out.size)
  have HT2 : Hid (Tab w2) := HT1.out.next hB2
  clear hB2 HX1 HB1 HT1
  go_wp2_with (first
    | (go_at_call 41; refine (cname _ _ hc).mono ?_; rw [← HN.out]; rintro e w' ⟨rfl, rfl⟩)
    | (go_at_call 42; refine (mode _ _ hc HT2.out).mono ?_; rw [← HM.out]; rintro e w' ⟨rfl, rfl⟩)
    | (go_at_call 43; fail))
  refine (kindOf _ _ _ (by omega)).mono ?_
  rw [← HK.out]
  rintro e w3 ⟨rfl, hB3⟩
  have HB3 : Hid (Below w.heap.size w w3) := HB2.out.trans (hB3.mono HB2.out.size)
  obtain ⟨c0, c1, c2, c3, f0, f1, f2, f3⟩ := HX2.out.next hB3
  have hz : w.heap.size < w3.heap.size := (HX2.out.next hB3).lt
  clear hB3 HX2 HB2 HT2
  go_wp2_with (first
    | (go_at_call 44; refine (isKnown _ _ _).mono ?_; rw [bl_eq]; rintro e w' ⟨rfl, rfl⟩))
  have X := Box4.set ⟨c0, c1, c2, c3, f0, f1, f2, f3⟩ (.string (nameB op)) (.int .u8 (modeN op)) (.int .u8 (kindN op)) (.bool (knownF op (bl (nameB op))))
  have HBF : Hid (Below w.heap.size w _) := below_set4 HB3.out (.string (nameB op)) (.int .u8 (modeN op)) (.int .u8 (kindN op)) (.bool (knownF op (bl (nameB op))))
  clear c0 c1 c2 c3 f0 f1 f2 f3 hz HB3
  generalize World.setCell _ (⟨w.heap.size, 3, none⟩ : Addr) _ = wF at X HBF
  obtain ⟨c0, c1, c2, c3, f0, f1, f2, f3⟩ := X
  exact bodyPost_ret (v := .agg (codeV op)) (by simp [results, Tryd.results22, go_sem, c0, c1, c2, c3]; rfl) rfl ⟨rfl, HBF.out⟩

end Go.Proofs.YtelmohajdmcnmaaDoor.Co
