/- The kinds by names, and a code's kind. -/
import Derived.Test.YtelmohajdmcnmaaDoorCode5
import Derived.Maps.OwnOps
import Derived.Maps.OwnSet
import Derived.StringKeys
namespace Go.Proofs.YtelmohajdmcnmaaDoor.Co
open Go.RowKit Go.Maps Go.WideMaps

/-- The map of kinds, as it reads. -/
def kindD : DataW Unit := kindL.foldl (fun d p => d.put (.string p.1) (.lit (.int .u8 p.2))) (.map [])
theorem keys : Keyed Tryd.prog 9 := string_keyed Tryd.underlying9

set_option maxRecDepth 100000 in
set_option maxHeartbeats 4000000 in
theorem kinds (w : World) : Calls Tryd.prog 72 #[] w fun e w' => ∃ b, e = .returned (.map (some b)) ∧ w'.ownsMap Tryd.prog 9 (plainElem Tryd.prog 45) b 30 kindD ∧ Below w.heap.size w w' := by
  have hmm := @run_makeMap Tryd.prog
  have o0 := World.ownsMap_made (H := Unit) w Tryd.prog 9 (plainElem Tryd.prog 45)
  have b0 : Below w.heap.size w (w.alloc (.map #[] 0)) := (Below.refl _ _).alloc (Nat.le_refl _) _
  obtain ⟨w1, r1, o1, g1⟩ := o0.update keys Tryd.underlying98 (by decide) (keyOf_string_mk (s := ⟨#[65, 83, 76]⟩) Tryd.underlying9 (by decide)) (plainElem_int (a := 3) Tryd.underlying45 (by decide))
  have b1 : Below w.heap.size w w1 := b0.grown g1 b0.size (fun j hj => by cases hj; exact Nat.le_refl _)
  clear g1 o0 b0
  obtain ⟨w2, r2, o2, g2⟩ := o1.update keys Tryd.underlying98 (by decide) (keyOf_string_mk (s := ⟨#[76, 83, 82]⟩) Tryd.underlying9 (by decide)) (plainElem_int (a := 3) Tryd.underlying45 (by decide))
  have b2 : Below w.heap.size w w2 := b1.grown g2 b1.size (fun j hj => by cases hj; exact Nat.le_refl _)
  clear g2 o1 b1
  obtain ⟨w3, r3, o3, g3⟩ := o2.update keys Tryd.underlying98 (by decide) (keyOf_string_mk (s := ⟨#[82, 79, 76]⟩) Tryd.underlying9 (by decide)) (plainElem_int (a := 3) Tryd.underlying45 (by decide))
  have b3 : Below w.heap.size w w3 := b2.grown g3 b2.size (fun j hj => by cases hj; exact Nat.le_refl _)
  clear g3 o2 b2
  obtain ⟨w4, r4, o4, g4⟩ := o3.update keys Tryd.underlying98 (by decide) (keyOf_string_mk (s := ⟨#[82, 79, 82]⟩) Tryd.underlying9 (by decide)) (plainElem_int (a := 3) Tryd.underlying45 (by decide))
  have b4 : Below w.heap.size w w4 := b3.grown g4 b3.size (fun j hj => by cases hj; exact Nat.le_refl _)
  clear g4 o3 b3
  obtain ⟨w5, r5, o5, g5⟩ := o4.update keys Tryd.underlying98 (by decide) (keyOf_string_mk (s := ⟨#[73, 78, 67]⟩) Tryd.underlying9 (by decide)) (plainElem_int (a := 3) Tryd.underlying45 (by decide))
  have b5 : Below w.heap.size w w5 := b4.grown g5 b4.size (fun j hj => by cases hj; exact Nat.le_refl _)
  clear g5 o4 b4
  obtain ⟨w6, r6, o6, g6⟩ := o5.update keys Tryd.underlying98 (by decide) (keyOf_string_mk (s := ⟨#[68, 69, 67]⟩) Tryd.underlying9 (by decide)) (plainElem_int (a := 3) Tryd.underlying45 (by decide))
  have b6 : Below w.heap.size w w6 := b5.grown g6 b5.size (fun j hj => by cases hj; exact Nat.le_refl _)
  clear g6 o5 b5
  obtain ⟨w7, r7, o7, g7⟩ := o6.update keys Tryd.underlying98 (by decide) (keyOf_string_mk (s := ⟨#[83, 76, 79]⟩) Tryd.underlying9 (by decide)) (plainElem_int (a := 3) Tryd.underlying45 (by decide))
  have b7 : Below w.heap.size w w7 := b6.grown g7 b6.size (fun j hj => by cases hj; exact Nat.le_refl _)
  clear g7 o6 b6
  obtain ⟨w8, r8, o8, g8⟩ := o7.update keys Tryd.underlying98 (by decide) (keyOf_string_mk (s := ⟨#[82, 76, 65]⟩) Tryd.underlying9 (by decide)) (plainElem_int (a := 3) Tryd.underlying45 (by decide))
  have b8 : Below w.heap.size w w8 := b7.grown g8 b7.size (fun j hj => by cases hj; exact Nat.le_refl _)
  clear g8 o7 b7
  obtain ⟨w9, r9, o9, g9⟩ := o8.update keys Tryd.underlying98 (by decide) (keyOf_string_mk (s := ⟨#[83, 82, 69]⟩) Tryd.underlying9 (by decide)) (plainElem_int (a := 3) Tryd.underlying45 (by decide))
  have b9 : Below w.heap.size w w9 := b8.grown g9 b8.size (fun j hj => by cases hj; exact Nat.le_refl _)
  clear g9 o8 b8
  obtain ⟨w10, r10, o10, g10⟩ := o9.update keys Tryd.underlying98 (by decide) (keyOf_string_mk (s := ⟨#[82, 82, 65]⟩) Tryd.underlying9 (by decide)) (plainElem_int (a := 3) Tryd.underlying45 (by decide))
  have b10 : Below w.heap.size w w10 := b9.grown g10 b9.size (fun j hj => by cases hj; exact Nat.le_refl _)
  clear g10 o9 b9
  obtain ⟨w11, r11, o11, g11⟩ := o10.update keys Tryd.underlying98 (by decide) (keyOf_string_mk (s := ⟨#[68, 67, 80]⟩) Tryd.underlying9 (by decide)) (plainElem_int (a := 3) Tryd.underlying45 (by decide))
  have b11 : Below w.heap.size w w11 := b10.grown g11 b10.size (fun j hj => by cases hj; exact Nat.le_refl _)
  clear g11 o10 b10
  obtain ⟨w12, r12, o12, g12⟩ := o11.update keys Tryd.underlying98 (by decide) (keyOf_string_mk (s := ⟨#[73, 83, 67]⟩) Tryd.underlying9 (by decide)) (plainElem_int (a := 3) Tryd.underlying45 (by decide))
  have b12 : Below w.heap.size w w12 := b11.grown g12 b11.size (fun j hj => by cases hj; exact Nat.le_refl _)
  clear g12 o11 b11
  obtain ⟨w13, r13, o13, g13⟩ := o12.update keys Tryd.underlying98 (by decide) (keyOf_string_mk (s := ⟨#[83, 84, 65]⟩) Tryd.underlying9 (by decide)) (plainElem_int (a := 2) Tryd.underlying45 (by decide))
  have b13 : Below w.heap.size w w13 := b12.grown g13 b12.size (fun j hj => by cases hj; exact Nat.le_refl _)
  clear g13 o12 b12
  obtain ⟨w14, r14, o14, g14⟩ := o13.update keys Tryd.underlying98 (by decide) (keyOf_string_mk (s := ⟨#[83, 84, 88]⟩) Tryd.underlying9 (by decide)) (plainElem_int (a := 2) Tryd.underlying45 (by decide))
  have b14 : Below w.heap.size w w14 := b13.grown g14 b13.size (fun j hj => by cases hj; exact Nat.le_refl _)
  clear g14 o13 b13
  obtain ⟨w15, r15, o15, g15⟩ := o14.update keys Tryd.underlying98 (by decide) (keyOf_string_mk (s := ⟨#[83, 84, 89]⟩) Tryd.underlying9 (by decide)) (plainElem_int (a := 2) Tryd.underlying45 (by decide))
  have b15 : Below w.heap.size w w15 := b14.grown g15 b14.size (fun j hj => by cases hj; exact Nat.le_refl _)
  clear g15 o14 b14
  obtain ⟨w16, r16, o16, g16⟩ := o15.update keys Tryd.underlying98 (by decide) (keyOf_string_mk (s := ⟨#[83, 65, 88]⟩) Tryd.underlying9 (by decide)) (plainElem_int (a := 2) Tryd.underlying45 (by decide))
  have b16 : Below w.heap.size w w16 := b15.grown g16 b15.size (fun j hj => by cases hj; exact Nat.le_refl _)
  clear g16 o15 b15
  obtain ⟨w17, r17, o17, g17⟩ := o16.update keys Tryd.underlying98 (by decide) (keyOf_string_mk (s := ⟨#[83, 72, 65]⟩) Tryd.underlying9 (by decide)) (plainElem_int (a := 2) Tryd.underlying45 (by decide))
  have b17 : Below w.heap.size w w17 := b16.grown g17 b16.size (fun j hj => by cases hj; exact Nat.le_refl _)
  clear g17 o16 b16
  obtain ⟨w18, r18, o18, g18⟩ := o17.update keys Tryd.underlying98 (by decide) (keyOf_string_mk (s := ⟨#[83, 72, 88]⟩) Tryd.underlying9 (by decide)) (plainElem_int (a := 2) Tryd.underlying45 (by decide))
  have b18 : Below w.heap.size w w18 := b17.grown g18 b17.size (fun j hj => by cases hj; exact Nat.le_refl _)
  clear g18 o17 b17
  obtain ⟨w19, r19, o19, g19⟩ := o18.update keys Tryd.underlying98 (by decide) (keyOf_string_mk (s := ⟨#[83, 72, 89]⟩) Tryd.underlying9 (by decide)) (plainElem_int (a := 2) Tryd.underlying45 (by decide))
  have b19 : Below w.heap.size w w19 := b18.grown g19 b18.size (fun j hj => by cases hj; exact Nat.le_refl _)
  clear g19 o18 b18
  obtain ⟨w20, r20, o20, g20⟩ := o19.update keys Tryd.underlying98 (by decide) (keyOf_string_mk (s := ⟨#[84, 65, 83]⟩) Tryd.underlying9 (by decide)) (plainElem_int (a := 2) Tryd.underlying45 (by decide))
  have b20 : Below w.heap.size w w20 := b19.grown g20 b19.size (fun j hj => by cases hj; exact Nat.le_refl _)
  clear g20 o19 b19
  obtain ⟨w21, r21, o21, g21⟩ := o20.update keys Tryd.underlying98 (by decide) (keyOf_string_mk (s := ⟨#[80, 72, 65]⟩) Tryd.underlying9 (by decide)) (plainElem_int (a := 5) Tryd.underlying45 (by decide))
  have b21 : Below w.heap.size w w21 := b20.grown g21 b20.size (fun j hj => by cases hj; exact Nat.le_refl _)
  clear g21 o20 b20
  obtain ⟨w22, r22, o22, g22⟩ := o21.update keys Tryd.underlying98 (by decide) (keyOf_string_mk (s := ⟨#[80, 72, 80]⟩) Tryd.underlying9 (by decide)) (plainElem_int (a := 5) Tryd.underlying45 (by decide))
  have b22 : Below w.heap.size w w22 := b21.grown g22 b21.size (fun j hj => by cases hj; exact Nat.le_refl _)
  clear g22 o21 b21
  obtain ⟨w23, r23, o23, g23⟩ := o22.update keys Tryd.underlying98 (by decide) (keyOf_string_mk (s := ⟨#[80, 76, 65]⟩) Tryd.underlying9 (by decide)) (plainElem_int (a := 6) Tryd.underlying45 (by decide))
  have b23 : Below w.heap.size w w23 := b22.grown g23 b22.size (fun j hj => by cases hj; exact Nat.le_refl _)
  clear g23 o22 b22
  obtain ⟨w24, r24, o24, g24⟩ := o23.update keys Tryd.underlying98 (by decide) (keyOf_string_mk (s := ⟨#[80, 76, 80]⟩) Tryd.underlying9 (by decide)) (plainElem_int (a := 6) Tryd.underlying45 (by decide))
  have b24 : Below w.heap.size w w24 := b23.grown g24 b23.size (fun j hj => by cases hj; exact Nat.le_refl _)
  clear g24 o23 b23
  obtain ⟨w25, r25, o25, g25⟩ := o24.update keys Tryd.underlying98 (by decide) (keyOf_string_mk (s := ⟨#[74, 77, 80]⟩) Tryd.underlying9 (by decide)) (plainElem_int (a := 7) Tryd.underlying45 (by decide))
  have b25 : Below w.heap.size w w25 := b24.grown g25 b24.size (fun j hj => by cases hj; exact Nat.le_refl _)
  clear g25 o24 b24
  obtain ⟨w26, r26, o26, g26⟩ := o25.update keys Tryd.underlying98 (by decide) (keyOf_string_mk (s := ⟨#[74, 83, 82]⟩) Tryd.underlying9 (by decide)) (plainElem_int (a := 8) Tryd.underlying45 (by decide))
  have b26 : Below w.heap.size w w26 := b25.grown g26 b25.size (fun j hj => by cases hj; exact Nat.le_refl _)
  clear g26 o25 b25
  obtain ⟨w27, r27, o27, g27⟩ := o26.update keys Tryd.underlying98 (by decide) (keyOf_string_mk (s := ⟨#[82, 84, 83]⟩) Tryd.underlying9 (by decide)) (plainElem_int (a := 9) Tryd.underlying45 (by decide))
  have b27 : Below w.heap.size w w27 := b26.grown g27 b26.size (fun j hj => by cases hj; exact Nat.le_refl _)
  clear g27 o26 b26
  obtain ⟨w28, r28, o28, g28⟩ := o27.update keys Tryd.underlying98 (by decide) (keyOf_string_mk (s := ⟨#[82, 84, 73]⟩) Tryd.underlying9 (by decide)) (plainElem_int (a := 10) Tryd.underlying45 (by decide))
  have b28 : Below w.heap.size w w28 := b27.grown g28 b27.size (fun j hj => by cases hj; exact Nat.le_refl _)
  clear g28 o27 b27
  obtain ⟨w29, r29, o29, g29⟩ := o28.update keys Tryd.underlying98 (by decide) (keyOf_string_mk (s := ⟨#[66, 82, 75]⟩) Tryd.underlying9 (by decide)) (plainElem_int (a := 11) Tryd.underlying45 (by decide))
  have b29 : Below w.heap.size w w29 := b28.grown g29 b28.size (fun j hj => by cases hj; exact Nat.le_refl _)
  clear g29 o28 b28
  obtain ⟨w30, r30, o30, g30⟩ := o29.update keys Tryd.underlying98 (by decide) (keyOf_string_mk (s := ⟨#[74, 65, 77]⟩) Tryd.underlying9 (by decide)) (plainElem_int (a := 12) Tryd.underlying45 (by decide))
  have b30 : Below w.heap.size w w30 := b29.grown g30 b29.size (fun j hj => by cases hj; exact Nat.le_refl _)
  clear g30 o29 b29
  have HO : Hid (w30.ownsMap Tryd.prog 9 (plainElem Tryd.prog 45) w.heap.size 30 kindD ∧ Below w.heap.size w w30) := ⟨o30, b30⟩
  clear o30 b30
  go_enter Tryd.func72, Tryd.ntmps72
  go_wp2
  go_ret
  exact ⟨_, rfl, HO.out⟩

end Go.Proofs.YtelmohajdmcnmaaDoor.Co
