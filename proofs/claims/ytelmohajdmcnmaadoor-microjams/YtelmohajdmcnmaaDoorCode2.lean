/- isKnown of package code. -/
import Derived.Test.YtelmohajdmcnmaaDoorCodeM
namespace Go.Proofs.YtelmohajdmcnmaaDoor.Co
open Go.RowKit

set_option maxRecDepth 100000 in
set_option maxHeartbeats 4000000 in
theorem isKnown (op : Int) (c : ByteArray) (w : World) : Calls Tryd.prog 44 #[.int .u8 op, .string c] w fun e w' => e = .returned (.bool (knownF op c.toList)) ∧ w' = w := by
  cases h0 : (c.toList == [83, 76, 79])
  rotate_left
  · as_aux_lemma =>
    have HE : Hid (knownF op c.toList = false) := by show _ = _; simp [knownF, oddL, h0]
    go_enter Tryd.func44, Tryd.ntmps44
    go_wp2
    go_ret
    exact ⟨by rw [HE.out]; rfl, rfl⟩
  cases h1 : (c.toList == [82, 76, 65])
  rotate_left
  · as_aux_lemma =>
    have HE : Hid (knownF op c.toList = false) := by show _ = _; simp [knownF, oddL, h1]
    go_enter Tryd.func44, Tryd.ntmps44
    go_wp2
    go_ret
    exact ⟨by rw [HE.out]; rfl, rfl⟩
  cases h2 : (c.toList == [83, 82, 69])
  rotate_left
  · as_aux_lemma =>
    have HE : Hid (knownF op c.toList = false) := by show _ = _; simp [knownF, oddL, h2]
    go_enter Tryd.func44, Tryd.ntmps44
    go_wp2
    go_ret
    exact ⟨by rw [HE.out]; rfl, rfl⟩
  cases h3 : (c.toList == [82, 82, 65])
  rotate_left
  · as_aux_lemma =>
    have HE : Hid (knownF op c.toList = false) := by show _ = _; simp [knownF, oddL, h3]
    go_enter Tryd.func44, Tryd.ntmps44
    go_wp2
    go_ret
    exact ⟨by rw [HE.out]; rfl, rfl⟩
  cases h4 : (c.toList == [83, 65, 88])
  rotate_left
  · as_aux_lemma =>
    have HE : Hid (knownF op c.toList = false) := by show _ = _; simp [knownF, oddL, h4]
    go_enter Tryd.func44, Tryd.ntmps44
    go_wp2
    go_ret
    exact ⟨by rw [HE.out]; rfl, rfl⟩
  cases h5 : (c.toList == [76, 65, 88])
  rotate_left
  · as_aux_lemma =>
    have HE : Hid (knownF op c.toList = false) := by show _ = _; simp [knownF, oddL, h5]
    go_enter Tryd.func44, Tryd.ntmps44
    go_wp2
    go_ret
    exact ⟨by rw [HE.out]; rfl, rfl⟩
  cases h6 : (c.toList == [68, 67, 80])
  rotate_left
  · as_aux_lemma =>
    have HE : Hid (knownF op c.toList = false) := by show _ = _; simp [knownF, oddL, h6]
    go_enter Tryd.func44, Tryd.ntmps44
    go_wp2
    go_ret
    exact ⟨by rw [HE.out]; rfl, rfl⟩
  cases h7 : (c.toList == [73, 83, 67])
  rotate_left
  · as_aux_lemma =>
    have HE : Hid (knownF op c.toList = false) := by show _ = _; simp [knownF, oddL, h7]
    go_enter Tryd.func44, Tryd.ntmps44
    go_wp2
    go_ret
    exact ⟨by rw [HE.out]; rfl, rfl⟩
  cases h8 : (c.toList == [65, 78, 67])
  rotate_left
  · as_aux_lemma =>
    have HE : Hid (knownF op c.toList = false) := by show _ = _; simp [knownF, oddL, h8]
    go_enter Tryd.func44, Tryd.ntmps44
    go_wp2
    go_ret
    exact ⟨by rw [HE.out]; rfl, rfl⟩
  cases h9 : (c.toList == [65, 76, 82])
  rotate_left
  · as_aux_lemma =>
    have HE : Hid (knownF op c.toList = false) := by show _ = _; simp [knownF, oddL, h9]
    go_enter Tryd.func44, Tryd.ntmps44
    go_wp2
    go_ret
    exact ⟨by rw [HE.out]; rfl, rfl⟩
  cases h10 : (c.toList == [65, 82, 82])
  rotate_left
  · as_aux_lemma =>
    have HE : Hid (knownF op c.toList = false) := by show _ = _; simp [knownF, oddL, h10]
    go_enter Tryd.func44, Tryd.ntmps44
    go_wp2
    go_ret
    exact ⟨by rw [HE.out]; rfl, rfl⟩
  cases h11 : (c.toList == [65, 78, 69])
  rotate_left
  · as_aux_lemma =>
    have HE : Hid (knownF op c.toList = false) := by show _ = _; simp [knownF, oddL, h11]
    go_enter Tryd.func44, Tryd.ntmps44
    go_wp2
    go_ret
    exact ⟨by rw [HE.out]; rfl, rfl⟩
  cases h12 : (c.toList == [83, 72, 65])
  rotate_left
  · as_aux_lemma =>
    have HE : Hid (knownF op c.toList = false) := by show _ = _; simp [knownF, oddL, h12]
    go_enter Tryd.func44, Tryd.ntmps44
    go_wp2
    go_ret
    exact ⟨by rw [HE.out]; rfl, rfl⟩
  cases h13 : (c.toList == [84, 65, 83])
  rotate_left
  · as_aux_lemma =>
    have HE : Hid (knownF op c.toList = false) := by show _ = _; simp [knownF, oddL, h13]
    go_enter Tryd.func44, Tryd.ntmps44
    go_wp2
    go_ret
    exact ⟨by rw [HE.out]; rfl, rfl⟩
  cases h14 : (c.toList == [83, 72, 89])
  rotate_left
  · as_aux_lemma =>
    have HE : Hid (knownF op c.toList = false) := by show _ = _; simp [knownF, oddL, h14]
    go_enter Tryd.func44, Tryd.ntmps44
    go_wp2
    go_ret
    exact ⟨by rw [HE.out]; rfl, rfl⟩
  cases h15 : (c.toList == [83, 72, 88])
  rotate_left
  · as_aux_lemma =>
    have HE : Hid (knownF op c.toList = false) := by show _ = _; simp [knownF, oddL, h15]
    go_enter Tryd.func44, Tryd.ntmps44
    go_wp2
    go_ret
    exact ⟨by rw [HE.out]; rfl, rfl⟩
  cases h16 : (c.toList == [76, 88, 65])
  rotate_left
  · as_aux_lemma =>
    have HE : Hid (knownF op c.toList = false) := by show _ = _; simp [knownF, oddL, h16]
    go_enter Tryd.func44, Tryd.ntmps44
    go_wp2
    go_ret
    exact ⟨by rw [HE.out]; rfl, rfl⟩
  cases h17 : (c.toList == [76, 65, 83])
  rotate_left
  · as_aux_lemma =>
    have HE : Hid (knownF op c.toList = false) := by show _ = _; simp [knownF, oddL, h17]
    go_enter Tryd.func44, Tryd.ntmps44
    go_wp2
    go_ret
    exact ⟨by rw [HE.out]; rfl, rfl⟩
  cases h18 : (c.toList == [83, 66, 88])
  rotate_left
  · as_aux_lemma =>
    have HE : Hid (knownF op c.toList = false) := by show _ = _; simp [knownF, oddL, h18]
    go_enter Tryd.func44, Tryd.ntmps44
    go_wp2
    go_ret
    exact ⟨by rw [HE.out]; rfl, rfl⟩
  cases h19 : (c.toList == [74, 65, 77])
  rotate_left
  · as_aux_lemma =>
    have HE : Hid (knownF op c.toList = false) := by show _ = _; simp [knownF, oddL, h19]
    go_enter Tryd.func44, Tryd.ntmps44
    go_wp2
    go_ret
    exact ⟨by rw [HE.out]; rfl, rfl⟩
  cases h20 : (c.toList == [78, 79, 80])
  rotate_left
  · as_aux_lemma =>
    have HE : Hid (knownF op c.toList = (op == 234)) := by show _ = _; simp [knownF, oddL, nop, h0, h1, h2, h3, h4, h5, h6, h7, h8, h9, h10, h11, h12, h13, h14, h15, h16, h17, h18, h19, h20]
    go_enter Tryd.func44, Tryd.ntmps44
    go_wp2
    go_ret
    exact ⟨by rw [HE.out]; rfl, rfl⟩
  have HE : Hid (knownF op c.toList = (op != 235)) := by show _ = _; simp [knownF, oddL, nop, h0, h1, h2, h3, h4, h5, h6, h7, h8, h9, h10, h11, h12, h13, h14, h15, h16, h17, h18, h19, h20]
  go_enter Tryd.func44, Tryd.ntmps44
  go_wp2
  go_ret
  exact ⟨by rw [HE.out]; rfl, rfl⟩

end Go.Proofs.YtelmohajdmcnmaaDoor.Co
