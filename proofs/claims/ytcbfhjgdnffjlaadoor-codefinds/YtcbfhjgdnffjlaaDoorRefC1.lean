/- The document's own answers of layer 10: words of a text. -/
import Derived.Test.YtcbfhjgdnffjlaaDoorCode5
namespace Go.Proofs.YtcbfhjgdnffjlaaDoor.Co
open Go.RowKit

/-- The n-th piece of a text, between signs of a kind. -/
def wordL (sg : Int) : List UInt8 → Int → List UInt8
  | [], _ => []
  | c :: cs, n => if (c.toNat : Int) = sg then wordL sg cs (n - 1) else if n = 0 then c :: wordL sg cs n else wordL sg cs n

theorem wordL_cons (sg : Int) (c : UInt8) (cs : List UInt8) (n : Int) : wordL sg (c :: cs) n = if (c.toNat : Int) = sg then wordL sg cs (n - 1) else if n = 0 then c :: wordL sg cs n else wordL sg cs n := rfl
theorem wordL_length (sg : Int) : ∀ (l : List UInt8) (n : Int), (wordL sg l n).length ≤ l.length
  | [], _ => by simp [wordL]
  | c :: cs, n => by
    unfold wordL
    split
    · have := wordL_length sg cs (n - 1); simp; omega
    · split
      · have := wordL_length sg cs n; simp; omega
      · have := wordL_length sg cs n; simp; omega

theorem bl_length (s : ByteArray) : (bl s).length = s.size := by simp [bl]
theorem bl_drop (s : ByteArray) (k : Nat) (h : k < s.size) : (bl s).drop k = s[k] :: (bl s).drop (k + 1) := by
  rw [List.drop_eq_getElem_cons (by rw [bl_length]; exact h)]
  rfl
theorem bl_append (s t : ByteArray) : bl (s ++ t) = bl s ++ bl t := by simp [bl]
theorem bl_one (s : ByteArray) (k : Nat) (h : k < s.size) : bl (s.extract k (k + 1)) = [s[k]] := by
  unfold bl
  rw [ByteArray.data_extract, Array.toList_extract]
  have : (s.data.toList.drop k) = s[k] :: s.data.toList.drop (k + 1) := bl_drop s k h
  simp only [List.extract_eq_take_drop, this]
  rw [show k + 1 - k = 1 by omega]
  rfl
theorem bl_inj {s t : ByteArray} (h : bl s = bl t) : s = t := by
  obtain ⟨⟨a⟩⟩ := s
  obtain ⟨⟨b⟩⟩ := t
  have : a = b := h
  rw [this]

/-- The n-th piece, as a string. -/
def wordB (s : ByteArray) (n sg : Int) : ByteArray := ⟨(wordL sg (bl s) n).toArray⟩
theorem bl_wordB (s : ByteArray) (n sg : Int) : bl (wordB s n sg) = wordL sg (bl s) n := rfl
theorem wordB_size (s : ByteArray) (n sg : Int) : (wordB s n sg).size ≤ s.size := by
  rw [← bl_length, ← bl_length, bl_wordB]
  exact wordL_length _ _ _

set_option maxRecDepth 100000 in
set_option maxHeartbeats 1000000 in
theorem word (s : ByteArray) (n sg : Int) (w : World) (hs : s.size ≤ 1000) (n0 : -1000 ≤ n) (n1 : n ≤ 1000) : Calls Tryd.prog 22 #[.string s, .int .i64 n, .int .u8 sg] w fun e w' => e = .returned (.string (wordB s n sg)) ∧ w' = w := by
  go_enter Tryd.func22, Tryd.ntmps22
  go_wp2
  go_loop [1, 7, 8] (fun vn vo vi => ∃ (k : Nat) (m : Int) (o : ByteArray), k ≤ s.size ∧ vi = .int .i64 (k : Int) ∧ vn = .int .i64 m ∧ vo = .string o ∧ n - k ≤ m ∧ m ≤ n ∧ o.size ≤ k ∧ bl o ++ wordL sg ((bl s).drop k) m = wordL sg (bl s) n) (fun _ _ vi => s.size - (intOf vi).toNat)
  case atStart => exact ⟨0, n, _, by omega, rfl, rfl, rfl, by omega, by omega, Nat.le_refl _, rfl⟩
  case round =>
    obtain ⟨k, m, o, hk, rfl, rfl, rfl, hm0, hm1, ho, he⟩ := hrel
    have HE : Hid (bl o ++ wordL sg ((bl s).drop k) m = wordL sg (bl s) n) := he
    clear he
    by_cases hl : k < s.size
    · have HD : Hid ((bl s).drop k = s[k] :: (bl s).drop (k + 1)) := bl_drop s k hl
      by_cases hc : ((s[k].toNat : Nat) : Int) = sg
      · have HC : Hid (((s[k].toNat : Nat) : Int) = sg) := hc
        have hcb : (((s[k].toNat : Nat) : Int) == sg) = true := by simp [hc]
        clear hc
        go_wp2
        go_round
        case rel => exact ⟨k + 1, m - 1, o, by omega, by go_num, rfl, rfl, by omega, by omega, by omega, by have h := HE.out; rw [HD.out, wordL_cons, if_pos HC.out] at h; exact h⟩
        case measure => simp [intOf]; omega
      · have HC : Hid (¬ ((s[k].toNat : Nat) : Int) = sg) := hc
        have hcb : (((s[k].toNat : Nat) : Int) == sg) = false := by simp [hc]
        clear hc
        by_cases hm : m = 0
        · subst hm
          have HX : Hid (bl (s.extract k (k + 1)) = [s[k]]) := bl_one s k hl
          have HZ : Hid ((s.extract k (k + 1)).size = 1) := by show _ = _; rw [ByteArray.size_extract]; omega
          have hsl := fun w => run_slice_string (P := Tryd.prog) w 9 s .i64 .i64 (k : Int) ((k : Int) + 1) Tryd.underlying9 (by omega) (by omega) (by omega)
          rw [show ((k : Int)).toNat = k by omega, show ((k : Int) + 1).toNat = k + 1 by omega] at hsl
          go_wp2
          go_round
          case rel => exact ⟨k + 1, 0, o ++ s.extract k (k + 1), by omega, by go_num, rfl, rfl, by omega, by omega, by rw [ByteArray.size_append, HZ.out]; omega, by have h := HE.out; rw [HD.out, wordL_cons, if_neg HC.out, if_pos rfl] at h; rw [bl_append, HX.out, List.append_assoc]; exact h⟩
          case measure => simp [intOf]; omega
        · go_wp2
          go_round
          case rel => exact ⟨k + 1, m, o, by omega, by go_num, rfl, rfl, by omega, by omega, by omega, by have h := HE.out; rw [HD.out, wordL_cons, if_neg HC.out, if_neg hm] at h; exact h⟩
          case measure => simp [intOf]; omega
    · have HO : Hid (bl o = wordL sg (bl s) n) := by
        have h := HE.out
        rw [List.drop_of_length_le (by rw [bl_length]; omega)] at h
        show bl o = _
        simpa [wordL] using h
      go_wp2
      go_ret
      exact ⟨ret_str (bl_inj HO.out), rfl⟩

end Go.Proofs.YtcbfhjgdnffjlaaDoor.Co
