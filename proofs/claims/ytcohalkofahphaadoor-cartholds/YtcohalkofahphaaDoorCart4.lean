/- What Peek, Show, Extra, Copy do. -/
import Derived.Test.YtcohalkofahphaaDoorCart3
import Derived.Laws.CopyOwn
set_option linter.unusedSimpArgs false
set_option linter.unusedVariables false
namespace Go.Proofs.YtcohalkofahphaaDoor.Ca
open Go.RowKit Img

/-- The byte of the image at a place. -/
def byteOf (s : ByteArray) (p : Nat) : Int := if h : p < s.size then (s[p].toNat : Int) else 0
def ramOf (c : Ct) (j : Nat) : Int := (c.ex[j]?).getD 0
/-- What is driven. -/
def peekB (c : Ct) (a : Int) : Int := if 0 ≤ wher c a then byteOf c.img (wher c a).toNat else if a / 4096 % 2 = 1 ∧ 128 ≤ a % 4096 ∧ a % 4096 < 256 then ramOf c (a % 4096 - 128).toNat else 0
def peekD (c : Ct) (a : Int) : Bool := decide (0 ≤ wher c a) || decide (a / 4096 % 2 = 1 ∧ 128 ≤ a % 4096 ∧ a % 4096 < 256)

theorem Good.wher {c : Ct} (h : Good c) {a : Nat} (ha : a < 65536) : (Ca.wher c a = -1 ∧ (a / 4096 % 2 = 0 ∨ (c.extra = true ∧ a % 4096 < 256))) ∨ ∃ p : Nat, Ca.wher c a = (p : Int) ∧ p < c.img.size ∧ a / 4096 % 2 = 1 ∧ ¬ (c.extra = true ∧ a % 4096 < 256) := by
  unfold Ca.wher
  by_cases h0 : (a : Int) / 4096 % 2 = 0
  · exact .inl ⟨if_pos h0, .inl (by omega)⟩
  · rw [if_neg h0]
    by_cases h1 : (c.extra && decide ((a : Int) % 4096 < 256)) = true
    · rw [if_pos h1]
      simp only [Bool.and_eq_true, decide_eq_true_eq] at h1
      exact .inl ⟨rfl, .inr ⟨h1.1, by omega⟩⟩
    · rw [if_neg h1]
      obtain ⟨p0, p1, _⟩ := h.place (o := a % 4096) (by omega)
      obtain ⟨p, hp⟩ := Int.eq_ofNat_of_zero_le p0
      refine .inr ⟨p, hp, by rw [hp] at p1; omega, by omega, fun hc => h1 ?_⟩
      simp only [Bool.and_eq_true, decide_eq_true_eq]
      exact ⟨hc.1, by omega⟩

set_option maxHeartbeats 400000 in
theorem Peek_nil (a : Int) (w : World) : Calls Tryd.prog 21 #[.pointer none, .int .u16 a] w fun e w' => e = .returned (.tuple #[.int .u8 0, .bool false]) ∧ w' = w := by
  go_enter Tryd.func21, Tryd.ntmps21
  go_wp2_with (go_at_call 23; refine (Where_nil _ _).mono ?_; rintro e w2 ⟨rfl, hw2⟩; rw [hw2]; clear hw2 w2)
  go_returns
  exact ⟨rfl, rfl⟩

set_option maxRecDepth 100000 in
set_option maxHeartbeats 2000000 in
theorem Peek (b a : Nat) (c : Ct) (w : World) (h : CAt w b c) (hg : Good c) (ha : a < 65536) : Calls Tryd.prog 21 #[.pointer (some ⟨b, 0, none⟩), .int .u16 (a : Int)] w fun e w' => e = .returned (.tuple #[.int .u8 (peekB c a), .bool (peekD c a)]) ∧ ∃ q, w' = w.drewN q := by
  have H : Hid (CAt w b c) := h
  have HG : Hid (Good c) := hg
  have hb12 := bit12 a ha
  have hm12 := mask12 a ha
  clear h hg
  rcases HG.out.wher ha with ⟨hw, hc⟩ | ⟨p, hw, hp, h1, h2⟩
  · have HB : Hid (peekB c a = if (a : Int) / 4096 % 2 = 1 ∧ 128 ≤ (a : Int) % 4096 ∧ (a : Int) % 4096 < 256 then ramOf c ((a : Int) % 4096 - 128).toNat else 0) := (by unfold peekB; rw [hw]; rfl : peekB c a = _)
    have HD : Hid (peekD c a = decide ((a : Int) / 4096 % 2 = 1 ∧ 128 ≤ (a : Int) % 4096 ∧ (a : Int) % 4096 < 256)) := (by unfold peekD; rw [hw]; rfl : peekD c a = _)
    by_cases h0 : a / 4096 % 2 = 0
    · have HE : Hid (peekB c a = 0 ∧ peekD c a = false) := ⟨by rw [HB.out, if_neg (by omega)], by rw [HD.out]; exact decide_eq_false (by omega)⟩
      rw [h0] at hb12
      simp at hb12
      clear HB HD h0 hc
      go_enter Tryd.func21, Tryd.ntmps21
      go_wp2_with (go_at_call 23; refine (Where b a c _ H.out HG.out ha).mono ?_; rintro e w2 ⟨rfl, q, rfl⟩)
      go_returns
      rw [HE.out.1, HE.out.2]
      exact ⟨rfl, q, rfl⟩
    · have hc' : c.extra = true ∧ a % 4096 < 256 := by rcases hc with hc | hc; exact absurd hc h0; exact hc
      rw [show a / 4096 % 2 * 4096 = 4096 by omega] at hb12
      have hr := hc'.2
      by_cases h128 : 128 ≤ a % 4096
      · obtain ⟨j, hj⟩ : ∃ j, a % 4096 = 128 + j := ⟨a % 4096 - 128, by omega⟩
        have hj2 : j < 128 := by omega
        obtain ⟨y, hy⟩ : ∃ y, c.ex[j]? = some y := ⟨_, List.getElem?_eq_getElem (by rw [HG.out.plain.ex]; exact hj2)⟩
        have HE : Hid (peekB c a = y ∧ peekD c a = true) := ⟨by
          rw [HB.out, if_pos (by omega), show ((a : Int) % 4096 - 128).toNat = j by omega]
          unfold ramOf
          rw [hy]; rfl, by rw [HD.out]; exact decide_eq_true (by omega)⟩
        have hce : w.cell? ⟨b, 17 + j, none⟩ = some (.int .u8 y) := by rw [H.out.ex, hy]; rfl
        have j0 : (0 : Int) ≤ (j : Int) := by omega
        have j1 : (j : Int) < 128 := by omega
        rw [hj] at hm12
        have hsub : ((128 + j : Nat) : Int) - 128 = (j : Int) := by omega
        clear HB HD h0 hc hc' hr h128 hj hy
        go_enter Tryd.func21, Tryd.ntmps21
        go_wp2_with (first
          | (go_at_call 23; refine (Where b a c _ H.out HG.out ha).mono ?_; rintro e w2 ⟨rfl, q, rfl⟩)
          | (go_at_call 39; refine (num_yes ((128 + j : Nat) : Int) 128 128 _ (by omega) (by omega) (by omega) (by omega)).mono ?_; rintro e w2 ⟨rfl, rfl⟩; rw [hsub]))
        go_returns
        rw [HE.out.1, HE.out.2]
        exact ⟨rfl, q, rfl⟩
      · have HE : Hid (peekB c a = 0 ∧ peekD c a = false) := ⟨by rw [HB.out, if_neg (by omega)], by rw [HD.out]; exact decide_eq_false (by omega)⟩
        generalize a % 4096 = r at *
        clear HB HD h0 hc hc'
        go_enter Tryd.func21, Tryd.ntmps21
        go_wp2_with (first
          | (go_at_call 23; refine (Where b a c _ H.out HG.out ha).mono ?_; rintro e w2 ⟨rfl, q, rfl⟩)
          | (go_at_call 39; refine (num_no (r : Int) 128 128 _ (by omega) (by omega) (by omega)).mono ?_; rintro e w2 ⟨rfl, rfl⟩))
        go_returns
        rw [HE.out.1, HE.out.2]
        exact ⟨rfl, q, rfl⟩
  · have HE : Hid (peekB c a = ((c.img[p]).toNat : Int) ∧ peekD c a = true) := ⟨by
      unfold peekB byteOf
      rw [hw, if_pos (by omega), dif_pos (show (p : Int).toNat < c.img.size from hp)]
      rfl, by unfold peekD; rw [hw, decide_eq_true (by omega)]; rfl⟩
    have p0 : (0 : Int) ≤ (p : Int) := by omega
    clear h1 h2
    go_enter Tryd.func21, Tryd.ntmps21
    go_wp2_with (first
      | (go_at_call 23; refine (Where b a c _ H.out HG.out ha).mono ?_; rintro e w2 ⟨rfl, q, rfl⟩; rw [hw])
      | (go_at_call 38; refine (byteAt_ b p c _ (H.out.draws _) hp).mono ?_; rintro e w2 ⟨rfl, rfl⟩))
    go_returns
    rw [HE.out.1, HE.out.2]
    exact ⟨rfl, q, rfl⟩

end Go.Proofs.YtcohalkofahphaaDoor.Ca
