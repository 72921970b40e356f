/- What the document's own answers of the third layer come to: Same, Put. -/
import Derived.Test.YtneapdegjofodaaSeen
import Derived.Test.YtneapdegjofodaaPutInt
import Derived.Laws.AppendOwnNone
namespace Go.Proofs.Ytneapdegjofodaa
open Go.RowKit

theorem Seen.ofRow {α : Type} {c : α → Value} {w : World} {xs : List α} {base n : Nat} {t : TypeId} {v : Value} (h : w.ownsRow base t 1 v n (xs.map c)) (hn : n = xs.length) :
    ∃ ao cap b, v = .slice ao xs.length cap ∧ Seen c w ao cap b 0 xs ∧ base ≤ b := by
  subst hn
  rcases h.2 with ⟨h1, h2⟩ | ⟨g, cap, cur, h1, hb, hh, hn, hm, _⟩
  · have : xs = [] := List.length_eq_zero_iff.1 h2
    subst this
    exact ⟨none, 0, base, h1, Seen.nil c w none (by omega) base 0, Nat.le_refl _⟩
  · refine ⟨_, _, g, h1, ⟨hn, by unfold maxLen at hm; omega, fun _ => rfl, fun i x hi => ?_⟩, hb⟩
    subst h1
    have hi' := (List.getElem?_eq_some_iff.1 hi).1
    have := h.cellAt i (by omega)
    rw [Nat.zero_add, this, List.getElem?_map, hi]; rfl

namespace Ref3

set_option maxRecDepth 100000 in
set_option maxHeartbeats 1000000 in
theorem Same (xs : List Int) (n m : Nat) (ao ao' : Option Addr) (cap cap' b b' off off' : Nat) (w : World) (h : Seen (fun x => .int .i64 x) w ao cap b off xs) (h' : Seen (fun x => .int .i64 x) w ao' cap' b' off' xs) (hn : n = xs.length) (hm : m = xs.length) :
    Calls Try.prog 17 #[.slice ao n cap, .slice ao' m cap'] w fun e w' => e = .returned (.bool true) ∧ ∃ q, w' = w.drewN q := by
  have hnm : m = n := by omega
  subst hnm
  have H1 : Hid (Seen (fun x => .int .i64 x) w ao cap b off xs) := h
  have H2 : Hid (Seen (fun x => .int .i64 x) w ao' cap' b' off' xs) := h'
  have HN : Hid (m = xs.length) := hm
  have hmax := h.max
  have hle := h.le
  rw [← hm] at hle
  clear h h' hm hn
  go_enter Try.func17, Try.ntmps17
  go_wp2
  go_loopw [5] (fun v wr => ∃ k q : Nat, k ≤ m ∧ v = .int .i64 (k : Int) ∧ wr = w.drewN q) (fun v _ => m - (intOf v).toNat)
  case atStart => exact ⟨0, 0, by omega, rfl, rfl⟩
  case round =>
    obtain ⟨k, q, hk, rfl, rfl⟩ := hrel
    by_cases hl : k < m
    · obtain ⟨x, hx⟩ : ∃ x, xs[k]? = some x := ⟨_, List.getElem?_eq_getElem (by rw [← HN.out]; exact hl)⟩
      have hne : xs ≠ [] := fun e => by rw [e] at hx; cases hx
      have e1 := H1.out.at_ hne
      have e2 := H2.out.at_ hne
      subst e1
      subst e2
      have c1 : w.cell? ⟨b, off + k, none⟩ = some (.int .i64 x) := H1.out.cell k x hx
      have c2 : w.cell? ⟨b', off' + k, none⟩ = some (.int .i64 x) := H2.out.cell k x hx
      have k0 : (0 : Int) ≤ (k : Int) := by omega
      have k1 : (k : Int) < (m : Int) := by omega
      clear hx hne
      go_wp2
      go_quiet (fail)
      go_wp2
      go_roundw
      case rel => exact ⟨k + 1, _, by omega, by go_num, rfl⟩
      case measure => simp [intOf]; omega
    · have hkn : k = m := by omega
      subst hkn
      go_wp2
      go_ret
      exact ⟨rfl, _, rfl⟩

open RingInt in
/-- The document's Put behind its appends. -/
theorem put_lists {room : Nat} {L : List Int} {x : Int} (hr : 1 ≤ room) (hL : L.length ≤ room) :
    (L.length < room → putL room L x = L ++ [x] ∧ putX room L = 0 ∧ putB room L = false) ∧ (¬ L.length < room → ∃ y M, L = y :: M ∧ putL room L x = M ++ [x] ∧ putX room L = y ∧ putB room L = true) := by
  refine ⟨fun h => ⟨if_pos h, if_pos h, by unfold putB; rw [decide_eq_true h]; rfl⟩, fun h => ?_⟩
  match L, h with
  | y :: M, h => exact ⟨y, M, rfl, if_neg h, if_neg h, by unfold putB; rw [decide_eq_false h]; rfl⟩
  | [], h => simp at h; omega

/-- 'append' of whatever slice, nil too, onto one of the call's own. -/
theorem append_any {P : Program} (w : World) {ops : Array Oper} {rest : List Oper} {o : Oper} {a : Act} {Q : Exit → Act → World → Prop} (hgd : o.guard = none) (s x : Operand) (t : TypeId)
    (ho : o.op = .call { callee := .builtin .append, args := #[s, x], argTypes := #[t, t] })
    (base : Nat) (e : TypeId) (i : TypeInfo) (z : Value) (size bytes : Nat) (ht : P.underlying t = some (.slice e)) (hi : P.info? e = some i) (hz : i.zero = some z)
    (hsize : i.size = size) (hby : i.bytes = bytes) (hzs : z.cells.size = size) (hsz : 0 < size)
    (v : Value) (n : Nat) (xs : List Value) (hs : a.eval s = v) (hown : w.ownsRow base e size v n xs)
    (ao : Option Addr) (m c : Nat) (news : List Value) (hx : a.eval x = .slice ao m c) (hl : news.length = m * size) (hnone : ao = none → m = 0 ∧ c = 0) (hnews : ∀ ad, ao = some ad → ∀ j u, news[j]? = some u → w.cell? (ad.add j) = some u) (h1 : ∀ u ∈ news, u.oneCell' = true)
    (h63 : n + m ≤ maxLen) (hbytes : (n + m) * bytes ≤ 140737488355328) (hbase : base ≤ w.heap.size)
    (h : ∀ v' w', w'.ownsRow base e size v' (n + m) (xs ++ news) → w.grownBy w' v.ownBlock → wpList P ops Q rest (a.put o.dst v') w') : wpList P ops Q (o :: rest) a w := by
  cases ao with
  | some ad => exact wpList_append_own w hgd s x t ho base e i z size bytes ht hi hz hsize hby hzs hsz v n xs hs hown ad m c news hx hl (hnews ad rfl) h1 h63 hbytes hbase (fun v' w' a b _ => h v' w' a b)
  | none =>
    obtain ⟨rfl, rfl⟩ := hnone rfl
    have hn : news = [] := List.eq_nil_of_length_eq_zero (by simpa using hl)
    subst hn
    exact wpList_append_own_none hgd s x t ho base e i size ht hi v n xs hs hown hx (h v w (by simpa using hown) (World.grownBy.refl _ _))

theorem src_cells {w w1 : World} {ao : Option Addr} {cap b off : Nat} {L : List Int} (h : Seen (fun x => .int .i64 x) w ao cap b off L) (hb : Below w.heap.size w w1) : ∀ ad, ao = some ad → ∀ (j : Nat) (u : Value), (L.map fun x => Value.int .i64 x)[j]? = some u → w1.cell? (ad.add j) = some u := by
  intro ad he j u hj
  rw [List.getElem?_map] at hj
  match hx : L[j]? with
  | none => rw [hx] at hj; cases hj
  | some x =>
    rw [hx] at hj
    injection hj with hj
    have hne : L ≠ [] := fun e => by rw [e] at hx; cases hx
    have e := h.at_ hne
    rw [he] at e
    injection e with e
    subst e
    rw [show (⟨b, off, none⟩ : Addr).add j = ⟨b, off + j, none⟩ from by simp [Addr.add], (h.below hb).cell j x hx, ← hj]

theorem row_some {w : World} {base n : Nat} {t : TypeId} {v : Value} {xs : List Value} (h : w.ownsRow base t 1 v n xs) (hn : 0 < n) : ∃ g cap, v = .slice (some ⟨g, 0, none⟩) n cap ∧ base ≤ g ∧ n ≤ cap ∧ cap ≤ 9223372036854775807 := by
  rcases h.2 with ⟨_, h'⟩ | ⟨g, cap, cur, h', hb, _, hc, hm, _⟩
  · omega
  · exact ⟨g, cap, h', hb, hc, by unfold maxLen at hm; omega⟩

theorem seen_own {w : World} {base n g cap : Nat} {t : TypeId} {xs : List Int} (h : w.ownsRow base t 1 (.slice (some ⟨g, 0, none⟩) n cap) n (xs.map fun x => .int .i64 x)) (hn : n = xs.length) : Seen (fun x => .int .i64 x) w (some ⟨g, 0, none⟩) cap g 0 xs := by
  subst hn
  rcases h.2 with ⟨h1, _⟩ | ⟨g', cap', cur, h1, hb, hh, hn, hm, _⟩
  · cases h1
  · injection h1 with h2 _ h3
    injection h2 with h2; injection h2 with h2
    subst h2; subst h3
    refine ⟨hn, by unfold maxLen at hm; omega, fun _ => rfl, fun i x hi => ?_⟩
    have hi' := (List.getElem?_eq_some_iff.1 hi).1
    have := h.cellAt i (by omega)
    rw [Nat.zero_add, this, List.getElem?_map, hi]; rfl

open RingInt in
set_option maxRecDepth 100000 in
set_option maxHeartbeats 2000000 in
theorem Put (room n : Nat) (x : Int) (L : List Int) (ao : Option Addr) (cap b off : Nat) (w : World) (h : Seen (fun x => .int .i64 x) w ao cap b off L) (hn : n = L.length) (hc : ao = none → n = 0 ∧ cap = 0) (hr : 1 ≤ room) (hr2 : room ≤ 65536) (hL : L.length ≤ room) :
    Calls Try.prog 16 #[.slice ao n cap, .int .i64 (room : Int), .int .i64 x] w fun e w' => ∃ ad cap' b' off', e = .returned (.tuple #[.slice (some ad) (putL room L x).length cap', .int .i64 (putX room L), .bool (putB room L)]) ∧
      Seen (fun x => .int .i64 x) w' (some ad) cap' b' off' (putL room L x) ∧ w.heap.size ≤ b' ∧ Below w.heap.size w w' := by
  obtain ⟨i0, hi0, hz0, hz1, hz2⟩ := info_parts info
  have HS : Hid (Seen (fun x => .int .i64 x) w ao cap b off L) := h
  have HN : Hid (n = L.length) := hn
  have HC : Hid (ao = none → n = 0 ∧ cap = 0) := hc
  have hnr : n ≤ 65536 := by omega
  obtain ⟨P1, P2⟩ := put_lists (x := x) hr hL
  have HP1 : Hid (L.length < room → putL room L x = L ++ [x] ∧ putX room L = 0 ∧ putB room L = false) := P1
  have HP2 : Hid (¬ L.length < room → ∃ y M, L = y :: M ∧ putL room L x = M ++ [x] ∧ putX room L = y ∧ putB room L = true) := P2
  have hnr2 : n ≤ room := by omega
  clear h hn P1 P2 hL hc
  have HW : Hid ((w.alloc (.cells #[] 3)).ownsRow w.heap.size 3 1 (.slice (some ⟨w.heap.size, 0, none⟩) 0 0) 0 []) := World.ownsRow_made w #[] 0 (Nat.le_refl _) (by decide) rfl
  go_enter Try.func16, Try.ntmps16
  go_wp2_with (first
    | (at_builtin; refine append_any _ rfl (.tmp 10) (.tmp 11) 29 rfl w.heap.size 3 i0 (.int .i64 0) 1 8 Try.underlying29 hi0 hz0 hz1 hz2 rfl (by decide) _ 0 [] rfl HW.out ao n cap (L.map fun x => Value.int .i64 x) rfl (by rw [List.length_map, ← HN.out, Nat.mul_one]) HC.out (src_cells HS.out ((Below.refl _ w).alloc (Nat.le_refl _) _)) (by intro v hv; obtain ⟨x, _, rfl⟩ := List.mem_map.1 hv; rfl) (by unfold maxLen; omega) (by omega) (by simp) ?_; intro v1 w1 hown1 hgrow1; simp only [Nat.zero_add, List.nil_append] at hown1; have HO1 : Hid (w1.ownsRow w.heap.size 3 1 v1 n (L.map fun x => Value.int .i64 x)) := hown1; have HB1 : Hid (Below w.heap.size w w1) := ((Below.refl _ w).alloc (Nat.le_refl _) _).grown hgrow1 (by simp) (fun k e => by have := (HW.out.lt k e).1; omega); clear hown1 hgrow1)
    | (at_builtin; refine wpList_append_own _ rfl (.tmp 12) (.tmp 14) 29 rfl w.heap.size 3 i0 (.int .i64 0) 1 8 Try.underlying29 hi0 hz0 hz1 hz2 rfl (by decide) _ n _ rfl (World.ownsRow.alloc (show World.ownsRow _ _ _ _ _ _ _ from HO1.out) _) _ 1 1 [_] rfl rfl (cell_one_new _ _ _) (by simp [Value.oneCell']) (by unfold maxLen; omega) (by omega) (by have := HB1.out.size; simp; omega) ?_; intro v' w2 hown2 hgrow2 _; obtain ⟨g, cp, rfl, hg, hcp, hcm⟩ := row_some hown2 (by omega); have HO2 : Hid (w2.ownsRow w.heap.size 3 1 (.slice (some ⟨g, 0, none⟩) (n + 1) cp) (n + 1) _) := hown2; have HB2 : Hid (Below w.heap.size w w2) := (HB1.out.alloc HB1.out.size _).grown hgrow2 (by have := HB1.out.size; simp; omega) (fun k e => by have := (HO1.out.lt k e).1; omega); clear hown2 hgrow2))
  · have hlt : ¬ L.length < room := by rw [← HN.out]; omega
    obtain ⟨y, M, e1, e2, e3, e4⟩ := HP2.out hlt
    have hS : Seen (fun x => .int .i64 x) w2 (some ⟨g, 0, none⟩) cp g 0 (L ++ [x]) := seen_own (by rw [List.map_append]; exact HO2.out) (by rw [List.length_append, ← HN.out]; rfl)
    have c0 : w2.cell? ⟨g, 0, none⟩ = some (.int .i64 y) := hS.cell 0 y (by rw [e1]; rfl)
    have hT := hS.tail (n := 1) (by simp)
    rw [e1] at hT
    have hn1 : n = M.length + 1 := by rw [HN.out, e1]; rfl
    rw [if_neg (by omega)] at hT
    have HT : Hid (Seen (fun x => .int .i64 x) w2 (some ⟨g, 0 + 1, none⟩) (cp - 1) g (0 + 1) (putL room L x)) := by rw [e2]; exact hT
    have HE : Hid ((putL room L x).length = n ∧ putX room L = y ∧ putB room L = true) := ⟨by rw [e2, hn1]; simp, e3, e4⟩
    have hcp1 : ¬ cp = 1 := by omega
    clear hS hT e1 e2 e3 e4 hlt hn1
    go_quiet (fail)
    go_wp2
    go_ret3
    refine ⟨⟨g, 0 + 1, none⟩, cp - 1, g, 0 + 1, ?_, HT.out.draws nq, hg, below_drewN HB2.out nq⟩
    rw [HE.out.1, HE.out.2.1, HE.out.2.2]
    rfl
  · have hlt : L.length < room := by rw [← HN.out]; omega
    obtain ⟨e1, e2, e3⟩ := HP1.out hlt
    have hS : Seen (fun x => .int .i64 x) w2 (some ⟨g, 0, none⟩) cp g 0 (L ++ [x]) := seen_own (by rw [List.map_append]; exact HO2.out) (by rw [List.length_append, ← HN.out]; rfl)
    have HL : Hid ((putL room L x).length = n + 1) := by rw [e1, List.length_append, ← HN.out]; rfl
    go_ret3
    refine ⟨_, _, g, 0, ?_, by rw [e1]; exact hS, hg, HB2.out⟩
    rw [HL.out, e2, e3]
    rfl

end Ref3
end Go.Proofs.Ytneapdegjofodaa
