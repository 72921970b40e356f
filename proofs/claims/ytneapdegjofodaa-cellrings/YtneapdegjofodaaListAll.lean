/- How a ring of int is ranged over. -/
import Derived.Test.YtneapdegjofodaaRing2
import Derived.Stop.RegionWithIn
namespace Go.Proofs.Ytneapdegjofodaa.RingInt
open Go.RowKit Go.Shelf

attribute [local go_sem] Oper.semAt_some

/-- The blocks of S lie in W' as in W. -/
def Keeps (S : Nat → Prop) (W W' : World) : Prop := ∀ k, S k → W'.heap[k]? = W.heap[k]?
theorem Keeps.cell {S : Nat → Prop} {W W' : World} (h : Keeps S W W') {p : Addr} (hp : S p.block) : W'.cell? p = W.cell? p := World.cell?_of_block (w := W) (h p.block hp)
theorem Keeps.trans {S : Nat → Prop} {A B C : World} (h : Keeps S A B) (g : Keeps S B C) : Keeps S A C := fun i hi => (g i hi).trans (h i hi)
theorem Keeps.refl (S : Nat → Prop) (W : World) : Keeps S W W := fun _ _ => rfl
theorem Keeps.put {S : Nat → Prop} {w : World} (hS : ∀ k, S k → k < w.heap.size) (W : World) (l : Nat) (o o' : Obj) (hl : w.heap.size ≤ l) (_ : W.heap[l]? = some o) (_ : o.isCells = false) (_ : o.isWalk = false) : Keeps S W (W.putObj l o') :=
  fun _ hk => World.putObj_heap_other (by have := hS _ hk; omega)
theorem Keeps.setCell {S : Nat → Prop} (W : World) (a : Addr) (v : Value) (h : ¬ S a.block) : Keeps S W (W.setCell a v) :=
  fun _ hk => Below.heap_setCell _ _ _ _ (fun e => h (e ▸ hk))

set_option maxRecDepth 100000 in
set_option maxHeartbeats 1000000 in
theorem all1 (n : Nat) (hn : 1 ≤ n) (l Br b room : Nat) (v : Value) (L : List Int) (S : Nat → Prop) (J Jx : List Int → World → Prop)
    (hY : ∀ (pre : List Int) (x : Int) (W : World), J pre W → pre.length < L.length → YieldAt Fence.wide (n - 1) Try.prog l #[.int .i64 x] W fun e W' =>
      (e = .returned (.bool true) ∧ J (pre ++ [x]) W' ∧ Keeps S W W') ∨ (e = .returned (.bool false) ∧ Jx (pre ++ [x]) W'))
    (W : World) (hab : AbidesFrom W.heap.size J) (hBr : W.cell? ⟨Br, 0, none⟩ = some (.pointer (some ⟨b, 0, none⟩))) (hR : Ring W b room v L)
    (lr : S Br) (lb : S b) (lv : ∀ k, v.ownBlock = some k → S k) (h0 : J [] W) :
    CallsIn Fence.wide n Try.prog 37 #[.func (.yield l) #[] #[], .pointer (some ⟨Br, 0, none⟩)] W fun e W' => (∃ v, e = .returned v) ∧
      ((∃ ys, ys = L ∧ J ys W') ∨ (∃ pre, pre <+: L ∧ Jx pre W')) := by
  have HR : Hid (Ring W b room v L) := hR
  obtain ⟨e, xs, hA⟩ := hR
  have hle := HR.out.le
  have hr1 := hA.r1
  have hr2 := hA.r2
  have he := hA.lay.e1
  have hn1 := hA.lay.i1
  have HA : Hid (RAt W b room e v xs L) := hA
  clear hA
  refine callsIn_of_wp Try.func37 rfl trivial ?_ rfl
  simp only [Try.ntmps37, List.size_toArray, List.length_cons, List.length_nil, Nat.reduceAdd, Nat.reduceSub, Array.replicate_succ, Array.replicate_zero, List.push_toArray, List.append_toArray, List.nil_append, List.cons_append]
  gi_wp2_with (refine ⟨trivial, ?_⟩; gi_at_call 13; refine (callsIn_wide.2 (Len b room v L _ HR.out)).mono ?_; rintro e w' ⟨rfl, hw⟩; subst w')
  gi_loopw [6] (fun v wr => ∃ k : Nat, k ≤ L.length ∧ v = .int .i64 (k : Int) ∧ Keeps S W wr ∧ J (L.take k) wr)
    (fun v _ => L.length - (intOf v).toNat)
  case atStart =>
    exact ⟨0, Nat.zero_le _, rfl, Keeps.refl _ _, h0⟩
  case round =>
    obtain ⟨k, hk, rfl, hB, hJs⟩ := hrel
    by_cases hl : k < L.length
    · obtain ⟨x, hx⟩ : ∃ x, L[k]? = some x := ⟨_, List.getElem?_eq_getElem hl⟩
      have hA' : RAt wr b room e v xs L := HA.out.kept (hB b lb) (fun j hj => hB j (lv j hj))
      obtain ⟨g, cap, rfl⟩ : ∃ g cap, v = .slice (some ⟨g, 0, none⟩) xs.length cap := by
        rcases hA'.own.2 with ⟨_, h'⟩ | ⟨g', cap', cur, h', _⟩
        · omega
        · exact ⟨g', cap', h'⟩
      obtain ⟨p, hp⟩ : ∃ p, p = (e + k) % room := ⟨_, rfl⟩
      have hpn : p < xs.length := by rw [hp]; exact hA'.lay.spot hl
      have cp : wr.cell? ⟨g, p, none⟩ = some (.int .i64 x) := by
        rw [hA'.own.cellAt p (by omega), List.getElem?_map, hp, hA'.lay.at_ k hl, hx]; rfl
      have c0 := hA'.c0
      have c1 := hA'.c1
      have c2 := hA'.c2
      have cr : wr.cell? ⟨Br, 0, none⟩ = some (.pointer (some ⟨b, 0, none⟩)) := (hB.cell (p := ⟨Br, 0, none⟩) lr).trans hBr
      have HP : Hid (p = (e + k) % room) := hp
      have p0 : (0 : Int) ≤ (p : Int) := by omega
      have p1 : (p : Int) < (xs.length : Int) := by omega
      have hall : ∀ q : Nat, ∃ t : _ × _ × _ × _, (Instr.yield l #[.int .i64 x]).run Try.prog (wr.drewN q) = .ok (.round l t.1 t.2.1 t.2.2.1 t.2.2.2) (wr.drewN q) ∧ RoundIn Fence.wide (n - 1) Try.prog l t.1 t.2.1 t.2.2.1 t.2.2.2 (wr.drewN q) fun e W' =>
          ∃ c : Bool, e = .returned (.bool c) ∧ (c = true → J (L.take (k + 1)) W' ∧ Keeps S wr W') ∧ (c = false → Jx (L.take (k + 1)) W') := fun q => by
        have hJq : J (L.take k) (wr.drewN q) := hab _ _ _ none hJs ⟨rfl, rfl, rfl, Nat.le_refl _, fun _ _ _ => rfl⟩ (fun r e => by cases e)
        have et : L.take k ++ [x] = L.take (k + 1) := by rw [List.take_add_one, hx]; rfl
        obtain ⟨fn, tmps, assign, body, hy, hRR⟩ := (hY (L.take k) x (wr.drewN q) hJq (by rw [List.length_take]; omega)).mono (R' := fun e W' =>
          ∃ c : Bool, e = .returned (.bool c) ∧ (c = true → J (L.take (k + 1)) W' ∧ Keeps S wr W') ∧ (c = false → Jx (L.take (k + 1)) W')) (fun e W' h => by
            rw [et] at h
            rcases h with ⟨rfl, a, b⟩ | ⟨rfl, a⟩
            · exact ⟨true, rfl, fun _ => ⟨a, b⟩, fun h => by cases h⟩
            · exact ⟨false, rfl, fun h => (by cases h), fun _ => a⟩)
        exact ⟨(fn, tmps, assign, body), hy, hRR⟩
      obtain ⟨ff, hff⟩ := Classical.axiomOfChoice hall
      have hyy : ∀ q : Nat, (Instr.yield l #[.int .i64 x]).run Try.prog (wr.drewN q) = .ok (.round l (ff q).1 (ff q).2.1 (ff q).2.2.1 (ff q).2.2.2) (wr.drewN q) := fun q => (hff q).1
      have HRR : Hid (∀ q : Nat, RoundIn Fence.wide (n - 1) Try.prog l (ff q).1 (ff q).2.1 (ff q).2.2.1 (ff q).2.2.2 (wr.drewN q) fun e W' =>
          ∃ c : Bool, e = .returned (.bool c) ∧ (c = true → J (L.take (k + 1)) W' ∧ Keeps S wr W') ∧ (c = false → Jx (L.take (k + 1)) W')) := fun q => (hff q).2
      have HB : Hid (Keeps S W wr) := hB
      clear hp hA' hall hff hY hJs h0 hB hx
      gi_wp2
      gi_region_with (first
        | (refine ⟨trivial, ?_⟩; gi_at_call 28; refine (callsIn_wide.2 (place b e room k p _ _ rfl HP.out (by exact c1) (by exact c2) hr1 hr2 he (by omega))).mono ?_; rintro e w' ⟨rfl, q, hw⟩; subst w')
        | (refine (HRR.out _).mono ?_; rintro e W3 ⟨c, rfl, hc⟩; have HC : Hid _ := hc; clear hc))
      all_goals cases c
      all_goals gi_wp2
      all_goals first
        | (refine bodyPost_ret (results_none rfl _ _ _) rfl ?_; exact ⟨⟨_, rfl⟩, .inr ⟨_, List.take_prefix _ _, HC.out.2 (by first | rfl | trivial)⟩⟩)
        | (refine ⟨⟨k + 1, by omega, by go_num, HB.out.trans (HC.out.1 (by first | rfl | trivial)).2, (HC.out.1 (by first | rfl | trivial)).1⟩, ?_⟩; simp [intOf]; omega)
    · have hkl : k = L.length := by omega
      subst hkl
      have HJ : Hid (J L wr) := by rw [List.take_length] at hJs; exact hJs
      clear hJs hY
      gi_wp2
      first | go_end0 | refine bodyPost_ret (results_none rfl _ _ _) rfl ?_
      exact ⟨⟨_, rfl⟩, .inl ⟨_, rfl, HJ.out⟩⟩

set_option maxHeartbeats 1000000 in
theorem all (n : Nat) (b : Nat) (w : World) :
    CallsIn Fence.wide n Try.prog 29 #[.pointer (some ⟨b, 0, none⟩)] w fun e w' =>
      e = .returned (.func (.func 37) #[] #[.pointer (some ⟨w.heap.size, 0, none⟩)]) ∧
      w' = w.alloc (.cells #[.pointer (some ⟨b, 0, none⟩)] 23) := by
  refine callsIn_of_wp Try.func29 rfl trivial ?_ rfl
  simp only [Try.ntmps29, List.size_toArray, List.length_cons, List.length_nil, Nat.reduceAdd, Nat.reduceSub, Array.replicate_succ, Array.replicate_zero, List.push_toArray, List.append_toArray, List.nil_append, List.cons_append]
  gi_wp2
  go_ret
  exact ⟨rfl, rfl⟩

theorem all_stops (n : Nat) (hn : 1 ≤ n) (Br b room : Nat) (v : Value) (L : List Int) (S : Nat → Prop) (w : World)
    (hBr : w.cell? ⟨Br, 0, none⟩ = some (.pointer (some ⟨b, 0, none⟩))) (hR : Ring w b room v L)
    (lr : S Br) (lb : S b) (lv : ∀ k, v.ownBlock = some k → S k) (ln : ∀ k, S k → k < w.heap.size) :
    SeqStopsK Fence.wide n Try.prog 37 #[.pointer (some ⟨Br, 0, none⟩)] (fun x : Int => #[Value.int .i64 x]) (Keeps S)
      (fun ys => ys = L) (fun pre => pre <+: L) L.length w := fun l J Jx W hW hab _ hY h0 =>
  all1 n hn l Br b room v L S J Jx hY W hab ((hW.cell (p := ⟨Br, 0, none⟩) (ln _ lr)).trans hBr)
    (let ⟨e, xs, h⟩ := hR; ⟨e, xs, h.below hW⟩) lr lb lv h0

end Go.Proofs.Ytneapdegjofodaa.RingInt
