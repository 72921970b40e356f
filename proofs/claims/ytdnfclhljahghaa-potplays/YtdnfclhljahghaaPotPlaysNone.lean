/- PotPlays: walked. (Written by wip/gen/gen_potplays2.py.) -/
import Derived.Test.YtdnfclhljahghaaPotPlaysN
import Derived.Deep.RegionHeld
import Derived.Deep.DeepCutAuto
set_option linter.unusedVariables false
namespace Go.Proofs.Ytdnfclhljahghaa.potPlays
open Go.RowKit Po

set_option maxRecDepth 100000 in
set_option maxHeartbeats 200000000 in
theorem noAct (ao : Option Addr) (cap : Nat) (W : World) (hcap : cap ≤ 9223372036854775807) :
    Calls Try.prog 8 #[.slice ao 0 cap] W fun e w' => e = .returned (.bool true) ∧ Below W.heap.size W w' := by
  obtain ⟨n, hn⟩ : ∃ n : Nat, n = 0 := ⟨0, rfl⟩
  have hl : n ≤ 60 := by omega
  have hle : n ≤ cap := by omega
  have HN : Hid (n = 0) := hn
  rw [show (0 : Nat) = n from hn.symm]
  clear hn
  go_enter Try.func8, Try.ntmps8
  go_wp2_with (go_at_call 26; fail)
  refine (NewB W).mono ?_
  rintro e w1 ⟨b, rfl, h⟩
  have H1 : Hid (Pb W b Pt.new w1) := h
  clear h
  go_wp2_with (go_at_call 27; fail)
  refine (RNew _).mono ?_
  rintro e w2 ⟨rfl, hB⟩
  unfold Pt.rv
  have H2 : Hid (Pb W b Pt.new w2) := H1.out.below hB
  clear hB H1
  go_wp2_with (fail)
  generalize hw3 : w2.alloc _ = w3
  have H3 : Hid (Lw W b w2.heap.size Pt.new Pt.new w3) := by rw [← hw3]; exact ⟨H2.out.alloc _, Row.new w2 _ _, H2.out.old.size, by have := H2.out.p.lt; omega⟩
  clear hw3 H2
  generalize w2.heap.size = g at H3 ⊢
  go_loopw [5] (fun v wr => ∃ (k : Nat) (p : Pt), k ≤ n ∧ v = .int .i64 (k : Int) ∧ p.fit ∧ Lw W b g p p wr) (fun v _ => n - (intOf v).toNat)
  case atStart => exact ⟨0, Pt.new, by omega, rfl, Pt.fit.new, H3.out⟩
  case round =>
    obtain ⟨k, p, hk, rfl, hf, hR⟩ := hrel
    have HR : Hid (Lw W b g p p wr) := hR
    have HF : Hid p.fit := hf
    clear hR hf H3
    by_cases hkn : k < n
    · exact absurd hkn (by have := HN.out; omega)
    · have hkn' : k = n := by omega
      subst hkn'
      go_wp2_with (go_at_call 43; refine (awake20 _).mono ?_; rintro e w5 ⟨rfl, hB5⟩)
      go_returns
      exact ⟨rfl, HR.out.po.old.trans (hB5.mono HR.out.po.old.size)⟩

end Go.Proofs.Ytdnfclhljahghaa.potPlays
