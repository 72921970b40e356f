/- PotPlays: walked. (Written by wip/gen/gen_potplays2.py.) -/
import Derived.Test.YtdnfclhljahghaaPotPlaysN
import Derived.Deep.RegionHeld
import Derived.Deep.DeepCutAuto
set_option linter.unusedVariables false
namespace Go.Proofs.Ytdnfclhljahghaa.potPlays
open Go.RowKit Po

/-- A statement that follows from five others. -/
structure Arms (C : Prop) where
  g0 : Prop
  g1 : Prop
  g2 : Prop
  g3 : Prop
  g4 : Prop
  go : Hid (g0 ∧ g1 ∧ g2 ∧ g3 ∧ g4) → C

set_option maxRecDepth 100000 in
set_option maxHeartbeats 200000000 in
noncomputable def start (A : List Po.Act) (n cap b0 off0 : Nat) (W : World) (HN : Hid (A.length = n)) (HA : Hid (∀ a ∈ A, a.ok)) (hl : n ≤ 60) (HS : Hid (SeenX W (some ⟨b0, off0, none⟩) cap b0 off0 16 (A.map Po.Act.row))) (hcap : cap ≤ 9223372036854775807) (hle : n ≤ cap) :
    Arms (Calls Try.prog 8 #[.slice (some ⟨b0, off0, none⟩) n cap] W fun e w' => e = .returned (.bool true) ∧ Below W.heap.size W w') := by
  refine ⟨?g0, ?g1, ?g2, ?g3, ?g4, fun hG => ?main⟩
  case main =>
    have DUM : Hid True := True.intro
    go_enter Try.func8, Try.ntmps8
    go_wp2_with (go_at_call 26; fail)
    refine (NewB W).mono ?_
    rintro e w1 ⟨b, rfl, h⟩
    have H1 : Hid (Pb W b Pt.new w1) := h
    clear h
    go_wp2_with (go_at_call 27; fail)
    refine (RNew _).mono ?_
    rintro e w2 ⟨rfl, hB⟩
    unfold Pt.rv
    have H2 : Hid (Pb W b Pt.new w2) := H1.out.below hB
    clear hB H1
    go_wp2_with (fail)
    generalize hw3 : w2.alloc _ = w3
    have H3 : Hid (Lw W b w2.heap.size Pt.new Pt.new w3) := by rw [← hw3]; exact ⟨H2.out.alloc _, Row.new w2 _ _, H2.out.old.size, by have := H2.out.p.lt; omega⟩
    clear hw3 H2
    generalize w2.heap.size = g at H3 ⊢
    go_loopw [5] (fun v wr => ∃ (k : Nat) (p : Pt), k ≤ n ∧ v = .int .i64 (k : Int) ∧ p.fit ∧ Lw W b g p p wr) (fun v _ => n - (intOf v).toNat)
    case atStart => exact ⟨0, Pt.new, by omega, rfl, Pt.fit.new, H3.out⟩
    case round =>
      obtain ⟨k, p, hk, rfl, hf, hR⟩ := hrel
      have HR : Hid (Lw W b g p p wr) := hR
      have HF : Hid p.fit := hf
      clear hR hf H3
      by_cases hkn : k < n
      · obtain ⟨a, ha⟩ : ∃ a, A[k]? = some a := ⟨_, List.getElem?_eq_getElem (by rw [HN.out]; exact hkn)⟩
        have HK : Hid a.ok := HA.out a (List.mem_of_getElem? ha)
        have hrow : (A.map Po.Act.row)[k]? = some a.row := by rw [List.getElem?_map, ha]; rfl
        have hne : A.map Po.Act.row ≠ [] := fun e => by rw [e] at hrow; cases hrow
        have hsee := HS.out.below HR.out.po.old (Nat.le_refl _)
        have c0 : wr.cell? ⟨b0, off0 + k * 16, none⟩ = some (.int .i64 a.kind) := hsee.cell k _ hrow 0 _ rfl
        have c1 := hsee.cell k _ hrow 1 _ rfl
        have c2 := hsee.cell k _ hrow 2 _ rfl
        have c3 := hsee.cell k _ hrow 3 _ rfl
        have c4 := hsee.cell k _ hrow 4 _ rfl
        have c5 := hsee.cell k _ hrow 5 _ rfl
        have c6 := hsee.cell k _ hrow 6 _ rfl
        have c7 := hsee.cell k _ hrow 7 _ rfl
        have c8 := hsee.cell k _ hrow 8 _ rfl
        have c9 := hsee.cell k _ hrow 9 _ rfl
        have c10 := hsee.cell k _ hrow 10 _ rfl
        have c11 := hsee.cell k _ hrow 11 _ rfl
        have c12 := hsee.cell k _ hrow 12 _ rfl
        have c13 := hsee.cell k _ hrow 13 _ rfl
        have c14 := hsee.cell k _ hrow 14 _ rfl
        have c15 := hsee.cell k _ hrow 15 _ rfl
        obtain ⟨q, hq⟩ : ∃ q, a.kind.tmod 5 = q := ⟨_, rfl⟩
        obtain ⟨q1, q2⟩ := kind5 hq
        have k0 : (0 : Int) ≤ (k : Int) := by omega
        have k1 : (k : Int) < (n : Int) := by omega
        obtain ⟨z, hz⟩ : ∃ z, (q + 5) % 5 = z := ⟨_, rfl⟩
        have HZ5 : Hid (0 ≤ z ∧ z < 5) := (show 0 ≤ z ∧ z < 5 by omega)
        have hzt : (q + 5).tmod 5 = z := by rw [Int.tmod_eq_emod_of_nonneg (by omega)]; exact hz
        have e5 : IntKind.i64.wrap (q + 5) = q + 5 := IntWalk.i64_in _ (by omega)
        clear ha hsee hrow hne
        go_upto_region 8 with fail
        generalize hwa : wr.alloc _ = wa
        have HLa : Hid (La W b g wr.heap.size a p p wa) := by rw [← hwa]; exact ⟨HR.out.alloc _, Row.new wr _ _, by have := HR.out.po.p.lt; omega, by have := HR.out.row.lt (by simp [Pt.rc]); omega⟩
        clear hwa HR c0 c1 c2 c3 c4 c5 c6 c7 c8 c9 c10 c11 c12 c13 c14 c15
        generalize wr.heap.size = h at HLa ⊢
        have ck := HLa.out.act.at_ 0 _ rfl
        rcases (show z = 0 ∨ z = 1 ∨ z = 2 ∨ z = 3 ∨ z = 4 by have := HZ5.out; omega) with hc | hc | hc | hc | hc
        · rename_i Q1 h60 K3 a3 Q2 K2 a2 K1 a1 K0 a0
          revert DUM Q1 h60 w1 b w2 K3 a3 w3 g wr u2 u6 u7 u8 u9 u10 u16 u17 u18 u19 u20 u21 u22 u23 u24 u25 u26 u27 u28 u29 u30 u31 u32 u33 u34 u35 u36 u37 u38 u39 u40 u41 u42 u43 u44 u45 u46 u47 u48 u49 u50 u51 u52 u53 u54 u55 u56 u57 u58 u59 u60 u61 u62 u63 u64 u65 u66 u67 u68 u69 u70 u71 u72 u73 u74 u75 u76 u77 u78 u79 u80 u81 u82 u83 u84 u85 u86 u87 u88 u89 u90 u91 u92 u93 u94 u95 u96 u97 u98 u99 u100 u101 u102 u103 u104 u105 u106 u107 u108 u109 u110 u111 u112 u113 u114 u115 u116 u117 u118 u119 u120 u121 u122 u123 u124 u125 u126 u127 u128 u129 k p hk HF hkn a HK q hq q1 q2 k0 k1 z hz HZ5 hzt e5 Q2 K2 a2 K1 a1 K0 a0 wa h HLa ck hc
          exact hG.out.1
        · rename_i Q1 h60 K3 a3 Q2 K2 a2 K1 a1 K0 a0
          revert DUM Q1 h60 w1 b w2 K3 a3 w3 g wr u2 u6 u7 u8 u9 u10 u16 u17 u18 u19 u20 u21 u22 u23 u24 u25 u26 u27 u28 u29 u30 u31 u32 u33 u34 u35 u36 u37 u38 u39 u40 u41 u42 u43 u44 u45 u46 u47 u48 u49 u50 u51 u52 u53 u54 u55 u56 u57 u58 u59 u60 u61 u62 u63 u64 u65 u66 u67 u68 u69 u70 u71 u72 u73 u74 u75 u76 u77 u78 u79 u80 u81 u82 u83 u84 u85 u86 u87 u88 u89 u90 u91 u92 u93 u94 u95 u96 u97 u98 u99 u100 u101 u102 u103 u104 u105 u106 u107 u108 u109 u110 u111 u112 u113 u114 u115 u116 u117 u118 u119 u120 u121 u122 u123 u124 u125 u126 u127 u128 u129 k p hk HF hkn a HK q hq q1 q2 k0 k1 z hz HZ5 hzt e5 Q2 K2 a2 K1 a1 K0 a0 wa h HLa ck hc
          exact hG.out.2.1
        · rename_i Q1 h60 K3 a3 Q2 K2 a2 K1 a1 K0 a0
          revert DUM Q1 h60 w1 b w2 K3 a3 w3 g wr u2 u6 u7 u8 u9 u10 u16 u17 u18 u19 u20 u21 u22 u23 u24 u25 u26 u27 u28 u29 u30 u31 u32 u33 u34 u35 u36 u37 u38 u39 u40 u41 u42 u43 u44 u45 u46 u47 u48 u49 u50 u51 u52 u53 u54 u55 u56 u57 u58 u59 u60 u61 u62 u63 u64 u65 u66 u67 u68 u69 u70 u71 u72 u73 u74 u75 u76 u77 u78 u79 u80 u81 u82 u83 u84 u85 u86 u87 u88 u89 u90 u91 u92 u93 u94 u95 u96 u97 u98 u99 u100 u101 u102 u103 u104 u105 u106 u107 u108 u109 u110 u111 u112 u113 u114 u115 u116 u117 u118 u119 u120 u121 u122 u123 u124 u125 u126 u127 u128 u129 k p hk HF hkn a HK q hq q1 q2 k0 k1 z hz HZ5 hzt e5 Q2 K2 a2 K1 a1 K0 a0 wa h HLa ck hc
          exact hG.out.2.2.1
        · rename_i Q1 h60 K3 a3 Q2 K2 a2 K1 a1 K0 a0
          revert DUM Q1 h60 w1 b w2 K3 a3 w3 g wr u2 u6 u7 u8 u9 u10 u16 u17 u18 u19 u20 u21 u22 u23 u24 u25 u26 u27 u28 u29 u30 u31 u32 u33 u34 u35 u36 u37 u38 u39 u40 u41 u42 u43 u44 u45 u46 u47 u48 u49 u50 u51 u52 u53 u54 u55 u56 u57 u58 u59 u60 u61 u62 u63 u64 u65 u66 u67 u68 u69 u70 u71 u72 u73 u74 u75 u76 u77 u78 u79 u80 u81 u82 u83 u84 u85 u86 u87 u88 u89 u90 u91 u92 u93 u94 u95 u96 u97 u98 u99 u100 u101 u102 u103 u104 u105 u106 u107 u108 u109 u110 u111 u112 u113 u114 u115 u116 u117 u118 u119 u120 u121 u122 u123 u124 u125 u126 u127 u128 u129 k p hk HF hkn a HK q hq q1 q2 k0 k1 z hz HZ5 hzt e5 Q2 K2 a2 K1 a1 K0 a0 wa h HLa ck hc
          exact hG.out.2.2.2.1
        · rename_i Q1 h60 K3 a3 Q2 K2 a2 K1 a1 K0 a0
          revert DUM Q1 h60 w1 b w2 K3 a3 w3 g wr u2 u6 u7 u8 u9 u10 u16 u17 u18 u19 u20 u21 u22 u23 u24 u25 u26 u27 u28 u29 u30 u31 u32 u33 u34 u35 u36 u37 u38 u39 u40 u41 u42 u43 u44 u45 u46 u47 u48 u49 u50 u51 u52 u53 u54 u55 u56 u57 u58 u59 u60 u61 u62 u63 u64 u65 u66 u67 u68 u69 u70 u71 u72 u73 u74 u75 u76 u77 u78 u79 u80 u81 u82 u83 u84 u85 u86 u87 u88 u89 u90 u91 u92 u93 u94 u95 u96 u97 u98 u99 u100 u101 u102 u103 u104 u105 u106 u107 u108 u109 u110 u111 u112 u113 u114 u115 u116 u117 u118 u119 u120 u121 u122 u123 u124 u125 u126 u127 u128 u129 k p hk HF hkn a HK q hq q1 q2 k0 k1 z hz HZ5 hzt e5 Q2 K2 a2 K1 a1 K0 a0 wa h HLa ck hc
          exact hG.out.2.2.2.2
      · clear hG
        have hkn' : k = n := by omega
        subst hkn'
        go_wp2_with (go_at_call 43; refine (awake20 _).mono ?_; rintro e w5 ⟨rfl, hB5⟩)
        go_returns
        exact ⟨rfl, HR.out.po.old.trans (hB5.mono HR.out.po.old.size)⟩

end Go.Proofs.Ytdnfclhljahghaa.potPlays
