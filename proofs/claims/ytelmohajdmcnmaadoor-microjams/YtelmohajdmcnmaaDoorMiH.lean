/- What is sound stays sound behind a cycle: plain mathematics. -/
import Derived.Test.YtelmohajdmcnmaaDoorMiM
import Derived.Test.YtelmohajdmcnmaaDoorExO
namespace Go.Proofs.YtelmohajdmcnmaaDoor.Mi
open Go.RowKit Alu Ex
set_option linter.unusedVariables false

theorem kinds_sound : ∀ o, o < 256 → 0 ≤ Co.kindN o ∧ Co.kindN o ≤ 12 := by decide +kernel
theorem clF_less (p : Nat) (h : p < 256) : clF p < 256 := W_lt _ _ _ (W_lt _ _ _ h (by decide)) (by decide)
theorem jn_less {l h : Nat} (hl : l < 256) (hh : h < 256) : jn l h < 65536 := by unfold jn; omega
section
variable {c : Cp}
theorem Cp.ok.rd (k : c.ok) {a s : Nat} (ha : a < 65536) (hs : s ≤ 33) : (c.rd a s).ok := ⟨k.r, hs, ha, (by show (0 : Nat) < 256; omega), k.op, k.md, k.kd0, k.kd1, k.lo, k.hi, k.rb⟩
theorem Cp.ok.wt (k : c.ok) {a v s : Nat} (ha : a < 65536) (hv : v < 256) (hs : s ≤ 33) : (c.wt a v s).ok := ⟨k.r, hs, ha, hv, k.op, k.md, k.kd0, k.kd1, k.lo, k.hi, k.rb⟩
theorem Cp.ok.ft (k : c.ok) : c.ft.ok := k.rd k.r.pc (by omega)
theorem Cp.ok.jm (k : c.ok) : c.jm.ok := k.rd (by omega) (by omega)
theorem Cp.ok.sr (k : c.ok) {r : Rg} (h : r.ok) : (c.sr r).ok := ⟨h, k.st, k.ad, k.da, k.op, k.md, k.kd0, k.kd1, k.lo, k.hi, k.rb⟩
theorem Cp.ok.sl (k : c.ok) {l h : Nat} (hl : l < 256) (hh : h < 256) : (c.sl l h).ok := ⟨k.r, k.st, k.ad, k.da, k.op, k.md, k.kd0, k.kd1, hl, hh, k.rb⟩
theorem Cp.ok.sb (k : c.ok) {r : Rg} (h : r.ok) : ({ c with rb := r } : Cp).ok := ⟨k.r, k.st, k.ad, k.da, k.op, k.md, k.kd0, k.kd1, k.lo, k.hi, h⟩
theorem go_ok {r : Rg} (h : r.ok) {pc : Nat} (hp : pc < 65536) : (r.go pc).ok := ⟨h.a, h.x, h.y, h.s, h.p, hp⟩
theorem sp_ok {r : Rg} (h : r.ok) {s : Nat} (hs : s < 256) : (r.sp s).ok := ⟨h.a, h.x, h.y, hs, h.p, h.pc⟩
theorem fl_ok {r : Rg} (h : r.ok) {p : Nat} (hp : p < 256) : (r.fl p).ok := ⟨h.a, h.x, h.y, h.s, hp, h.pc⟩
theorem dn_ok {r : Rg} (h : r.ok) : r.dn.ok := sp_ok h (Nat.mod_lt _ (by omega))
theorem up_ok {r : Rg} (h : r.ok) : r.up.ok := sp_ok h (Nat.mod_lt _ (by omega))
theorem nx_sound {r : Rg} (h : r.ok) : r.nx.ok := go_ok h (Nat.mod_lt _ (by omega))
theorem Cp.ok.jp (k : c.ok) {p : Nat} (hp : p < 65536) : (c.jp p).ok := (k.sr (go_ok k.r hp)).ft
theorem Cp.ok.fi (k : c.ok) {r : Rg} (h : r.ok) : (c.fi r).ok := (k.sr h).ft
theorem Cp.ok.ph (k : c.ok) {v s : Nat} (hv : v < 256) (hs : s ≤ 33) : (c.ph v s).ok := k.wt (jn_less k.r.s (by omega)) hv hs
theorem Cp.ok.pl (k : c.ok) {s : Nat} (hs : s ≤ 33) : (c.pl s).ok := k.rd (jn_less (Nat.mod_lt _ (by omega)) (by omega)) hs
theorem Cp.ok.ix (k : c.ok) : c.ix < 256 := by
  unfold Cp.ix
  by_cases h : c.md = 4 ∨ c.md = 7 ∨ c.md = 9
  · rw [if_pos h]; exact k.r.x
  · rw [if_neg h]; exact k.r.y
theorem Cp.tg_less (c : Cp) : c.tg < 65536 := Nat.mod_lt _ (by omega)
theorem Cp.sm_less (c : Cp) : c.sm < 256 := Nat.mod_lt _ (by omega)
theorem Cp.ok.br (k : c.ok) : c.br.ok := by
  have := k.r.pc
  unfold Cp.br
  split
  · exact k.jp c.tg_less
  · exact k.rd (jn_less (Nat.mod_lt _ (by omega)) (by omega)) (by omega)
theorem Cp.ok.so (k : c.ok) {p : Nat} (hp : p < 65536) : (c.so p).ok := by
  have hv : stV c.nm.toList c.r ((c.hi + 1) % 256) < 256 := stV_lt _ _ _ k.r (Nat.mod_lt _ (by omega))
  unfold Cp.so
  refine (k.sb (stR_ok _ _ k.r)).wt ?_ hv (by omega)
  split
  · exact jn_less (Nat.mod_lt _ (by omega)) hv
  · exact hp
theorem Cp.ok.ac (k : c.ok) {p : Nat} (hp : p < 65536) : (c.ac p).ok := by
  unfold Cp.ac
  split
  · exact k.jp hp
  split
  · exact k.so hp
  split
  · exact k.rd hp (by omega)
  · exact k.rd hp (by omega)
theorem Cp.ok.ri (k : c.ok) : c.ri.ok := by
  unfold Cp.ri
  split
  · exact k.ac (jn_less c.sm_less k.hi)
  · exact k.rd (jn_less c.sm_less k.hi) (by omega)
theorem Cp.ok.rc (k : c.ok) : c.rc.ok := by
  unfold Cp.rc
  split
  · exact k.ri
  · exact k.ac (jn_less k.lo k.hi)
theorem Cp.ok.tm (k : c.ok) {v : Nat} (hv : v < 256) : (c.tm v).ok := by
  unfold Cp.tm
  split
  · exact k.fi (rd_ok _ _ _ k.r hv)
  split
  · exact k.ac (by omega)
  split
  · exact k.rd (by omega) (by omega)
  split
  · exact k.rd (by omega) (by omega)
  split
  · exact k.rd (by omega) (by omega)
  · exact k.rd k.r.pc (by omega)
theorem Cp.ok.t1 (k : c.ok) {v : Nat} (hv : v < 256) : (c.t1 v).ok := by
  have := k.r.pc
  unfold Cp.t1
  split
  · exact k.ph (by omega) (by omega)
  split
  · exact k.rd (jn_less k.r.s (by omega)) (by omega)
  split
  · split
    · exact k.rd k.r.pc (by omega)
    · exact k.ft
  · exact k.tm hv
theorem Cp.ok.tk (k : c.ok) {v : Nat} (hv : v < 256) : (c.tk v).ok := (k.sl hv (by omega)).t1 hv
theorem okSD (k : c.ok) {o md : Nat} {nm : ByteArray} {kd : Int} {kn : Bool} (ho : o < 256) (h1 : md ≤ 12) (h2 : 0 ≤ kd) (h3 : kd ≤ 12) : ({ c with op := o, nm := nm, md := md, kd := kd, kn := kn } : Cp).ok := ⟨k.r, k.st, k.ad, k.da, ho, h1, h2, h3, k.lo, k.hi, k.rb⟩
theorem Cp.ok.sd (k : c.ok) {o : Nat} (ho : o < 256) : (c.sd o).ok := by
  unfold Cp.sd
  have h1 := Co.modeN_le o
  have h2 := kinds_sound o ho
  generalize Co.modeN o = md at h1 ⊢
  generalize Co.kindN o = kd at h2 ⊢
  exact okSD k ho h1 h2.1 h2.2
theorem Cp.ok.b1 (k : c.ok) : c.b1.ok := by
  unfold Cp.b1
  split
  · exact k.jm
  split
  · exact k.rd k.r.pc (by omega)
  · exact k.rd k.r.pc (by omega)
theorem Cp.ok.bg (k : c.ok) {o : Nat} (ho : o < 256) : (c.bg o).ok := (k.sd ho).b1
theorem Cp.ok.pr (k : c.ok) : c.pr.ok := by
  unfold Cp.pr
  refine k.ph ?_ (by omega)
  split
  · exact W_lt _ _ _ k.r.p (by decide)
  · exact k.r.a
theorem Cp.ok.il (k : c.ok) : c.il.ok := by
  unfold Cp.il
  split
  · exact k.fi (sf_ok _ _ k.r)
  split
  · have h := tuR_ok c.nm.toList c.r c.r.a k.r k.r.a
    exact k.fi ⟨tuV_lt _ _ _ k.r.a, h.x, h.y, h.s, h.p, h.pc⟩
  split
  · exact k.pr
  · exact k.rd (jn_less k.r.s (by omega)) (by omega)
theorem Cp.ok.ur (k : c.ok) {v : Nat} (hv : v < 256) : (c.ur v).ok := by
  unfold Cp.ur
  split
  · exact (k.sr (fl_ok k.r (clF_less _ hv))).ft
  · exact (k.sr (rd_ok _ _ _ k.r hv)).ft
theorem Cp.ok.cb (k : c.ok) {p : Nat} (hp : p < 65536) : (c.cb p).ok := by
  unfold Cp.cb
  split
  · exact k.jp hp
  · exact (k.sr (go_ok k.r hp)).rd hp (by omega)
theorem Cp.ok.pk (k : c.ok) : c.pk.ok := by
  have := k.r.pc
  unfold Cp.pk
  split
  · exact k.ph (by omega) (by omega)
  split
  · exact k.pl (by omega)
  split
  · exact k.pl (by omega)
  · exact k.pl (by omega)

theorem Cp.ok.clk (k : c.ok) {v : Nat} (hv : v < 256) : (c.clk v).ok := by
  have hpc := k.r.pc
  have had := k.ad
  have hd := k.sr (dn_ok k.r)
  have hu := k.sr (up_ok k.r)
  have hn := k.sr (nx_sound k.r)
  have hpc2 : (c.r.pc + 1) % 65536 < 65536 := Nat.mod_lt _ (by omega)
  unfold Cp.clk
  split
  · exact k.rd k.r.pc (by omega)
  · exact k.rd (jn_less k.r.s (by omega)) (by omega)
  · exact hd.rd (jn_less (dn_ok k.r).s (by omega)) (by omega)
  · exact hd.rd (jn_less (dn_ok k.r).s (by omega)) (by omega)
  · exact hd.rd (by omega) (by omega)
  · exact (k.sl hv k.hi).rd (Nat.mod_lt _ (by omega)) (by omega)
  · exact (k.sr (fl_ok k.r (W_lt _ _ _ k.r.p (by decide)))).jp (jn_less k.lo hv)
  · exact hn.bg hv
  · exact k.il
  · exact hn.tk hv
  · exact k.br
  · exact k.jp c.tg_less
  · split
    · exact hn.rd (jn_less k.lo hv) (by omega)
    · exact (hn.sl k.lo hv).rc
  · exact k.ac (jn_less c.sm_less (by omega))
  · exact k.rd (jn_less c.sm_less (by omega)) (by omega)
  · exact (k.sl hv k.hi).rd (jn_less (Nat.mod_lt _ (by omega)) (by omega)) (by omega)
  · exact (k.sl k.lo hv).rc
  · exact k.ac (Nat.mod_lt _ (by omega))
  · exact k.fi (rd_ok _ _ _ k.r hv)
  · exact k.wt k.ad hv (by omega)
  · exact (k.sb (tuR_ok _ _ _ k.r k.da)).wt k.ad (tuV_lt _ _ _ k.da) (by omega)
  · exact k.fi k.rb
  · exact k.pk
  · exact hd.ft
  · exact hd.ph (Nat.mod_lt _ (by omega)) (by omega)
  · split
    · exact hd.rd k.r.pc (by omega)
    · exact hd.ph (W_lt _ _ _ k.r.p (by decide)) (by omega)
  · exact hd.rd (by omega) (by omega)
  · exact k.jp (jn_less k.lo hv)
  · exact hu.ur hv
  · exact (k.sr (fl_ok (up_ok k.r) (clF_less _ hv))).pl (by omega)
  · exact (hu.sl hv k.hi).pl (by omega)
  · exact hu.cb (jn_less k.lo hv)
  · exact k.jp hpc2
  · exact k
end

end Go.Proofs.YtelmohajdmcnmaaDoor.Mi
