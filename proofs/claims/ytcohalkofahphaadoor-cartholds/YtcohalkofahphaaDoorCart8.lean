/- What hotRows does; a cartridge that is built. -/
import Derived.Test.YtcohalkofahphaaDoorCart7
import Derived.Test.YtcohalkofahphaaDoorRefFit
set_option linter.unusedSimpArgs false
set_option linter.unusedVariables false
namespace Go.Proofs.YtcohalkofahphaaDoor.Ca
open Go.RowKit Img

/-- The hot rows of a tag. -/
def hotT (l : List UInt8) : Int × Int × Int × Int × Int × Int :=
  if l = [70, 56] ∨ l = [70, 56, 83, 67] then (4088, 2, 0, 0, 0, 0) else if l = [70, 54] ∨ l = [70, 54, 83, 67] then (4086, 4, 0, 0, 0, 0)
  else if l = [70, 52] ∨ l = [70, 52, 83, 67] then (4084, 8, 0, 0, 0, 0) else if l = [69, 48] then (4064, 8, 4072, 8, 4080, 8) else (0, 0, 0, 0, 0, 0)
def hotV (x : Int × Int × Int × Int × Int × Int) : Value := .agg #[.int .u16 x.1, .int .u16 x.2.1, .int .u16 x.2.2.1, .int .u16 x.2.2.2.1, .int .u16 x.2.2.2.2.1, .int .u16 x.2.2.2.2.2]

set_option maxRecDepth 100000 in
set_option maxHeartbeats 4000000 in
theorem hotRows_ (tag : ByteArray) (m : Mp) (w : World) (hf : find tag = some m) : Calls Tryd.prog 37 #[.string tag] w fun e w' => e = .returned (hotV (hotT tag.toList)) ∧ Below w.heap.size w w' := by
  rcases tag_cases tag with ⟨m', hf', hm, ht⟩ | ⟨hf', _⟩
  · clear hf hf'
    simp only [mps, List.mem_cons, List.not_mem_nil, or_false] at hm
    rcases hm with rfl | rfl | rfl | rfl | rfl | rfl | rfl | rfl | rfl | rfl | rfl
    all_goals
      simp at ht
      have HT : Hid (tag.toList = _) := ht
      go_enter Tryd.func37, Tryd.ntmps37
      go_wp2
      go_returns
      rw [HT.out]
      exact ⟨rfl, by go_grown⟩
  · rw [hf] at hf'; cases hf'

theorem infoCart' : ∃ it, Tryd.prog.info? 85 = some it ∧ it.zero = some (.agg zct.cells.toArray) := by
  have h : (Tryd.prog.info? 85).map (·.zero) = some (some (.agg zct.cells.toArray)) := by kernel_rfl
  obtain ⟨i, h1, h2⟩ := Option.map_eq_some_iff.1 h
  exact ⟨i, h1, h2⟩
theorem built_fill (parts : List (Nat × Value)) : Tryd.prog.built 85 parts = Instr.fill (#[(0, 9), (9, 1), (10, 6), (16, 1), (17, 128)][·]?) zct.cells.toArray parts := by
  obtain ⟨it, h1, h2⟩ := infoCart'
  unfold Program.built
  rw [h1, Tryd.underlying85]
  simp only [h2]
  generalize hp : List.mapM (m := Option) _ _ = o
  have : o = some [(0, 9), (9, 1), (10, 6), (16, 1), (17, 128)] := by rw [← hp]; kernel_rfl
  rw [this]
  rfl

theorem built_cart (c : Ct) (h8 : c.ex.length = 128) (hs : c.stack = false) :
    Tryd.prog.built 85 [(0, .agg #[.string c.img, .int .i64 c.banks, .int .i64 c.size, .int .i64 c.win, .bool c.extra, .int .i64 c.s0, .int .i64 c.s1, .int .i64 c.s2, .int .i64 c.s3]), (1, .string c.tag), (2, .agg #[.int .u16 c.h0, .int .u16 c.g0, .int .u16 c.h1, .int .u16 c.g1, .int .u16 c.h2, .int .u16 c.g2]), (4, .agg (bytes c.ex).toArray)] = some c.cells.toArray := by
  have hl : (bytes zer).length = 128 := by rw [bytes_length]; rfl
  rw [built_fill]
  have hz : zct.cells = .string ByteArray.empty :: .int .i64 0 :: .int .i64 0 :: .int .i64 0 :: .bool false :: .int .i64 0 :: .int .i64 0 :: .int .i64 0 :: .int .i64 0 :: .string ByteArray.empty :: .int .u16 0 :: .int .u16 0 :: .int .u16 0 :: .int .u16 0 :: .int .u16 0 :: .int .u16 0 :: .bool false :: bytes zer := rfl
  rw [hz]
  rw [fill_step (L := [.string c.img, .int .i64 c.banks, .int .i64 c.size, .int .i64 c.win, .bool c.extra, .int .i64 c.s0, .int .i64 c.s1, .int .i64 c.s2, .int .i64 c.s3]) (off := 0) (size := 9) _ rfl rfl rfl (by simp)]
  simp only [List.take_zero, List.nil_append, List.drop_succ_cons, List.drop_zero, List.cons_append, Nat.zero_add]
  rw [fill_step (L := [.string c.tag]) (off := 9) (size := 1) _ rfl rfl rfl (by simp)]
  simp only [List.take_succ_cons, List.take_zero, List.nil_append, List.drop_succ_cons, List.drop_zero, List.cons_append, Nat.reduceAdd]
  rw [fill_step (L := [.int .u16 c.h0, .int .u16 c.g0, .int .u16 c.h1, .int .u16 c.g1, .int .u16 c.h2, .int .u16 c.g2]) (off := 10) (size := 6) _ rfl rfl rfl (by simp)]
  simp only [List.take_succ_cons, List.take_zero, List.nil_append, List.drop_succ_cons, List.drop_zero, List.cons_append, Nat.reduceAdd]
  rw [fill_step (L := bytes c.ex) (off := 17) (size := 128) _ rfl rfl (by rw [bytes_length, h8]) (by simp [hl])]
  simp only [List.take_succ_cons, List.take_zero, List.nil_append, List.drop_succ_cons, List.drop_zero, List.cons_append, Nat.reduceAdd]
  rw [List.drop_eq_nil_of_le (by omega), List.append_nil, Instr.fill]
  unfold Ct.cells
  rw [hs]
  rfl

theorem run_cart (c : Ct) (h8 : c.ex.length = 128) (hs : c.stack = false) (w : World) :
    (Instr.build 85 #[(0, .agg #[.string c.img, .int .i64 c.banks, .int .i64 c.size, .int .i64 c.win, .bool c.extra, .int .i64 c.s0, .int .i64 c.s1, .int .i64 c.s2, .int .i64 c.s3]), (1, .string c.tag), (2, .agg #[.int .u16 c.h0, .int .u16 c.g0, .int .u16 c.h1, .int .u16 c.g1, .int .u16 c.h2, .int .u16 c.g2]), (4, .agg (bytes c.ex).toArray)]).run Tryd.prog w = .ok (.agg c.cells.toArray) w :=
  run_build w _ _ _ (built_cart c h8 hs)

end Go.Proofs.YtcohalkofahphaaDoor.Ca
