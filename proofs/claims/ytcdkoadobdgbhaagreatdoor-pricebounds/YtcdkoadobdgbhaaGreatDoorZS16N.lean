/- result: the program's Linked. -/
import Derived.Test.YtcdkoadobdgbhaaGreatDoorZS16Map
import Derived.Test.YtcdkoadobdgbhaaGreatDoorPk14
import Derived.Deep.RegionWith
import Derived.Deep.RegionHeld3
import Derived.Deep.QuietTactic
namespace Go.Proofs.YtcdkoadobdgbhaaGreatDoor
open Go.RowKit Go.MapKept
open Go.ChangeMaps (setBlock)
set_option linter.unusedVariables false
set_option maxRecDepth 100000
set_option linter.unusedSimpArgs false

set_option maxHeartbeats 800000 in
theorem blockName_any (w : World) (s : Bl) :
    Calls Tryz.prog 52 #[.agg #[.string s.who, .int .i64 s.seq, .int .i64 s.zone, .bool s.buy, .int .i64 s.price, .slice s.qa s.qty.length s.qc, .int .i64 s.parent, .int .i64 s.group]] w fun e w' => e = .returned (.agg #[.string s.who, .int .i64 s.seq]) ∧ Below w.heap.size w w' := by
  obtain ⟨bwho, bseq, bzone, bbuy, bprice, bqa, bqc, bqty, bparent, bgroup⟩ := s
  simp only
  generalize bqty.length = bqn
  have b0 := ibel w (Obj.cells #[.string bwho, .int .i64 bseq, .int .i64 bzone, .bool bbuy, .int .i64 bprice, .slice bqa bqn bqc, .int .i64 bparent, .int .i64 bgroup] 80)
  have x0 := inew w (Obj.cells #[.string bwho, .int .i64 bseq, .int .i64 bzone, .bool bbuy, .int .i64 bprice, .slice bqa bqn bqc, .int .i64 bparent, .int .i64 bgroup] 80)
  have z0 := ibx x0 0 (.string bwho) rfl
  have z1 := ibx x0 1 (.int .i64 bseq) rfl
  have b1 := b0.alloc (by simp) (Obj.cells #[.string bwho, .int .i64 bseq] 107)
  have x1 := inew (w.alloc (Obj.cells #[.string bwho, .int .i64 bseq, .int .i64 bzone, .bool bbuy, .int .i64 bprice, .slice bqa bqn bqc, .int .i64 bparent, .int .i64 bgroup] 80)) (Obj.cells #[.string bwho, .int .i64 bseq] 107)
  have y0 := ibx x1 0 _ rfl
  have y1 := ibx x1 1 _ rfl
  have HY := hid (And.intro y0 y1)
  have HB := hid b1
  clear x0 b0 b1 x1 y0 y1
  go_enter Tryz.func52, Tryz.ntmps52
  go_wp2_with fail
  have hy0 := HY.out.1
  have hy1 := HY.out.2
  simp only [World.size_alloc] at hy0 hy1
  exact bodyPost_ret (v := .agg #[.string bwho, .int .i64 bseq]) (by simp [results, Tryz.results52, go_sem, hy0, hy1]) rfl ⟨rfl, HB.out⟩
end Go.Proofs.YtcdkoadobdgbhaaGreatDoor
