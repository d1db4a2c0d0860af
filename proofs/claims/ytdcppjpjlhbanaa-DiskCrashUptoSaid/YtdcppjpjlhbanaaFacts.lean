/-
  Closed facts of the program.
-/
import Derived.Test.YtdcppjpjlhbanaaRows
import Derived.Test.YtdcppjpjlhbanaaFrame
namespace Go.Proofs.Ytdcppjpjlhbanaa
namespace Facts
theorem own : ownKnob Try.prog.godebug = none := by kernel_rfl
theorem laid : laidOutB Try.prog = true := by kernel_rfl
theorem cells5 : Try.prog.cellsOf 5 = 1 := by kernel_rfl
theorem bytes5 : Try.prog.bytesOf 5 = 1 := by kernel_rfl
theorem info5 : (Try.prog.info? 5).map (fun i => (i.zero, i.size, i.bytes)) = some (some (.int .u8 0), 1, 1) := by kernel_rfl
end Facts
end Go.Proofs.Ytdcppjpjlhbanaa
