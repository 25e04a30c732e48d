/-
  hygref.CopyNums: a row of one's own with the same numbers.
-/
import Derived.Test.YtcblkndiclkacaaDoorMsgWrite
namespace Go.Proofs.YtcblkndiclkacaaDoor
open Go.RowKit
theorem Tryd.elU64n:Elem Tryd.prog 22 40 (.int .u64 0) 1 8:=⟨Tryd.underlying22,by kernel_rfl,by decide⟩
end Go.Proofs.YtcblkndiclkacaaDoor
