/-
  message.Add of an exemplar.
-/
import Derived.Test.YtcblkndiclkacaaDoorFmB
import Derived.Test.YtcblkndiclkacaaDoorValTake
namespace Go.Proofs.YtcblkndiclkacaaDoor
open Go.RowKit
theorem Tryd.elExL:Elem Tryd.prog 43 153 (.agg #[.slice none 0 0,.int .u64 0,.int .i64 0,.int .u64 0,.string ⟨#[]⟩,.string ⟨#[]⟩,.string ⟨#[]⟩]) 7 96:=⟨Tryd.underlying43,by kernel_rfl,by decide⟩
end Go.Proofs.YtcblkndiclkacaaDoor
