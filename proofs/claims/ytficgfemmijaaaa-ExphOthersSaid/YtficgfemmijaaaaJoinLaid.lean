/-
  strings.Join: the library's contract at this program.
-/
import Derived.Shelf.Strings.Builder1
import Derived.Shelf.Strings.Builder2
import Derived.Shelf.Strings.OnBuilder
import Derived.Test.YtficgfemmijaaaaProg
namespace Go.Proofs.Ytficgfemmijaaaa
open Go.Shelf
def Try.lays156_ren : Go.Shelf.Ren := ⟨fun | 156 => 69 | 165 => 99 | 166 => 94 | 169 => 96 | 240 => 112 | 241 => 117 | 276 => 125 | 277 => 127 | n => n, fun | 31 => 67 | 9 => 9 | 3 => 3 | 4 => 4 | 0 => 0 | 20 => 20 | 72 => 164 | 76 => 165 | 70 => 162 | 37 => 86 | 75 => 35 | 127 => 192 | 164 => 207 | 5 => 5 | 80 => 143 | n => n, fun | n => n⟩
theorem Try.lays156 : Go.Proofs.Lays.n156 Try.prog Try.lays156_ren := {
 mixed := by kernel_rfl
 f156 := Try.func69.trans (congrArg some (by kernel_rfl))
 f165 := Try.func99.trans (congrArg some (by kernel_rfl))
 f166 := Try.func94.trans (congrArg some (by kernel_rfl))
 f169 := Try.func96.trans (congrArg some (by kernel_rfl))
 f240 := Try.func112.trans (congrArg some (by kernel_rfl))
 f241 := Try.func117.trans (congrArg some (by kernel_rfl))
 f276 := Try.func125.trans (congrArg some (by kernel_rfl))
 f277 := Try.func127.trans (congrArg some (by kernel_rfl))
 t0 := Try.underlying0
 a0 := Try.isAgg0
 z0 := Try.sizeOf0
 v0 := Try.zeroValue0
 t3 := Try.underlying3
 a3 := Try.isAgg3
 z3 := Try.sizeOf3
 v3 := Try.zeroValue3
 t4 := Try.underlying4
 a4 := Try.isAgg4
 z4 := Try.sizeOf4
 v4 := Try.zeroValue4
 t9 := Try.underlying9
 a9 := Try.isAgg9
 z9 := Try.sizeOf9
 v9 := Try.zeroValue9
 t20 := Try.underlying20
 a20 := Try.isAgg20
 z20 := Try.sizeOf20
 v20 := Try.zeroValue20
 t31 := Try.underlying67
 a31 := Try.isAgg67
 z31 := Try.sizeOf67
 v31 := Try.zeroValue67
 t37 := Try.underlying86
 a37 := Try.isAgg86
 z37 := Try.sizeOf86
 v37 := Try.zeroValue86
 t70 := Try.underlying162
 a70 := Try.isAgg162
 z70 := Try.sizeOf162
 v70 := Try.zeroValue162
 t72 := Try.underlying164
 a72 := Try.isAgg164
 z72 := Try.sizeOf164
 v72 := Try.zeroValue164
 t75 := Try.underlying35
 a75 := Try.isAgg35
 z75 := Try.sizeOf35
 v75 := Try.zeroValue35
 t76 := Try.underlying165
 a76 := Try.isAgg165
 z76 := Try.sizeOf165
 v76 := Try.zeroValue165
 t127 := Try.underlying192
 a127 := Try.isAgg192
 z127 := Try.sizeOf192
 v127 := Try.zeroValue192
 t164 := Try.underlying207
 a164 := Try.isAgg207
 z164 := Try.sizeOf207
 v164 := Try.zeroValue207 }
theorem Try.Builder_Extra_156 : Builder.Extra Try.prog Try.lays156_ren := {
 sizeBuilder := by kernel_rfl
 liesBuilder := by kernel_rfl
 t5 := Try.underlying5
 a5 := Try.isAgg5
 z5 := Try.sizeOf5
 v5 := Try.zeroValue5
 infoByte := by kernel_rfl
 cellsByte := by kernel_rfl
 sizeByte := by kernel_rfl
 neB5 := by decide }
open Go.RowKit in
theorem Try.strings_Join_none (a : Option Addr) (c : Nat) (sep : ByteArray) (w : World) :
  Calls Try.prog 69 #[.slice a 0 c, .string sep] w fun e w' => e = .returned (.string ⟨#[]⟩) ∧ w' = w := Any.strings_Join_none Try.lays156 Try.Builder_Extra_156 a c sep w
open Go.RowKit in
theorem Try.strings_Join (bk o c : Nat) (xs : List ByteArray) (sep : ByteArray) (w : World) (hcells : ∀ (j : Nat) x, xs[j]? = some x → w.cell? ⟨bk, o + j, none⟩ = some (.string x)) (hbk : bk < w.heap.size) (hN : xs.length ≤ 140737488355328) (hcap : xs.length ≤ c) (hlen : (Lib.join (xs.map (·.data.toList)) sep.data.toList).length ≤ 140737488355328) :
  Calls Try.prog 69 #[.slice (some ⟨bk, o, none⟩) xs.length c, .string sep] w fun e w' => e = .returned (.string ⟨(Lib.join (xs.map (·.data.toList)) sep.data.toList).toArray⟩) ∧ Below w.heap.size w w' := Any.strings_Join Try.lays156 Try.Builder_Extra_156 bk o c xs sep w hcells hbk hN hcap hlen
end Go.Proofs.Ytficgfemmijaaaa
