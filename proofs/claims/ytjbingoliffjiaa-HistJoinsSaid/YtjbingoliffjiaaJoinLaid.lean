/-
  strings.Join: the library's contract at this program.
-/
import Derived.Shelf.Strings.Builder1
import Derived.Shelf.Strings.Builder2
import Derived.Shelf.Strings.OnBuilder
import Derived.Test.YtjbingoliffjiaaProg
namespace Go.Proofs.Ytjbingoliffjiaa
open Go.Shelf
def Try.lays156_ren : Go.Shelf.Ren := ⟨fun | 156 => 27 | 165 => 46 | 166 => 47 | 169 => 48 | 240 => 69 | 241 => 70 | 276 => 86 | 277 => 87 | n => n, fun | 31 => 71 | 9 => 9 | 3 => 3 | 4 => 4 | 0 => 0 | 20 => 20 | 72 => 104 | 76 => 106 | 70 => 102 | 37 => 91 | 75 => 33 | 127 => 133 | 164 => 150 | 5 => 5 | 80 => 108 | n => n, fun | n => n⟩
theorem Try.lays156 : Go.Proofs.Lays.n156 Try.prog Try.lays156_ren := {
 mixed := by kernel_rfl
 f156 := Try.func27.trans (congrArg some (by kernel_rfl))
 f165 := Try.func46.trans (congrArg some (by kernel_rfl))
 f166 := Try.func47.trans (congrArg some (by kernel_rfl))
 f169 := Try.func48.trans (congrArg some (by kernel_rfl))
 f240 := Try.func69.trans (congrArg some (by kernel_rfl))
 f241 := Try.func70.trans (congrArg some (by kernel_rfl))
 f276 := Try.func86.trans (congrArg some (by kernel_rfl))
 f277 := Try.func87.trans (congrArg some (by kernel_rfl))
 t0 := Try.underlying0
 a0 := Try.isAgg0
 z0 := Try.sizeOf0
 v0 := Try.zeroValue0
 t3 := Try.underlying3
 a3 := Try.isAgg3
 z3 := Try.sizeOf3
 v3 := Try.zeroValue3
 t4 := Try.underlying4
 a4 := Try.isAgg4
 z4 := Try.sizeOf4
 v4 := Try.zeroValue4
 t9 := Try.underlying9
 a9 := Try.isAgg9
 z9 := Try.sizeOf9
 v9 := Try.zeroValue9
 t20 := Try.underlying20
 a20 := Try.isAgg20
 z20 := Try.sizeOf20
 v20 := Try.zeroValue20
 t31 := Try.underlying71
 a31 := Try.isAgg71
 z31 := Try.sizeOf71
 v31 := Try.zeroValue71
 t37 := Try.underlying91
 a37 := Try.isAgg91
 z37 := Try.sizeOf91
 v37 := Try.zeroValue91
 t70 := Try.underlying102
 a70 := Try.isAgg102
 z70 := Try.sizeOf102
 v70 := Try.zeroValue102
 t72 := Try.underlying104
 a72 := Try.isAgg104
 z72 := Try.sizeOf104
 v72 := Try.zeroValue104
 t75 := Try.underlying33
 a75 := Try.isAgg33
 z75 := Try.sizeOf33
 v75 := Try.zeroValue33
 t76 := Try.underlying106
 a76 := Try.isAgg106
 z76 := Try.sizeOf106
 v76 := Try.zeroValue106
 t127 := Try.underlying133
 a127 := Try.isAgg133
 z127 := Try.sizeOf133
 v127 := Try.zeroValue133
 t164 := Try.underlying150
 a164 := Try.isAgg150
 z164 := Try.sizeOf150
 v164 := Try.zeroValue150 }
theorem Try.Builder_Extra_156 : Builder.Extra Try.prog Try.lays156_ren := {
 sizeBuilder := by kernel_rfl
 liesBuilder := by kernel_rfl
 t5 := Try.underlying5
 a5 := Try.isAgg5
 z5 := Try.sizeOf5
 v5 := Try.zeroValue5
 infoByte := by kernel_rfl
 cellsByte := by kernel_rfl
 sizeByte := by kernel_rfl
 neB5 := by decide }
open Go.RowKit in
theorem Try.strings_Join_none (a : Option Addr) (c : Nat) (sep : ByteArray) (w : World) :
  Calls Try.prog 27 #[.slice a 0 c, .string sep] w fun e w' => e = .returned (.string ⟨#[]⟩) ∧ w' = w := Any.strings_Join_none Try.lays156 Try.Builder_Extra_156 a c sep w
open Go.RowKit in
theorem Try.strings_Join (bk o c : Nat) (xs : List ByteArray) (sep : ByteArray) (w : World) (hcells : ∀ (j : Nat) x, xs[j]? = some x → w.cell? ⟨bk, o + j, none⟩ = some (.string x)) (hbk : bk < w.heap.size) (hN : xs.length ≤ 140737488355328) (hcap : xs.length ≤ c) (hlen : (Lib.join (xs.map (·.data.toList)) sep.data.toList).length ≤ 140737488355328) :
  Calls Try.prog 27 #[.slice (some ⟨bk, o, none⟩) xs.length c, .string sep] w fun e w' => e = .returned (.string ⟨(Lib.join (xs.map (·.data.toList)) sep.data.toList).toArray⟩) ∧ Below w.heap.size w w' := Any.strings_Join Try.lays156 Try.Builder_Extra_156 bk o c xs sep w hcells hbk hN hcap hlen
end Go.Proofs.Ytjbingoliffjiaa
