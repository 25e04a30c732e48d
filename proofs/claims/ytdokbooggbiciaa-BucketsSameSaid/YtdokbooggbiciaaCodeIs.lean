/-
  What code an error has.
-/
import Derived.Test.YtdokbooggbiciaaErrAs
import Derived.Test.YtdokbooggbiciaaUpd
namespace Go.Proofs.Ytdokbooggbiciaa
open Go.RowKit

theorem isErr_new {w : World} {a : Nat} {n c : Int} (h : w.heap[a]? = some (.cells #[.int .i64 n, .iface 96 (.int .i64 c)] 127 (0, 0))) : isErr w [(true, n)] (.iface 125 (.pointer (some ⟨a, 0, none⟩))) (codeV c) :=
  ⟨a, codeV c, rfl, row_lt h, h, rfl⟩
theorem isErr_upd {S : Nat → Prop} {w w' : World} {ws : List (Bool × Int)} {v r : Value} (hU : Upd S w w') (hS : ∀ k, S k → ∀ (b : Bool) (n : Int) (e : Value), w.heap[k]? ≠ some (.cells #[.int .i64 n, e] (wrapS b) (0, 0))) (h : isErr w ws v r) : isErr w' ws v r :=
  isErr_kept (fun k _ ho ⟨b, n, e, he⟩ => (hU.block k (row_lt ho) (fun hk => hS k hk b n e (he ▸ ho))).trans ho) hU.size h
end Go.Proofs.Ytdokbooggbiciaa
