/-
  hygref2.GetVarint, with every answer that it can give.
-/
/-
  The reference's fixed, Eight, Tag, Num, Fixed, Bytes, Fixeds, Varints.
-/
/-
  The reference's Fixeds, Varints.
-/
import Derived.Test.YtbdbmkmebeemoaaNums
import Derived.Test.YtbdbmkmebeemoaaMsgMath
namespace Go.Proofs.Ytbdbmkmebeemoaa
open Go.RowKit

/-- what the reference answers -/
def RefPost (r : Except Nat (Nat × Nat)) (w : World) (e : Ending) (w' : World) : Prop :=
  w = w' ∧ e = .returned (match r with
  | .ok (n, q) => .tuple #[.int .u64 n, .int .i64 q, .int .i64 0]
  | .error c => .tuple #[.int .u64 0, .int .i64 0, .int .i64 c])
theorem refPost_err {r : Except Nat (Nat × Nat)} {c : Nat} (h : r = .error c) {w : World} {c' : Int} (hc : c' = c) :
    RefPost r w (.returned (.tuple #[.int .u64 0, .int .i64 0, .int .i64 c'])) w := by
  subst h; subst hc; exact ⟨rfl, rfl⟩
theorem refPost_ok {r : Except Nat (Nat × Nat)} {n q : Nat} (h : r = .ok (n, q)) {w : World} {n' q' : Int} (hn : n' = n) (hq : q' = q) :
    RefPost r w (.returned (.tuple #[.int .u64 n', .int .i64 q', .int .i64 0])) w := by
  subst h; subst hn; subst hq; exact ⟨rfl, rfl⟩

end Go.Proofs.Ytbdbmkmebeemoaa
namespace Go.Proofs.Ytbdbmkmebeemoaa
open Go.RowKit

theorem wlit_drop (s : ByteArray) (i : Nat) (h : i < s.size) : wlit (s.data.toList.drop i) = (s[i]'h).toNat + 256 * wlit (s.data.toList.drop (i + 1)) := by
  have hl : i < s.data.toList.length := by simpa using h
  rw [List.drop_eq_getElem_cons hl]; rfl
theorem wlit_dlt (s : ByteArray) (i : Nat) (hs : s.size ≤ 8) (hi : 1 ≤ i) : wlit (s.data.toList.drop i) < 256 ^ 7 := by
  refine Nat.lt_of_lt_of_le (wlit_lt _) (Nat.pow_le_pow_right (by omega) ?_)
  simp; omega
theorem rfix_or (m : Nat) (c : UInt8) (hm : m < 256 ^ 7) : bits .or .u64 ((m : Int) * 256) (c.toNat : Int) = ((c.toNat + 256 * m : Nat) : Int) := by
  have hc := c.toNat_lt
  have e : (m : Int) * 256 = ((m * 256 : Nat) : Int) := by simp
  rw [e, u64_or_nat _ _ (by omega) (by omega), nat_join 8 (m * 256) c.toNat (by omega) (by omega)]
  congr 1
  omega
end Go.Proofs.Ytbdbmkmebeemoaa
namespace Go.Proofs.Ytbdbmkmebeemoaa
open Go.RowKit

def RFixedsPost (s : ByteArray) (w : World) (e : Ending) (w' : World) : Prop :=
  if s.size % 8 = 0 then ∃ u, e = .returned (.tuple #[u, .bool true]) ∧ w'.ownsRow w.heap.size 48 1 u (s.size / 8) (nats64 (fixs s.data.toList (s.size / 8))) ∧ Below w.heap.size w w'
  else e = .returned (.tuple #[.slice none 0 0, .bool false]) ∧ Below w.heap.size w w'
theorem rfixeds_ok {s : ByteArray} {w w' : World} {u : Value} {K : Nat} (h : s.size = 8 * K) (ho : w'.ownsRow w.heap.size 48 1 u K (nats64 (fixs s.data.toList K))) (hB : Below w.heap.size w w') : RFixedsPost s w (.returned (.tuple #[u, .bool true])) w' := by
  have e : s.size / 8 = K := by omega
  unfold RFixedsPost; rw [if_pos (by omega), e]; exact ⟨u, rfl, ho, hB⟩
def RVarsPost (s : ByteArray) (w : World) (e : Ending) (w' : World) : Prop := match wvars s.data.toList with
  | .error c => e = .returned (.tuple #[.slice none 0 0, .int .i64 (c : Int)]) ∧ Below w.heap.size w w'
  | .ok ns => ∃ u, e = .returned (.tuple #[u, .int .i64 0]) ∧ w'.ownsRow w.heap.size 48 1 u ns.length (nats64 ns) ∧ ns.length ≤ s.size ∧ Below w.heap.size w w'
theorem rvars_no {s : ByteArray} {c : Nat} {w w' : World} (h : wvars s.data.toList = .error c) (hB : Below w.heap.size w w') : RVarsPost s w (.returned (.tuple #[.slice none 0 0, .int .i64 (c : Int)])) w' := by
  unfold RVarsPost; rw [h]; exact ⟨rfl, hB⟩
theorem rvars_ok {s : ByteArray} {ns : List Nat} {w w' : World} {u : Value} (h : wvars s.data.toList = .ok ns) (ho : w'.ownsRow w.heap.size 48 1 u ns.length (nats64 ns)) (hl : ns.length ≤ s.size) (hB : Below w.heap.size w w') : RVarsPost s w (.returned (.tuple #[u, .int .i64 0])) w' := by
  unfold RVarsPost; rw [h]; exact ⟨u, rfl, ho, hl, hB⟩
end Go.Proofs.Ytbdbmkmebeemoaa

