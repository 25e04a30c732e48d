/-
  hyglaw8.Wrong; hygref8.Fields, Takes, Unknown.
-/
import Derived.Test.YtbdbmkmebeemoaaMsgMath
import Derived.Test.YtbdbmkmebeemoaaWireRA
import Derived.Test.YtbdbmkmebeemoaaWireRL
import Derived.Test.YtbdbmkmebeemoaaMsgRead
import Derived.Test.YtbdbmkmebeemoaaGet
import Derived.Test.YtbdbmkmebeemoaaMsgWrite
import Derived.Test.YtbdbmkmebeemoaaWireRP
import Derived.Test.YtbdbmkmebeemoaaOrd
import Derived.Test.YtbdbmkmebeemoaaNatsApp
namespace Go.Proofs.Ytbdbmkmebeemoaa
open Go.RowKit

/-- the records of a message, or its error -/
def wfields (l : List UInt8) (d : Int) : Except Nat (List Rec) := if d < 0 then .error 6 else wall l d
/-- has a table (numbers times 8 and types) a record? -/
def rtk (tab : List Nat) (r : Rec) : Bool := tab.any fun t => decide (t / 8 = r.num ∧ t % 8 = r.ty)
theorem rtk_hit {tab : List Nat} {r : Rec} {j : Nat} (h : j < tab.length) (h1 : tab[j] / 8 = r.num) (h2 : tab[j] % 8 = r.ty) : rtk tab r = true := by
  unfold rtk
  rw [List.any_eq_true]
  exact ⟨tab[j], List.getElem_mem h, decide_eq_true ⟨h1, h2⟩⟩
theorem rtk_no {tab : List Nat} {r : Rec} (h : ∀ m (hm : m < tab.length), ¬ (tab[m] / 8 = r.num ∧ tab[m] % 8 = r.ty)) : rtk tab r = false := by
  unfold rtk
  rw [List.any_eq_false]
  intro x hx
  obtain ⟨m, hm, rfl⟩ := List.getElem_of_mem hx
  simpa using h m hm
theorem raws_count : ∀ (rs : List Rec), (∀ r ∈ rs, 2 ≤ r.raw.length) → 2 * rs.length ≤ (rs.flatMap Rec.raw).length
  | [], _ => by simp
  | r :: rs, h => by
    have h1 := h r (List.mem_cons_self ..)
    have h2 := raws_count rs fun x hx => h x (List.mem_cons_of_mem _ hx)
    rw [List.flatMap_cons, List.length_append, List.length_cons]
    omega
theorem wall_length {l : List UInt8} {d : Int} {rs : List Rec} (h : wall l d = .ok rs) : rs.length ≤ l.length := by
  have h1 := wall_raws l.length (Nat.le_refl _) h
  have h2 := raws_count rs h1.2
  rw [h1.1] at h2
  omega
end Go.Proofs.Ytbdbmkmebeemoaa

