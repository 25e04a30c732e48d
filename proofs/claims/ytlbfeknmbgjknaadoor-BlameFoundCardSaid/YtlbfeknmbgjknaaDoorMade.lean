/-
  hyglaw1.made and hyglaw1.tells over a list of wraps.
-/
import Derived.Test.YtlbfeknmbgjknaaDoorIs
import Derived.Test.YtlbfeknmbgjknaaDoorPairs
namespace Go.Proofs.YtlbfeknmbgjknaaDoor
open Go.RowKit

/-- the argument: wraps -/
def Wraps (w : World) (ao : Option Addr) (l : List (Bool × Int)) : Prop := Prs (fun x : Bool × Int => .bool x.1) (fun x => .int .i64 x.2) w ao l

set_option maxRecDepth 1000000 in
set_option maxHeartbeats 2000000 in
theorem made_some (c : Int) (ao : Option Addr) (cap : Nat) (l : List (Bool × Int)) (w : World) (hl : Wraps w ao l) (hn : l.length ≤ 200) (hc' : (c != 0) = true) :
    Calls Tryd.prog 9 #[.int .i64 c, .slice ao l.length cap] w fun e w' => ∃ v, e = .returned v ∧ isErr w' l.reverse v (codeV c) ∧ Below w.heap.size w w' := by
  have HL := Lib.hid hl
  clear hl
  go_enter Tryd.func9, Tryd.ntmps9
  go_wp2
  go_loopg [5, 6] l.length (fun k v i wr => ∃ j : Nat, j + k = l.length ∧ i = .int .i64 j ∧ isErr wr (l.take j).reverse v (codeV c) ∧ Below w.heap.size w wr)
  case atStart => exact ⟨0, by omega, rfl, rfl, Below.refl _ _⟩
  case round =>
    obtain ⟨j, hj, rfl, he, hb⟩ := hrel
    have HJ := Lib.hid hj
    clear hj
    by_cases hlt : j < l.length
    · obtain ⟨b, off, x, HX, rfl, hbl, h1, h2⟩ := (HL.out.below hb).at hlt
      obtain ⟨T, y, rfl⟩ := isErr_iface he (code_root c)
      obtain ⟨bb, n⟩ := x
      have HE := Lib.hid he
      clear he
      have hj := HJ.out
      have HT : Hid ((l.take (j + 1)).reverse = (bb, n) :: (l.take j).reverse) := Lib.hid (by rw [List.take_succ_eq_append_getElem hlt, ← HX.out]; simp)
      cases bb with
      | true =>
        go_wp2_with (go_at_call 18; refine (at_any _ _ _ _).mono ?_; rintro e w' ⟨rfl, rfl⟩)
        go_roundg (gk - 1)
        case measure => omega
        case rel => exact ⟨j + 1, by omega, by simp, by rw [HT.out]; exact isErr_at HE.out n, below_trans hb (below_alloc _ _)⟩
      | false =>
        go_wp2_with (go_at_call 19; refine (in_any _ _ _ _).mono ?_; rintro e w' ⟨rfl, rfl⟩)
        go_roundg (gk - 1)
        case measure => omega
        case rel => exact ⟨j + 1, by omega, by simp, by rw [HT.out]; exact isErr_in HE.out n, below_trans hb (below_alloc _ _)⟩
    · have HE := Lib.hid he
      clear he
      have e : l.take j = l := List.take_of_length_le (by omega)
      rw [e] at HE
      go_wp2
      go_ret
      exact ⟨_, rfl, HE.out, hb⟩

set_option maxRecDepth 1000000 in
set_option maxHeartbeats 2000000 in
theorem made_none (ao : Option Addr) (cap : Nat) (l : List (Bool × Int)) (w : World) (hl : Wraps w ao l) (hn : l.length ≤ 200) :
    Calls Tryd.prog 9 #[.int .i64 0, .slice ao l.length cap] w fun e w' => e = .returned .nilIface ∧ w = w' := by
  have HL := Lib.hid hl
  clear hl
  go_enter Tryd.func9, Tryd.ntmps9
  go_wp2
  go_loopg [5, 6] l.length (fun k v i wr => ∃ j : Nat, j + k = l.length ∧ i = .int .i64 j ∧ v = .nilIface ∧ wr = w)
  case atStart => exact ⟨0, by omega, rfl, rfl, rfl⟩
  case round =>
    obtain ⟨j, hj, rfl, rfl, rfl⟩ := hrel
    have HJ := Lib.hid hj
    clear hj
    by_cases hlt : j < l.length
    · obtain ⟨b, off, x, HX, rfl, hbl, h1, h2⟩ := HL.out.at hlt
      obtain ⟨bb, n⟩ := x
      have hj := HJ.out
      cases bb with
      | true =>
        go_wp2_with (go_at_call 18; refine (at_nil _ _).mono ?_; rintro e w' ⟨rfl, rfl⟩)
        go_roundg (gk - 1)
        case measure => omega
        case rel => exact ⟨j + 1, by omega, by simp, rfl, rfl⟩
      | false =>
        go_wp2_with (go_at_call 19; refine (in_nil _ _).mono ?_; rintro e w' ⟨rfl, rfl⟩)
        go_roundg (gk - 1)
        case measure => omega
        case rel => exact ⟨j + 1, by omega, by simp, rfl, rfl⟩
    · go_wp2
      go_ret
      exact ⟨rfl, rfl⟩

set_option maxRecDepth 1000000 in
set_option maxHeartbeats 2000000 in
theorem tells_true (c : Int) (v : Value) (ao : Option Addr) (cap : Nat) (l : List (Bool × Int)) (w : World) (hl : Wraps w ao l) (hn : l.length ≤ 200) (he : isErr w l.reverse v (codeV c)) (hg : Glob w) :
    Calls Tryd.prog 13 #[v, .int .i64 c, .slice ao l.length cap] w fun e w' => e = .returned (.bool true) ∧ Below w.heap.size w w' := by
  have HL := Lib.hid hl
  have HE := Lib.hid he
  have HG := Lib.hid hg
  clear hl he hg
  go_enter Tryd.func13, Tryd.ntmps13
  go_wp2
  go_loopg [7, 8, 9, 10] l.length (fun k at_ has u i wr => ∃ j : Nat, j + k = l.length ∧ i = .int .i64 j ∧ at_ = .int .i64 (placeN (l.take j).reverse) ∧ has = .bool (placeB (l.take j).reverse) ∧ SlI .i64 wr u (fieldsOf (l.take j).reverse) ∧ (fieldsOf (l.take j).reverse = [] → u = .slice none 0 0) ∧ Below w.heap.size w wr)
  case atStart => exact ⟨0, by omega, rfl, rfl, rfl, ⟨none, 0, rfl, fun h => absurd rfl h⟩, fun _ => rfl, Below.refl _ _⟩
  case round =>
    obtain ⟨j, hj, rfl, rfl, rfl, hu, hnil, hb⟩ := hrel
    have HJ := Lib.hid hj
    have HU := Lib.hid hu
    have HN := Lib.hid hnil
    clear hj hu hnil
    by_cases hlt : j < l.length
    · obtain ⟨b, off, x, HX, rfl, hbl, h1, h2⟩ := (HL.out.below hb).at hlt
      obtain ⟨bb, n⟩ := x
      have hj := HJ.out
      have HT : Hid ((l.take (j + 1)).reverse = (bb, n) :: (l.take j).reverse) := Lib.hid (by rw [List.take_succ_eq_append_getElem hlt, ← HX.out]; simp)
      cases bb with
      | true =>
        go_wp2
        go_roundg (gk - 1)
        case measure => omega
        case rel =>
          have e3 : fieldsOf (l.take (j + 1)).reverse = fieldsOf (l.take j).reverse := by rw [HT.out]; rfl
          exact ⟨j + 1, by omega, by simp, by rw [HT.out]; rfl, by rw [HT.out]; rfl, by rw [e3]; exact HU.out, by rw [e3]; exact HN.out, hb⟩
      | false =>
        have e1 : placeN (l.take (j + 1)).reverse = placeN (l.take j).reverse := by rw [HT.out]; rfl
        have e2 : placeB (l.take (j + 1)).reverse = placeB (l.take j).reverse := by rw [HT.out]; rfl
        have e3 : fieldsOf (l.take (j + 1)).reverse = n :: fieldsOf (l.take j).reverse := by rw [HT.out]; rfl
        have E1 := Lib.hid e1
        have E2 := Lib.hid e2
        have E3 := Lib.hid e3
        clear e1 e2 e3
        have hfl : (fieldsOf (l.take j).reverse).length ≤ 200 := by
          have aux : ∀ ws : List (Bool × Int), (fieldsOf ws).length ≤ ws.length := by
            intro ws
            induction ws with
            | nil => exact Nat.le_refl _
            | cons y ws ih => obtain ⟨b, n⟩ := y; cases b <;> simp [fieldsOf] <;> omega
          have := aux (l.take j).reverse
          simp at this
          omega
        have hbs := hb.size
        have hu2 := Lib.hid (HU.out.below (below_alloc wr (.cells #[.int .i64 n] 3)))
        go_wp2_with (at_builtin; refine wpList_app_from rfl _ _ 31 rfl Tryd.elInt (owns_one wr (.int .i64 n) 3 w.heap.size hbs) rfl hu2.out HN.out rfl (by unfold maxLen; omega) (by omega) (by simp; omega) ?_; intro v' w1 hown' hgrow)
        have HS : Hid (SlI .i64 w1 v' (fieldsOf (l.take (j + 1)).reverse)) := Lib.hid (by rw [E3.out]; refine slI_of_owns (base := w.heap.size) (e := 3) ?_; simpa [Nat.add_comm] using hown')
        have HB : Hid (Below w.heap.size w w1) := Lib.hid ((hb.alloc hbs (.cells #[.int .i64 n] 3)).grown hgrow (by simp; omega) (fun k hk => by simp [Value.ownBlock] at hk; omega))
        go_roundg (gk - 1)
        case measure => omega
        case rel =>
          exact ⟨j + 1, by omega, by simp, by rw [E1.out], by rw [E2.out], HS.out, by rw [E3.out]; simp, HB.out⟩
    · have e : l.take j = l := List.take_of_length_le (by omega)
      rw [e] at HU
      rw [e]
      have HE2 := Lib.hid (isErr_below hb HE.out)
      have HG2 := Lib.hid (HG.out.below hb)
      go_wp2_with fail
      refine (place_any _ _ _ wr HE2.out (code_root c) HG2.out).mono ?_; rintro e w2 ⟨rfl, hb2⟩
      have HE3 := Lib.hid (isErr_below hb2 HE2.out)
      have HG3 := Lib.hid (HG2.out.below hb2)
      go_wp2_with fail
      refine (code_any _ _ _ w2 HE3.out (code_root c) HG3.out).mono ?_; rintro e w3 ⟨rfl, hb3⟩
      rw [show codeOf (codeV c) = c from rfl]
      have HE4 := Lib.hid (isErr_below hb3 HE3.out)
      have HG4 := Lib.hid (HG3.out.below hb3)
      go_wp2_with fail
      refine (nums_any _ _ _ w3 HE4.out (code_root c) HG4.out (by simp; omega)).mono ?_; rintro e w4 ⟨u, rfl, hown, hb4⟩
      have HS4 := Lib.hid (slI_of_owns (l := fieldsOf l.reverse) hown)
      have HU4 := Lib.hid (HU.out.below (below_trans hb2 (below_trans hb3 hb4)))
      clear hown
      have hfl : (fieldsOf l.reverse).length ≤ 9223372036854775807 := by
        have aux : ∀ ws : List (Bool × Int), (fieldsOf ws).length ≤ ws.length := by
          intro ws
          induction ws with
          | nil => exact Nat.le_refl _
          | cons y ws ih => obtain ⟨b, n⟩ := y; cases b <;> simp [fieldsOf] <;> omega
        have := aux l.reverse
        simp at this
        omega
      go_wp2_with fail
      refine (ints_same u _ (fieldsOf l.reverse) w4 HS4.out HU4.out hfl).mono ?_; rintro e w5 ⟨rfl, hb5⟩
      go_wp2
      go_ret
      exact ⟨rfl, below_trans hb (below_trans hb2 (below_trans hb3 (below_trans hb4 hb5)))⟩
end Go.Proofs.YtlbfeknmbgjknaaDoor
