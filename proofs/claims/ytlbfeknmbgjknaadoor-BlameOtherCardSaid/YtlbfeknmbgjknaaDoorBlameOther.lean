/-
  hyglaw1.BlameOther: for every text and every two numbers the law returns true.
-/
import Derived.Test.YtlbfeknmbgjknaaDoorIs
namespace Go.Proofs.YtlbfeknmbgjknaaDoor
open Go.RowKit

theorem new_any (s : ByteArray) (w : World) :
    Calls Tryd.prog 17 #[.string s] w fun e w' => e = .returned (.iface 80 (.pointer (some ⟨w.heap.size, 0, none⟩))) ∧ w' = w.alloc (.cells #[.string s] 82) := by
  go_enter Tryd.func17, Tryd.ntmps17
  go_wp2
  go_ret
  exact ⟨rfl, rfl⟩

set_option maxRecDepth 1000000 in
set_option maxHeartbeats 1000000 in
theorem other_short (s : ByteArray) (a n : Int) (w : World) (hg : Glob w) (hs : s.size ≤ 1000) :
    Calls Tryd.prog 5 #[.string s, .int .i64 a, .int .i64 n] w fun e w' => e = .returned (.bool true) ∧ Below w.heap.size w w' := by
  have HG := Lib.hid hg
  clear hg
  go_enter Tryd.func5, Tryd.ntmps5
  go_wp2_with fail
  refine (first1 w HG.out).mono ?_; rintro e w0 ⟨rfl, hb0⟩
  have HG0 := Lib.hid (HG.out.below hb0)
  go_wp2_with fail
  refine (new_any s w0).mono ?_; rintro e w1 ⟨rfl, hw1⟩
  have hb1 : Below w0.heap.size w0 w1 := by rw [hw1]; exact below_alloc _ _
  obtain ⟨p, hp⟩ : ∃ p : Addr, p = ⟨w0.heap.size, 0, none⟩ := ⟨_, rfl⟩
  rw [← hp]
  have hE1 := Lib.hid (show isErr w1 [] (.iface 80 (.pointer (some p))) (.iface 80 (.pointer (some p))) from rfl)
  have HG1 := Lib.hid (HG0.out.below hb1)
  have HROOT : Hid (isRoot (.iface 80 (.pointer (some p)))) := Lib.hid (.inr ⟨_, rfl⟩)
  clear hw1 hp
  go_wp2_with fail
  refine (in_any n _ _ w1).mono ?_; rintro e w2 ⟨rfl, hw2⟩
  have hb2 : Below w1.heap.size w1 w2 := by rw [hw2]; exact below_alloc _ _
  have hE2 := Lib.hid (show isErr w2 [(false, n)] (.iface 37 (.pointer (some ⟨w1.heap.size, 0, none⟩))) (.iface 80 (.pointer (some p))) by rw [hw2]; exact isErr_in hE1.out n)
  have HG2 := Lib.hid (HG1.out.below hb2)
  clear hw2
  go_wp2_with fail
  refine (at_any a _ _ w2).mono ?_; rintro e w3 ⟨rfl, hw3⟩
  have hb3 : Below w2.heap.size w2 w3 := by rw [hw3]; exact below_alloc _ _
  have hE3 := Lib.hid (show isErr w3 [(true, a), (false, n)] (.iface 36 (.pointer (some ⟨w2.heap.size, 0, none⟩))) (.iface 80 (.pointer (some p))) by rw [hw3]; exact isErr_at hE2.out a)
  have HG3 := Lib.hid (HG2.out.below hb3)
  clear hw3
  go_wp2_with fail
  refine (place_any _ _ _ w3 hE3.out HROOT.out HG3.out).mono ?_; rintro e w4 ⟨rfl, hb4⟩
  rw [show placeN [(true, a), (false, n)] = a from rfl, show placeB [(true, a), (false, n)] = true from rfl]
  have HG4 := Lib.hid (HG3.out.below hb4)
  go_wp2_with fail
  refine (first1 w4 HG4.out).mono ?_; rintro e w5 ⟨rfl, hb5⟩
  have HG5 := Lib.hid (HG4.out.below hb5)
  go_wp2_with fail
  refine (code_any [] _ _ w5 rfl HROOT.out HG5.out).mono ?_; rintro e w6 ⟨rfl, hb6⟩
  rw [show codeOf (.iface 80 (.pointer (some p))) = 14 from rfl]
  have HG6 := Lib.hid (HG5.out.below hb6)
  have hE6 := Lib.hid (isErr_below (below_trans hb4 (below_trans hb5 hb6)) hE3.out)
  go_wp2_with fail
  refine (code_any _ _ _ w6 hE6.out HROOT.out HG6.out).mono ?_; rintro e w7 ⟨rfl, hb7⟩
  rw [show codeOf (.iface 80 (.pointer (some p))) = 14 from rfl]
  have HG7 := Lib.hid (HG6.out.below hb7)
  have hE7 := Lib.hid (isErr_below hb7 hE6.out)
  go_wp2_with fail
  refine (errIs_other _ _ p w7 hE7.out).mono ?_; rintro e w8 ⟨rfl, rfl⟩
  go_wp2_with fail
  refine (nums_any _ _ _ w7 hE7.out HROOT.out HG7.out (by simp)).mono ?_; rintro e w8 ⟨u, rfl, hown, hb8⟩
  have hs8 := Lib.hid (slI_of_owns (l := fieldsOf [(true, a), (false, n)]) hown)
  clear hown
  go_wp2_with fail
  have hb9 := below_alloc w8 (.cells #[.int .i64 n] 3)
  refine (ints_same u _ [n] _ (hs8.out.below hb9) (slI_one w8 n _ _) (by simp)).mono ?_; rintro e w9 ⟨rfl, hb10⟩
  go_wp2_with fail
  refine (at_nil a w9).mono ?_; rintro e w10 ⟨rfl, rfl⟩
  go_wp2_with fail
  refine (in_nil n w9).mono ?_; rintro e w10 ⟨rfl, rfl⟩
  go_wp2
  go_ret
  exact ⟨rfl, below_trans hb0 (below_trans hb1 (below_trans hb2 (below_trans hb3 (below_trans hb4 (below_trans hb5 (below_trans hb6 (below_trans hb7 (below_trans hb8 (below_trans hb9 hb10)))))))))⟩

set_option maxRecDepth 1000000 in
theorem other_long (s : ByteArray) (a n : Int) (w : World) (hg : Glob w) (hs : 1000 < s.size) :
    Calls Tryd.prog 5 #[.string s, .int .i64 a, .int .i64 n] w fun e w' => e = .returned (.bool true) ∧ Below w.heap.size w w' := by
  have HG := Lib.hid hg
  clear hg
  go_enter Tryd.func5, Tryd.ntmps5
  go_wp2_with fail
  refine (first1 w HG.out).mono ?_; rintro e w0 ⟨rfl, hb0⟩
  have HG0 := Lib.hid (HG.out.below hb0)
  go_wp2_with fail
  refine (first1 w0 HG0.out).mono ?_; rintro e w1 ⟨rfl, hb1⟩
  go_wp2
  go_ret
  exact ⟨rfl, below_trans hb0 hb1⟩
theorem other_walk (s : ByteArray) (a n : Int) (w : World) (hg : Glob w) :
    Calls Tryd.prog 5 #[.string s, .int .i64 a, .int .i64 n] w fun e w' => e = .returned (.bool true) ∧ Below w.heap.size w w' := by
  by_cases hs : s.size ≤ 1000
  · exact other_short s a n w hg hs
  · exact other_long s a n w hg (by omega)
end Go.Proofs.YtlbfeknmbgjknaaDoor
