/-
  hyglaw19.first.
-/
import Derived.Test.YtdokbooggbiciaaDoorIdParts
import Derived.Test.YtdokbooggbiciaaDoorIdJoin
import Derived.Test.YtdokbooggbiciaaDoorTextsAny
import Derived.Test.YtdokbooggbiciaaDoorIdRefJ
import Derived.Test.YtdokbooggbiciaaDoorIdFew
namespace Go.Proofs.YtdokbooggbiciaaDoor
open Go.RowKit

theorem encs_inj : ∀ (D D' : List (List UInt8)), (encs D).length < 2 ^ 63 → encs D = encs D' → D = D'
  | [], [], _, _ => rfl
  | [], t :: T, _, h => by
    have := encs_length (t :: T)
    rw [← h] at this
    simp [encs] at this
  | t :: T, [], _, h => by
    have := encs_length (t :: T)
    rw [h] at this
    simp [encs] at this
  | t :: T, t' :: T', h1, h => by
    have e1 : encs (t :: T) = vput t.length ++ (t ++ encs T) := by unfold encs; rw [List.flatMap_cons]; unfold encT; rw [List.append_assoc]
    have e2 : encs (t' :: T') = vput t'.length ++ (t' ++ encs T') := by unfold encs; rw [List.flatMap_cons]; unfold encT; rw [List.append_assoc]
    have h2 : (encs (t' :: T')).length < 2 ^ 63 := by rw [← h]; exact h1
    rw [e1] at h1 h
    rw [e2] at h2 h
    simp only [List.length_append] at h1 h2
    have v1 := vget_mid (l := vput t'.length ++ (t' ++ encs T')) (a := []) (b := t' ++ encs T') (n := t'.length) (by omega) rfl
    have v2 := vget_mid (l := vput t.length ++ (t ++ encs T)) (a := []) (b := t ++ encs T) (n := t.length) (by omega) rfl
    rw [h] at v2
    rw [v1] at v2
    simp only [Except.ok.injEq, Prod.mk.injEq] at v2
    have hn : t'.length = t.length := v2.1
    rw [hn, List.append_cancel_left_eq] at h
    obtain ⟨h3, h4⟩ := List.append_inj h hn.symm
    rw [h3, encs_inj T T' (by omega) h4]
set_option maxRecDepth 1000000 in
set_option maxHeartbeats 8000000 in
theorem iparts_short (w : World) : Calls Tryd.prog 7 #[.string ⟨#[5, 97]⟩] w fun e w' => Below w.heap.size w w' ∧ ∃ x, e = .returned (.tuple #[.slice none 0 0, .iface 98 x]) ∧ Hid (CodeIs w' (.iface 98 x) 1) := by
  have hv : vget [5, 97] ((0 : Nat) : Int) = .ok (5, 1) := by rfl
  have HV : Hid (vget (⟨#[5, 97]⟩ : ByteArray).data.toList ((0 : Nat) : Int) = .ok (5, 1)) := Lib.hid hv
  have HG : Hid (decide ((vput 5).length < 1 - 0) = false) := Lib.hid (by decide +kernel)
  obtain ⟨s, hs⟩ : ∃ s : ByteArray, (⟨#[5, 97]⟩ : ByteArray) = s := ⟨_, rfl⟩
  have hsz : s.size = 2 := by rw [← hs]; rfl
  rw [hs] at HV ⊢
  clear hv hs
  go_enter Tryd.func7, Tryd.ntmps7
  go_wp2_with fail
  refine (snew_any s _).mono ?_; rintro e w1 ⟨rfl, hs1, hb1⟩
  obtain ⟨r, hr⟩ : ∃ r, w.heap.size = r := ⟨_, rfl⟩
  rw [hr] at hs1 ⊢
  have HR := Lib.hid hr
  have HS1 := Lib.hid hs1
  have HB1 := Lib.hid hb1
  clear hr hs1 hb1
  go_wp2_with fail
  refine wp_loop_rounds 1 ?_
  rw [rounds_succ]
  go_wp2_with fail
  refine (sleft_at r s 0 _ _ HS1.out (decide_eq_true (by omega))).mono ?_; rintro e w2 ⟨rfl, hb2⟩
  have HB2 := Lib.hid (HB1.out.trans (hb2.mono HB1.out.size))
  have HS2 := Lib.hid (HS1.out.below hb2)
  clear hb2
  go_wp2_with fail
  refine (stext_two_is r s 0 false _ _ HS2.out rfl (by omega) HV.out (by omega) (by omega) (by omega) HG).mono ?_; rintro e w3 ⟨hu3, hcase⟩
  have HB3 : Hid (Below w.heap.size w w3) := Lib.hid (HB2.out.trans (hu3.below HB2.out.size (fun k _ hk => by have := HR.out; omega)))
  clear hu3
  rcases hcase with ⟨hov, x, rfl, hci⟩ | ⟨hfit, _⟩
  · rcases hci.out with ⟨h0, _⟩ | ⟨ws, hie⟩
    · cases h0
    have HIE := Lib.hid hie
    clear hie hov
    go_wp2_with fail
    refine (errIs_code ws _ (codeV 1) 4 _ HIE.out (root_code 1)).mono ?_; rintro e w' ⟨rfl, rfl⟩
    rw [show isIt (codeV 1) 4 = false from rfl]
    go_wp2_with fail
    go_ret2
    exact ⟨HB3.out, x, rfl, hci⟩
  · omega
theorem strs_ab (w : World) (b : Nat) (X : List UInt8) (Y : List UInt8) (T : TypeId) (hb : w.heap[b]? = some (.cells #[strV X, strV Y] T (0, 0))) : Strs w (some ⟨b, 0, none⟩) [X, Y] := fun _ => by
  refine ⟨b, 0, rfl, row_lt hb, fun j hj => ?_⟩
  have : j = 0 ∨ j = 1 := by simp at hj; omega
  rcases this with rfl | rfl
  · exact row_cell hb (j := 0) rfl
  · exact row_cell hb (j := 1) rfl
set_option maxRecDepth 1000000 in
set_option maxHeartbeats 8000000 in
theorem first19 (w : World) (hg : Glob w) : Calls Tryd.prog 5 #[] w fun e w' => e = .returned (.bool true) ∧ Below w.heap.size w w' := by
  have HG := Lib.hid hg
  have HE : Hid (encs [[97], []] = [1, 97, 0]) := Lib.hid (by decide +kernel)
  clear hg
  go_enter Tryd.func5, Tryd.ntmps5
  go_wp2_with fail
  refine (iparts_any _ _ (by decide)).mono ?_; rintro e w1 ⟨hb1, ⟨L, hL, ao, cap, rfl, HS1⟩ | ⟨hno, _⟩⟩
  case inr => exact absurd HE.out.symm (hno [[97], []])
  have HB1 := Lib.hid hb1
  have HL : Hid (L = [[97], []]) := Lib.hid (by
    have h1 : encs L = encs [[97], []] := by rw [HE.out, ← hL]
    exact encs_inj _ _ (by rw [h1, HE.out]; decide) h1)
  clear hb1 hL
  obtain rfl := HL.out
  go_wp2_with fail
  refine (iparts_short _).mono ?_; rintro e w2 ⟨hb2, x, rfl, hci⟩
  have HB2 := Lib.hid (dstepd HB1.out hb2)
  have HS2 := Lib.hid (HS1.out.below hb2)
  clear hb2
  go_wp2_with fail
  have HA3 := Lib.hid (strs_ab (w2.alloc (.cells #[.string ⟨#[97]⟩, .string ⟨#[]⟩] 9)) w2.heap.size [97] [] 9 (heap_alloc_new w2 _))
  refine (ijoin_any _ 2 [[97], []] _ HA3 (by decide) (by rw [HE.out]; decide) HE).mono ?_; rintro e w3 ⟨rfl, hb3⟩
  have HB3 := Lib.hid (dstepd (HB2.out.alloc HB2.out.size _) hb3)
  have HS3 := Lib.hid ((HS2.out.below (below_new0 w2 _)).below hb3)
  have HC3 := Lib.hid ((hci.out.below (below_new0 w2 _)).below hb3)
  clear hb3
  go_wp2_with fail
  have HA4 := Lib.hid (strs_ab (w3.alloc (.cells #[.string ⟨#[97]⟩, .string ⟨#[]⟩] 9)) w3.heap.size [97] [] 9 (heap_alloc_new w3 _))
  refine (texts_any _ _ cap 2 [[97], []] [[97], []] _ (Lib.hid (HS3.out.below (below_new0 w3 _))) HA4 (by decide) (Lib.hid (decide_eq_true rfl))).mono ?_; rintro e w4 ⟨rfl, hb4⟩
  have HB4 := Lib.hid (dstepd (HB3.out.alloc HB3.out.size _) hb4)
  have HC4 := Lib.hid ((HC3.out.below (below_new0 w3 _)).below hb4)
  have hg4 := HG.out.below HB4.out
  clear hb4
  go_wp2_with fail
  refine (codeIs_any _ 1 _ HC4.out hg4).mono ?_; rintro e w5 ⟨rfl, hb5⟩
  have HB5 := Lib.hid (dstepd HB4.out hb5)
  clear hb5 hg4
  go_wp2_with fail
  go_ret
  exact ⟨rfl, HB5.out⟩
end Go.Proofs.YtdokbooggbiciaaDoor
