/-
  hyglaw3.first: what the chapter's examples fix.
-/
import Derived.Test.YtbhppchdoalahaaDoorUtf2
namespace Go.Proofs.YtbhppchdoalahaaDoor
open Go.RowKit

set_option maxRecDepth 100000 in
set_option maxHeartbeats 1000000 in
theorem first3 (w : World) : Calls Tryd.prog 10 #[] w fun e w' => e = .returned (.bool true) ∧ w = w' := by
  have h1 := Lib.hid (show ubad [97, 192] = 1 by decide)
  have h2 := Lib.hid (show uvalid [97, 195, 169] = true by decide)
  have h3 := Lib.hid (show uvalid [237, 160, 128] = false by decide)
  have h4 := Lib.hid (show ubad [] = -1 by decide)
  have h5 := Lib.hid (show ([97, 195, 169] : List UInt8).take (uwhole [97, 195, 169] 2) = [97] by decide)
  go_enter Tryd.func10, Tryd.ntmps10
  go_wp2_with fail
  refine (bad_any _ w (by decide)).mono ?_; rintro e w1 ⟨rfl, rfl⟩
  rw [show ubad _ = 1 from h1.out]
  go_wp2_with fail
  refine (valid_any _ w (by decide)).mono ?_; rintro e w1 ⟨rfl, rfl⟩
  rw [show uvalid _ = true from h2.out]
  go_wp2_with fail
  refine (valid_any _ w (by decide)).mono ?_; rintro e w1 ⟨rfl, rfl⟩
  rw [show uvalid _ = false from h3.out]
  go_wp2_with fail
  refine (bad_any _ w (by decide)).mono ?_; rintro e w1 ⟨rfl, rfl⟩
  rw [show ubad _ = -1 from h4.out]
  go_wp2_with fail
  refine (clip_any _ 2 w (by decide) (by omega) (by omega)).mono ?_; rintro e w1 ⟨rfl, rfl⟩
  rw [show List.take (uwhole (ByteArray.mk #[97, 195, 169]).data.toList 2) (ByteArray.mk #[97, 195, 169]).data.toList = [97] from h5.out]
  go_wp2
  go_ret
  exact ⟨rfl, rfl⟩

end Go.Proofs.YtbhppchdoalahaaDoor
