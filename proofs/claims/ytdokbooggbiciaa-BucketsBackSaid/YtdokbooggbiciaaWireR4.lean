/-
  wire.Next: the record that lies at a place.
-/
import Derived.Test.YtdokbooggbiciaaWireR4B
import Derived.Test.YtdokbooggbiciaaWireR4C
namespace Go.Proofs.Ytdokbooggbiciaa
open Go.RowKit

set_option maxRecDepth 100000 in
set_option maxHeartbeats 8000000 in
theorem next_any (s : ByteArray) (p : Nat) (d : Int) (w : World) (hp : p ≤ s.size) (hs : s.size ≤ 1000000000) :
    Calls Try.prog 63 #[.string s, .int .i64 (p : Int), .int .i64 d] w (NextPost s p d w) := by
  have hL : (s.data.toList.drop p).length = s.size - p := by simp
  cases hh : whd (s.data.toList.drop p) with
  | error c => exact next_headno s p c d w hp hs hh
  | ok x =>
    obtain ⟨num, ty, j⟩ := x
    have hb := whd_bounds hh
    have hpj : p + j ≤ s.size := by omega
    have hL2 : (s.data.toList.drop (p + j)).length = s.size - (p + j) := by simp
    by_cases h4 : ty = 4
    · subst h4; exact next_end s p num j d w hp hs hh
    · by_cases h3 : ty = 3
      · subst h3
        cases hg : wgroup (s.data.toList.drop (p + j)) [num] d with
        | error c => exact next_groupno s p num j c d w hp hs hh hpj hg
        | ok k =>
          have := (wgroup_bounds _ (Nat.lt_succ_self _) hg).1
          exact next_group s p num j k d w hp hs hh hpj hg (by omega)
      · cases hg : wbd (s.data.toList.drop (p + j)) ty with
        | error c => exact next_bodyno s p num ty j c d w hp hs hh h3 h4 hpj hg
        | ok y =>
          obtain ⟨n, t, k⟩ := y
          have := (wbd_bounds hg).2.1
          exact next_body s p num ty j n k t d w hp hs hh h3 h4 hpj hg (by omega)
theorem next_outside (s : ByteArray) (p : Int) (d : Int) (w : World) (hp : p < 0 ∨ (s.size : Int) < p) :
    Calls Try.prog 63 #[.string s, .int .i64 p, .int .i64 d] w fun e w' => ∃ v, e = .returned (.tuple #[rec0, .int .i64 0, v]) ∧ ErrNew w p 9 v w' := by
  rcases hp with hp | hp
  · go_enter Try.func63, Try.ntmps63
    go_wp2_with fail
    refine (at_any _ _ _ _).mono ?_; rintro e w' ⟨rfl, rfl⟩
    go_wp2_with fail
    refine body_cell3 rfl rfl (load_rec (old_two _ _ _) rfl) rfl ?_
    exact ⟨_, rfl, errNew_at' (below_new _ _) (by simp)⟩
  · have hp0 : 0 ≤ p := by omega
    go_enter Try.func63, Try.ntmps63
    go_wp2_with fail
    refine (at_any _ _ _ _).mono ?_; rintro e w' ⟨rfl, rfl⟩
    go_wp2_with fail
    refine body_cell3 rfl rfl (load_rec (old_two _ _ _) rfl) rfl ?_
    exact ⟨_, rfl, errNew_at' (below_new _ _) (by simp)⟩
end Go.Proofs.Ytdokbooggbiciaa
