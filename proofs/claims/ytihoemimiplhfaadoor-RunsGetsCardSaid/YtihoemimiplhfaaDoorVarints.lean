/-
  hygref2.Varints: all numbers of a text.
-/
import Derived.Test.YtihoemimiplhfaaDoorSeqMath
import Derived.Test.YtihoemimiplhfaaDoorRefGet
import Derived.Test.YtihoemimiplhfaaDoorNatsApp
import Derived.Test.YtihoemimiplhfaaDoorOwnF
import Derived.Deep.LoopGhost
import Derived.Laws.OwnMore
namespace Go.Proofs.YtihoemimiplhfaaDoor
open Go.RowKit

theorem Tryd.elU64v : Elem Tryd.prog 22 40 (.int .u64 0) 1 8 := ⟨Tryd.underlying22, by kernel_rfl, by decide⟩
theorem rg_ok (s : ByteArray) (p : Int) (w : World) (hs : s.size ≤ 1000000000) {n q : Nat} (h : vget s.data.toList p = .ok (n, q)) :
    Calls Tryd.prog 70 #[.string s, .int .i64 p] w fun e w' => e = .returned (.tuple #[.int .u64 n, .int .i64 q, .int .i64 0]) ∧ w = w' :=
  (refget_any s p w (by omega)).mono fun e w' ⟨h1, h2⟩ => by rw [h] at h2; exact ⟨h2, h1⟩
theorem rg_err (s : ByteArray) (p : Int) (w : World) (hs : s.size ≤ 1000000000) {c : Nat} (h : vget s.data.toList p = .error c) :
    Calls Tryd.prog 70 #[.string s, .int .i64 p] w fun e w' => e = .returned (.tuple #[.int .u64 0, .int .i64 0, .int .i64 c]) ∧ w = w' :=
  (refget_any s p w (by omega)).mono fun e w' ⟨h1, h2⟩ => by rw [h] at h2; exact ⟨h2, h1⟩
theorem vget_codes {l : List UInt8} {p : Int} {c : Nat} (h : vget l p = .error c) : c ≠ 0 := by
  have key : ∀ (f k m : Nat) (l : List UInt8) (c : Nat), vgetGo f k m l = .error c → c ≠ 0 := by
    intro f
    induction f with
    | zero => intro k m l c h; simp [vgetGo] at h; omega
    | succ f ih =>
      intro k m l c h
      cases l with
      | nil => simp [vgetGo] at h; omega
      | cons a t =>
        rw [vgetGo] at h
        split at h
        · simp at h; omega
        · split at h
          · simp at h
          · exact ih _ _ _ _ h
  unfold vget at h
  split at h
  · simp at h; omega
  · split at h
    · simp at h
    · rename_i c' hc
      simp at h
      subst h
      exact key _ _ _ _ _ hc
def RVPost (s : ByteArray) (w : World) (e : Ending) (w' : World) : Prop :=
  Below w.heap.size w w' ∧ ((∃ xs b ao cap, rdn s.data.toList xs.length = .ok (xs, s.size, b) ∧ e = .returned (.tuple #[.slice ao xs.length cap, .int .i64 0]) ∧ Nats .u64 w' ao xs) ∨
    (∃ j xs q b c, rdn s.data.toList j = .ok (xs, q, b) ∧ q < s.size ∧ vget s.data.toList (q : Int) = .error c ∧ e = .returned (.tuple #[.slice none 0 0, .int .i64 (c : Nat)])))
set_option maxRecDepth 100000 in
set_option maxHeartbeats 4000000 in
theorem rvs_any (s : ByteArray) (w : World) (hs : s.size ≤ 1000000) :
    Calls Tryd.prog 50 #[.string s] w (RVPost s w) := by
  have HL := Lib.hid (show s.data.toList.length = s.size by simp)
  go_enter Tryd.func50, Tryd.ntmps50
  go_wp2_with fail
  go_loopg [4, 5] s.size (fun k v a wr => ∃ (q : Nat) (acc : List Nat) (b : Bool), q + k = s.size ∧ a = .int .i64 (q : Int) ∧ Hid (rdn s.data.toList acc.length = .ok (acc, q, b)) ∧ wr.ownsRow w.heap.size 40 1 v acc.length (nvals acc) ∧ Below w.heap.size w wr)
  case atStart => exact ⟨0, [], false, by omega, rfl, Lib.hid rfl, World.ownsRow_nil _ _ _ _, Below.refl _ _⟩
  case round =>
    obtain ⟨q, acc, b, hqk, rfl, HR, hown, hb⟩ := hrel
    have HB := Lib.hid hb
    have HQ := Lib.hid hqk
    have hqs : q ≤ s.size := by omega
    have hacc : acc.length ≤ q := (rdn_facts HR.out).2.1
    have hbs : w.heap.size ≤ wr.heap.size := hb.size
    clear hb hqk
    by_cases hlt : q < s.size
    · cases hn : vget s.data.toList (q : Int) with
      | error c =>
        have HV := Lib.hid hn
        have hc0 : ((c : Int) != 0) = true := by have := vget_codes hn; simp; omega
        clear hn hown
        go_wp2_with fail
        refine (rg_err s q _ (by omega) HV.out).mono ?_; rintro e w' ⟨rfl, rfl⟩
        go_wp2_with fail
        go_ret2
        exact ⟨HB.out, .inr ⟨_, _, _, _, _, HR.out, hlt, HV.out, rfl⟩⟩
      | ok x =>
        obtain ⟨n, e⟩ := x
        obtain ⟨g1, g2, g3, g4, g5⟩ := vget_inv hn
        have hq2 : e ≤ s.size := by have := HL.out; omega
        have HV := Lib.hid hn
        have HR2 := Lib.hid (rdn_step HR.out hn)
        clear hn g4 g5 g2
        go_wp2_with (first
          | (go_at_call 70; refine (rg_ok s q _ (by omega) HV.out).mono ?_; rintro e w' ⟨rfl, rfl⟩)
          | (at_builtin; refine wpList_app1 rfl _ _ 22 rfl Tryd.elU64v (by decide) hown rfl rfl rfl (by simp [Value.oneCell']) (by unfold maxLen; omega) (by omega) hbs ?_; intro v' w2 hown' hgrow))
        have HO2 : Hid (w2.ownsRow w.heap.size 40 1 v' (acc ++ [n]).length (nvals (acc ++ [n]))) := Lib.hid (by simpa [nvals] using hown')
        have HB2 : Hid (Below w.heap.size w w2) := Lib.hid (HB.out.grown hgrow hbs (fun k hk => (hown.lt _ hk).1))
        have hq := HQ.out
        go_roundg (s.size - e)
        case measure => omega
        case rel => exact ⟨e, acc ++ [n], _, by omega, by simp, Lib.hid (by rw [List.length_append]; exact HR2.out), HO2.out, HB2.out⟩
    · have hqe : q = s.size := by omega
      obtain ⟨ao, cap, rfl⟩ := own_slice hown
      have HN : Hid (Nats .u64 wr ao acc) := Lib.hid (nats_of_own hown)
      have HF : Hid (rdn s.data.toList acc.length = .ok (acc, s.size, b)) := Lib.hid (by rw [← hqe]; exact HR.out)
      clear hown
      go_wp2_with fail
      go_ret2
      exact ⟨HB.out, .inl ⟨acc, b, ao, cap, HF.out, rfl, HN.out⟩⟩
theorem rdn_prefix {l : List UInt8} {c : Nat} : ∀ (d : Nat) {xs : List Nat} {q : Nat} {b : Bool}, rdn l (c + d) = .ok (xs, q, b) → ∃ ys p e, rdn l c = .ok (ys, p, e) ∧ p + d ≤ q
  | 0, xs, q, b, h => ⟨xs, q, b, h, by omega⟩
  | d + 1, xs, q, b, h => by
    obtain ⟨ys, p, e, n, h1, h2, _, _⟩ := rdn_back (k := c + d) h
    obtain ⟨zs, r, f, h3, h4⟩ := rdn_prefix d h1
    have := (vget_inv h2).1
    exact ⟨zs, r, f, h3, by omega⟩
/-- no list of another length -/
theorem rdn_other {s : ByteArray} {m c : Nat} {xs : List Nat} {b : Bool} (h : rdn s.data.toList m = .ok (xs, s.size, b)) (hne : m ≠ c) (ys : List Nat) : rdn s.data.toList c ≠ .ok (ys, s.size, false) := fun hy => by
  rcases Nat.lt_or_ge m c with h1 | h1
  · obtain ⟨d, rfl⟩ : ∃ d, c = m + d := ⟨c - m, by omega⟩
    obtain ⟨zs, p, e, h2, h3⟩ := rdn_prefix d hy
    rw [h] at h2
    simp at h2
    omega
  · obtain ⟨d, rfl⟩ : ∃ d, m = c + d := ⟨m - c, by omega⟩
    obtain ⟨zs, p, e, h2, h3⟩ := rdn_prefix d h
    rw [hy] at h2
    simp at h2
    omega
theorem rdn_dead {s : ByteArray} {m c q cc : Nat} {xs : List Nat} {b : Bool} (h : rdn s.data.toList m = .ok (xs, q, b)) (hq : q < s.size) (hv : vget s.data.toList (q : Int) = .error cc) (ys : List Nat) : rdn s.data.toList c ≠ .ok (ys, s.size, false) := fun hy => by
  rcases Nat.lt_or_ge m c with h1 | h1
  · obtain ⟨d, rfl⟩ : ∃ d, c = m + 1 + d := ⟨c - m - 1, by omega⟩
    have h2 := rdn_more (rdn_stop h hv) d
    rw [hy] at h2
    simp at h2
  · obtain ⟨d, rfl⟩ : ∃ d, m = c + d := ⟨m - c, by omega⟩
    obtain ⟨zs, p, e, h2, h3⟩ := rdn_prefix d h
    rw [hy] at h2
    simp at h2
    omega
end Go.Proofs.YtihoemimiplhfaaDoor
