/-
  The reference's group and Next.
-/
import Derived.Test.YtbhppchdoalahaaDoorWireRN2
import Derived.Test.YtbhppchdoalahaaDoorWireR5
namespace Go.Proofs.YtbhppchdoalahaaDoor
open Go.RowKit

theorem og_step {l : List UInt8} {num : Nat} {d : Int} (h1 : 1 ≤ num) (h2 : num ≤ 536870911) : opt (wgroup l [num] d) = if d < 1 then none else match wv l with
    | .error _ => none
    | .ok (t, j) => if t % 8 = 4 then (if t / 8 = num then some j else none) else match opt (wnx l (d - 1)) with
      | none => none
      | some (_, k) => (opt (wgroup (l.drop k) [num] d)).map (k + ·) := by
  rw [← rgr_eq (f := l.length + 2) (by omega) h1 h2, rgr]
  split
  · rfl
  · cases hv : wv l with
    | error c => rfl
    | ok x =>
      obtain ⟨t, j⟩ := x
      dsimp only
      split
      · rfl
      · rw [rnx_eq (by omega)]
        cases hn : wnx l (d - 1) with
        | error c => rfl
        | ok y =>
          obtain ⟨r, k⟩ := y
          show (rgr (l.length + 1) (l.drop k) num d).map (k + ·) = _
          rw [rgr_eq (by simp; omega) h1 h2]
          rfl
theorem rg_no {s : ByteArray} {p num : Nat} {d : Int} {w w' : World} {x : Int} (h : opt (wgroup (s.data.toList.drop p) [num] d) = none) (hB : Below w.heap.size w w') : RGroupPost s p num d w (.returned (.tuple #[.int .i64 x, .bool false])) w' := by
  unfold RGroupPost
  cases hw : wgroup (s.data.toList.drop p) [num] d with
  | error c => exact ⟨⟨x, rfl⟩, hB⟩
  | ok k => rw [hw] at h; cases h
theorem rg_ok {s : ByteArray} {p num k : Nat} {d : Int} {w w' : World} {x : Int} (h : opt (wgroup (s.data.toList.drop p) [num] d) = some k) (hx : x = ((p + k : Nat) : Int)) (hB : Below w.heap.size w w') : RGroupPost s p num d w (.returned (.tuple #[.int .i64 x, .bool true])) w' := by
  subst hx
  unfold RGroupPost
  cases hw : wgroup (s.data.toList.drop p) [num] d with
  | error c => rw [hw] at h; cases h
  | ok k' =>
    rw [hw] at h
    simp only [opt, Option.some.injEq] at h
    subst h
    exact ⟨rfl, hB⟩
def OgRel (s : ByteArray) (p num : Nat) (d : Int) (q : Nat) : Prop := p ≤ q ∧ q ≤ s.size ∧ opt (wgroup (s.data.toList.drop p) [num] d) = (opt (wgroup (s.data.toList.drop q) [num] d)).map (q - p + ·)
theorem og_start {s : ByteArray} {p num : Nat} {d : Int} (hp : p ≤ s.size) : OgRel s p num d p := by
  refine ⟨Nat.le_refl _, hp, ?_⟩
  rw [Nat.sub_self]
  cases opt (wgroup (s.data.toList.drop p) [num] d) <;> simp
theorem og_none {s : ByteArray} {p num q : Nat} {d : Int} (h : OgRel s p num d q) (hn : opt (wgroup (s.data.toList.drop q) [num] d) = none) : opt (wgroup (s.data.toList.drop p) [num] d) = none := by
  rw [h.2.2, hn]; rfl
theorem og_next {s : ByteArray} {p num q k : Nat} {d : Int} (h : OgRel s p num d q) (hk : q + k ≤ s.size) (hn : opt (wgroup (s.data.toList.drop q) [num] d) = (opt (wgroup ((s.data.toList.drop q).drop k) [num] d)).map (k + ·)) : OgRel s p num d (q + k) := by
  obtain ⟨a, b, c⟩ := h
  refine ⟨by omega, hk, ?_⟩
  rw [c, hn, List.drop_drop]
  cases opt (wgroup (s.data.toList.drop (q + k)) [num] d) with
  | none => rfl
  | some z => simp; omega
set_option maxRecDepth 100000 in
set_option maxHeartbeats 8000000 in
theorem rgroup_of (s : ByteArray) (p num : Nat) (d : Int) (w : World) (hp : p ≤ s.size) (hs : s.size ≤ 1000000000) (h1 : 1 ≤ num) (h2 : num ≤ 536870911) (hd : d ≤ 9223372036854775807)
    (hX : ∀ q, p ≤ q → q ≤ s.size → ∀ w, Calls Tryd.prog 21 #[.string s, .int .i64 (q : Int), .int .i64 (d - 1)] w (RNextPost s q (d - 1) w)) :
    Calls Tryd.prog 65 #[.string s, .int .i64 (p : Int), .int .i64 (num : Int), .int .i64 d] w (RGroupPost s p num d w) := by
  have HX := Lib.hid hX
  have HP := Lib.hid hp
  clear hX
  by_cases hd1 : d < 1
  · have HF : Hid (opt (wgroup (s.data.toList.drop p) [num] d) = none) := Lib.hid (by rw [og_step h1 h2, if_pos hd1])
    go_enter Tryd.func65, Tryd.ntmps65
    go_wp2_with fail
    go_ret2
    exact rg_no HF.out (Below.refl _ _)
  · have hd0 : 1 ≤ d := by omega
    clear hd1
    go_enter Tryd.func65, Tryd.ntmps65
    go_wp2_with fail
    go_loopg [1] (s.size - p) (fun g a wr => ∃ q : Nat, q + g = s.size ∧ a = .int .i64 (q : Int) ∧ OgRel s p num d q ∧ Below w.heap.size w wr)
    case atStart => exact ⟨p, by have := HP.out; omega, rfl, og_start HP.out, Below.refl _ _⟩
    case round =>
      obtain ⟨q, hqg, rfl, hrel, hb⟩ := hrel
      have HR := Lib.hid hrel
      have HB := Lib.hid hb
      have HQ := Lib.hid hqg
      have hqs : q ≤ s.size := hrel.2.1
      have hpq : p ≤ q := hrel.1
      have HST := Lib.hid (og_step (l := s.data.toList.drop q) (d := d) h1 h2)
      clear hrel hb hqg
      cases hv : wv (s.data.toList.drop q) with
      | error c =>
        have HF := Lib.hid (og_none HR.out (by rw [HST.out, if_neg (by omega), hv]))
        have HG := Lib.hid (vget_no (p := q) (by simpa using hqs) hv)
        have hc0 : ((c : Int) != 0) = true := by have := wv_err hv; simp; omega
        clear hv
        go_wp2_with fail
        refine (rget_err s q _ (by omega) HG.out).mono ?_; rintro e w' ⟨rfl, rfl⟩
        go_wp2_with fail
        go_ret2
        exact rg_no HF.out HB.out
      | ok x =>
        obtain ⟨t, j⟩ := x
        have HG := Lib.hid (vget_ok (p := q) (by simpa using hqs) hv)
        have hvb := wv_bounds hv
        have hqj : q + j ≤ s.size := by have := hvb.2.1; simp at this; omega
        have ht : t < 18446744073709551616 := hvb.2.2.2
        obtain ⟨ty, hty⟩ : ∃ ty, ty = t % 8 := ⟨_, rfl⟩
        obtain ⟨m, hm⟩ : ∃ m, m = t / 8 := ⟨_, rfl⟩
        have ha := u64_and7 t ht
        rw [← hty] at ha
        have hsh : (t : Int) / 8 = (m : Int) := by omega
        have hST2 := HST.out
        rw [if_neg (by omega), hv] at hST2
        dsimp only at hST2
        rw [← hty, ← hm] at hST2
        have HS2 := Lib.hid hST2
        have hty8 : ty < 8 := by omega
        clear hv hvb hST2 hty hm
        by_cases h4 : ty = 4
        · subst h4
          by_cases hmn : m = num
          · have HF : Hid (opt (wgroup (s.data.toList.drop p) [num] d) = some (q - p + j)) := Lib.hid (by rw [HR.out.2.2, HS2.out, if_pos rfl, if_pos hmn]; rfl)
            have heq : ((m : Int) == (num : Int)) = true := by simp; omega
            clear hmn
            go_wp2_with fail
            refine (rget_ok s q _ (by omega) HG.out).mono ?_; rintro e w' ⟨rfl, rfl⟩
            go_wp2_with fail
            go_ret2
            exact rg_ok HF.out (by simp; omega) HB.out
          · have HF := Lib.hid (og_none HR.out (by rw [HS2.out, if_pos rfl, if_neg hmn]))
            have heq : ((m : Int) == (num : Int)) = false := by simp; omega
            clear hmn
            go_wp2_with fail
            refine (rget_ok s q _ (by omega) HG.out).mono ?_; rintro e w' ⟨rfl, rfl⟩
            go_wp2_with fail
            go_ret2
            exact rg_no HF.out HB.out
        · have h4' : ((ty : Int) == 4) = false := by simp; omega
          cases hn : wnx (s.data.toList.drop q) (d - 1) with
          | error c =>
            have HN := Lib.hid hn
            have HF := Lib.hid (og_none HR.out (by rw [HS2.out, if_neg h4, hn]; rfl))
            clear hn h4
            go_wp2_with fail
            refine (rget_ok s q _ (by omega) HG.out).mono ?_; rintro e w' ⟨rfl, rfl⟩
            go_wp2_with fail
            refine (HX.out q hpq hqs _).mono ?_; intro e w1 hpost
            unfold RNextPost at hpost
            rw [HN.out] at hpost
            obtain ⟨rfl, hb1⟩ := hpost
            have HB1 := Lib.hid (below_step (below_step HB.out hb1) (below_new _ (.cells #[.int .i64 0, .int .i64 0, .int .u64 0, .string ⟨#[]⟩, .string ⟨#[]⟩] 39)))
            clear hb1
            unfold rec0
            go_wp2_with fail
            go_ret2
            exact rg_no HF.out HB1.out
          | ok y =>
            obtain ⟨r, k⟩ := y
            have HN := Lib.hid hn
            have hwl := wnx_len hn
            have hqk : q + k ≤ s.size := by have := hwl.2; simp at this; omega
            have hk2 : 2 ≤ k := hwl.1
            have HG2 := Lib.hid (og_next HR.out hqk (by rw [HS2.out, if_neg h4, hn]; rfl))
            clear hn h4 hwl
            go_wp2_with fail
            refine (rget_ok s q _ (by omega) HG.out).mono ?_; rintro e w' ⟨rfl, rfl⟩
            go_wp2_with fail
            refine (HX.out q hpq hqs _).mono ?_; intro e w1 hpost
            unfold RNextPost at hpost
            rw [HN.out] at hpost
            obtain ⟨rfl, hb1⟩ := hpost
            have HB1 := Lib.hid (below_step HB.out hb1)
            clear hb1
            unfold recV
            go_wp2_with fail
            have hq := HQ.out
            go_roundg (s.size - (q + k))
            case measure => omega
            case rel => exact ⟨q + k, by omega, by simp, HG2.out, below_step HB1.out (below_new _ _)⟩
end Go.Proofs.YtbhppchdoalahaaDoor
