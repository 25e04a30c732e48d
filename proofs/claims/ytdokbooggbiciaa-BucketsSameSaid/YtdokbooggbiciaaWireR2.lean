/-
  wire.body: what it reads.
-/
import Derived.Test.YtdokbooggbiciaaWireR1
import Derived.Deep.QuietTactic
namespace Go.Proofs.Ytdokbooggbiciaa
open Go.RowKit

theorem results_tmp4 {fn : Func} {t u v x : Tmp} (h : fn.results = #[.tmp t, .tmp u, .tmp v, .tmp x]) (tmps : Array Value) (P : Program) (w : World) :
    (results fn tmps).run P w = .ok (.tuple #[tmps.getD t undef, tmps.getD u undef, tmps.getD v undef, tmps.getD x undef]) w := by
  simp [results, h]
theorem below_drewN0 (w : World) (n : Nat) : Below w.heap.size w (w.drewN n) := (Below.refl _ _).trans ⟨rfl, rfl, rfl, Nat.le_refl _, fun _ _ => rfl⟩
theorem ext_list (s : ByteArray) (a b : Nat) : (s.extract a b).data.toList = (s.data.toList.drop a).take (b - a) := by
  rw [ByteArray.data_extract, Array.toList_extract, List.extract_eq_take_drop]
theorem ext_str (s : ByteArray) (a b : Nat) : s.extract a b = ByteArray.mk ((s.data.toList.drop a).take (b - a)).toArray := by
  apply ByteArray.ext
  apply Array.toList_inj.1
  rw [ext_list]
def BodyPost (s : ByteArray) (p ty : Nat) (w : World) (e : Ending) (w' : World) : Prop := match wbd (s.data.toList.drop p) ty with
  | .error c => ∃ v, e = .returned (.tuple #[.int .u64 0, .string ⟨#[]⟩, .int .i64 0, v]) ∧ ∃ q : Nat, q ≤ s.size ∧ ErrNew w (q : Int) (c : Int) v w'
  | .ok (n, t, j) => e = .returned (.tuple #[.int .u64 (n : Int), .string ⟨t.toArray⟩, .int .i64 ((p + j : Nat) : Int), .nilIface]) ∧ Below w.heap.size w w'
theorem body_no {s : ByteArray} {p ty c : Nat} {w w' : World} {v : Value} (h : wbd (s.data.toList.drop p) ty = .error c) (q : Nat) (hq : q ≤ s.size) (hE : ErrNew w (q : Int) (c : Int) v w') : BodyPost s p ty w (.returned (.tuple #[.int .u64 0, .string ⟨#[]⟩, .int .i64 0, v])) w' := by
  unfold BodyPost; rw [h]; exact ⟨v, rfl, q, hq, hE⟩
theorem body_ok {s : ByteArray} {p ty n j : Nat} {t : List UInt8} {w w' : World} {N Q : Int} {T : ByteArray} (h : wbd (s.data.toList.drop p) ty = .ok (n, t, j)) (hN : N = n) (hT : T = ⟨t.toArray⟩) (hQ : Q = ((p + j : Nat) : Int)) (hB : Below w.heap.size w w') :
    BodyPost s p ty w (.returned (.tuple #[.int .u64 N, .string T, .int .i64 Q, .nilIface])) w' := by
  subst hN; subst hT; subst hQ; unfold BodyPost; rw [h]; exact ⟨rfl, hB⟩
theorem wbd_fix8 {l : List UInt8} (h : 8 ≤ l.length) : wbd l 1 = .ok (wlit (l.take 8), [], 8) := by unfold wbd; rw [if_pos rfl, if_neg (by omega)]
theorem wbd_fix8no {l : List UInt8} (h : l.length < 8) : wbd l 1 = .error 1 := by unfold wbd; rw [if_pos rfl, if_pos h]
theorem wbd_fix4 {l : List UInt8} (h : 4 ≤ l.length) : wbd l 5 = .ok (wlit (l.take 4), [], 4) := by unfold wbd; rw [if_neg (by decide), if_pos rfl, if_neg (by omega)]
theorem wbd_fix4no {l : List UInt8} (h : l.length < 4) : wbd l 5 = .error 1 := by unfold wbd; rw [if_neg (by decide), if_pos rfl, if_pos h]
theorem wbd_num {l : List UInt8} {n j : Nat} (h : wv l = .ok (n, j)) : wbd l 0 = .ok (n, [], j) := by unfold wbd; rw [if_neg (by decide), if_neg (by decide), h]; rfl
theorem wbd_numno {l : List UInt8} {c : Nat} (h : wv l = .error c) : wbd l 0 = .error c := by unfold wbd; rw [if_neg (by decide), if_neg (by decide), h]
theorem wbd_lenno {l : List UInt8} {c : Nat} (h : wv l = .error c) : wbd l 2 = .error c := by unfold wbd; rw [if_neg (by decide), if_neg (by decide), h]
theorem wbd_len {l : List UInt8} {n j : Nat} (h : wv l = .ok (n, j)) (hl : n ≤ l.length - j) : wbd l 2 = .ok (0, (l.drop j).take n, j + n) := by
  unfold wbd; rw [if_neg (by decide), if_neg (by decide), h]; dsimp only; rw [if_neg (by decide), if_neg (by omega)]
theorem wbd_lenlong {l : List UInt8} {n j : Nat} (h : wv l = .ok (n, j)) (hl : l.length - j < n) : wbd l 2 = .error 1 := by
  unfold wbd; rw [if_neg (by decide), if_neg (by decide), h]; dsimp only; rw [if_neg (by decide), if_pos hl]
set_option maxRecDepth 100000 in
set_option maxHeartbeats 2000000 in
theorem body_fix8 (s : ByteArray) (p : Nat) (w : World) (hp : p ≤ s.size) (hs : s.size ≤ 1000000000) :
    Calls Try.prog 77 #[.string s, .int .i64 (p : Int), .int .i64 1] w (BodyPost s p 1 w) := by
  have HL := Lib.hid (show (s.data.toList.drop p).length = s.size - p by simp)
  by_cases h : s.size - p < 8
  · have HF := Lib.hid (wbd_fix8no (l := s.data.toList.drop p) (by rw [HL.out]; exact h))
    go_enter Try.func77, Try.ntmps77
    go_wp2_with fail
    refine (at_any _ _ _ _).mono ?_; rintro e w' ⟨rfl, rfl⟩
    go_wp2_with fail
    refine bodyPost_ret (results_tmp4 rfl _ _ _) rfl ?_
    exact body_no HF.out p hp (errNew_at (Below.refl _ _))
  · have h' : p + 8 ≤ s.size := by omega
    have HF := Lib.hid (wbd_fix8 (l := s.data.toList.drop p) (by rw [HL.out]; omega))
    have HX : Hid ((s.extract p (p + 8)).data.toList = (s.data.toList.drop p).take 8) := Lib.hid (by rw [ext_list]; simp)
    have hxs : (s.extract p (p + 8)).size ≤ 8 := by simp; omega
    clear h
    go_enter Try.func77, Try.ntmps77
    go_wp2_with fail
    refine (little_any (s.extract p (p + 8)) _ hxs).mono ?_; rintro e w' ⟨rfl, rfl⟩
    rw [HX.out]
    go_wp2_with fail
    refine bodyPost_ret (results_tmp4 rfl _ _ _) rfl ?_
    exact body_ok HF.out rfl rfl (by simp) (Below.refl _ _)
set_option maxRecDepth 100000 in
set_option maxHeartbeats 2000000 in
theorem body_fix4 (s : ByteArray) (p : Nat) (w : World) (hp : p ≤ s.size) (hs : s.size ≤ 1000000000) :
    Calls Try.prog 77 #[.string s, .int .i64 (p : Int), .int .i64 5] w (BodyPost s p 5 w) := by
  have HL := Lib.hid (show (s.data.toList.drop p).length = s.size - p by simp)
  by_cases h : s.size - p < 4
  · have HF := Lib.hid (wbd_fix4no (l := s.data.toList.drop p) (by rw [HL.out]; exact h))
    go_enter Try.func77, Try.ntmps77
    go_wp2_with fail
    refine (at_any _ _ _ _).mono ?_; rintro e w' ⟨rfl, rfl⟩
    go_wp2_with fail
    refine bodyPost_ret (results_tmp4 rfl _ _ _) rfl ?_
    exact body_no HF.out p hp (errNew_at (Below.refl _ _))
  · have h' : p + 4 ≤ s.size := by omega
    have HF := Lib.hid (wbd_fix4 (l := s.data.toList.drop p) (by rw [HL.out]; omega))
    have HX : Hid ((s.extract p (p + 4)).data.toList = (s.data.toList.drop p).take 4) := Lib.hid (by rw [ext_list]; simp)
    have hxs : (s.extract p (p + 4)).size ≤ 8 := by simp; omega
    clear h
    go_enter Try.func77, Try.ntmps77
    go_wp2_with fail
    refine (little_any (s.extract p (p + 4)) _ hxs).mono ?_; rintro e w' ⟨rfl, rfl⟩
    rw [HX.out]
    go_wp2_with fail
    refine bodyPost_ret (results_tmp4 rfl _ _ _) rfl ?_
    exact body_ok HF.out rfl rfl (by simp) (Below.refl _ _)
set_option maxRecDepth 100000 in
set_option maxHeartbeats 2000000 in
theorem body_num (s : ByteArray) (p : Nat) (w : World) (hp : p ≤ s.size) (hs : s.size ≤ 1000000000) :
    Calls Try.prog 77 #[.string s, .int .i64 (p : Int), .int .i64 0] w (BodyPost s p 0 w) := by
  have HL := Lib.hid (show s.data.toList.length = s.size by simp)
  cases hv : wv (s.data.toList.drop p) with
  | error c =>
    have HF := Lib.hid (wbd_numno hv)
    have HV := Lib.hid (vget_no (by have := HL.out; omega) hv)
    clear hv
    go_enter Try.func77, Try.ntmps77
    go_wp2_with fail
    refine (get_err s p _ (by unfold maxLen; omega) HV.out).mono ?_; rintro e w' ⟨rfl, rfl⟩
    go_wp2_with fail
    refine bodyPost_ret (results_tmp4 rfl _ _ _) rfl ?_
    exact body_no HF.out p hp (errNew_at (Below.refl _ _))
  | ok x =>
    obtain ⟨t, j⟩ := x
    have HF := Lib.hid (wbd_num hv)
    have HV := Lib.hid (vget_ok (by have := HL.out; omega) hv)
    clear hv
    go_enter Try.func77, Try.ntmps77
    go_wp2_with fail
    refine (get_ok s p _ (by unfold maxLen; omega) HV.out).mono ?_; rintro e w' ⟨rfl, rfl⟩
    go_wp2_with fail
    refine bodyPost_ret (results_tmp4 rfl _ _ _) rfl ?_
    exact body_ok HF.out rfl rfl (by simp) (Below.refl _ _)
set_option maxRecDepth 100000 in
set_option maxHeartbeats 2000000 in
theorem body_len (s : ByteArray) (p : Nat) (w : World) (hp : p ≤ s.size) (hs : s.size ≤ 1000000000) :
    Calls Try.prog 77 #[.string s, .int .i64 (p : Int), .int .i64 2] w (BodyPost s p 2 w) := by
  have HL := Lib.hid (show s.data.toList.length = s.size by simp)
  cases hv : wv (s.data.toList.drop p) with
  | error c =>
    have HF := Lib.hid (wbd_lenno hv)
    have HV := Lib.hid (vget_no (by have := HL.out; omega) hv)
    clear hv
    go_enter Try.func77, Try.ntmps77
    go_wp2_with fail
    refine (get_err s p _ (by unfold maxLen; omega) HV.out).mono ?_; rintro e w' ⟨rfl, rfl⟩
    go_wp2_with fail
    refine bodyPost_ret (results_tmp4 rfl _ _ _) rfl ?_
    exact body_no HF.out p hp (errNew_at (Below.refl _ _))
  | ok x =>
    obtain ⟨t, j⟩ := x
    have HV := Lib.hid (vget_ok (by have := HL.out; omega) hv)
    have HB := Lib.hid (wv_bounds hv)
    have ht : t < 18446744073709551616 := HB.out.2.2.2
    obtain ⟨q, hq⟩ : ∃ q, q = p + j := ⟨_, rfl⟩
    have hqs : q ≤ s.size := by have := HB.out.2.1; simp at this; have := HL.out; omega
    have hu : IntKind.u64.wrap ((s.size : Int) - (q : Int)) = (s.size : Int) - q := u64_wrap_id (by omega) (by omega)
    rw [← hq] at HV
    have HQ := Lib.hid hq
    have HFL : s.size - q < t → Hid (wbd (s.data.toList.drop p) 2 = .error 1) := fun hl => Lib.hid (wbd_lenlong hv (by simp; have := HL.out; omega))
    have HFO : q + t ≤ s.size → Hid (wbd (s.data.toList.drop p) 2 = .ok (0, ((s.data.toList.drop p).drop j).take t, j + t)) := fun hl => Lib.hid (wbd_len hv (by simp; have := HL.out; omega))
    clear hq hv
    by_cases hl : s.size - q < t
    · have HF := HFL hl
      clear HFL HFO
      go_enter Try.func77, Try.ntmps77
      go_wp2_with fail
      refine (get_ok s p _ (by unfold maxLen; omega) HV.out).mono ?_; rintro e w' ⟨rfl, rfl⟩
      go_wp2_with fail
      refine (at_any _ _ _ _).mono ?_; rintro e w' ⟨rfl, rfl⟩
      go_wp2_with fail
      refine bodyPost_ret (results_tmp4 rfl _ _ _) rfl ?_
      exact body_no HF.out q hqs (errNew_at (Below.refl _ _))
    · have hl' : q + t ≤ s.size := by omega
      have HF := HFO hl'
      have hw1 : IntKind.i64.wrap (t : Int) = t := i64_wrap_id (by omega) (by omega)
      have hw2 : IntKind.i64.wrap ((q : Int) + (t : Int)) = (q : Int) + t := i64_wrap_id (by omega) (by omega)
      have hb1 : (0 : Int) ≤ (q : Int) := by omega
      have hb2 : (q : Int) ≤ (q : Int) + (t : Int) := by omega
      have hb3 : (q : Int) + (t : Int) ≤ (s.size : Int) := by omega
      clear hl HFL HFO
      go_enter Try.func77, Try.ntmps77
      go_wp2_with fail
      refine (get_ok s p _ (by unfold maxLen; omega) HV.out).mono ?_; rintro e w' ⟨rfl, rfl⟩
      go_wp2_with fail
      go_quiet (fail)
      go_wp2_with fail
      refine bodyPost_ret (results_tmp4 rfl _ _ _) rfl ?_
      exact body_ok HF.out rfl (by rw [ext_str, show ((q : Int) + (t : Int)).toNat = q + t by omega, HQ.out, List.drop_drop, Nat.add_sub_cancel_left]) (by rw [HQ.out]; simp; omega) (below_drewN0 _ _)
theorem body_any (s : ByteArray) (p ty : Nat) (w : World) (hp : p ≤ s.size) (hs : s.size ≤ 1000000000) (ht : ty = 0 ∨ ty = 1 ∨ ty = 2 ∨ ty = 5) :
    Calls Try.prog 77 #[.string s, .int .i64 (p : Int), .int .i64 (ty : Int)] w (BodyPost s p ty w) := by
  rcases ht with rfl | rfl | rfl | rfl
  · exact body_num s p w hp hs
  · exact body_fix8 s p w hp hs
  · exact body_len s p w hp hs
  · exact body_fix4 s p w hp hs
end Go.Proofs.Ytdokbooggbiciaa
