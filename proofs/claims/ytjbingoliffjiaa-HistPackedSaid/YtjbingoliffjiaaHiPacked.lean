/-
  hyglaw13.HistPacked.
-/
import Derived.Test.YtjbingoliffjiaaHiFirst
import Derived.Test.YtjbingoliffjiaaNumsE
set_option maxRecDepth 1000000
set_option maxHeartbeats 16000000
namespace Go.Proofs.Ytjbingoliffjiaa
open Go.ChangeShapes Go.WideShapes Go.ChangeAt Go.RowKit
theorem row15 {w : World} {g : Nat} {c0 c1 c2 c3 c4 c5 c6 c7 c8 c9 c10 c11 c12 c13 c14 : Value} {T : TypeId} {fr : Nat × Nat} (h : w.heap[g]? = some (.cells #[c0, c1, c2, c3, c4, c5, c6, c7, c8, c9, c10, c11, c12, c13, c14] T fr)) : w.cell? ⟨g, 0, none⟩ = some c0 ∧ w.cell? ⟨g, 1, none⟩ = some c1 ∧ w.cell? ⟨g, 2, none⟩ = some c2 ∧ w.cell? ⟨g, 3, none⟩ = some c3 ∧ w.cell? ⟨g, 4, none⟩ = some c4 ∧ w.cell? ⟨g, 5, none⟩ = some c5 ∧ w.cell? ⟨g, 6, none⟩ = some c6 ∧ w.cell? ⟨g, 7, none⟩ = some c7 ∧ w.cell? ⟨g, 8, none⟩ = some c8 ∧ w.cell? ⟨g, 9, none⟩ = some c9 ∧ w.cell? ⟨g, 10, none⟩ = some c10 ∧ w.cell? ⟨g, 11, none⟩ = some c11 ∧ w.cell? ⟨g, 12, none⟩ = some c12 ∧ w.cell? ⟨g, 13, none⟩ = some c13 ∧ w.cell? ⟨g, 14, none⟩ = some c14 := ⟨row_cell h (j := 0) rfl, row_cell h (j := 1) rfl, row_cell h (j := 2) rfl, row_cell h (j := 3) rfl, row_cell h (j := 4) rfl, row_cell h (j := 5) rfl, row_cell h (j := 6) rfl, row_cell h (j := 7) rfl, row_cell h (j := 8) rfl, row_cell h (j := 9) rfl, row_cell h (j := 10) rfl, row_cell h (j := 11) rfl, row_cell h (j := 12) rfl, row_cell h (j := 13) rfl, row_cell h (j := 14) rfl⟩
theorem open_NatsC {H : Type} {enc : TypeId × Value → H} {W : World} {sp : Nat → Bool} {base : Nat} {v : Value} {d : DataW H} {p : List MemPlace} (hv : Value.okWide Try.prog W .any base 27 v) (h : DataW.Trod enc Try.prog W 0 sp true 27 v d p) (hlt : ∀ x ∈ p, x.block < W.heap.size) :
  ∃ (ao : Option Addr) (cap : Nat) (l : List Nat), v = .slice ao l.length cap ∧ Nats .u64 W ao l ∧ (∀ n ∈ l, n < 18446744073709551616) ∧ l.length ≤ cap ∧ cap ≤ 9223372036854775807 := by
 obtain ⟨ao, cap, li, rfl, h1, h2, h3⟩ := open_Ints Try.underlying27 Try.underlying24 (by kernel_rfl) hv h hlt
 have h0 : ∀ n ∈ li, 0 ≤ n ∧ n < 18446744073709551616 := fun n hn => by
  have := h2 n hn
  simp [Lit.wf, IntKind.min, IntKind.max, IntKind.signed, IntKind.bits] at this
  omega
 refine ⟨ao, cap, li.map Int.toNat, by simp, h1.nats (fun n hn => (h0 n hn).1), fun n hn => ?_, ?_⟩
 ·obtain ⟨m, hm, rfl⟩ := List.mem_map.1 hn
  have := h0 m hm
  omega
 ·obtain ⟨fuel, hf⟩ := h
  rcases open_ints Try.underlying27 Try.underlying24 (by kernel_rfl) hf with ⟨hcs, hx⟩ | ⟨a, len', cap', zs, hcs, _, hl, hm, hz, hx, hcell, hwz⟩
  ·simp [Value.cells] at hcs
   obtain ⟨_, h5, h6⟩ := hcs
   rw [List.length_map]
   subst h5 h6
   simp
  ·simp [Value.cells] at hcs
   obtain ⟨_, h5, h6⟩ := hcs
   rw [List.length_map]
   unfold maxLen at hm
   omega
theorem nats_take {w : World} {ao : Option Addr} {l : List Nat} (h : Nats .u64 w ao l) (c : Nat) : Nats .u64 w ao (l.take c) := fun hn => by
 obtain ⟨b, off, e, hb, hc⟩ := h (fun h => hn (by rw [h]; simp))
 refine ⟨b, off, e, hb, fun j hj => ?_⟩
 have hj' : j < l.length := by rw [List.length_take] at hj; omega
 rw [hc j hj', List.getElem_take]
def pkS (xs : List Nat) : hiS := (0, (0, (0, ((false, 0), (xs, ([], ([], ([], (0, ((false, 0), (false, 0)))))))))))
theorem pk_step (d : Int) (xs : List Nat) (r : Rec) (h : r.num = 6 ∧ (r.ty = 1 ∨ r.ty = 2)) : hiF.step d (pkS xs) r = match fstep xs r with
  | .error c => .error c
  | .ok y => .ok (pkS y) := hiF_6 h d 0 0 0 false 0 xs [] [] [] 0 false 0 false 0
theorem pk_tk (r : Rec) (h : r.num = 6 ∧ (r.ty = 1 ∨ r.ty = 2)) : hiF.tk r = true := by
 rw [hiF_tk]
 exact decide_eq_true (by omega)
theorem pk_foldg {σ : Type} (tk : Rec → Bool) (step : σ → Rec → Except Nat σ) (f : List Nat → σ) (hk : ∀ n, tk (rF 6 n) = true) (hs : ∀ xs n, step (f xs) (rF 6 n) = .ok (f (xs ++ [n]))) : ∀ (q p : List Nat), mfold tk step (f p) (q.map (rF 6)) = .ok (f (p ++ q))
 | [], p => by rw [List.append_nil]; rfl
 | n :: q, p => by
  rw [List.map_cons, mfold, if_pos (hk n), hs p n]
  have h := pk_foldg tk step f hk hs q (p ++ [n])
  rw [List.append_assoc] at h
  exact h
theorem pk_fold (d : Int) (q p : List Nat) : mfold (σ := hiS) hiF.tk (hiF.step d) (pkS p) (q.map (rF 6)) = .ok (pkS (p ++ q)) :=
 pk_foldg (σ := hiS) hiF.tk (hiF.step d) pkS (fun n => pk_tk _ ⟨rfl, .inl rfl⟩) (fun xs n => by rw [pk_step d xs (rF 6 n) ⟨rfl, .inl rfl⟩, fstep_one rfl]; rfl) q p
theorem pk_appg {σ : Type} (tk : Rec → Bool) (step : σ → Rec → Except Nat σ) {s s2 : σ} {rs ts : List Rec} {y : Except Nat σ} (h1 : mfold tk step s rs = .ok s2) (h2 : mfold tk step s2 ts = y) : mfold tk step s (rs ++ ts) = y := by
 rw [mfold_append, h1]
 exact h2
def pkR (a q : List Nat) : List Rec := (if a = [] then [] else [rB 6 (eights a)]) ++ q.map (rF 6)
theorem pk_all (d : Int) (a q : List Nat) (ha : ∀ n ∈ a, n < 18446744073709551616) : mfold (σ := hiS) hiF.tk (hiF.step d) (pkS []) (pkR a q) = .ok (pkS (a ++ q)) := by
 unfold pkR
 by_cases h : a = []
 ·subst h
  exact pk_fold d q []
 ·rw [if_neg h]
  have e : mfold (σ := hiS) hiF.tk (hiF.step d) (pkS []) [rB 6 (eights a)] = .ok (pkS a) := by
   refine mfold_one (σ := hiS) (pk_tk _ ⟨rfl, .inr rfl⟩) ?_
   rw [pk_step d [] (rB 6 (eights a)) ⟨rfl, .inr rfl⟩, fstep_len rfl]
   have hl : (rB 6 (eights a)).s.length = 8 * a.length := eights_len a
   rw [hl, if_pos (by omega), show 8 * a.length / 8 = a.length by omega]
   show Except.ok (pkS ([] ++ fixs (eights a) a.length)) = _
   rw [fixs_eights a (fun n hn => by have := ha n hn; omega)]
   rfl
  exact pk_appg (σ := hiS) hiF.tk (hiF.step d) e (pk_fold d q a)
theorem pk_recs (a q : List Nat) (hl : a.length ≤ 300) (hq : ∀ n ∈ q, n < 18446744073709551616) : ∀ r ∈ pkR a q, hiF.tk r = true ∧ ∀ d, IsRec d r := fun r hr => by
 unfold pkR at hr
 rcases List.mem_append.1 hr with h | h
 ·split at h
  ·cases h
  ·rw [List.mem_singleton.1 h]
   exact ⟨pk_tk _ ⟨rfl, .inr rfl⟩, fun d => rB_is (by omega) (by omega) (by rw [eights_len]; omega) d⟩
 ·obtain ⟨n, hn, rfl⟩ := List.mem_map.1 h
  exact ⟨pk_tk _ ⟨rfl, .inl rfl⟩, fun d => rF_is (by omega) (by omega) (by have := hq n hn; omega) d⟩
theorem pk_read (a q : List Nat) (hl : a.length ≤ 300) (ha : ∀ n ∈ a, n < 18446744073709551616) (hq : ∀ n ∈ q, n < 18446744073709551616) : hird ((if a = [] then [] else (rB 6 (eights a)).raw) ++ (q.map (rF 6)).flatMap Rec.raw) 0 = .ok ((0, (0, (0, ((false, 0), (a ++ q, ([], ([], ([], (0, ((false, 0), (false, 0))))))))))), []) := by
 have h := mread_put_ok (σ := hiS) (tk := hiF.tk) (step := hiF.step 0) (st := hiF.z) (u := []) (d := 0) (rs := pkR a q) (by omega) (fun r hr => (pk_recs a q hl hq r hr).2) (pk_all 0 a q ha) (by rw [List.all_eq_true]; exact fun r hr => (pk_recs a q hl hq r hr).1) (by kernel_rfl)
 rw [List.append_nil] at h
 rw [show (if a = [] then [] else (rB 6 (eights a)).raw) ++ (q.map (rF 6)).flatMap Rec.raw = (pkR a q).flatMap Rec.raw from by
  unfold pkR
  rw [List.flatMap_append]
  split <;> simp]
 exact h
theorem pk_len : ∀ q : List Nat, ((q.map (rF 6)).flatMap Rec.raw).length = 9 * q.length
 | [] => rfl
 | n :: q => by
  rw [List.map_cons, List.flatMap_cons, List.length_append, pk_len q, List.length_cons]
  show (49 :: eight 8 n).length + _ = _
  rw [List.length_cons, eight_len]
  omega
theorem rF6_raw (n : Nat) : (rF 6 n).raw = 49 :: eight 8 n := rfl
theorem rF4_raw (n : Nat) : (rF 4 n).raw = 33 :: eight 8 n := rfl
theorem pk_one (n : Nat) (hn : n < 18446744073709551616) (w : World) : Calls Try.prog 7 #[.agg #[.slice none 0 0, .int .u64 0, .int .u64 0, .int .u64 (n : Int), .bool false, .int .u64 0, .bool false, .int .u64 0, .bool false, .int .u64 0, .slice none 0 0, .slice none 0 0, .slice none 0 0, .int .u32 0, .string ⟨#[]⟩], .int .i64 0] w fun e w' => e = .returned (.tuple #[.string ⟨(if n = 0 then [] else (rF 4 n).raw).toArray⟩, .nilIface]) ∧ Below w.heap.size w w' := by
 refine (hi_marshal_if ((0, (0, (n, ((false, 0), ([], ([], ([], ([], (0, ((false, 0), (false, 0))))))))))), []) (Lib.hid fun h => absurd rfl h) (Lib.hid fun h => absurd rfl h) [.slice none 0 0, .int .u64 0, .int .u64 0, .int .u64 (n : Int), .bool false, .int .u64 0, .bool false, .int .u64 0, .bool false, .int .u64 0, .slice none 0 0, .slice none 0 0, .slice none 0 0, .int .u32 0, .string ⟨#[]⟩] (fun _ => False) 0 w ⟨by omega, by omega, hn, by omega, fun x hx => (by cases hx), fun x hx => (by cases hx), fun x hx => (by cases hx), by rw [ksfit]; trivial, by omega, by omega, by omega, by simp [lwt, lsum, ksw]⟩ ⟨none, 0, none, 0, none, 0, none, 0, rfl, by rw [KRels]; trivial, CRels.nil _ _ _ _, CRels.nil _ _ _ _, CRels.nil _ _ _ _⟩ (by omega)).mono ?_
 rintro e w' ⟨hb, h⟩
 rw [show hi_may 0 ((0, (0, (n, ((false, 0), ([], ([], ([], ([], (0, ((false, 0), (false, 0))))))))))), []) = true by kernel_rfl, if_pos rfl, show hi_out ((0, (0, (n, ((false, 0), ([], ([], ([], ([], (0, ((false, 0), (false, 0))))))))))), []) = (if n = 0 then [] else (rF 4 n).raw) by simp [hi_out, louts, kouts]] at h
 exact ⟨h, hb⟩
theorem pk_many (l : List Nat) (ao : Option Addr) (cap : Nat) (hl : l.length ≤ 300) (hn : ∀ n ∈ l, n < 18446744073709551616) (w : World) (hN : Nats .u64 w ao l) : Calls Try.prog 7 #[.agg #[.slice none 0 0, .int .u64 0, .int .u64 0, .int .u64 0, .bool false, .int .u64 0, .bool false, .int .u64 0, .bool false, .int .u64 0, .slice ao l.length cap, .slice none 0 0, .slice none 0 0, .int .u32 0, .string ⟨#[]⟩], .int .i64 0] w fun e w' => e = .returned (.tuple #[.string ⟨(if l = [] then [] else (rB 6 (eights l)).raw).toArray⟩, .nilIface]) ∧ Below w.heap.size w w' := by
 refine (hi_marshal_if ((0, (0, (0, ((false, 0), (l, ([], ([], ([], (0, ((false, 0), (false, 0))))))))))), []) (Lib.hid fun h => absurd rfl h) (Lib.hid fun h => absurd rfl h) [.slice none 0 0, .int .u64 0, .int .u64 0, .int .u64 0, .bool false, .int .u64 0, .bool false, .int .u64 0, .bool false, .int .u64 0, .slice ao l.length cap, .slice none 0 0, .slice none 0 0, .int .u32 0, .string ⟨#[]⟩] (fun k => k < w.heap.size) 0 w ⟨by omega, by omega, by omega, by omega, hn, fun x hx => (by cases hx), fun x hx => (by cases hx), by rw [ksfit]; trivial, by omega, by omega, by omega, by simp [lwt, lsum, ksw]; omega⟩ ⟨none, 0, ao, cap, none, 0, none, 0, rfl, by rw [KRels]; trivial, rels_of_nats hN (fun _ _ _ h => h), CRels.nil _ _ _ _, CRels.nil _ _ _ _⟩ (by omega)).mono ?_
 rintro e w' ⟨hb, h⟩
 rw [show hi_may 0 ((0, (0, (0, ((false, 0), (l, ([], ([], ([], (0, ((false, 0), (false, 0))))))))))), []) = true by simp [hi_may, lmays, kmays, show munkOk hiF.tk [] 0 = true by kernel_rfl], if_pos rfl, show hi_out ((0, (0, (0, ((false, 0), (l, ([], ([], ([], (0, ((false, 0), (false, 0))))))))))), []) = (if l = [] then [] else (rB 6 (eights l)).raw) by simp [hi_out, louts, kouts]] at h
 exact ⟨h, hb⟩
theorem hipk_long (l : Nat) (ao : Option Addr) (cap : Nat) (c : Int) (w : World) (h : 300 < l ∨ ¬ 300 < l ∧ c < 0 ∨ ¬ 300 < l ∧ ¬ c < 0 ∧ (l : Int) < c) : Calls Try.prog 4 #[.slice ao l cap, .int .i64 c] w fun e w' => e = .returned (.bool true) ∧ Below w.heap.size w w' := by
 rcases h with h | ⟨h, h1⟩ | ⟨h, h1, h2⟩
 case inl =>
  have q0 : decide ((300 : Int) < (l : Int)) = true := decide_eq_true (by omega)
  clear h
  go_enter Try.func4, Try.ntmps4
  go_wp2_with fail
  refine (first13 w).mono ?_; rintro e w1 ⟨rfl, hb1⟩
  have HB1 := Lib.hid hb1
  clear hb1
  go_wp2_with fail
  refine (first13 w1).mono ?_; rintro e w2 ⟨rfl, hb2⟩
  have HB2 := Lib.hid (below_step HB1.out hb2)
  clear hb2
  go_wp2_with fail
  go_ret
  exact ⟨rfl, HB2.out⟩
 case inr.inl =>
  have q0 : decide ((300 : Int) < (l : Int)) = false := decide_eq_false (by omega)
  have q1 : decide (c < 0) = true := decide_eq_true h1
  clear h h1
  go_enter Try.func4, Try.ntmps4
  go_wp2_with fail
  refine (first13 w).mono ?_; rintro e w1 ⟨rfl, hb1⟩
  have HB1 := Lib.hid hb1
  clear hb1
  go_wp2_with fail
  refine (first13 w1).mono ?_; rintro e w2 ⟨rfl, hb2⟩
  have HB2 := Lib.hid (below_step HB1.out hb2)
  clear hb2
  go_wp2_with fail
  go_ret
  exact ⟨rfl, HB2.out⟩
 case inr.inr =>
  have q0 : decide ((300 : Int) < (l : Int)) = false := decide_eq_false (by omega)
  have q1 : decide (c < 0) = false := decide_eq_false h1
  have q2 : decide ((l : Int) < c) = true := decide_eq_true h2
  clear h h1 h2
  go_enter Try.func4, Try.ntmps4
  go_wp2_with fail
  refine (first13 w).mono ?_; rintro e w1 ⟨rfl, hb1⟩
  have HB1 := Lib.hid hb1
  clear hb1
  go_wp2_with fail
  refine (first13 w1).mono ?_; rintro e w2 ⟨rfl, hb2⟩
  have HB2 := Lib.hid (below_step HB1.out hb2)
  clear hb2
  go_wp2_with fail
  go_ret
  exact ⟨rfl, HB2.out⟩
theorem hipk_main (l : List Nat) (ao : Option Addr) (cap c : Nat) (w : World) (hN : Hid (Nats .u64 w ao l)) (hn : Hid (∀ n ∈ l, n < 18446744073709551616)) (hl : l.length ≤ 300) (hc : c ≤ l.length) (hcap : l.length ≤ cap) : Calls Try.prog 4 #[.slice ao l.length cap, .int .i64 (c : Int)] w fun e w' => e = .returned (.bool true) ∧ Below w.heap.size w w' := by
 have HLC := Lib.hid (And.intro hl (And.intro hc hcap))
 have q0 : decide ((300 : Int) < (l.length : Int)) = false := decide_eq_false (by omega)
 have q1 : decide ((c : Int) < 0) = false := decide_eq_false (by omega)
 have q2 : decide ((l.length : Int) < (c : Int)) = false := decide_eq_false (by omega)
 have htl : (l.take c).length = c := by rw [List.length_take]; omega
 have HTL := Lib.hid htl
 obtain ⟨sl, hsl⟩ : ∃ s, (if l.take c = [] then [] else (rB 6 (eights (l.take c))).raw) = s := ⟨_, rfl⟩
 have HM1 : Hid (∀ w', Below w.heap.size w w' → Calls Try.prog 7 #[.agg #[.slice none 0 0, .int .u64 0, .int .u64 0, .int .u64 0, .bool false, .int .u64 0, .bool false, .int .u64 0, .bool false, .int .u64 0, .slice ao c cap, .slice none 0 0, .slice none 0 0, .int .u32 0, .string ⟨#[]⟩], .int .i64 0] w' fun e w'' => e = .returned (.tuple #[.string ⟨sl.toArray⟩, .nilIface]) ∧ Below w'.heap.size w' w'') := Lib.hid (fun w' hb => by
  have h := pk_many (l.take c) ao cap (by omega) (fun n hx => hn.out n (List.mem_of_mem_take hx)) w' (nats_take (hN.out.below hb) c)
  rw [htl, hsl] at h
  exact h)
 have hsll : sl.length ≤ 3000 := by
  rw [← hsl]
  have := nums_seg 6 (l.take c)
  omega
 have HSL := Lib.hid hsl
 obtain ⟨S, hS⟩ : ∃ X : ByteArray, (⟨sl.toArray⟩ : ByteArray) = X := ⟨_, rfl⟩
 have HSD : Hid (S.data.toList = sl) := Lib.hid (by rw [← hS])
 have HSZ : Hid (S.size ≤ 3000) := Lib.hid (by rw [← hS]; simpa [ByteArray.size] using hsll)
 rw [hS] at HM1
 clear hS hsl hsll htl
 go_enter Try.func4, Try.ntmps4
 go_wp2_with fail
 refine (first13 w).mono ?_; rintro e w1 ⟨rfl, hb1⟩
 have HB1 := Lib.hid hb1
 clear hb1
 go_wp2_with fail
 refine (HM1.out w1 HB1.out).mono ?_; rintro e w2 ⟨rfl, hb2⟩
 have HB2 := Lib.hid (below_step HB1.out hb2)
 clear hb2 HM1
 go_wp2_with fail
 go_loopg [7, 8, 9, 10] (l.length - c) (fun k sv i xv ev wr => ∃ (j : Nat) (U : ByteArray), j + k = l.length ∧ c ≤ j ∧ i = .int .i64 (j : Int) ∧ sv = .string U ∧ Hid (U.data.toList = (((l.drop c).take (j - c)).map (rF 6)).flatMap Rec.raw) ∧ Below w.heap.size w wr)
 case atStart => exact ⟨c, ⟨#[]⟩, by omega, by omega, rfl, rfl, Lib.hid (by simp), HB2.out⟩
 case round =>
  obtain ⟨j, U, hj, hcj, rfl, rfl, HU, hb⟩ := hrel
  have HB := Lib.hid hb
  have HJ := Lib.hid hj
  have HCJ := Lib.hid hcj
  have HUZ : Hid (U.size ≤ 3000) := Lib.hid (by
   have h1 : U.size = U.data.toList.length := by simp
   rw [HU.out, pk_len, List.length_take] at h1
   have := HLC.out
   omega)
  have hjl : j ≤ 300 := by have := HLC.out; omega
  clear hj hcj hb
  by_cases hlt : j < l.length
  ·obtain ⟨g, off, n, HNV, rfl, hg1, hcell⟩ := (hN.out.below HB.out).at hlt
   have hn9 : n < 18446744073709551616 := by rw [HNV.out]; exact hn.out _ (List.getElem_mem hlt)
   have HMK := Lib.hid (pk_one n hn9 wr)
   have HTK : Hid ((((l.drop c).take (j + 1 - c)).map (rF 6)).flatMap Rec.raw = (((l.drop c).take (j - c)).map (rF 6)).flatMap Rec.raw ++ (49 :: eight 8 n)) := Lib.hid (by
    have h1 := HCJ.out
    have h2 : j - c < (l.drop c).length := by rw [List.length_drop]; omega
    rw [show j + 1 - c = (j - c) + 1 by omega, List.take_succ_eq_append_getElem h2, List.map_append, List.flatMap_append, ← rF6_raw]
    have h3 : (l.drop c)[j - c] = n := by rw [List.getElem_drop, HNV.out]; congr 1; omega
    rw [h3]
    simp)
   clear hn9
   by_cases h0 : n = 0
   case neg =>
    have q3 : decide ((0 : Int) < (n : Int)) = true := decide_eq_true (by omega)
    have q4 : ((n : Int) == 0) = false := by rw [beq_eq_false_iff_ne]; omega
    rw [if_neg h0, rF4_raw] at HMK
    obtain ⟨X9, hX9⟩ : ∃ X : ByteArray, (⟨(33 :: eight 8 n).toArray⟩ : ByteArray) = X := ⟨_, rfl⟩
    have hz9 : X9.size = 9 := by rw [← hX9]; simp [ByteArray.size, eight_len]
    have HX9 := Lib.hid hX9
    rw [hX9] at HMK
    clear h0 hX9
    go_wp2_with fail
    refine HMK.out.mono ?_; rintro e w3 ⟨rfl, hb3⟩
    have hcell3 := (hb3.cell (p := ⟨g, off + j, none⟩) hg1).trans hcell
    have HB3 := Lib.hid (below_step HB.out hb3)
    have q5 : ((X9.size : Int) != 9) = false := by rw [hz9]; rfl
    clear hb3 hcell hg1 HMK
    have HE8 : Hid ((X9.extract 1 9).data.toList = eight 8 n) := Lib.hid (by
     rw [← HX9.out, ByteArray.data_extract]
     simp [eight_8])
    obtain ⟨E8, hE8⟩ : ∃ X : ByteArray, X9.extract 1 9 = X := ⟨_, rfl⟩
    rw [hE8] at HE8
    have hz8 : E8.size = 8 := (show E8.size = E8.data.toList.length by simp).trans (by rw [HE8.out, eight_len])
    have q6 : ¬ 9223372036854775807 < (⟨#[49]⟩ : ByteArray).size + E8.size := by rw [hz8]; decide
    have q7 : ¬ 9223372036854775807 < U.size + ((⟨#[49]⟩ : ByteArray) ++ E8).size := by
     rw [ByteArray.size_append, hz8]
     have := HUZ.out
     have h2 : (⟨#[49]⟩ : ByteArray).size = 1 := rfl
     omega
    have HE9 := Lib.hid hE8
    rw [← hE8] at q6 q7
    clear hE8 hz8
    go_wp2_with fail
    all_goals
    rw [HE9.out]
    have hj := HJ.out
    go_roundg (gk - 1)
    case measure => omega
    case rel => exact ⟨j + 1, U ++ ((⟨#[49]⟩ : ByteArray) ++ E8), by omega, by have := HCJ.out; omega, by simp, rfl, Lib.hid (by rw [HTK.out, ByteArray.data_append, Array.toList_append, ByteArray.data_append, Array.toList_append, HU.out, HE8.out]; rfl), HB3.out⟩
   case pos =>
    subst h0
    have q3 : decide ((0 : Int) < ((0 : Nat) : Int)) = false := rfl
    have q4 : (((0 : Nat) : Int) == 0) = true := rfl
    rw [if_pos rfl] at HMK
    have q7 : ¬ 9223372036854775807 < U.size + (⟨#[49, 0, 0, 0, 0, 0, 0, 0, 0]⟩ : ByteArray).size := by
     have := HUZ.out
     have h2 : (⟨#[49, 0, 0, 0, 0, 0, 0, 0, 0]⟩ : ByteArray).size = 9 := rfl
     omega
    go_wp2_with fail
    refine HMK.out.mono ?_; rintro e w3 ⟨rfl, hb3⟩
    have hcell3 := (hb3.cell (p := ⟨g, off + j, none⟩) hg1).trans hcell
    have HB3 := Lib.hid (below_step HB.out hb3)
    clear hb3 hcell hg1 HMK
    go_wp2_with fail
    have HE0 : Hid (((⟨#[33, 0, 0, 0, 0, 0, 0, 0, 0]⟩ : ByteArray).extract 1 9).data.toList = eight 8 0) := Lib.hid (by decide)
    all_goals
    have hj := HJ.out
    go_roundg (gk - 1)
    case measure => omega
    case rel => exact ⟨j + 1, U ++ ((⟨#[49]⟩ : ByteArray) ++ (⟨#[33, 0, 0, 0, 0, 0, 0, 0, 0]⟩ : ByteArray).extract 1 9), by omega, by have := HCJ.out; omega, by simp, rfl, Lib.hid (by rw [HTK.out, ByteArray.data_append, Array.toList_append, ByteArray.data_append, Array.toList_append, HU.out, HE0.out]; rfl), HB3.out⟩
  ·have hjn : j = l.length := by have := HJ.out; omega
   have HU2 : Hid (U.data.toList = ((l.drop c).map (rF 6)).flatMap Rec.raw) := Lib.hid (by
    have h := HU.out
    rwa [hjn, List.take_of_length_le (by rw [List.length_drop]; omega)] at h)
   clear hjn
   obtain ⟨X2, hX2⟩ : ∃ X, S ++ U = X := ⟨_, rfl⟩
   have hq : ¬ 9223372036854775807 < S.size + U.size := by have := HSZ.out; have := HUZ.out; omega
   have hz2 : X2.size ≤ 6000 := by rw [← hX2, ByteArray.size_append]; have := HSZ.out; have := HUZ.out; omega
   have hrd : hird X2.data.toList 0 = .ok ((0, (0, (0, ((false, 0), (l, ([], ([], ([], (0, ((false, 0), (false, 0))))))))))), []) := by
    rw [← hX2, ByteArray.data_append, Array.toList_append, HSD.out, HU2.out, ← HSL.out]
    have h := pk_read (l.take c) (l.drop c) (by have := HTL.out; have := HLC.out; omega) (fun n hx => hn.out n (List.mem_of_mem_take hx)) (fun n hx => hn.out n (List.mem_of_mem_drop hx))
    rw [List.take_append_drop] at h
    exact h
   have HUN := Lib.hid (fun w' => hi_un X2 0 w' (by omega) (by omega))
   rw [hrd] at HUN
   have HX2 := Lib.hid hX2
   clear hrd hX2 hz2
   go_wp2_with fail
   rw [HX2.out]
   refine (HUN.out wr).mono ?_; rintro e w4 ⟨hb4, cs, rfl, hrel⟩
   have hr2 := hrel
   obtain ⟨lo, lc, nco, ncc, nbo, nbc, eo, ec, rfl, _, _, _, _⟩ := hr2
   have HREL := Lib.hid hrel
   have HB4 := Lib.hid (below_step HB.out hb4)
   clear hrel hb4 HUN
   dsimp only [strV]
   go_upto_region 17 with fail
   obtain ⟨bl, hbl⟩ : ∃ b, w4.heap.size = b := ⟨_, rfl⟩
   obtain ⟨W5, hW⟩ : ∃ W, w4.alloc (.cells #[.slice lo 0 lc, .int .u64 0, .int .u64 0, .int .u64 0, .bool false, .int .u64 0, .bool false, .int .u64 0, .bool false, .int .u64 0, .slice nco l.length ncc, .slice nbo 0 nbc, .slice eo 0 ec, .int .u32 0, .string ⟨#[]⟩] 31) = W := ⟨_, rfl⟩
   have hb5 : Below w4.heap.size w4 W5 := by rw [← hW]; exact below_new _ _
   have hr5 : W5.heap[bl]? = some (.cells #[.slice lo 0 lc, .int .u64 0, .int .u64 0, .int .u64 0, .bool false, .int .u64 0, .bool false, .int .u64 0, .bool false, .int .u64 0, .slice nco l.length ncc, .slice nbo 0 nbc, .slice eo 0 ec, .int .u32 0, .string ⟨#[]⟩] 31 (0, 0)) := by rw [← hW, ← hbl]; exact new_row _ _ _
   have HB5 := Lib.hid (below_step HB4.out hb5)
   have HR5 := Lib.hid hr5
   have HRL5 := Lib.hid (hiCel.upd (Upd.of_new (S := fun _ => False) hb5) (fun _ _ h => h) (fun _ h => h) HREL.out)
   rw [hW, hbl]
   obtain ⟨p0, p1, p2, p3, p4, p5, p6, p7, p8, p9, p10, p11, p12, p13, p14⟩ := row15 HR5.out
   clear hW hbl hb5 hr5 HREL
   go_wp2_with fail
   have HFIT : Hid (hi_fit ((0, (0, (0, ((false, 0), (l, ([], ([], ([], (0, ((false, 0), (false, 0))))))))))), [])) := Lib.hid ⟨by omega, by omega, by omega, by omega, hn.out, fun x hx => (by cases hx), fun x hx => (by cases hx), by rw [ksfit]; trivial, by omega, by omega, by omega, by have := HLC.out; simp [lwt, lsum, ksw]; omega⟩
   refine (hi_marshal_if ((0, (0, (0, ((false, 0), (l, ([], ([], ([], (0, ((false, 0), (false, 0))))))))))), []) (Lib.hid fun h => absurd rfl h) (Lib.hid fun h => absurd rfl h) [.slice lo 0 lc, .int .u64 0, .int .u64 0, .int .u64 0, .bool false, .int .u64 0, .bool false, .int .u64 0, .bool false, .int .u64 0, .slice nco l.length ncc, .slice nbo 0 nbc, .slice eo 0 ec, .int .u32 0, .string ⟨#[]⟩] _ 0 W5 HFIT.out HRL5.out (by omega)).mono ?_; rintro e w6 ⟨hb6, h⟩
   rw [show hi_may 0 ((0, (0, (0, ((false, 0), (l, ([], ([], ([], (0, ((false, 0), (false, 0))))))))))), []) = true by simp [hi_may, lmays, kmays, show munkOk hiF.tk [] 0 = true by kernel_rfl], if_pos rfl, show hi_out ((0, (0, (0, ((false, 0), (l, ([], ([], ([], (0, ((false, 0), (false, 0))))))))))), []) = (if l = [] then [] else (rB 6 (eights l)).raw) by simp [hi_out, louts, kouts]] at h
   subst h
   have HB6 := Lib.hid (below_step HB5.out hb6)
   have hr6 := (hb6.block _ (row_lt HR5.out)).trans HR5.out
   have HRL6 := Lib.hid (hiCel.upd (Upd.of_new (S := fun _ => False) hb6) (fun _ _ h => h) (fun _ h => h) HRL5.out)
   obtain ⟨OO, hOO⟩ : ∃ X : ByteArray, (⟨(if l = [] then [] else (rB 6 (eights l)).raw).toArray⟩ : ByteArray) = X := ⟨_, rfl⟩
   have HOO := Lib.hid hOO
   have HR6 := Lib.hid hr6
   rw [hOO]
   clear p0 p1 p2 p3 p4 p5 p6 p7 p8 p9 p10 p11 p12 p13 p14 hb6 hr6 hOO HRL5
   go_wp2_with fail
   refine (pk_many l ao cap (by have := HLC.out; omega) hn.out w6 (hN.out.below HB6.out)).mono ?_; rintro e w7 ⟨rfl, hb7⟩
   have HB7 := Lib.hid (below_step HB6.out hb7)
   have HR7 := Lib.hid ((hb7.block _ (row_lt HR6.out)).trans HR6.out)
   have HRL7 := Lib.hid (hiCel.upd (Upd.of_new (S := fun _ => False) hb7) (fun _ _ h => h) (fun _ h => h) HRL6.out)
   rw [HOO.out]
   clear hb7 HRL6
   go_wp2_with fail
   refine (first13 w7).mono ?_; rintro e w8 ⟨rfl, hb8⟩
   have HB8 := Lib.hid (below_step HB7.out hb8)
   have HR8 := Lib.hid ((hb8.block _ (row_lt HR7.out)).trans HR7.out)
   have HRL8 := Lib.hid (hiCel.upd (Upd.of_new (S := fun _ => False) hb8) (fun _ _ h => h) (fun _ h => h) HRL7.out)
   obtain ⟨p0, p1, p2, p3, p4, p5, p6, p7, p8, p9, p10, p11, p12, p13, p14⟩ := row15 HR8.out
   clear hb8 HRL7
   go_wp2_with fail
   obtain ⟨_, _, _, _, _, _, _, _, he9, _, hrn, _, _⟩ := HRL8.out
   simp only [List.cons.injEq, Value.slice.injEq, true_and, and_true] at he9
   obtain ⟨_, ⟨rfl, rfl⟩, _⟩ := he9
   refine (hrefnat_any l l nco ao ncc cap _ _ w8 (by have := HLC.out; omega) hrn (rels_of_nats (P := fun k => k < w8.heap.size) (hN.out.below HB8.out) (fun _ _ _ h => h))).mono ?_; rintro e w9 ⟨rfl, hb9⟩
   have HB9 := Lib.hid (below_step HB8.out hb9)
   have HR9 := Lib.hid ((hb9.block _ (row_lt HR8.out)).trans HR8.out)
   rw [alike_yes rfl]
   clear p0 p1 p2 p3 p4 p5 p6 p7 p8 p9 p10 p11 p12 p13 p14 hb9
   obtain ⟨p0, p1, p2, p3, p4, p5, p6, p7, p8, p9, p10, p11, p12, p13, p14⟩ := row15 HR9.out
   go_wp2_with fail
   go_ret
   exact ⟨rfl, HB9.out⟩
theorem hipk_any (li : List Nat) (ao : Option Addr) (cap : Nat) (c : Int) (w : World) (hN : Nats .u64 w ao li) (hn : ∀ n ∈ li, n < 18446744073709551616) (hcap : li.length ≤ cap) : Calls Try.prog 4 #[.slice ao li.length cap, .int .i64 c] w fun e w' => e = .returned (.bool true) ∧ Below w.heap.size w w' := by
 by_cases h1 : 300 < li.length
 ·exact hipk_long _ ao cap c w (.inl h1)
 by_cases h2 : c < 0
 ·exact hipk_long _ ao cap c w (.inr (.inl ⟨h1, h2⟩))
 by_cases h3 : (li.length : Int) < c
 ·exact hipk_long _ ao cap c w (.inr (.inr ⟨h1, h2, h3⟩))
 obtain ⟨k, rfl⟩ := Int.eq_ofNat_of_zero_le (show 0 ≤ c by omega)
 exact hipk_main li ao cap k w (Lib.hid hN) (Lib.hid hn) (by omega) (by omega) hcap
end Go.Proofs.Ytjbingoliffjiaa
