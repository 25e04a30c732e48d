/-
  wire.Tag, record, Varint, Bytes: what they write.
-/
/-
  wire.Fixed: eight bytes, the least first.
-/
/-
  wire.Fixeds, wire.Varints: packed numbers.
-/
import Derived.Test.YtandoppfbilhbaaGreatDoorWireMath
import Derived.Test.YtandoppfbilhbaaGreatDoorGet
import Derived.Test.YtandoppfbilhbaaGreatDoorNums
import Derived.Test.YtandoppfbilhbaaGreatDoorUpd
import Derived.Deep.LoopGhost
import Derived.Test.YtandoppfbilhbaaGreatDoorWireR5
namespace Go.Proofs.YtandoppfbilhbaaGreatDoor
open Go.RowKit

def wtag (num kind : Int) : List UInt8 := if num < 1 ∨ 536870911 < num ∨ kind < 0 ∨ 5 < kind then [] else vput (8 * num.toNat + kind.toNat)
theorem wtag_bad {num kind : Int} (h : num < 1 ∨ 536870911 < num ∨ kind < 0 ∨ 5 < kind) : wtag num kind = [] := if_pos h
theorem wtag_ok {num kind : Nat} (h1 : 1 ≤ num) (h2 : num ≤ 536870911) (h3 : kind ≤ 5) : wtag num kind = vput (8 * num + kind) := by
  unfold wtag; rw [if_neg (by omega)]; simp
theorem tag_or {num kind : Nat} (h2 : num ≤ 536870911) (h3 : kind ≤ 5) : bits .or .u64 ((num : Int) * 8) (kind : Int) = ((8 * num + kind : Nat) : Int) := by
  have e : (num : Int) * 8 = ((num * 8 : Nat) : Int) := by simp
  rw [e, u64_or_nat _ _ (by omega) (by omega), nat_join 3 (num * 8) kind (by omega) (by omega)]
  congr 1
  omega
set_option maxRecDepth 100000 in
set_option maxHeartbeats 2000000 in
theorem tag_any (num kind : Int) (w : World) (h1 : -9223372036854775808 ≤ num) (h2 : num ≤ 9223372036854775807) (h3 : -9223372036854775808 ≤ kind) (h4 : kind ≤ 9223372036854775807) :
    Calls Tryz.prog 27 #[.int .i64 num, .int .i64 kind] w fun e w' => e = .returned (.string ⟨(wtag num kind).toArray⟩) ∧ Below w.heap.size w w' := by
  by_cases hb : num < 1 ∨ 536870911 < num ∨ kind < 0 ∨ 5 < kind
  · have HF := Lib.hid (wtag_bad hb)
    rcases (by omega : num < 1 ∨ (1 ≤ num ∧ 536870911 < num) ∨ (1 ≤ num ∧ num ≤ 536870911 ∧ kind < 0) ∨ (1 ≤ num ∧ num ≤ 536870911 ∧ 0 ≤ kind ∧ 5 < kind)) with h | ⟨h, h'⟩ | ⟨h, h', h''⟩ | ⟨h, h', h'', h'''⟩
    all_goals clear hb
    all_goals go_enter Tryz.func27, Tryz.ntmps27
    all_goals go_wp2
    all_goals go_ret
    all_goals exact ⟨by rw [HF.out]; rfl, Below.refl _ _⟩
  · obtain ⟨n, rfl⟩ := Int.eq_ofNat_of_zero_le (show 0 ≤ num by omega)
    obtain ⟨k, rfl⟩ := Int.eq_ofNat_of_zero_le (show 0 ≤ kind by omega)
    have hn1 : 1 ≤ n := by omega
    have hn2 : n ≤ 536870911 := by omega
    have hk : k ≤ 5 := by omega
    have HF := Lib.hid (wtag_ok hn1 hn2 hk)
    have hor := tag_or hn2 hk
    have HP := Lib.hid (put_start (n := 8 * n + k) (by omega))
    clear hb h1 h2 h3 h4
    go_enter Tryz.func27, Tryz.ntmps27
    have hput := fun w => put_any (8 * n + k) w HP.out
    rw [show ((8 * n + k : Nat) : Int) = 8 * (n : Int) + (k : Int) by simp] at hput
    have HPUT := Lib.hid hput
    clear hput
    go_wp2_with fail
    refine (HPUT.out w).mono ?_; rintro e w' ⟨rfl, hb⟩
    have HB := Lib.hid hb
    clear hb
    go_wp2_with fail
    go_ret
    exact ⟨by rw [HF.out]; rfl, HB.out⟩
def wrec (num kind : Int) (rest : List UInt8) : List UInt8 := if wtag num kind = [] then [] else wtag num kind ++ rest
theorem vput_ne (n : Nat) : vput n ≠ [] := by
  intro h
  have := (vput_length n).1
  rw [h] at this
  simp at this
theorem vput_len (n : Nat) : (vput n).length ≤ 10 := (vput_length n).2
theorem wtag_len (num kind : Int) : (wtag num kind).length ≤ 10 := by
  unfold wtag
  split
  · simp
  · exact vput_len _
set_option maxRecDepth 100000 in
set_option maxHeartbeats 2000000 in
theorem record_any (num kind : Int) (rest : List UInt8) (w : World) (h1 : -9223372036854775808 ≤ num) (h2 : num ≤ 9223372036854775807) (h3 : -9223372036854775808 ≤ kind) (h4 : kind ≤ 9223372036854775807) (hr : rest.length ≤ 1000000000) :
    Calls Tryz.prog 70 #[.int .i64 num, .int .i64 kind, .string ⟨rest.toArray⟩] w fun e w' => e = .returned (.string ⟨(wrec num kind rest).toArray⟩) ∧ Below w.heap.size w w' := by
  cases ht : wtag num kind with
  | nil =>
    have HF : Hid (wrec num kind rest = []) := Lib.hid (by unfold wrec; rw [if_pos ht])
    have HT := Lib.hid ht
    clear ht
    go_enter Tryz.func70, Tryz.ntmps70
    go_wp2_with fail
    refine (tag_any num kind w h1 h2 h3 h4).mono ?_; rintro e w' ⟨rfl, hb⟩
    have HB := Lib.hid hb
    rw [HT.out]
    clear hb
    go_wp2_with fail
    go_ret
    exact ⟨by rw [HF.out]; rfl, HB.out⟩
  | cons b t =>
    have HF : Hid (wrec num kind rest = (b :: t) ++ rest) := Lib.hid (by unfold wrec; rw [if_neg (by rw [ht]; simp), ht])
    have hlen : t.length ≤ 9 := by have := wtag_len num kind; rw [ht] at this; simp at this; omega
    have HT := Lib.hid ht
    clear ht
    go_enter Tryz.func70, Tryz.ntmps70
    go_wp2_with fail
    refine (tag_any num kind w h1 h2 h3 h4).mono ?_; rintro e w' ⟨rfl, hb⟩
    have HB := Lib.hid hb
    rw [HT.out]
    clear hb
    go_wp2_with fail
    go_ret
    exact ⟨by rw [HF.out]; exact ret_str (ba_append _ _), HB.out⟩
set_option maxRecDepth 100000 in
set_option maxHeartbeats 2000000 in
theorem wvarint_any (num : Int) (n : Nat) (w : World) (h1 : -9223372036854775808 ≤ num) (h2 : num ≤ 9223372036854775807) (hn : n < 2 ^ 64) :
    Calls Tryz.prog 112 #[.int .i64 num, .int .u64 (n : Int)] w fun e w' => e = .returned (.string ⟨(wrec num 0 (vput n)).toArray⟩) ∧ Below w.heap.size w w' := by
  have HP := Lib.hid (put_start hn)
  have HV := Lib.hid (vput_len n)
  clear hn
  go_enter Tryz.func112, Tryz.ntmps112
  go_wp2_with fail
  refine (put_any n w HP.out).mono ?_; rintro e w1 ⟨rfl, hb1⟩
  have HB1 := Lib.hid hb1
  clear hb1
  go_wp2_with fail
  refine (record_any num 0 (vput n) w1 h1 h2 (by omega) (by omega) (by have := HV.out; omega)).mono ?_; rintro e w2 ⟨rfl, hb2⟩
  have HB2 := Lib.hid hb2
  clear hb2
  go_wp2_with fail
  go_ret
  exact ⟨rfl, HB1.out.trans (HB2.out.mono HB1.out.size)⟩
set_option maxRecDepth 100000 in
set_option maxHeartbeats 2000000 in
theorem wbytes_any (num : Int) (s : ByteArray) (w : World) (h1 : -9223372036854775808 ≤ num) (h2 : num ≤ 9223372036854775807) (hs : s.size ≤ 1000000) :
    Calls Tryz.prog 95 #[.int .i64 num, .string s] w fun e w' => e = .returned (.string ⟨(wrec num 2 (vput s.size ++ s.data.toList)).toArray⟩) ∧ Below w.heap.size w w' := by
  have HP := Lib.hid (put_start (n := s.size) (by omega))
  have hv := vput_len s.size
  have HL := Lib.hid (show s.data.toList.length = s.size by simp)
  have HS : Hid ((ByteArray.mk (vput s.size).toArray) ++ s = ByteArray.mk (vput s.size ++ s.data.toList).toArray) := Lib.hid (by rw [← ba_append])
  go_enter Tryz.func95, Tryz.ntmps95
  go_wp2_with fail
  refine (put_any s.size w HP.out).mono ?_; rintro e w1 ⟨rfl, hb1⟩
  have HB1 := Lib.hid hb1
  clear hb1
  go_wp2_with fail
  rw [HS.out]
  refine (record_any num 2 (vput s.size ++ s.data.toList) w1 h1 h2 (by omega) (by omega) (by simp; have := HL.out; omega)).mono ?_; rintro e w2 ⟨rfl, hb2⟩
  have HB2 := Lib.hid hb2
  clear hb2
  go_wp2_with fail
  go_ret
  exact ⟨rfl, HB1.out.trans (HB2.out.mono HB1.out.size)⟩
end Go.Proofs.YtandoppfbilhbaaGreatDoor
namespace Go.Proofs.YtandoppfbilhbaaGreatDoor
open Go.RowKit

/-- a number's bytes, the least first -/
def eight : Nat → Nat → List UInt8
  | 0, _ => []
  | k + 1, n => UInt8.ofNat (n % 256) :: eight k (n / 256)
theorem eight_8 (n : Nat) : eight 8 n = [UInt8.ofNat (n % 256), UInt8.ofNat (n / 256 % 256), UInt8.ofNat (n / 65536 % 256), UInt8.ofNat (n / 16777216 % 256), UInt8.ofNat (n / 4294967296 % 256), UInt8.ofNat (n / 1099511627776 % 256), UInt8.ofNat (n / 281474976710656 % 256), UInt8.ofNat (n / 72057594037927936 % 256)] := by
  simp only [eight, Nat.div_div_eq_div_mul]
theorem ofNat_val (x : Nat) (v : Int) (h : v = ((x % 256 : Nat) : Int)) : ((UInt8.ofNat x).toNat : Int) = v := by
  rw [h]; simp
theorem conv_eight (n : Nat) (w : World) (hn : n < 2 ^ 64) :
    (convert 109 9 (.slice (some ⟨w.heap.size, 0, none⟩) 8 8)).run Tryz.prog (w.alloc (.cells #[.int .u8 ((n : Int) % 256), .int .u8 ((n : Int) / 256 % 256), .int .u8 ((n : Int) / 65536 % 256), .int .u8 ((n : Int) / 16777216 % 256), .int .u8 ((n : Int) / 4294967296 % 256), .int .u8 ((n : Int) / 1099511627776 % 256), .int .u8 ((n : Int) / 281474976710656 % 256), .int .u8 ((n : Int) / 72057594037927936)] 107)) = .ok (.string ⟨(eight 8 n).toArray⟩) (w.alloc (.cells #[.int .u8 ((n : Int) % 256), .int .u8 ((n : Int) / 256 % 256), .int .u8 ((n : Int) / 65536 % 256), .int .u8 ((n : Int) / 16777216 % 256), .int .u8 ((n : Int) / 4294967296 % 256), .int .u8 ((n : Int) / 1099511627776 % 256), .int .u8 ((n : Int) / 281474976710656 % 256), .int .u8 ((n : Int) / 72057594037927936)] 107)) := by
  rw [eight_8]
  refine run_convert_bytes_back _ 109 9 5 ⟨w.heap.size, 0, none⟩ 8 [UInt8.ofNat (n % 256), UInt8.ofNat (n / 256 % 256), UInt8.ofNat (n / 65536 % 256), UInt8.ofNat (n / 16777216 % 256), UInt8.ofNat (n / 4294967296 % 256), UInt8.ofNat (n / 1099511627776 % 256), UInt8.ofNat (n / 281474976710656 % 256), UInt8.ofNat (n / 72057594037927936 % 256)] Tryz.underlying109 Tryz.underlying5 Tryz.underlying9 fun j hj => ?_
  have hadd : (⟨w.heap.size, 0, none⟩ : Addr).add j = ⟨w.heap.size, j, none⟩ := by unfold Addr.add; split <;> simp_all
  rw [hadd, World.cell?_alloc_at _ _ _ _ rfl]
  have hj8 : j < 8 := hj
  rcases (by omega : j = 0 ∨ j = 1 ∨ j = 2 ∨ j = 3 ∨ j = 4 ∨ j = 5 ∨ j = 6 ∨ j = 7) with rfl | rfl | rfl | rfl | rfl | rfl | rfl | rfl
  all_goals simp
  all_goals omega
set_option maxRecDepth 100000 in
set_option maxHeartbeats 4000000 in
theorem wfixed_any (num : Int) (n : Nat) (w : World) (h1 : -9223372036854775808 ≤ num) (h2 : num ≤ 9223372036854775807) (hn : n < 2 ^ 64) :
    Calls Tryz.prog 28 #[.int .i64 num, .int .u64 (n : Int)] w fun e w' => e = .returned (.string ⟨(wrec num 1 (eight 8 n)).toArray⟩) ∧ Below w.heap.size w w' := by
  have hcv := conv_eight n w hn
  go_enter Tryz.func28, Tryz.ntmps28
  go_wp2_with fail
  refine wp_loop_rounds 9 ?_
  iterate 9 (rw [rounds_succ]; go_wp2_with fail)
  refine (record_any num 1 (eight 8 n) _ h1 h2 (by omega) (by omega) (by rw [eight_8]; simp)).mono ?_; rintro e w1 ⟨rfl, hb1⟩
  have HB1 := Lib.hid (((Below.refl _ w).alloc (Nat.le_refl _) _).trans (hb1.mono (by simp)))
  clear hb1
  go_wp2_with fail
  go_ret
  exact ⟨rfl, HB1.out⟩
end Go.Proofs.YtandoppfbilhbaaGreatDoor
namespace Go.Proofs.YtandoppfbilhbaaGreatDoor
open Go.RowKit

def nats64 (l : List Nat) : List Value := l.map fun n : Nat => .int .u64 (n : Int)
/-- the numbers of eight bytes each -/
def fixs (l : List UInt8) (k : Nat) : List Nat := (List.range k).map fun i => wlit ((l.drop (8 * i)).take 8)
theorem fixs_succ (l : List UInt8) (k : Nat) : fixs l (k + 1) = fixs l k ++ [wlit ((l.drop (8 * k)).take 8)] := by simp [fixs, List.range_succ]
theorem fixs_len (l : List UInt8) (k : Nat) : (fixs l k).length = k := by simp [fixs]
def FixedsPost (s : ByteArray) (w : World) (e : Ending) (w' : World) : Prop :=
  if s.size % 8 = 0 then ∃ u, e = .returned (.tuple #[u, .nilIface]) ∧ w'.ownsRow w.heap.size 24 1 u (s.size / 8) (nats64 (fixs s.data.toList (s.size / 8))) ∧ Below w.heap.size w w'
  else ∃ v, e = .returned (.tuple #[.slice none 0 0, v]) ∧ ErrNew w ((s.size - s.size % 8 : Nat) : Int) 1 v w'
theorem fixeds_no {s : ByteArray} {w w' : World} {v : Value} {p : Int} (h : ¬ s.size % 8 = 0) (hp : p = ((s.size - s.size % 8 : Nat) : Int)) (hE : ErrNew w p 1 v w') : FixedsPost s w (.returned (.tuple #[.slice none 0 0, v])) w' := by
  subst hp; unfold FixedsPost; rw [if_neg h]; exact ⟨v, rfl, hE⟩
theorem fixeds_ok {s : ByteArray} {w w' : World} {u : Value} {K : Nat} (h : s.size = 8 * K) (ho : w'.ownsRow w.heap.size 24 1 u K (nats64 (fixs s.data.toList K))) (hB : Below w.heap.size w w') : FixedsPost s w (.returned (.tuple #[u, .nilIface])) w' := by
  have e : s.size / 8 = K := by omega
  unfold FixedsPost; rw [if_pos (by omega), e]; exact ⟨u, rfl, ho, hB⟩
/-- the varints that bytes are -/
def wvs : Nat → List UInt8 → Except Nat (List Nat)
  | 0, _ => .ok []
  | f + 1, l => if l = [] then .ok [] else match wv l with
    | .error c => .error c
    | .ok (n, j) => match wvs f (l.drop j) with
      | .error c => .error c
      | .ok ns => .ok (n :: ns)
def wvars (l : List UInt8) : Except Nat (List Nat) := wvs l.length l
theorem wvs_fuel : ∀ (f g : Nat) (l : List UInt8), l.length ≤ f → l.length ≤ g → wvs f l = wvs g l
  | 0, 0, _, _, _ => rfl
  | 0, g + 1, l, hf, _ => by
    have : l = [] := List.length_eq_zero_iff.1 (by omega)
    rw [wvs, wvs, if_pos this]
  | f + 1, 0, l, _, hg => by
    have : l = [] := List.length_eq_zero_iff.1 (by omega)
    rw [wvs, wvs, if_pos this]
  | f + 1, g + 1, l, hf, hg => by
    rw [wvs, wvs]
    split
    · rfl
    · cases h : wv l with
      | error c => rfl
      | ok x =>
        obtain ⟨n, j⟩ := x
        have := wv_bounds h
        dsimp only
        rw [wvs_fuel f g _ (by simp; omega) (by simp; omega)]
theorem wvars_nil : wvars [] = .ok [] := rfl
theorem wvars_no {l : List UInt8} {c : Nat} (h0 : l ≠ []) (h : wv l = .error c) : wvars l = .error c := by
  unfold wvars
  cases hl : l.length with
  | zero => exact absurd (List.length_eq_zero_iff.1 hl) h0
  | succ f => rw [wvs, if_neg h0, h]
theorem wvars_cons {l : List UInt8} {n j : Nat} (h : wv l = .ok (n, j)) : wvars l = match wvars (l.drop j) with
    | .error c => .error c
    | .ok ns => .ok (n :: ns) := by
  have hb := wv_bounds h
  conv => lhs; unfold wvars
  cases hl : l.length with
  | zero => omega
  | succ f =>
    rw [wvs, if_neg (by intro e; subst e; simp at hl), h]
    dsimp only
    have e : wvs f (l.drop j) = wvars (l.drop j) := wvs_fuel _ _ _ (by simp; omega) (by simp)
    rw [e]
def VarsPost (s : ByteArray) (w : World) (e : Ending) (w' : World) : Prop := match wvars s.data.toList with
  | .error c => ∃ v, e = .returned (.tuple #[.slice none 0 0, v]) ∧ ∃ q : Nat, q ≤ s.size ∧ ErrNew w (q : Int) (c : Int) v w'
  | .ok ns => ∃ u, e = .returned (.tuple #[u, .nilIface]) ∧ w'.ownsRow w.heap.size 24 1 u ns.length (nats64 ns) ∧ ns.length ≤ s.size ∧ Below w.heap.size w w'
theorem vars_no {s : ByteArray} {c : Nat} {w w' : World} {v : Value} (h : wvars s.data.toList = .error c) (q : Nat) (hq : q ≤ s.size) (hE : ErrNew w (q : Int) (c : Int) v w') : VarsPost s w (.returned (.tuple #[.slice none 0 0, v])) w' := by
  unfold VarsPost; rw [h]; exact ⟨v, rfl, q, hq, hE⟩
theorem vars_ok {s : ByteArray} {ns : List Nat} {w w' : World} {u : Value} (h : wvars s.data.toList = .ok ns) (ho : w'.ownsRow w.heap.size 24 1 u ns.length (nats64 ns)) (hl : ns.length ≤ s.size) (hB : Below w.heap.size w w') : VarsPost s w (.returned (.tuple #[u, .nilIface])) w' := by
  unfold VarsPost; rw [h]; exact ⟨u, rfl, ho, hl, hB⟩
def VsRel (l : List UInt8) (q : Nat) (acc : List Nat) : Prop := q ≤ l.length ∧ acc.length ≤ q ∧ wvars l = match wvars (l.drop q) with
  | .error c => .error c
  | .ok ns => .ok (acc ++ ns)
theorem vs_start (l : List UInt8) : VsRel l 0 [] := by
  refine ⟨by omega, by simp, ?_⟩
  rw [List.drop_zero]
  cases wvars l <;> rfl
theorem vs_err {l : List UInt8} {q c : Nat} {acc : List Nat} (h : VsRel l q acc) (hq : q < l.length) (hn : wv (l.drop q) = .error c) : wvars l = .error c := by
  rw [h.2.2, wvars_no (by intro e; have := congrArg List.length e; simp at this; omega) hn]
theorem vs_next {l : List UInt8} {q j n : Nat} {acc : List Nat} (h : VsRel l q acc) (hn : wv (l.drop q) = .ok (n, j)) : VsRel l (q + j) (acc ++ [n]) := by
  have hb := wv_bounds hn
  simp at hb
  obtain ⟨h1, h2, h3⟩ := h
  refine ⟨by omega, by simp; omega, ?_⟩
  rw [h3, wvars_cons hn, List.drop_drop]
  cases wvars (l.drop (q + j)) with
  | error c => rfl
  | ok rs => simp
theorem vs_end {l : List UInt8} {acc : List Nat} {q : Nat} (h : VsRel l q acc) (hq : q = l.length) : wvars l = .ok acc := by
  subst hq
  rw [h.2.2, List.drop_length, wvars_nil]
  simp
end Go.Proofs.YtandoppfbilhbaaGreatDoor
