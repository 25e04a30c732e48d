/-
  message.Writer: Rest, End, Vars.
-/
import Derived.Test.YtdokbooggbiciaaMsgWrite2
import Derived.Test.YtdokbooggbiciaaMsgUnk
import Derived.Test.YtdokbooggbiciaaBuilder
import Derived.Test.YtdokbooggbiciaaNumsSame
import Derived.Test.YtdokbooggbiciaaVarint
namespace Go.Proofs.Ytdokbooggbiciaa
open Go.RowKit

set_option maxRecDepth 1000000 in
set_option maxHeartbeats 4000000 in
theorem wrest_any (p : Nat) (d : Int) (vo : Value) (ps : List (List UInt8)) (b : Bool) (P : Nat → Prop) (X : ByteArray) (u : List UInt8) (tk : Rec → Bool) (FT : Nat) (w : World) (h : Hid (WrAt p d vo ps b P w)) (hX : Hid (X = ⟨u.toArray⟩)) (hu : u.length ≤ 1000000) (hl : ps.length ≤ 1000000) (hf : ps.flatten.length ≤ 10000000)
    (hET : ∀ args w, (callFunc FT args).run Try.prog w = .ok (.enter FT args) w)
    (hT : ∀ (r : Rec) (w : World), Calls Try.prog FT #[.int .i64 (r.num : Int), .int .i64 (r.ty : Int)] w fun e w' => e = .returned (.bool (tk r)) ∧ w = w') {g : Bool} (hg : Hid (munkOk tk u d = g)) :
    Calls Try.prog 25 #[.pointer (some ⟨p, 0, none⟩), .string X, .func (.func FT) #[] #[]] w (WrPost p d vo (wps (b || !g) ps [u]) (b || !g) P w) := by
  have hXs : X.size = u.length := by rw [hX.out]; simp [ByteArray.size]
  have HXD : Hid (X.data.toList = u) := Lib.hid (by rw [hX.out])
  have HE := Lib.hid hET
  have HT := Lib.hid hT
  clear hET hT
  obtain ⟨vp, ev, h1, h2, h3, _⟩ := h.out
  have hc0 : w.cell? ⟨p, 0, none⟩ = some (.int .i64 d) := row_cell h1 (j := 0) rfl
  clear h1 h2 h3
  go_enter Try.func25, Try.ntmps25
  go_wp2_with fail
  refine (munknown_any X d tk FT _ (by omega) HE.out HT.out).mono ?_; rintro e w1 ⟨rfl, hb1⟩
  rw [HXD.out, hg.out]
  have HB1 := Lib.hid hb1
  have HW1 := Lib.hid (wr_below h.out hb1)
  clear hb1
  go_wp2_with fail
  refine (wask_any p d vo ps b P g _ HW1).mono ?_; intro e w2 hpost
  obtain ⟨rfl, hu2, P2, hw2, hp2⟩ := hpost
  have HW2 := Lib.hid hw2
  have HU2 := Lib.hid hu2
  have HP2 := Lib.hid hp2
  clear hw2 hu2 hp2
  obtain ⟨b2, hb2⟩ : ∃ b2, (b || !g) = b2 := ⟨_, rfl⟩
  rw [hb2] at HW2
  have HBB := Lib.hid hb2
  clear hb2
  go_wp2_with fail
  have HV : Hid (Value.string X = strV u) := Lib.hid (by rw [hX.out]; rfl)
  rw [HV.out]
  refine (wput_any p d vo ps b2 P2 u _ HW2 hl (by omega)).mono ?_; intro e w3 hpost
  obtain ⟨rfl, hu3, P3, hw3, hp3⟩ := hpost
  have HU3 := Lib.hid hu3
  have HW3 := Lib.hid hw3
  have HP3 := Lib.hid hp3
  clear hu3 hw3 hp3
  go_wp2_with fail
  go_end0
  have hs1 := HB1.out.size
  have hs2 := HU2.out.size
  rw [HBB.out]
  refine ⟨rfl, ((Upd.of_new HB1.out).trans HU2.out).trans' HU3.out (fun k hk h => ?_), P3, HW3.out, fun k hk => ?_⟩
  · rcases HP2.out k h with h | h
    · exact h
    · omega
  · rcases HP3.out k hk with h | h
    · rcases HP2.out k h with h | h
      · exact .inl h
      · exact .inr (by omega)
    · exact .inr (by omega)
set_option maxRecDepth 1000000 in
set_option maxHeartbeats 4000000 in
theorem wend_any (p : Nat) (d : Int) (vo : Value) (ps : List (List UInt8)) (b : Bool) (P : Nat → Prop) (w : World) (h : Hid (WrAt p d vo ps b P w)) (hl : ps.length ≤ 1000000) (hf : ps.flatten.length ≤ 10000000) :
    Calls Try.prog 27 #[.pointer (some ⟨p, 0, none⟩)] w fun e w' => Below w.heap.size w w' ∧ if b then ∃ v, e = .returned (.tuple #[.string ⟨#[]⟩, v]) ∧ EC w' v 8 else e = .returned (.tuple #[.string ⟨ps.flatten.toArray⟩, .nilIface]) := by
  obtain ⟨vp, ev, h1, h2, h3, _⟩ := h.out
  have hc4 : w.cell? ⟨p, 4, none⟩ = some ev := row_cell h1 (j := 4) rfl
  have hc1 : w.cell? ⟨p, 1, none⟩ = some vp := row_cell h1 (j := 1) rfl
  have H1 := Lib.hid h1
  have H2 := Lib.hid h2
  have H3 := Lib.hid h3
  clear h1 h2 h3
  cases b with
  | true =>
    obtain ⟨T', y, rfl⟩ := H3.out.yes.iface
    have hS : w.drew.cell? ⟨p, 4, none⟩ = some (.iface T' y) := hc4
    have hne : Nonempty { w' : World // w'.cell? ⟨p, 4, none⟩ = some (.iface T' y) } := ⟨⟨_, hS⟩⟩
    have hx : ∀ t : { w' : World // w'.cell? ⟨p, 4, none⟩ = some (.iface T' y) }, t.1.cell? ⟨p, 4, none⟩ = some (.iface T' y) := fun t => t.2
    have HEC := Lib.hid H3.out.yes
    go_enter Try.func27, Try.ntmps27
    go_wp2_with fail
    refine wp_region_seq (S := fun w' => w'.cell? ⟨p, 4, none⟩ = some (.iface T' y)) [(0, true), (1, true), (2, true), (3, true), (4, true), (5, true)] (by kernel_rfl) (by kernel_rfl) (by kernel_rfl) (by kernel_rfl) hS ?_
    iterate 6 (refine seq_take _ rfl (fun K hK => ?_); go_simp; refine hK _ ?_; clear hK K)
    refine seq_done ?_
    clear hx hne
    go_wp2_with fail
    go_ret2
    obtain ⟨ws, he⟩ := HEC.out
    exact ⟨(Below.refl _ _).drew, _, rfl, ws, isErr_below ((Below.refl _ _).drew) he⟩
  | false =>
    obtain rfl := H3.out.no
    obtain ⟨ao, cap, rfl⟩ := own_slice H2.out
    have hcap : ps.length ≤ cap := by
      rcases Nat.eq_zero_or_pos ps.length with h | h
      · omega
      · obtain ⟨_, cg, hv, _, _, h9, _⟩ := own_some H2.out h
        simp only [Value.slice.injEq] at hv
        omega
    have HS := Lib.hid (strs_of_own H2.out)
    go_enter Try.func27, Try.ntmps27
    go_wp2_with fail
    refine (join_any ao cap ps _ HS.out hcap (by omega) (by omega)).mono ?_; rintro e w2 ⟨rfl, hb2⟩
    have HB2 := Lib.hid hb2
    clear hb2
    go_wp2_with fail
    go_ret2
    exact ⟨HB2.out, rfl⟩
theorem build_new_m (w : World) : BuildIn w.heap.size w.heap.size [] (w.alloc (.cells #[.pointer none, .slice none 0 0] 89)) :=
  .inl ⟨Nat.le_refl _, _, heap_alloc_new w _, ⟨rfl, .inl ⟨rfl, rfl⟩⟩, by simp [Value.ownBlock]⟩
theorem BuildIn.belowm {B b : Nat} {l : List UInt8} {w w' : World} (h : BuildIn B b l w) (hb : Below w.heap.size w w') : BuildIn B b l w' := by
  have key : ∀ p, Lib.BuilderAt 89 5 B b p (Lib.byteCells l) w → Lib.BuilderAt 89 5 B b p (Lib.byteCells l) w' := fun p ⟨h1, v, h2, h3, h4⟩ =>
    ⟨h1, v, (hb.block b (row_lt h2)).trans h2, (Upd.of_new (S := fun _ => False) hb).own h3 (fun _ _ h => h), h4⟩
  rcases h with h | h
  · exact .inl (key _ h)
  · exact .inr (key _ h)
theorem vputs_le (l : List Nat) : (l.flatMap vput).length ≤ 10 * l.length := by
  induction l with
  | nil => simp
  | cons n l ih =>
    have := (vput_length n).2
    rw [List.flatMap_cons, List.length_append, List.length_cons]; omega
set_option maxRecDepth 1000000 in
set_option maxHeartbeats 4000000 in
theorem wvars_any (p : Nat) (d : Int) (vo : Value) (ps : List (List UInt8)) (b : Bool) (P : Nat → Prop) (num : Nat) (ao : Option Addr) (cap : Nat) (l : List Nat) (w : World) (h : Hid (WrAt p d vo ps b P w)) (hN : Hid (Nats .u64 w ao l)) (hn : Hid (∀ n ∈ l, n < 2 ^ 64)) (h2 : num ≤ 536870911) (hll : l.length ≤ 100000) (hl : ps.length ≤ 1000000) (hf : ps.flatten.length ≤ 10000000) {T : List UInt8} (hT : Hid (l.flatMap vput = T)) :
    Calls Try.prog 24 #[.pointer (some ⟨p, 0, none⟩), .int .i64 (num : Int), .slice ao l.length cap] w (WrPost p d vo (wps b ps (wbytesP num T)) b P w) := by
  have HB0 := Lib.hid (below_new w (.cells #[.pointer none, .slice none 0 0] 89))
  have HD0 := Lib.hid (build_new_m w)
  have hTl : T.length ≤ 1000000 := by rw [← hT.out]; have := vputs_le l; omega
  go_enter Try.func24, Try.ntmps24
  go_wp2_with fail
  go_loopg [11] l.length (fun k i wr => ∃ (j : Nat), j + k = l.length ∧ i = .int .i64 j ∧ Hid (BuildIn w.heap.size w.heap.size ((l.take j).flatMap vput) wr) ∧ Below w.heap.size w wr)
  case atStart => exact ⟨0, by omega, rfl, by simpa using HD0, HB0.out⟩
  case round =>
    obtain ⟨j, hj, rfl, HD, hbr⟩ := hrel
    have HB := Lib.hid hbr
    have HJ := Lib.hid hj
    have hws := hbr.size
    clear hbr hj
    by_cases hlt : j < l.length
    · obtain ⟨g, off, n, HNV, rfl, hg1, hcell⟩ := (hN.out.below HB.out).at hlt
      have hn9 : n < 2 ^ 64 := by rw [HNV.out]; exact hn.out _ (List.getElem_mem hlt)
      have HTK : Hid ((l.take (j + 1)).flatMap vput = (l.take j).flatMap vput ++ vput n) := Lib.hid (by rw [List.take_succ_eq_append_getElem hlt, List.flatMap_append, HNV.out]; simp)
      obtain ⟨P0, hP0⟩ : ∃ P0, (l.take j).flatMap vput = P0 := ⟨_, rfl⟩
      have hp0 : P0.length ≤ 1000000 := by
        rw [← hP0]
        have := vputs_le (l.take j)
        rw [List.length_take] at this
        omega
      have HP0 := Lib.hid hP0
      rw [hP0] at HD
      have hvt := (vput_length n).2
      have HPS := Lib.hid (put_start hn9)
      clear hP0 hn9
      go_wp2_with fail
      refine (put_any n _ HPS.out).mono ?_; rintro e w3 ⟨rfl, hb3⟩
      have HB3 := Lib.hid (HB.out.trans (hb3.mono HB.out.size))
      have HD3 := Lib.hid (HD.out.belowm hb3)
      have hws3 := HB3.out.size
      clear hb3
      go_wp2_with fail
      refine (write_any w.heap.size w.heap.size P0 ⟨(vput n).toArray⟩ _ HD3.out (by rw [ba_size]; omega) (by omega)).mono ?_; rintro e w4 ⟨rfl, hbd, hb4⟩
      have HB4 := Lib.hid (HB3.out.trans hb4)
      have HD4 : Hid (BuildIn w.heap.size w.heap.size ((l.take (j + 1)).flatMap vput) w4) := Lib.hid (by rw [HTK.out, HP0.out]; simpa using hbd)
      clear hb4 hbd
      go_wp2_with fail
      have hj := HJ.out
      go_roundg (gk - 1)
      case measure => omega
      case rel => exact ⟨j + 1, by omega, by simp, HD4, HB4.out⟩
    · obtain rfl : j = l.length := by have := HJ.out; omega
      have HD5 : Hid (BuildIn w.heap.size w.heap.size T wr) := Lib.hid (by
        have := HD.out
        rw [List.take_length, hT.out] at this
        exact this)
      go_wp2_with fail
      refine (text_any w.heap.size w.heap.size T _ HD5.out (by omega)).mono ?_; rintro e w6 ⟨rfl, hb6⟩
      have HB6 := Lib.hid (HB.out.trans hb6)
      have HW6 := Lib.hid (wr_below h.out HB6.out)
      clear hb6
      obtain ⟨X, hX⟩ : ∃ X : ByteArray, (⟨T.toArray⟩ : ByteArray) = X := ⟨_, rfl⟩
      have HXD : Hid (X.data.toList = T) := Lib.hid (by rw [← hX])
      rw [hX]
      clear hX
      go_wp2_with fail
      refine (wmbytes_any p d vo ps b P num X T _ HW6 HXD h2 hTl hl hf).mono ?_; intro e w7 hpost
      obtain ⟨rfl, hu, P', hw, hp⟩ := hpost
      have HU := Lib.hid hu
      have HW := Lib.hid hw
      have HP := Lib.hid hp
      clear hu hw hp
      go_wp2_with fail
      go_end0
      refine ⟨rfl, (Upd.of_new HB6.out).trans HU.out, P', HW.out, fun k hk => ?_⟩
      rcases HP.out k hk with h | h
      · exact .inl h
      · exact .inr (Nat.le_trans HB6.out.size h)
end Go.Proofs.Ytdokbooggbiciaa
