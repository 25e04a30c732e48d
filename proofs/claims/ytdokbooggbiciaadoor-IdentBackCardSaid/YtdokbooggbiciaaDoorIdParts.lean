/-
  ident.Parts.
-/
import Derived.Test.YtdokbooggbiciaaDoorEnc
import Derived.Test.YtdokbooggbiciaaDoorIdStrict
import Derived.Test.YtdokbooggbiciaaDoorIdRefR
import Derived.Test.YtdokbooggbiciaaDoorIsW
import Derived.LaidEql
namespace Go.Proofs.YtdokbooggbiciaaDoor
open Go.RowKit

set_option maxRecDepth 100000 in
theorem errIs_nil (c : Int) (w : World) : Calls Tryd.prog 16 #[.nilIface, .iface 36 (.int .i64 c)] w fun e w' => e = .returned (.bool false) ∧ w = w' := by
  go_enter Tryd.func16, Tryd.ntmps16
  have kkn := fun (w : World) => run_eql_iface_nil_left (P := Tryd.prog) (w := w) (ti := 26) 36 (.int .i64 c) Tryd.underlying26
  go_wp2
  go_ret
  exact ⟨rfl, rfl⟩
/-- as ident.Parts goes on; b: was a fault of form noted? -/
structure IPI (s : ByteArray) (j : Nat) (out : List (List UInt8)) (q : Nat) (b : Bool) : Prop where
  le : q ≤ s.size
  jq : j ≤ q
  len : out.length = j
  no : b = false → PRAt s j out q
  yes : b = true → ∀ L, s.data.toList ≠ encs L
theorem ipi_start (s : ByteArray) : IPI s 0 [] 0 false := ⟨by omega, by omega, rfl, fun _ => prat_start s, fun h => by cases h⟩
theorem ipi_err {s : ByteArray} {j q c : Nat} {out : List (List UInt8)} {b : Bool} (hs : s.size ≤ 1000000000) (h : IPI s j out q b) (hq : q < s.size) (hv : vget s.data.toList (q : Int) = .error c) (L : List (List UInt8)) : s.data.toList ≠ encs L := by
  cases b with
  | true => exact h.yes rfl L
  | false => exact prat_err hs (h.no rfl) hq hv L
theorem ipi_over {s : ByteArray} {j q n qn : Nat} {out : List (List UInt8)} {b : Bool} (hs : s.size ≤ 1000000000) (h : IPI s j out q b) (hq : q < s.size) (hv : vget s.data.toList (q : Int) = .ok (n, qn)) (ho : s.size - qn < n) (L : List (List UInt8)) : s.data.toList ≠ encs L := by
  cases b with
  | true => exact h.yes rfl L
  | false => exact prat_over hs (h.no rfl) hq hv ho L
theorem ipi_next {s : ByteArray} {j q n qn : Nat} {out : List (List UInt8)} {b g : Bool} (hs : s.size ≤ 1000000000) (h : IPI s j out q b) (hq : q < s.size) (hv : vget s.data.toList (q : Int) = .ok (n, qn)) (ho : n ≤ s.size - qn) (hg : decide ((vput n).length < qn - q) = g) {t : List UInt8} (ht : (s.data.toList.drop qn).take n = t) : IPI s (j + 1) (out ++ [t]) (qn + n) (b || g) := by
  obtain ⟨g1, g2, g3, g4, g5⟩ := vget_inv hv
  have hlen := @prat_len s
  refine ⟨by omega, by have := h.jq; omega, by simp [h.len], fun hb => ?_, fun hb => ?_⟩
  · simp only [Bool.or_eq_false_iff] at hb
    have : ¬ (vput n).length < qn - q := by rw [hb.2] at hg; exact of_decide_eq_false hg
    exact prat_next hs (h.no hb.1) hq hv ho (by omega) ht
  · cases b with
    | true => exact h.yes rfl
    | false =>
      simp only [Bool.false_or] at hb
      have : (vput n).length < qn - q := by rw [hb] at hg; exact of_decide_eq_true hg
      exact fun L => prat_form hs (h.no rfl) hq hv (by omega) L
def IPPost (s : ByteArray) (w : World) (e : Ending) (w' : World) : Prop :=
  Below w.heap.size w w' ∧ ((∃ L, s.data.toList = encs L ∧ ∃ ao cap, e = .returned (.tuple #[.slice ao L.length cap, .nilIface]) ∧ Hid (Strs w' ao L)) ∨ ((∀ L, s.data.toList ≠ encs L) ∧ ∃ x, e = .returned (.tuple #[.slice none 0 0, .iface 98 x])))
theorem ip_bad {s : ByteArray} {w w' : World} {x : Value} (hb : Below w.heap.size w w') (h : ∀ L, s.data.toList ≠ encs L) : IPPost s w (.returned (.tuple #[.slice none 0 0, .iface 98 x])) w' := ⟨hb, .inr ⟨h, x, rfl⟩⟩
set_option maxRecDepth 1000000 in
set_option maxHeartbeats 8000000 in
theorem iparts_any (s : ByteArray) (w : World) (hs : s.size ≤ 100000) : Calls Tryd.prog 7 #[.string s] w (IPPost s w) := by
  go_enter Tryd.func7, Tryd.ntmps7
  go_wp2_with fail
  refine (snew_any s _).mono ?_; rintro e w1 ⟨rfl, hs1, hb1⟩
  obtain ⟨r, hr⟩ : ∃ r, w.heap.size = r := ⟨_, rfl⟩
  rw [hr] at hs1 ⊢
  have HR := Lib.hid hr
  have HS1 := Lib.hid hs1
  have HB1 := Lib.hid hb1
  clear hr hs1 hb1
  go_wp2_with fail
  go_loopg [4] s.size (fun k v wr => ∃ (j q : Nat) (out : List (List UInt8)) (b : Bool) (f : Value), q + k = s.size ∧ Hid (IPI s j out q b) ∧ FV b f ∧ Hid (SR r s q f wr) ∧ wr.ownsRow (r + 1) 9 1 v j (out.map strV) ∧ Below w.heap.size w wr)
  case atStart => exact ⟨0, 0, [], false, _, by omega, Lib.hid (ipi_start s), rfl, HS1, World.ownsRow_nil _ _ _ _, HB1.out⟩
  case round =>
    obtain ⟨j, q, out, b, f, hqk, HX, hf, HSR, hown, hbr⟩ := hrel
    obtain ⟨ao, cap, rfl⟩ := own_slice hown
    have HB := Lib.hid hbr
    have HQ := Lib.hid hqk
    have HF := Lib.hid hf
    have hbs : w.heap.size ≤ wr.heap.size := hbr.size
    have hrb : r + 1 ≤ wr.heap.size := row_lt HSR.out
    have hj := HX.out.jq
    have hqs := HX.out.le
    clear hbr hqk hf
    by_cases hlt : q < s.size
    · go_wp2_with fail
      refine (sleft_at r s q f _ HSR.out (decide_eq_true hlt)).mono ?_; rintro e w2 ⟨rfl, hb2⟩
      have HB2 := Lib.hid (HB.out.trans (hb2.mono hbs))
      have HS2 := Lib.hid (HSR.out.below hb2)
      have hown2 : w2.ownsRow (r + 1) 9 1 (.slice ao j cap) j (out.map strV) := (Upd.of_new (S := fun _ => False) hb2).own hown (fun _ _ h => h)
      have hrb2 : r + 1 ≤ w2.heap.size := row_lt HS2.out
      clear hb2 hown
      cases hv : vget s.data.toList (q : Int) with
      | error c =>
        have HE : Hid (∀ L, s.data.toList ≠ encs L) := Lib.hid (ipi_err (by omega) HX.out hlt hv)
        have HV := Lib.hid hv
        clear hv hown2
        go_wp2_with fail
        refine (stext_none_is r s q f _ HS2.out (by unfold maxLen; omega) HV.out).mono ?_; rintro e w3 ⟨⟨x, rfl, hci⟩, hb3⟩
        have HB3 : Hid (Below w.heap.size w w3) := Lib.hid (HB2.out.trans (hb3.mono HB2.out.size))
        have HS3 := Lib.hid (HS2.out.below hb3)
        clear hb3
        rcases hci.out with ⟨h0, _⟩ | ⟨ws, hie⟩
        · cases h0
        have HIE := Lib.hid hie
        clear hie hci
        obtain ⟨g, hg⟩ : ∃ g, isIt (codeV c) 4 = g := ⟨_, rfl⟩
        have HGG := Lib.hid hg
        clear hg
        cases g with
        | false =>
          go_wp2_with fail
          refine (errIs_code ws _ (codeV c) 4 _ HIE.out (root_code c)).mono ?_; rintro e w' ⟨rfl, rfl⟩
          rw [HGG.out]
          go_wp2_with fail
          go_ret2
          exact ip_bad HB3.out HE.out
        | true =>
          go_wp2_with fail
          refine (errIs_code ws _ (codeV c) 4 _ HIE.out (root_code c)).mono ?_; rintro e w' ⟨rfl, rfl⟩
          rw [HGG.out]
          go_wp2_with fail
          refine (sform_any r s q f _ HS3.out).mono ?_; rintro e w' ⟨rfl, rfl⟩
          cases b with
          | false =>
            obtain rfl := HF.out.no
            go_wp2_with fail
            go_ret2
            exact ip_bad HB3.out HE.out
          | true =>
            obtain ⟨y, rfl⟩ := HF.out.yes
            go_wp2_with fail
            refine (sform_any r s q _ _ HS3.out).mono ?_; rintro e w' ⟨rfl, rfl⟩
            go_wp2_with fail
            go_ret2
            exact ip_bad HB3.out HE.out
      | ok nq =>
        obtain ⟨n, qn⟩ := nq
        obtain ⟨k1, k2, k3, _, _⟩ := vget_inv hv
        rw [show s.data.toList.length = s.size by simp] at k2
        have HV := Lib.hid hv
        obtain ⟨g, hg⟩ : ∃ g, decide ((vput n).length < qn - q) = g := ⟨_, rfl⟩
        have HG := Lib.hid hg
        clear hv hg
        go_wp2_with fail
        refine (stext_two_is r s q b f _ HS2.out HF.out (by omega) HV.out k3 (by omega) k2 HG).mono ?_; rintro e w3 ⟨hu3, hcase⟩
        have HB3 : Hid (Below w.heap.size w w3) := Lib.hid (HB2.out.trans (hu3.below HB2.out.size (fun k _ hk => by have := HR.out; omega)))
        have hown3 : w3.ownsRow (r + 1) 9 1 (.slice ao j cap) j (out.map strV) := hu3.own hown2 (fun k hk e => by have h7 := (hown2.lt k hk).1; have e : k = r := e; omega)
        have hws3 := hu3.size
        clear hown2 hu3
        rcases hcase with ⟨hov, x, rfl, hci⟩ | ⟨hfit, rfl, f', hf', HS3⟩
        · have HE : Hid (∀ L, s.data.toList ≠ encs L) := Lib.hid (ipi_over (by omega) HX.out hlt HV.out hov)
          rcases hci.out with ⟨h0, _⟩ | ⟨ws, hie⟩
          · cases h0
          have HIE := Lib.hid hie
          clear hie hci hov hown3
          go_wp2_with fail
          refine (errIs_code ws _ (codeV 1) 4 _ HIE.out (root_code 1)).mono ?_; rintro e w' ⟨rfl, rfl⟩
          rw [show isIt (codeV 1) 4 = false from rfl]
          go_wp2_with fail
          go_ret2
          exact ip_bad HB3.out HE.out
        · obtain ⟨t, ht⟩ : ∃ t, (s.data.toList.drop qn).take n = t := ⟨_, rfl⟩
          obtain ⟨q2, hq2⟩ : ∃ q2, qn + n = q2 := ⟨_, rfl⟩
          have HX2 : Hid (IPI s (j + 1) (out ++ [t]) q2 (b || g)) := Lib.hid (by have := ipi_next (by omega) HX.out hlt HV.out hfit HG.out ht; rw [hq2] at this; exact this)
          rw [hq2] at HS3
          have HQ2 := Lib.hid (show q + 1 ≤ q2 by omega)
          have hq2s := HX2.out.le
          have HF' := Lib.hid hf'
          have hrb3 : r + 1 ≤ w3.heap.size := row_lt HS3.out
          rw [ht]
          clear ht hq2 hf' hfit
          unfold strV
          go_wp2_with fail
          refine (errIs_nil 4 _).mono ?_; rintro e w' ⟨rfl, rfl⟩
          go_wp2_with (at_builtin; refine wpList_app1 (c := 1) (cs := [.string ⟨t.toArray⟩]) rfl _ _ 22 rfl Tryd.elStr (by decide) hown3 rfl (by show Value.slice (some ⟨w3.heap.size, 0, none⟩) 1 1 = _; simp) rfl (by simp [Value.oneCell']) (by unfold maxLen; omega) (by omega) hrb3 ?_; intro v' w4 hown4 hgrow)
          have hu4 := Upd.of_grown hgrow
          have HB4 : Hid (Below w.heap.size w w4) := Lib.hid (HB3.out.grown hgrow HB3.out.size (fun k hk => by have := (hown3.lt _ hk).1; have := HR.out; omega))
          have HS4 : Hid (SR r s q2 f' w4) := Lib.hid (HS3.out.upd hu4 (fun e => by have := (hown3.lt _ e).1; omega))
          have HO4 : Hid (w4.ownsRow (r + 1) 9 1 v' (j + 1) ((out ++ [t]).map strV)) := Lib.hid (by rw [List.map_append]; exact hown4)
          clear hown3 hown4 hgrow hu4
          go_wp2_with fail
          have hqk := HQ.out
          have hq2 := HQ2.out
          go_roundg (s.size - q2)
          case measure => omega
          case rel => exact ⟨j + 1, q2, out ++ [t], b || g, f', by omega, HX2, HF'.out, HS4, HO4.out, HB4.out⟩
    · have hqe : q = s.size := by omega
      have hjl := HX.out.len
      subst hjl
      have HST : Hid (Strs wr ao out) := Lib.hid (strs_of_own hown)
      clear hown
      go_wp2_with fail
      refine (sleft_at r s q f _ HSR.out (decide_eq_false hlt)).mono ?_; rintro e w2 ⟨rfl, hb2⟩
      have HB2 := Lib.hid (HB.out.trans (hb2.mono hbs))
      have HS2 := Lib.hid (HSR.out.below hb2)
      have HST2 : Hid (Strs w2 ao out) := Lib.hid (HST.out.below hb2)
      clear hb2
      go_wp2_with fail
      refine (sform_any r s q f _ HS2.out).mono ?_; rintro e w' ⟨rfl, rfl⟩
      cases b with
      | false =>
        obtain rfl := HF.out.no
        have HL : Hid (s.data.toList = encs out) := Lib.hid (by have := (HX.out.no rfl).at_; rw [List.take_of_length_le (by simp; omega)] at this; exact this)
        clear hqe
        go_wp2_with fail
        go_ret2
        exact ⟨HB2.out, .inl ⟨out, HL.out, ao, cap, rfl, HST2⟩⟩
      | true =>
        obtain ⟨y, rfl⟩ := HF.out.yes
        have HE := Lib.hid (HX.out.yes rfl)
        clear hqe
        go_wp2_with fail
        go_ret2
        exact ip_bad HB2.out HE.out
end Go.Proofs.YtdokbooggbiciaaDoor
