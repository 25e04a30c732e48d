/-
  runs.Put.
-/
import Derived.Test.YtihoemimiplhfaaDoorStrict
import Derived.Test.YtihoemimiplhfaaDoorBuilder
import Derived.Test.YtihoemimiplhfaaDoorRunsMath
import Derived.Test.YtihoemimiplhfaaDoorInts
import Derived.Deep.LoopGhost
namespace Go.Proofs.YtihoemimiplhfaaDoor
open Go.RowKit

theorem put_r (n : Nat) (w : World) (hn : n < 2^64) : Calls Tryd.prog 53 #[.int .u64 n] w fun e w' => e = .returned (.string ⟨(vput n).toArray⟩) ∧ Below w.heap.size w w' := put_any n w (put_start hn)
theorem build_new_r (w : World) : BuildIn w.heap.size w.heap.size [] (w.alloc (.cells #[.pointer none, .slice none 0 0] 98)) :=
  .inl ⟨Nat.le_refl _, _, heap_alloc_new w _, ⟨rfl, .inl ⟨rfl, rfl⟩⟩, by simp [Value.ownBlock]⟩
theorem BuildIn.below' {B b : Nat} {l : List UInt8} {w w' : World} (h : BuildIn B b l w) (hb : Below w.heap.size w w') : BuildIn B b l w' := by
  have key : ∀ p, Lib.BuilderAt 98 5 B b p (Lib.byteCells l) w → Lib.BuilderAt 98 5 B b p (Lib.byteCells l) w' := fun p ⟨h1, v, h2, h3, h4⟩ =>
    ⟨h1, v, (hb.block b (row_lt h2)).trans h2, (Upd.of_new (S := fun _ => False) hb).own h3 (fun _ _ h => h), h4⟩
  rcases h with h | h
  · exact .inl (key _ h)
  · exact .inr (key _ h)
/-- how far Put has come: place j, the run that is open begins at f -/
structure RunAt (l : List Nat) (j f : Nat) (ps : List (Nat × Nat)) : Prop where
  fj : f ≤ j
  pf : ps.length ≤ f
  runs : runsOf l = ps ++ runsOf (l.drop f)
  rep : ∃ x, l.drop f = List.replicate (j - f) x ++ l.drop j ∧ (f < j → l[j]? = some x)
theorem runAt_rep {l : List Nat} {j f n : Nat} {ps : List (Nat × Nat)} (h : RunAt l j f ps) (hj : j < l.length) (hn : n = l[j]) : l.drop f = List.replicate (j - f + 1) n ++ l.drop (j + 1) := by
  obtain ⟨x, h1, h2⟩ := h.rep
  have hd : l.drop j = n :: l.drop (j + 1) := by rw [hn]; exact List.drop_eq_getElem_cons hj
  rw [h1, hd]
  rcases Nat.lt_or_ge f j with hf | hf
  · have := h2 hf
    rw [List.getElem?_eq_getElem hj] at this
    simp at this
    rw [List.replicate_succ', List.append_assoc, ← this, ← hn]
    rfl
  · have := h.fj
    rw [show j - f = 0 by omega]
    rfl
theorem runAt_on {l : List Nat} {j f n : Nat} {ps : List (Nat × Nat)} (h : RunAt l j f ps) (hj : j < l.length) (hn : n = l[j]) (hx : l[j + 1]? = some n) : RunAt l (j + 1) f ps := by
  have hfj := h.fj
  refine ⟨by omega, h.pf, h.runs, n, ?_, fun _ => hx⟩
  rw [runAt_rep h hj hn, show j + 1 - f = j - f + 1 by omega]
theorem runAt_end {l : List Nat} {j f n : Nat} {ps : List (Nat × Nat)} (h : RunAt l j f ps) (hj : j < l.length) (hn : n = l[j]) (hx : l[j + 1]? ≠ some n) : RunAt l (j + 1) (j + 1) (ps ++ [(n, j - f)]) := by
  have hfj := h.fj
  have hpf := h.pf
  refine ⟨Nat.le_refl _, by simp; omega, ?_, 0, by simp, fun h => by omega⟩
  rw [h.runs, runAt_rep h hj hn, runsOf_rep]
  · simp
  · intro m hm e
    rw [List.head?_drop] at hm
    subst e
    exact hx hm
theorem runAt_done {l : List Nat} {f : Nat} {ps : List (Nat × Nat)} (h : RunAt l l.length f ps) : runsOf l = ps := by
  obtain ⟨x, h1, h2⟩ := h.rep
  have hfj := h.fj
  rcases Nat.lt_or_ge f l.length with hf | hf
  · have := h2 hf
    simp at this
  · have := h.runs
    rw [List.drop_eq_nil_of_le hf] at this
    rw [this]
    simp [runsOf]
set_option maxRecDepth 1000000 in
set_option maxHeartbeats 8000000 in
theorem rput_any (ao : Option Addr) (cap : Nat) (l : List Nat) (w : World) (hN : Nats .u64 w ao l) (hlt : Hid (∀ n ∈ l, n < 18446744073709551616)) (hl : l.length ≤ 20000) {T : List UInt8} (hT : Hid (vputs (flatR (runsOf l)) = T)) :
    Calls Tryd.prog 44 #[.slice ao l.length cap] w fun e w' => e = .returned (.tuple #[.string ⟨T.toArray⟩, .nilIface]) ∧ Below w.heap.size w w' := by
  go_enter Tryd.func44, Tryd.ntmps44
  go_wp2_with fail
  go_loopg [5, 15] l.length (fun k vf i wr => ∃ (j f : Nat) (ps : List (Nat × Nat)), j + k = l.length ∧ i = .int .i64 j ∧ vf = .int .i64 f ∧ Hid (RunAt l j f ps) ∧ BuildIn w.heap.size w.heap.size (vputs (flatR ps)) wr ∧ Below w.heap.size w wr)
  case atStart => exact ⟨0, 0, [], by omega, rfl, rfl, Lib.hid ⟨Nat.le_refl _, Nat.le_refl _, by simp, 0, by simp, fun h => by omega⟩, build_new_r w, below_new0 _ _⟩
  case round =>
    obtain ⟨j, f, ps, hj, rfl, rfl, HR, hb, hbr⟩ := hrel
    have hfj := HR.out.fj
    have hpf := HR.out.pf
    have hfl := flatR_length ps
    have hvl := vputs_length (flatR ps)
    have HD0 := Lib.hid hb
    have HB0 := Lib.hid hbr
    have hws := hbr.size
    clear hb hbr
    by_cases hlt' : j < l.length
    · obtain ⟨b, off, n, HN, rfl, hbl, hc⟩ := (hN.below HB0.out).at hlt'
      have hn : n < 18446744073709551616 := by rw [HN.out]; exact hlt.out _ (List.getElem_mem _)
      have hi1 : (j : Int) < (l.length : Int) := by omega
      have hi0 : (0 : Int) ≤ (j : Int) := by omega
      have HJ := Lib.hid hj
      clear hj
      obtain ⟨j1, hj1⟩ : ∃ j1, j + 1 = j1 := ⟨_, rfl⟩
      have hj1i : (j : Int) + 1 = (j1 : Int) := by omega
      by_cases hin : j1 < l.length
      · obtain ⟨b2, off2, n2, HN2, hao, hbl2, hc2⟩ := (hN.below HB0.out).at hin
        simp only [Option.some.injEq, Addr.mk.injEq, and_true] at hao
        obtain ⟨rfl, rfl⟩ := hao
        have hlt1 : (j1 : Int) < (l.length : Int) := by omega
        by_cases hnn : n2 = n
        · have he : ((n2 : Int) == (n : Int)) = true := by subst hnn; simp
          have HX := Lib.hid (runAt_on HR.out hlt' HN.out (by rw [hj1, List.getElem?_eq_getElem hin, ← HN2.out, hnn]))
          clear hnn
          go_wp2_with fail
          have hj := HJ.out
          go_roundg (gk - 1)
          case measure => omega
          case rel => exact ⟨j + 1, f, ps, by omega, by simp; omega, rfl, HX, HD0.out, HB0.out⟩
        · have he : ((n2 : Int) == (n : Int)) = false := by simp; omega
          have HX := Lib.hid (runAt_end HR.out hlt' HN.out (by rw [hj1, List.getElem?_eq_getElem hin, ← HN2.out]; intro h; exact hnn (by simpa using h)))
          obtain ⟨d, hd⟩ : ∃ d, j - f = d := ⟨_, rfl⟩
          have hdi : (j : Int) - (f : Int) = (d : Int) := by omega
          rw [hd] at HX
          clear hnn hd
          go_wp2_with fail
          refine (put_r n _ hn).mono ?_; rintro e w1 ⟨rfl, hb1⟩
          have HB1 := Lib.hid (HB0.out.trans (hb1.mono HB0.out.size))
          have HD1 := Lib.hid (HD0.out.below' hb1)
          have hws1 := HB1.out.size
          have hvn1 := (vput_length n).2
          clear hb1
          go_wp2_with fail
          refine (write_any w.heap.size w.heap.size (vputs (flatR ps)) ⟨(vput n).toArray⟩ _ HD1.out (by rw [ba_size]; (try simp only [List.length_append]); omega) (by omega)).mono ?_; rintro e w2 ⟨rfl, hbd, hb2⟩
          have HB2 := Lib.hid (HB1.out.trans hb2)
          have HD2 := Lib.hid hbd
          have hws2 := HB2.out.size
          clear hb2 hbd
          go_wp2_with fail
          refine (put_r d _ (by omega)).mono ?_; rintro e w3 ⟨rfl, hb1⟩
          have HB3 := Lib.hid (HB2.out.trans (hb1.mono HB2.out.size))
          have HD3 := Lib.hid (HD2.out.below' hb1)
          have hws3 := HB3.out.size
          have hvn3 := (vput_length d).2
          clear hb1
          go_wp2_with fail
          refine (write_any w.heap.size w.heap.size (vputs (flatR ps) ++ vput n) ⟨(vput d).toArray⟩ _ HD3.out (by rw [ba_size]; (try simp only [List.length_append]); omega) (by omega)).mono ?_; rintro e w4 ⟨rfl, hbd, hb2⟩
          have HB4 := Lib.hid (HB3.out.trans hb2)
          have HD4 := Lib.hid hbd
          have hws4 := HB4.out.size
          clear hb2 hbd
          go_wp2_with fail
          have hj := HJ.out
          go_roundg (gk - 1)
          case measure => omega
          case rel =>
            refine ⟨j + 1, j + 1, ps ++ [(n, d)], by omega, by simp; omega, by simp; omega, HX, ?_, HB4.out⟩
            have e : vputs (flatR (ps ++ [(n, d)])) = vputs (flatR ps) ++ vput n ++ vput d := by rw [flatR_append]; simp [flatR, vputs]
            rw [e]
            exact HD4.out
      · have hlt1 : ¬ (j1 : Int) < (l.length : Int) := by omega
        have HX := Lib.hid (runAt_end HR.out hlt' HN.out (by rw [List.getElem?_eq_none (by omega)]; simp))
        obtain ⟨d, hd⟩ : ∃ d, j - f = d := ⟨_, rfl⟩
        have hdi : (j : Int) - (f : Int) = (d : Int) := by omega
        rw [hd] at HX
        clear hd
        go_wp2_with fail
        refine (put_r n _ hn).mono ?_; rintro e w1 ⟨rfl, hb1⟩
        have HB1 := Lib.hid (HB0.out.trans (hb1.mono HB0.out.size))
        have HD1 := Lib.hid (HD0.out.below' hb1)
        have hws1 := HB1.out.size
        have hvn1 := (vput_length n).2
        clear hb1
        go_wp2_with fail
        refine (write_any w.heap.size w.heap.size (vputs (flatR ps)) ⟨(vput n).toArray⟩ _ HD1.out (by rw [ba_size]; (try simp only [List.length_append]); omega) (by omega)).mono ?_; rintro e w2 ⟨rfl, hbd, hb2⟩
        have HB2 := Lib.hid (HB1.out.trans hb2)
        have HD2 := Lib.hid hbd
        have hws2 := HB2.out.size
        clear hb2 hbd
        go_wp2_with fail
        refine (put_r d _ (by omega)).mono ?_; rintro e w3 ⟨rfl, hb1⟩
        have HB3 := Lib.hid (HB2.out.trans (hb1.mono HB2.out.size))
        have HD3 := Lib.hid (HD2.out.below' hb1)
        have hws3 := HB3.out.size
        have hvn3 := (vput_length d).2
        clear hb1
        go_wp2_with fail
        refine (write_any w.heap.size w.heap.size (vputs (flatR ps) ++ vput n) ⟨(vput d).toArray⟩ _ HD3.out (by rw [ba_size]; (try simp only [List.length_append]); omega) (by omega)).mono ?_; rintro e w4 ⟨rfl, hbd, hb2⟩
        have HB4 := Lib.hid (HB3.out.trans hb2)
        have HD4 := Lib.hid hbd
        have hws4 := HB4.out.size
        clear hb2 hbd
        go_wp2_with fail
        have hj := HJ.out
        go_roundg (gk - 1)
        case measure => omega
        case rel =>
          refine ⟨j + 1, j + 1, ps ++ [(n, d)], by omega, by simp; omega, by simp; omega, HX, ?_, HB4.out⟩
          have e : vputs (flatR (ps ++ [(n, d)])) = vputs (flatR ps) ++ vput n ++ vput d := by rw [flatR_append]; simp [flatR, vputs]
          rw [e]
          exact HD4.out
    · obtain rfl : j = l.length := by omega
      have HE : vputs (flatR ps) = T := by rw [← hT.out, runAt_done HR.out]
      have HB4 : Hid (BuildIn w.heap.size w.heap.size T wr) := Lib.hid (HE ▸ HD0.out)
      clear HE
      go_wp2_with fail
      refine (text_any w.heap.size w.heap.size T _ HB4.out (by omega)).mono ?_; rintro e w2 ⟨rfl, hb2⟩
      have HB3 := Lib.hid (HB0.out.trans hb2)
      clear hb2
      go_wp2_with fail
      go_ret2
      exact ⟨rfl, HB3.out⟩
theorem rput_many (ao : Option Addr) (cap n : Nat) (w : World) (hl : 20000 < n) (hm : n ≤ 9223372036854775807) :
    Calls Tryd.prog 44 #[.slice ao n cap] w fun e w' => e = .returned (.tuple #[.string ⟨#[]⟩, .iface 103 (.pointer (some ⟨w.heap.size, 0, none⟩))]) ∧ w' = w.alloc (.cells #[.int .i64 20000, .iface 29 (.int .i64 9)] 105) := by
  go_enter Tryd.func44, Tryd.ntmps44
  go_wp2_with fail
  refine (at_any _ _ _ _).mono ?_; rintro e w' ⟨rfl, rfl⟩
  go_wp2_with fail
  go_ret2
  exact ⟨rfl, rfl⟩
end Go.Proofs.YtihoemimiplhfaaDoor
