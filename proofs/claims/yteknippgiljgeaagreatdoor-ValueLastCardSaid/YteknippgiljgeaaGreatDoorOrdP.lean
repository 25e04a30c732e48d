/-
  A drawn region in which two operations come up in the one order or the other.
-/
import Derived.Test.YteknippgiljgeaaGreatDoorOrd
namespace Go.Proofs.YteknippgiljgeaaGreatDoor
open Go.RowKit

section
variable {P : Program} {ops : Array Oper} {Q : Exit → Act → World → Prop} {S : World → Prop}

/-- an order, told as a tree: two operations may come up in the one order or the other -/
inductive OTree where
  | done
  | take (i : Nat) (t : OTree)
  | come (i : Nat) (t : OTree)
  | two (i j : Nat) (t1 t2 : OTree)
def OTree.len : OTree → Nat
  | .done => 0
  | .take _ t => t.len + 1
  | .come _ t => t.len + 1
  | .two _ _ t1 _ => t1.len + 1
def ordOKP (ops : Array Oper) : OTree → Array Bool → Bool
  | .done, listed => (Region.ready .any ops listed).isEmpty
  | .take i t, listed => Region.free .any ops listed i && (Region.ready .any ops listed).contains i && ordOKP ops t (listed.setIfInBounds i true)
  | .come i t, listed => decide (Region.ready .any ops listed = [i]) && ordOKP ops t (listed.setIfInBounds i true)
  | .two i j t1 t2, listed => decide (Region.ready .any ops listed = [i, j]) && decide (t1.len = t2.len) && ordOKP ops t1 (listed.setIfInBounds i true) && ordOKP ops t2 (listed.setIfInBounds j true)
def wpSeqP (P : Program) (ops : Array Oper) (Q : Exit → Act → World → Prop) (S : World → Prop) : OTree → Act → World → Prop
  | .done, a, w => Q .normal a w
  | .take i t, a, w => ∃ o, ops[i]? = some o ∧ seqTake P ops S o a (fun a' => wpSeqP P ops Q S t a' w)
  | .come i t, a, w => ∃ o, ops[i]? = some o ∧ seqCome P ops Q o a w (fun a' w' => S w' ∧ wpSeqP P ops Q S t a' w')
  | .two i j t1 t2, a, w => ∃ oi oj, ops[i]? = some oi ∧ ops[j]? = some oj ∧ seqCome P ops Q oi a w (fun a' w' => S w' ∧ wpSeqP P ops Q S t1 a' w') ∧ seqCome P ops Q oj a w (fun a' w' => S w' ∧ wpSeqP P ops Q S t2 a' w')
theorem come_all {i : Nat} {o : Oper} {listed : Array Bool} {a : Act} {w : World} {n : Nat} (ho : ops[i]? = some o)
    (h : seqCome P ops Q o a w (fun a' w' => S w' ∧ wpAnyH P .any ops Q S n (listed.setIfInBounds i true) a' w')) :
    wpOp P ops Q i (fun a' w' => S w' ∧ wpAnyH P .any ops Q S n (listed.setIfInBounds i true) a' w') a w := by
  unfold wpOp
  simp only [ho]
  unfold seqCome at h
  split
  · rename_i hw
    rw [if_pos hw] at h
    exact .inl h
  · rename_i hw
    rw [if_neg hw] at h
    exact h
theorem seqCome_mono {o : Oper} {a : Act} {w : World} {K K' : Act → World → Prop} (hk : ∀ a w, K a w → K' a w) (h : seqCome P ops Q o a w K) : seqCome P ops Q o a w K' := by
  unfold seqCome at h ⊢
  split
  · rename_i hw
    rw [if_pos hw] at h
    exact Oper.wp_mono (fun a' w' h' => hk a' w' h') h
  · rename_i hw
    rw [if_neg hw] at h
    exact hk _ _ h
theorem wpAnyH_of_seqP (hsel : Region.noSelect ops = true) (hQ : ∀ c a d v w, Q (.panic c) (a.put d v) w → Q (.panic c) a w) : ∀ (t : OTree) (listed : Array Bool) (a : Act) (w : World),
    ordOKP ops t listed = true → S w → wpSeqP P ops Q S t a w → wpAnyH P .any ops Q S t.len listed a w
  | .done, listed, a, w, hB, _, h => wpAnyH_done (by simpa [ordOKP, List.isEmpty_iff] using hB) h _
  | .take i t, listed, a, w, hB, hS, h => by
    simp only [ordOKP, Bool.and_eq_true] at hB
    obtain ⟨⟨hf, hr⟩, hB'⟩ := hB
    obtain ⟨o, ho, v, hv, hn⟩ := h
    refine wpAnyH_take ho hsel hf hr (fun c a w => hQ c a _ _ w) (v := v) ?_ hS (wpAnyH_of_seqP hsel hQ t _ _ w hB' hS hn)
    split at hv
    · rename_i hw; exact .inl ⟨hw, fun w hw' => hv ⟨w, hw'⟩⟩
    · rename_i hw; exact .inr ⟨by simpa using hw, hv⟩
  | .come i t, listed, a, w, hB, hS, h => by
    simp only [ordOKP, Bool.and_eq_true, decide_eq_true_eq] at hB
    obtain ⟨hr, hB'⟩ := hB
    obtain ⟨o, ho, hc⟩ := h
    refine wpAnyH_all hr (by simp) fun j hj => ?_
    obtain rfl := List.mem_singleton.1 hj
    exact come_all ho (seqCome_mono (fun a' w' hh => ⟨hh.1, wpAnyH_of_seqP hsel hQ t _ a' w' hB' hh.1 hh.2⟩) hc)
  | .two i j t1 t2, listed, a, w, hB, hS, h => by
    simp only [ordOKP, Bool.and_eq_true, decide_eq_true_eq] at hB
    obtain ⟨⟨⟨hr, hl⟩, hB1⟩, hB2⟩ := hB
    obtain ⟨oi, oj, hoi, hoj, hA, hC⟩ := h
    refine wpAnyH_all hr (by simp) fun k hk => ?_
    have hk' : k = i ∨ k = j := by simpa using hk
    rcases hk' with rfl | rfl
    · exact come_all hoi (seqCome_mono (fun a' w' hh => ⟨hh.1, wpAnyH_of_seqP hsel hQ t1 _ a' w' hB1 hh.1 hh.2⟩) hA)
    · refine come_all hoj (seqCome_mono (fun a' w' hh => ⟨hh.1, ?_⟩) hC)
      rw [hl]
      exact wpAnyH_of_seqP hsel hQ t2 _ a' w' hB2 hh.1 hh.2
theorem wp_region_seqP {id : Nat} {a : Act} {w : World} {l : List Oper} (t : OTree) (hm : P.follows .mixedOrders = true) (hsel : Region.noSelect l.toArray = true) (hlen : t.len = l.toArray.size)
    (hB : ordOKP l.toArray t (Array.replicate l.toArray.size false) = true) (hS : S w.drew)
    (h : wpSeqP P l.toArray (NoPanic Q) S t a w.drew) : (Code.region id l.toArray true).wp P Q a w := by
  refine wp_region_noPanic (wp_region_held (S := S) hm ?_)
  have := wpAnyH_of_seqP (S := S) hsel (fun _ _ _ _ _ h => (h : False).elim) t _ a w.drew hB hS h
  rw [hlen] at this
  exact this
theorem seqP_take {i : Nat} {t : OTree} {a : Act} {w : World} (o : Oper) (ho : ops[i]? = some o)
    (h : ∀ K : Act → Prop, (∀ a', wpSeqP P ops Q S t a' w → K a') → ∃ v, (if Region.wanted o (yielded ops a.tmps) then ∀ t : { x : World // S x }, (execOp a.eval o).run P t.1 = .ok (.value v) t.1 else v = undef) ∧ K (a.put o.dst v)) : wpSeqP P ops Q S (.take i t) a w :=
  ⟨o, ho, h _ (fun _ h => h)⟩
theorem seqP_come {i : Nat} {t : OTree} {a : Act} {w : World} (o : Oper) (ho : ops[i]? = some o)
    (h : ∀ K : Act → World → Prop, Hid (∀ a' w', S w' → wpSeqP P ops Q S t a' w' → K a' w') → if Region.wanted o (yielded ops a.tmps) then o.wp P a w K Q else K (a.put o.dst undef) w) : wpSeqP P ops Q S (.come i t) a w :=
  ⟨o, ho, h _ (Lib.hid fun _ _ h1 h2 => ⟨h1, h2⟩)⟩
theorem seqP_wp {i : Nat} {t : OTree} {a : Act} {w : World} (o : Oper) (ho : ops[i]? = some o) (hg : o.guard = none)
    (h : ∀ K : Act → World → Prop, Hid (∀ a' w', S w' → wpSeqP P ops Q S t a' w' → K a' w') → o.wp P a w K Q) : wpSeqP P ops Q S (.come i t) a w :=
  seqP_come o ho fun K hK => by rw [if_pos (by simp [Region.wanted, hg])]; exact h K hK
theorem seqP_two {i j : Nat} {t1 t2 : OTree} {a : Act} {w : World} (oi oj : Oper) (hi : ops[i]? = some oi) (hj : ops[j]? = some oj)
    (h1 : ∀ K : Act → World → Prop, Hid (∀ a' w', S w' → wpSeqP P ops Q S t1 a' w' → K a' w') → if Region.wanted oi (yielded ops a.tmps) then oi.wp P a w K Q else K (a.put oi.dst undef) w)
    (h2 : ∀ K : Act → World → Prop, Hid (∀ a' w', S w' → wpSeqP P ops Q S t2 a' w' → K a' w') → if Region.wanted oj (yielded ops a.tmps) then oj.wp P a w K Q else K (a.put oj.dst undef) w) : wpSeqP P ops Q S (.two i j t1 t2) a w :=
  ⟨oi, oj, hi, hj, h1 _ (Lib.hid fun _ _ hs hk => ⟨hs, hk⟩), h2 _ (Lib.hid fun _ _ hs hk => ⟨hs, hk⟩)⟩
theorem seqP_done {a : Act} {w : World} (h : Q .normal a w) : wpSeqP P ops (NoPanic Q) S .done a w := h
end
end Go.Proofs.YteknippgiljgeaaGreatDoor
