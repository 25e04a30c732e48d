/-
  A region that draws its order, in an order that is given; what holds in every world on the way may be told anew behind each operation that comes up.
-/
import Derived.Test.YtdokbooggbiciaaOrd
namespace Go.Proofs.Ytdokbooggbiciaa
open Go.RowKit

section
variable {P : Program} {ops : Array Oper} {Q : Exit → Act → World → Prop}

theorem wpAnyH_weak {S S' : World → Prop} (hs : ∀ w, S' w → S w) : ∀ (n : Nat) (listed : Array Bool) (a : Act) (w : World), wpAnyH P .any ops Q S' n listed a w → wpAnyH P .any ops Q S n listed a w
  | 0, _, _, _, h => h
  | n + 1, _, _, _, h => ⟨h.1, fun i hi => wpOp_mono (fun a' w' h' => ⟨hs _ h'.1, wpAnyH_weak hs n _ a' w' h'.2⟩) (h.2 i hi)⟩
def wpSeqT (P : Program) (ops : Array Oper) (Q : Exit → Act → World → Prop) : List (Nat × Bool) → (World → Prop) → Act → World → Prop
  | [], _, a, w => Q .normal a w
  | (i, true) :: r, S, a, w => ∃ o, ops[i]? = some o ∧ seqTake P ops S o a (fun a' => wpSeqT P ops Q r S a' w)
  | (i, false) :: r, S, a, w => ∃ o, ops[i]? = some o ∧ seqCome P ops Q o a w (fun a' w' => ∃ S' : World → Prop, (∀ x, S' x → S x) ∧ S' w' ∧ wpSeqT P ops Q r S' a' w')
theorem wpAnyH_of_seqT (hsel : Region.noSelect ops = true) (hQ : ∀ c a d v w, Q (.panic c) (a.put d v) w → Q (.panic c) a w) : ∀ (ord : List (Nat × Bool)) (S : World → Prop) (listed : Array Bool) (a : Act) (w : World),
    ordOK ops ord listed = true → S w → wpSeqT P ops Q ord S a w → wpAnyH P .any ops Q S ord.length listed a w
  | [], S, listed, a, w, hB, _, h => wpAnyH_done (by simpa [ordOK, List.isEmpty_iff] using hB) h _
  | (i, true) :: r, S, listed, a, w, hB, hS, h => by
    simp only [ordOK, Bool.and_eq_true] at hB
    obtain ⟨⟨hf, hr⟩, hB'⟩ := hB
    obtain ⟨o, ho, v, hv, hn⟩ := h
    refine wpAnyH_take ho hsel hf hr (fun c a w => hQ c a _ _ w) (v := v) ?_ hS (wpAnyH_of_seqT hsel hQ r S _ _ w hB' hS hn)
    split at hv
    · rename_i hw; exact .inl ⟨hw, fun w hw' => hv ⟨w, hw'⟩⟩
    · rename_i hw; exact .inr ⟨by simpa using hw, hv⟩
  | (i, false) :: r, S, listed, a, w, hB, hS, h => by
    simp only [ordOK, Bool.and_eq_true, decide_eq_true_eq] at hB
    obtain ⟨hr, hB'⟩ := hB
    obtain ⟨o, ho, hc⟩ := h
    refine wpAnyH_all hr (by simp) fun j hj => ?_
    obtain rfl := List.mem_singleton.1 hj
    unfold wpOp
    simp only [ho]
    unfold seqCome at hc
    split
    · rename_i hw
      rw [if_pos hw] at hc
      exact .inl (Oper.wp_mono (fun a' w' ⟨S', h1, h2, h3⟩ => ⟨h1 _ h2, wpAnyH_weak h1 _ _ _ _ (wpAnyH_of_seqT hsel hQ r S' _ a' w' hB' h2 h3)⟩) hc)
    · rename_i hw
      rw [if_neg hw] at hc
      obtain ⟨S', h1, h2, h3⟩ := hc
      exact ⟨h1 _ h2, wpAnyH_weak h1 _ _ _ _ (wpAnyH_of_seqT hsel hQ r S' _ _ w hB' h2 h3)⟩
theorem wp_region_seqT {id : Nat} {a : Act} {w : World} {l : List Oper} (S : World → Prop) (ord : List (Nat × Bool)) (hm : P.follows .mixedOrders = true) (hsel : Region.noSelect l.toArray = true) (hlen : ord.length = l.toArray.size)
    (hB : ordOK l.toArray ord (Array.replicate l.toArray.size false) = true) (hS : S w.drew)
    (h : wpSeqT P l.toArray (NoPanic Q) ord S a w.drew) : (Code.region id l.toArray true).wp P Q a w := by
  refine wp_region_noPanic (wp_region_held (S := S) hm ?_)
  have := wpAnyH_of_seqT hsel (fun _ _ _ _ _ h => (h : False).elim) ord S _ a w.drew hB hS h
  rw [hlen] at this
  exact this
theorem seqT_take {S : World → Prop} {i : Nat} {r : List (Nat × Bool)} {a : Act} {w : World} (o : Oper) (ho : ops[i]? = some o)
    (h : ∀ K : Act → Prop, (∀ a', wpSeqT P ops Q r S a' w → K a') → ∃ v, (if Region.wanted o (yielded ops a.tmps) then ∀ t : { x : World // S x }, (execOp a.eval o).run P t.1 = .ok (.value v) t.1 else v = undef) ∧ K (a.put o.dst v)) : wpSeqT P ops Q ((i, true) :: r) S a w :=
  ⟨o, ho, h _ (fun _ h => h)⟩
theorem seqT_come {S : World → Prop} {i : Nat} {r : List (Nat × Bool)} {a : Act} {w : World} (o : Oper) (ho : ops[i]? = some o)
    (h : ∀ K : Act → World → Prop, Hid (∀ a' w' (S' : World → Prop), (∀ x, S' x → S x) → S' w' → wpSeqT P ops Q r S' a' w' → K a' w') → if Region.wanted o (yielded ops a.tmps) then o.wp P a w K Q else K (a.put o.dst undef) w) : wpSeqT P ops Q ((i, false) :: r) S a w :=
  ⟨o, ho, h _ (Lib.hid fun _ _ S' h1 h2 h3 => ⟨S', h1, h2, h3⟩)⟩
theorem seqT_done {S : World → Prop} {a : Act} {w : World} (h : Q .normal a w) : wpSeqT P ops (NoPanic Q) [] S a w := h
end
end Go.Proofs.Ytdokbooggbiciaa
