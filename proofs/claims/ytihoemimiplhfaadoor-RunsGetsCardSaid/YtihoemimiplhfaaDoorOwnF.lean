/-
  A slice of the call's own over a block with any mark of frozen cells behind its own (a converted string's bytes): reads, stores, appends of one element. General over any program.
-/
import Derived.Test.YtihoemimiplhfaaDoorKit
import Derived.ArgAppend
import Derived.Lib.ConvBytes
namespace Go.Proofs.YtihoemimiplhfaaDoor
open Go.RowKit

/-- the slice value v of n elements lies at the head of a block from base on, whose first cells are xs; no cell within its capacity is frozen -/
def OwnF (w : World) (base size : Nat) (v : Value) (n : Nat) (xs : List Value) : Prop :=
  xs.length = n * size ∧ ∃ g cap, v = .slice (some ⟨g, 0, none⟩) n cap ∧ base ≤ g ∧ g < w.heap.size ∧ n ≤ cap ∧ cap ≤ maxLen ∧
    (∀ j u, xs[j]? = some u → w.cell? ⟨g, j, none⟩ = some u) ∧ ∀ j, j < cap * size → (w.cell? ⟨g, j, none⟩).isSome = true ∧ w.frozen? ⟨g, j, none⟩ = false

theorem addr_add0 (g j : Nat) : (⟨g, 0, none⟩ : Addr).add j = ⟨g, j, none⟩ := by unfold Addr.add; split <;> simp_all

theorem OwnF.of_own {w : World} {base : Nat} {e : TypeId} {size : Nat} {v : Value} {n : Nat} {xs : List Value} (h : w.ownsRow base e size v n xs) (hn : v ≠ .slice none 0 0) : OwnF w base size v n xs := by
  obtain ⟨h1, h2⟩ := id h
  rcases h2 with ⟨h2, _⟩ | ⟨g, cap, cur, rfl, hb, hg, hc, hm, hs, ht⟩
  · exact absurd h2 hn
  · refine ⟨h1, g, cap, rfl, hb, (Array.getElem?_eq_some_iff.1 hg).1, hc, hm, fun j u hj => ?_, fun j hj => ⟨?_, ?_⟩⟩
    · have := h.cells (g := g) rfl j u hj
      rwa [addr_add0] at this
    · simp [World.cell?, hg, hs, hj]
    · simp [World.frozen?, hg]
theorem OwnF.cell {w : World} {base size g n cap : Nat} {xs : List Value} (h : OwnF w base size (.slice (some ⟨g, 0, none⟩) n cap) n xs) {j : Nat} {u : Value} (hj : xs[j]? = some u) : w.cell? ⟨g, j, none⟩ = some u := by
  obtain ⟨_, g', cap', he, _, _, _, _, h1, _⟩ := h
  simp at he
  obtain ⟨rfl, rfl⟩ := he
  exact h1 j u hj
theorem OwnF.thaw {w : World} {base size g n cap : Nat} {xs : List Value} (h : OwnF w base size (.slice (some ⟨g, 0, none⟩) n cap) n xs) {j : Nat} (hj : j < n * size) : w.frozen? ⟨g, j, none⟩ = false := by
  obtain ⟨_, g', cap', he, _, _, hc, _, _, h2⟩ := h
  simp at he
  obtain ⟨rfl, rfl⟩ := he
  exact (h2 j (Nat.lt_of_lt_of_le hj (Nat.mul_le_mul_right _ hc))).2
/-- blocks that stay keep it -/
theorem OwnF.keep {w w' : World} {base size : Nat} {v : Value} {n : Nat} {xs : List Value} (h : OwnF w base size v n xs) (hs : w.heap.size ≤ w'.heap.size) (hk : ∀ k, v.ownBlock = some k → w'.heap[k]? = w.heap[k]?) : OwnF w' base size v n xs := by
  obtain ⟨h1, g, cap, rfl, hb, hg, hc, hm, h2, h3⟩ := h
  have e := hk g rfl
  refine ⟨h1, g, cap, rfl, hb, by omega, hc, hm, fun j u hj => ?_, fun j hj => ?_⟩
  · rw [World.cell?_of_block (w := w) (a := ⟨g, j, none⟩) e]; exact h2 j u hj
  · rw [World.cell?_of_block (w := w) (a := ⟨g, j, none⟩) e, World.frozen?_of_block (w := w) (a := ⟨g, j, none⟩) e]; exact h3 j hj
theorem OwnF.alloc {w : World} {base size : Nat} {v : Value} {n : Nat} {xs : List Value} (h : OwnF w base size v n xs) (o : Obj) : OwnF (w.alloc o) base size v n xs := by
  have h' := h
  obtain ⟨h1, g, cap, rfl, hb, hg, hc, hm, h2, h3⟩ := h
  exact h'.keep (by simp) (fun k hk => by simp [Value.ownBlock] at hk; subst hk; exact Below.heap_alloc _ _ _ hg)
theorem frozen_setCell (w : World) (a x : Addr) (u : Value) : (w.setCell a u).frozen? x = w.frozen? x := by
  have := World.frozen?_setCells a.block [u] a.off w x
  simp only [World.frozen?, World.setCell, Array.getElem?_modify]
  by_cases h : a.block = x.block
  · rw [if_pos h]
    cases w.heap[x.block]? with
    | none => rfl
    | some o => cases o <;> rfl
  · rw [if_neg h]
/-- a store into one of its cells -/
theorem OwnF.set {w : World} {base size g n cap : Nat} {xs : List Value} (h : OwnF w base size (.slice (some ⟨g, 0, none⟩) n cap) n xs) {j : Nat} (hj : j < n * size) (u : Value) :
    OwnF (w.setCell ⟨g, j, none⟩ u) base size (.slice (some ⟨g, 0, none⟩) n cap) n (xs.set j u) := by
  obtain ⟨h1, g', cap', he, hb, hg, hc, hm, h2, h3⟩ := h
  simp at he
  obtain ⟨rfl, rfl⟩ := he
  have hjc : j < cap * size := Nat.lt_of_lt_of_le hj (Nat.mul_le_mul_right _ hc)
  have hsm := (h3 j hjc).1
  have hset : ∀ k, (w.setCell ⟨g, j, none⟩ u).cell? ⟨g, k, none⟩ = if k = j then some u else w.cell? ⟨g, k, none⟩ := by
    intro k
    split
    · rename_i hk
      subst hk
      have := World.cell?_setCells_in g [u] k w (fun i hi => by
        obtain rfl : i = 0 := by simpa using hi
        simpa using hsm) 0 (by simp)
      simpa [World.setCells] using this
    · rename_i hk
      have := World.cell?_setCells_out g [u] j w ⟨g, k, none⟩ (by intro _ _; simp; omega)
      simpa [World.setCells] using this
  refine ⟨by simpa using h1, g, cap, rfl, hb, by simp [World.setCell]; omega, hc, hm, fun i v hi => ?_, fun i hi => ⟨?_, ?_⟩⟩
  · rw [hset i]
    split
    · rename_i hk
      subst hk
      rw [List.getElem?_set_self' ] at hi
      have : xs[i]? = some xs[i] := List.getElem?_eq_getElem (by omega)
      rw [this] at hi
      simpa using hi
    · rename_i hk
      rw [List.getElem?_set_ne (by omega)] at hi
      exact h2 i v hi
  · rw [hset i]
    split
    · rfl
    · exact (h3 i hi).1
  · rw [frozen_setCell]; exact (h3 i hi).2

theorem OwnF.form {w : World} {base size n : Nat} {v : Value} {xs : List Value} (h : OwnF w base size v n xs) : ∃ g cap, v = .slice (some ⟨g, 0, none⟩) n cap ∧ n ≤ cap ∧ cap ≤ maxLen ∧ base ≤ g := by
  obtain ⟨h1, g, cap, e, hb, _, h2, h3, _⟩ := h
  exact ⟨g, cap, e, h2, h3, hb⟩
/-- cut short -/
theorem OwnF.take {w : World} {base size g n cap q : Nat} {xs : List Value} (h : OwnF w base size (.slice (some ⟨g, 0, none⟩) n cap) n xs) (hq : q ≤ n) :
    OwnF w base size (.slice (some ⟨g, 0, none⟩) q cap) q (xs.take (q * size)) := by
  obtain ⟨h1, g', cap', he, hb, hg, hc, hm, h2, h3⟩ := h
  simp at he
  obtain ⟨rfl, rfl⟩ := he
  have : q * size ≤ n * size := Nat.mul_le_mul_right _ hq
  refine ⟨by simp; omega, g, cap, rfl, hb, hg, by omega, hm, fun j u hj => h2 j u ?_, h3⟩
  rw [List.getElem?_take] at hj
  split at hj
  · exact hj
  · simp at hj
theorem bys_take (l : List UInt8) (q : Nat) : (bys l).take q = bys (l.take q) := by simp [bys]
section
variable {P : Program} {w : World}
/-- 'append(v, x)' of ONE element, v the call's own, whatever stands behind it -/
theorem wpList_app1F {ops : Array Oper} {rest : List Oper} {o : Oper} {a : Act} {Q : Exit → Act → World → Prop} (hgd : o.guard = none) (s x : Operand) (t : TypeId)
    (ho : o.op = .call { callee := .builtin .append, args := #[s, x], argTypes := #[t, t] })
    {base : Nat} {e : TypeId} {z : Value} {size bytes : Nat} (he : Elem P t e z size bytes) (hsz : 0 < size)
    {v : Value} {n : Nat} {xs : List Value} (hown : OwnF w base size v n xs) (hs : a.eval s = v)
    {cs : List Value} {c : Nat} (hx : a.eval x = .slice (some ⟨w.heap.size, 0, none⟩) 1 c) (hcs : cs.length = size) (h1 : ∀ u ∈ cs, u.oneCell' = true)
    (h63 : n + 1 ≤ maxLen) (hbytes : (n + 1) * bytes ≤ 140737488355328) (hbase : base ≤ w.heap.size)
    (h : ∀ v' w', OwnF w' base size v' (n + 1) (xs ++ cs) → w.grownBy w' v.ownBlock → wpList P ops Q rest (a.put o.dst v') w') : wpList P ops Q (o :: rest) a (w.alloc (.cells cs.toArray e)) := by
  obtain ⟨ht, hi0, hzs⟩ := he
  obtain ⟨i, hi, hz, hsize, hby⟩ := info_parts hi0
  have hownA := hown.alloc (.cells cs.toArray e)
  obtain ⟨hl, g, cap, rfl, hb, hg, hc, hm, h2, h3⟩ := hown
  obtain ⟨_, g', cap', he', _, _, _, _, h2a, h3a⟩ := hownA
  simp at he'
  obtain ⟨rfl, rfl⟩ := he'
  have hcells : ∀ j u, cs[j]? = some u → (w.alloc (.cells cs.toArray e)).cell? ((⟨w.heap.size, 0, none⟩ : Addr).add j) = some u := by
    intro j u hj
    rw [addr_add0, World.cell?_alloc_at _ _ _ _ rfl]
    simpa using hj
  refine wpList_append_arg (w.alloc (.cells cs.toArray e)) hgd s x t ho e i z size bytes ht hi hz hsize hby hzs hsz g 0 n cap xs hs hl (fun j u hj => by rw [Nat.zero_add]; exact h2a j u hj) ⟨w.heap.size, 0, none⟩ 1 c cs hx (by simp [hcs]) hcells h1
    (fun hr j hj => ?_) h63 hbytes (fun hr => ?_) (fun hr v' w' hown' hgr => ?_)
  · have hlt : n * size + j < cap * size := by
      have : (n + 1) * size ≤ cap * size := Nat.mul_le_mul_right _ hr
      rw [Nat.add_mul] at this
      omega
    rw [Nat.zero_add]
    exact h3a _ hlt
  · refine h _ _ ⟨by rw [List.length_append, hl, hcs, Nat.add_mul, Nat.one_mul], g, cap, rfl, hb, ?_, hr, hm, fun j u hj => ?_, fun j hj => ⟨?_, ?_⟩⟩ ?_
    · have : ∀ (vs : List Value) (o : Nat) (w : World), (w.setCells g o vs).heap.size = w.heap.size := by
        intro vs
        induction vs with
        | nil => intro o w; rfl
        | cons v vs ih => intro o w; simp only [World.setCells]; rw [ih]; simp [World.setCell]
      rw [this]; simp; omega
    · rcases Nat.lt_or_ge j (n * size) with hj1 | hj1
      · rw [World.cell?_setCells_out _ _ _ _ _ (by intro _ _; simp; omega)]
        rw [List.getElem?_append_left (by omega)] at hj
        exact h2a j u hj
      · rw [List.getElem?_append_right (by omega), hl] at hj
        obtain ⟨hlt, rfl⟩ := List.getElem?_eq_some_iff.1 hj
        have := World.cell?_setCells_in g cs (n * size) (w.alloc (.cells cs.toArray e)) (fun i hi => by
          have hlt : n * size + i < cap * size := by
            have : (n + 1) * size ≤ cap * size := Nat.mul_le_mul_right _ hr
            rw [Nat.add_mul] at this
            omega
          exact (h3a _ hlt).1) (j - n * size) hlt
        rw [show n * size + (j - n * size) = j by omega] at this
        simpa using this
    · by_cases hin : n * size ≤ j ∧ j < n * size + cs.length
      · have := World.cell?_setCells_in g cs (n * size) (w.alloc (.cells cs.toArray e)) (fun i hi => by
          have hlt : n * size + i < cap * size := by
            have : (n + 1) * size ≤ cap * size := Nat.mul_le_mul_right _ hr
            rw [Nat.add_mul] at this
            omega
          exact (h3a _ hlt).1) (j - n * size) (by omega)
        rw [show n * size + (j - n * size) = j by omega] at this
        rw [Nat.zero_add, this]; rfl
      · rw [World.cell?_setCells_out _ _ _ _ _ (by intro _ _; simp; omega)]
        exact (h3a j hj).1
    · rw [World.frozen?_setCells]; exact (h3a j hj).2
    · have hsc : ∀ (vs : List Value) (o : Nat) (w : World), (w.setCells g o vs).os = w.os ∧ (w.setCells g o vs).tape = w.tape ∧ (w.setCells g o vs).output = w.output ∧ (w.setCells g o vs).heap.size = w.heap.size ∧ ∀ k, k ≠ g → (w.setCells g o vs).heap[k]? = w.heap[k]? := by
        intro vs
        induction vs with
        | nil => intro o w; exact ⟨rfl, rfl, rfl, rfl, fun _ _ => rfl⟩
        | cons v vs ih =>
          intro o w
          simp only [World.setCells]
          obtain ⟨a1, a2, a3, a4, a5⟩ := ih (o + 1) (w.setCell ⟨g, o, none⟩ v)
          exact ⟨a1, a2, a3, by rw [a4]; simp [World.setCell], fun k hk => by rw [a5 k hk, Below.heap_setCell _ _ _ _ hk]⟩
      obtain ⟨a1, a2, a3, a4, a5⟩ := hsc cs (0 + n * size) (w.alloc (.cells cs.toArray e))
      refine ⟨a1, a2, a3, by rw [a4]; simp, fun k hk hne => ?_⟩
      rw [a5 k (fun e => hne (by simp [Value.ownBlock, e])), Below.heap_alloc _ _ _ hk]
  · have hne : v' ≠ .slice none 0 0 := by
      intro e
      subst e
      have h4 := hown'.1
      rcases hown'.2 with ⟨_, h5⟩ | ⟨_, _, _, h5, _⟩
      · omega
      · simp at h5
    have hF := OwnF.of_own hown' hne
    obtain ⟨b1, g2, cap2, rfl, b2, b3⟩ := hF
    have hgg := grownBy_of_alloc hgr
    exact h _ _ ⟨b1, g2, cap2, rfl, by simp at b2; omega, b3⟩ ⟨hgg.os, hgg.tape, hgg.output, hgg.size, fun k hk _ => hgg.block k hk (by simp)⟩
end
/-- 'string(v)' -/
theorem run_conv_ownF {P : Program} {w : World} {base n : Nat} {src dst e : TypeId} {v : Value} {l : List UInt8} (hs : P.underlying src = some (.slice e)) (he : P.underlying e = some (.int .u8)) (hd : P.underlying dst = some .string)
    (hown : OwnF w base 1 v n (bys l)) : (convert src dst v).run P w = .ok (.string ⟨l.toArray⟩) w := by
  obtain ⟨hlen, g, cap, rfl, hb, hg, hc, hm, h2, h3⟩ := hown
  have hn : n = l.length := by simpa [bys] using hlen.symm
  subst hn
  refine run_convert_bytes_back w src dst e ⟨g, 0, none⟩ cap l hs he hd fun j hj => ?_
  rw [addr_add0]
  exact h2 j _ (by simp [bys, List.getElem?_eq_getElem hj])
theorem run_conv_ownF_take {P : Program} {w : World} {base n g cap q : Nat} {src dst e : TypeId} {l : List UInt8} (hs : P.underlying src = some (.slice e)) (he : P.underlying e = some (.int .u8)) (hd : P.underlying dst = some .string)
    (hown : OwnF w base 1 (.slice (some ⟨g, 0, none⟩) n cap) n (bys l)) (hq : q ≤ n) : (convert src dst (.slice (some ⟨g, 0, none⟩) q cap)).run P w = .ok (.string ⟨(l.take q).toArray⟩) w := by
  have := hown.take hq
  rw [Nat.mul_one, bys_take] at this
  exact run_conv_ownF hs he hd this
theorem OwnF.ofConv (w : World) (e : TypeId) (s : ByteArray) {base : Nat} (hb : base ≤ w.heap.size) (hs : s.size ≤ maxLen) :
    OwnF (Lib.bytesWorld w e s) base 1 (.slice (some ⟨w.heap.size, 0, none⟩) s.size (grownCap w s.size 0 e)) s.size (bys s.data.toList) := by
  have hcap := grownCap_ge w s.size 0 e
  have hsz : (Lib.bytesCells w e s).size = grownCap w s.size 0 e := by simp [Lib.bytesCells]; have : s.data.size = s.size := rfl; omega
  have hnew := Lib.bytesWorld_at_new w e s
  refine ⟨by rw [bys_length, Nat.mul_one]; rfl, w.heap.size, _, rfl, hb, by rw [Lib.bytesWorld_size]; omega, hcap, grownCap_le_maxLen _ _ _ _ hs, fun j u hj => ?_, fun j hj => ⟨?_, ?_⟩⟩
  · have hlt : j < s.data.toList.length := by
      have := (List.getElem?_eq_some_iff.1 hj).1
      simpa using this
    rw [Lib.bytesWorld_cell _ _ _ _ hlt]
    simp [bys, List.getElem?_eq_getElem hlt] at hj
    simp [List.getD_eq_getElem?_getD, List.getElem?_eq_getElem hlt, ← hj]
  · have hj' : j < (Lib.bytesCells w e s).size := by omega
    simp [World.cell?, hnew, hj']
  · simp only [World.frozen?, hnew]
    simp
    omega
theorem bytesWorld_below (w : World) (e : TypeId) (s : ByteArray) : Below w.heap.size w (Lib.bytesWorld w e s) :=
  ⟨rfl, rfl, rfl, by rw [Lib.bytesWorld_size]; omega, fun k hk => Lib.bytesWorld_at_old w e s k hk⟩
end Go.Proofs.YtihoemimiplhfaaDoor
