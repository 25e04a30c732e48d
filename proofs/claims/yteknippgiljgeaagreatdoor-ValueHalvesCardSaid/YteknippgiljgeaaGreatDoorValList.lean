/-
  message.Add of a value, of an attribute.
-/
/-
  value.list, of values, of attributes.
-/
import Derived.Test.YteknippgiljgeaaGreatDoorVal
import Derived.Test.YteknippgiljgeaaGreatDoorValTake
import Derived.Test.YteknippgiljgeaaGreatDoorWpApp
import Derived.Test.YteknippgiljgeaaGreatDoorOrd
import Derived.IntWalk
namespace Go.Proofs.YteknippgiljgeaaGreatDoor
open Go.RowKit

def vzero : Array Value := #[.int .i64 0, .string ⟨#[]⟩, .bool false, .int .u64 0, .slice none 0 0, .slice none 0 0, .string ⟨#[]⟩, .string ⟨#[]⟩]
def kzero : Array Value := #[.string ⟨#[]⟩, .bool false, .int .i64 0, .string ⟨#[]⟩, .bool false, .int .u64 0, .slice none 0 0, .slice none 0 0, .string ⟨#[]⟩, .string ⟨#[]⟩, .string ⟨#[]⟩]
theorem VRel.form {w : World} {P : Nat → Prop} : ∀ {x : Val} {c : List Value}, VRel w P x c → ∃ (k : Int) (S : ByteArray) (b0 : Bool) (n : Int) (lo : Option Addr) (ln lc : Nat) (mo : Option Addr) (mn mc : Nat) (I U : ByteArray), c = [.int .i64 k, .string S, .bool b0, .int .u64 n, .slice lo ln lc, .slice mo mn mc, .string I, .string U]
  | .mk _ _ _ _ _ _ _ _, c, h => by
    rw [VRel] at h
    obtain ⟨lo, lc, mo, mc, rfl, _⟩ := h
    exact ⟨_, _, _, _, _, _, _, _, _, _, _, _, rfl⟩
theorem KRel.form {w : World} {P : Nat → Prop} : ∀ {x : KV} {c : List Value}, KRel w P x c → ∃ (K0 : ByteArray) (h0 : Bool) (k : Int) (S : ByteArray) (b0 : Bool) (n : Int) (lo : Option Addr) (ln lc : Nat) (mo : Option Addr) (mn mc : Nat) (I U U0 : ByteArray), c = [.string K0, .bool h0, .int .i64 k, .string S, .bool b0, .int .u64 n, .slice lo ln lc, .slice mo mn mc, .string I, .string U, .string U0]
  | .mk _ _ _ _, c, h => by
    rw [KRel] at h
    obtain ⟨cs, h1, rfl⟩ := h
    obtain ⟨k, S, b0, n, lo, ln, lc, mo, mn, mc, I, U, rfl⟩ := h1.form
    exact ⟨_, _, _, _, _, _, _, _, _, _, _, _, _, _, _, rfl⟩
theorem setat {fl l : List Value} {k : Nat} {u : Value} (hf : fl.length = k) (i : Nat) : (fl ++ l).set (k + i) u = fl ++ l.set i u := by
  rw [List.set_append_right _ _ (by omega), hf, Nat.add_sub_cancel_left]
theorem ownset_8 {w : World} {base : Nat} {T : TypeId} {g m cap n : Nat} {fl : List Value} {z0 z1 z2 z3 z4 z5 z6 z7 : Value} (ho : w.ownsRow base T 8 (.slice (some ⟨g, 0, none⟩) m cap) m (fl ++ [z0, z1, z2, z3, z4, z5, z6, z7])) (hf : fl.length = n * 8) (c0 c1 c2 c3 c4 c5 c6 c7 : Value) :
    (((((((((w).setCell ⟨g, n * 8, none⟩ c0).setCell ⟨g, n * 8 + 1, none⟩ c1).setCell ⟨g, n * 8 + 2, none⟩ c2).setCell ⟨g, n * 8 + 3, none⟩ c3).setCell ⟨g, n * 8 + 4, none⟩ c4).setCell ⟨g, n * 8 + 5, none⟩ c5).setCell ⟨g, n * 8 + 6, none⟩ c6).setCell ⟨g, n * 8 + 7, none⟩ c7).ownsRow base T 8 (.slice (some ⟨g, 0, none⟩) m cap) m (fl ++ [c0, c1, c2, c3, c4, c5, c6, c7]) ∧ Upd (fun k => k = g) w (((((((((w).setCell ⟨g, n * 8, none⟩ c0).setCell ⟨g, n * 8 + 1, none⟩ c1).setCell ⟨g, n * 8 + 2, none⟩ c2).setCell ⟨g, n * 8 + 3, none⟩ c3).setCell ⟨g, n * 8 + 4, none⟩ c4).setCell ⟨g, n * 8 + 5, none⟩ c5).setCell ⟨g, n * 8 + 6, none⟩ c6).setCell ⟨g, n * 8 + 7, none⟩ c7) := by
  have s0 := (ho.stored (n * 8) c0).1
  have s1 := (s0.stored (n * 8 + 1) c1).1
  have s2 := (s1.stored (n * 8 + 2) c2).1
  have s3 := (s2.stored (n * 8 + 3) c3).1
  have s4 := (s3.stored (n * 8 + 4) c4).1
  have s5 := (s4.stored (n * 8 + 5) c5).1
  have s6 := (s5.stored (n * 8 + 6) c6).1
  have s7 := (s6.stored (n * 8 + 7) c7).1
  refine ⟨?_, ?_⟩
  · have e : (((((((((fl ++ [z0, z1, z2, z3, z4, z5, z6, z7]).set (n * 8) c0).set (n * 8 + 1) c1).set (n * 8 + 2) c2).set (n * 8 + 3) c3).set (n * 8 + 4) c4).set (n * 8 + 5) c5).set (n * 8 + 6) c6).set (n * 8 + 7) c7) = fl ++ [c0, c1, c2, c3, c4, c5, c6, c7] := by
      rw [show n * 8 = n * 8 + 0 from rfl, setat hf 0, Nat.add_zero, setat hf 1, setat hf 2, setat hf 3, setat hf 4, setat hf 5, setat hf 6, setat hf 7]
      rfl
    rw [← e]
    exact s7
  · exact ((((((((Upd.refl _ w).trans (Upd.set _ ⟨g, n * 8, none⟩ c0)).trans (Upd.set _ ⟨g, n * 8 + 1, none⟩ c1)).trans (Upd.set _ ⟨g, n * 8 + 2, none⟩ c2)).trans (Upd.set _ ⟨g, n * 8 + 3, none⟩ c3)).trans (Upd.set _ ⟨g, n * 8 + 4, none⟩ c4)).trans (Upd.set _ ⟨g, n * 8 + 5, none⟩ c5)).trans (Upd.set _ ⟨g, n * 8 + 6, none⟩ c6)).trans (Upd.set _ ⟨g, n * 8 + 7, none⟩ c7)
theorem ownset_11 {w : World} {base : Nat} {T : TypeId} {g m cap n : Nat} {fl : List Value} {z0 z1 z2 z3 z4 z5 z6 z7 z8 z9 z10 : Value} (ho : w.ownsRow base T 11 (.slice (some ⟨g, 0, none⟩) m cap) m (fl ++ [z0, z1, z2, z3, z4, z5, z6, z7, z8, z9, z10])) (hf : fl.length = n * 11) (c0 c1 c2 c3 c4 c5 c6 c7 c8 c9 c10 : Value) :
    ((((((((((((w).setCell ⟨g, n * 11, none⟩ c0).setCell ⟨g, n * 11 + 1, none⟩ c1).setCell ⟨g, n * 11 + 2, none⟩ c2).setCell ⟨g, n * 11 + 3, none⟩ c3).setCell ⟨g, n * 11 + 4, none⟩ c4).setCell ⟨g, n * 11 + 5, none⟩ c5).setCell ⟨g, n * 11 + 6, none⟩ c6).setCell ⟨g, n * 11 + 7, none⟩ c7).setCell ⟨g, n * 11 + 8, none⟩ c8).setCell ⟨g, n * 11 + 9, none⟩ c9).setCell ⟨g, n * 11 + 10, none⟩ c10).ownsRow base T 11 (.slice (some ⟨g, 0, none⟩) m cap) m (fl ++ [c0, c1, c2, c3, c4, c5, c6, c7, c8, c9, c10]) ∧ Upd (fun k => k = g) w ((((((((((((w).setCell ⟨g, n * 11, none⟩ c0).setCell ⟨g, n * 11 + 1, none⟩ c1).setCell ⟨g, n * 11 + 2, none⟩ c2).setCell ⟨g, n * 11 + 3, none⟩ c3).setCell ⟨g, n * 11 + 4, none⟩ c4).setCell ⟨g, n * 11 + 5, none⟩ c5).setCell ⟨g, n * 11 + 6, none⟩ c6).setCell ⟨g, n * 11 + 7, none⟩ c7).setCell ⟨g, n * 11 + 8, none⟩ c8).setCell ⟨g, n * 11 + 9, none⟩ c9).setCell ⟨g, n * 11 + 10, none⟩ c10) := by
  have s0 := (ho.stored (n * 11) c0).1
  have s1 := (s0.stored (n * 11 + 1) c1).1
  have s2 := (s1.stored (n * 11 + 2) c2).1
  have s3 := (s2.stored (n * 11 + 3) c3).1
  have s4 := (s3.stored (n * 11 + 4) c4).1
  have s5 := (s4.stored (n * 11 + 5) c5).1
  have s6 := (s5.stored (n * 11 + 6) c6).1
  have s7 := (s6.stored (n * 11 + 7) c7).1
  have s8 := (s7.stored (n * 11 + 8) c8).1
  have s9 := (s8.stored (n * 11 + 9) c9).1
  have s10 := (s9.stored (n * 11 + 10) c10).1
  refine ⟨?_, ?_⟩
  · have e : ((((((((((((fl ++ [z0, z1, z2, z3, z4, z5, z6, z7, z8, z9, z10]).set (n * 11) c0).set (n * 11 + 1) c1).set (n * 11 + 2) c2).set (n * 11 + 3) c3).set (n * 11 + 4) c4).set (n * 11 + 5) c5).set (n * 11 + 6) c6).set (n * 11 + 7) c7).set (n * 11 + 8) c8).set (n * 11 + 9) c9).set (n * 11 + 10) c10) = fl ++ [c0, c1, c2, c3, c4, c5, c6, c7, c8, c9, c10] := by
      rw [show n * 11 = n * 11 + 0 from rfl, setat hf 0, Nat.add_zero, setat hf 1, setat hf 2, setat hf 3, setat hf 4, setat hf 5, setat hf 6, setat hf 7, setat hf 8, setat hf 9, setat hf 10]
      rfl
    rw [← e]
    exact s10
  · exact (((((((((((Upd.refl _ w).trans (Upd.set _ ⟨g, n * 11, none⟩ c0)).trans (Upd.set _ ⟨g, n * 11 + 1, none⟩ c1)).trans (Upd.set _ ⟨g, n * 11 + 2, none⟩ c2)).trans (Upd.set _ ⟨g, n * 11 + 3, none⟩ c3)).trans (Upd.set _ ⟨g, n * 11 + 4, none⟩ c4)).trans (Upd.set _ ⟨g, n * 11 + 5, none⟩ c5)).trans (Upd.set _ ⟨g, n * 11 + 6, none⟩ c6)).trans (Upd.set _ ⟨g, n * 11 + 7, none⟩ c7)).trans (Upd.set _ ⟨g, n * 11 + 8, none⟩ c8)).trans (Upd.set _ ⟨g, n * 11 + 9, none⟩ c9)).trans (Upd.set _ ⟨g, n * 11 + 10, none⟩ c10)
theorem Tryz.elVL : Elem Tryz.prog 24 27 (.agg #[.int .i64 0, .string ⟨#[]⟩, .bool false, .int .u64 0, .slice none 0 0, .slice none 0 0, .string ⟨#[]⟩, .string ⟨#[]⟩]) 8 120 := ⟨Tryz.underlying24, by kernel_rfl, by decide⟩
/-- reading one, of what comes of it -/
def VPost (rd : Except Nat Val) (n : Nat) (w : World) (e : Ending) (w' : World) : Prop := Below w.heap.size w w' ∧ match rd with
  | .error c => ∃ v q, e = .returned (.tuple #[.agg vzero, v]) ∧ q ≤ n ∧ EW w' v q c
  | .ok x => ∃ cs, e = .returned (.tuple #[.agg cs.toArray, .nilIface]) ∧ VRel w' (fun k => w.heap.size ≤ k) x cs
/-- a list that is being read, at block b -/
def VLAt (b : Nat) (xs : List Val) (P : Nat → Prop) (w : World) : Prop := ∃ (v : Value) (css : List (List Value)) (Q : Nat → Prop), w.heap[b]? = some (.cells #[v] 24 (0, 0)) ∧ w.ownsRow (b + 1) 27 8 v xs.length css.flatten ∧ css.length = xs.length ∧ (∀ j (h1 : j < xs.length) (h2 : j < css.length), VRel w Q xs[j] css[j]) ∧ (∀ k, Q k → k < w.heap.size ∧ k ≠ b ∧ v.ownBlock ≠ some k) ∧ P = fun k => k = b ∨ v.ownBlock = some k ∨ Q k
def VAddPost (b : Nat) (xs : List Val) (P : Nat → Prop) (rd : Except Nat Val) (w : World) (e : Ending) (w' : World) : Prop := Upd P w w' ∧ match rd with
  | .error c => ∃ y, e = .returned y ∧ EC w' y c
  | .ok x => e = .returned .nilIface ∧ ∃ P', VLAt b (xs ++ [x]) P' w' ∧ ∀ k, P' k → P k ∨ w.heap.size ≤ k
theorem VRel_flat {w : World} {Q : Nat → Prop} {xs : List Val} {css : List (List Value)} (hl : css.length = xs.length) (hr : ∀ j (h1 : j < xs.length) (h2 : j < css.length), VRel w Q xs[j] css[j]) : css.flatten.length = xs.length * 8 := by
  have : ∀ c ∈ css, c.length = 8 := fun c hc => by
    obtain ⟨i, hi, rfl⟩ := List.getElem_of_mem hc
    exact (hr i (by omega) hi).len
  have aux : ∀ (l : List (List Value)), (∀ c ∈ l, c.length = 8) → l.flatten.length = l.length * 8 := fun l => by
    induction l with
    | nil => intro _; simp
    | cons c l ih => intro h; rw [List.flatten_cons, List.length_append, ih (fun x hx => h x (List.mem_cons_of_mem _ hx)), h c (List.mem_cons_self ..), List.length_cons]; omega
  rw [aux css this, hl]
theorem vfin {b : Nat} {xs : List Val} {x : Val} {ao : Option Addr} {cap : Nat} {Q : Nat → Prop} {w w1 W : World} {css : List (List Value)} {cs : List Value} {g cap' : Nat}
    (_h : Hid (VLAt b xs (fun k => k = b ∨ (Value.slice ao xs.length cap).ownBlock = some k ∨ Q k) w)) (hbw : b < w.heap.size) (hb1 : Below w.heap.size w w1) (h3 : css.length = xs.length) (h4 : ∀ j (h1 : j < xs.length) (h2 : j < css.length), VRel w Q xs[j] css[j]) (h5 : ∀ k, Q k → k < w.heap.size ∧ k ≠ b ∧ (Value.slice ao xs.length cap).ownBlock ≠ some k)
    (hrel : VRel w1 (fun k => w.heap.size ≤ k) x cs) (hrow : W.heap[b]? = some (.cells #[.slice (some ⟨g, 0, none⟩) (xs.length + 1) cap'] 24 (0, 0))) (hown : W.ownsRow (b + 1) 27 8 (.slice (some ⟨g, 0, none⟩) (xs.length + 1) cap') (xs.length + 1) (css.flatten ++ cs))
    (hu : Upd (fun k => k = b ∨ (Value.slice ao xs.length cap).ownBlock = some k) w1 W) (hg : (Value.slice ao xs.length cap).ownBlock = some g ∨ w1.heap.size ≤ g) (hb0 : ∀ k, (Value.slice ao xs.length cap).ownBlock = some k → k < w.heap.size) :
    VAddPost b xs (fun k => k = b ∨ (Value.slice ao xs.length cap).ownBlock = some k ∨ Q k) (.ok x) w (.returned .nilIface) W := by
  have hs1 := hb1.size
  have hs2 := hu.size
  have huw : Upd (fun k => k = b ∨ (Value.slice ao xs.length cap).ownBlock = some k) w W := (Upd.of_new hb1).trans hu
  refine ⟨huw.mono (fun k _ h => h.imp id .inl), rfl, fun k => k = b ∨ g = k ∨ (Q k ∨ (w.heap.size ≤ k ∧ k < w1.heap.size)), ⟨.slice (some ⟨g, 0, none⟩) (xs.length + 1) cap', css ++ [cs], fun k => Q k ∨ (w.heap.size ≤ k ∧ k < w1.heap.size), hrow, ?_, ?_, ?_, ?_, ?_⟩, ?_⟩
  · rw [List.flatten_append, List.flatten_singleton, List.length_append]
    exact hown
  · rw [List.length_append, List.length_append, h3]; rfl
  · intro j h1 h2
    by_cases hj : j < xs.length
    · rw [List.getElem_append_left hj, List.getElem_append_left (by omega)]
      exact VRel.upd huw (fun k hk hs => by
        have := h5 k hk
        rcases hs with h | h
        · exact this.2.1 h
        · exact this.2.2 h) (fun k hk => .inl hk) _ _ (h4 j hj (by omega))
    · have hje : j = xs.length := by rw [List.length_append, List.length_singleton] at h1; omega
      subst hje
      rw [List.getElem_append_right (Nat.le_refl _), List.getElem_append_right (by omega)]
      simp only [Nat.sub_self, List.getElem_cons_zero, h3]
      refine VRel.upd hu (fun k hk hs => ?_) (fun k hk => .inr hk) _ _ (VRel.lt _ _ hrel)
      rcases hs with h | h
      · omega
      · have := hb0 k h; omega
  · intro k hk
    rcases hk with hk | hk
    · have := h5 k hk
      refine ⟨by omega, this.2.1, fun e => ?_⟩
      have e : g = k := by simpa [Value.ownBlock] using e
      rcases hg with h | h
      · exact this.2.2 (e ▸ h)
      · omega
    · refine ⟨by omega, by omega, fun e => ?_⟩
      have e : g = k := by simpa [Value.ownBlock] using e
      rcases hg with h | h
      · have := hb0 g h; omega
      · omega
  · funext k
    simp [Value.ownBlock]
  · intro k hk
    rcases hk with h | h | h | h
    · exact .inl (.inl h)
    · rcases hg with h2 | h2
      · exact .inl (.inr (.inl (h ▸ h2)))
      · exact .inr (by omega)
    · exact .inl (.inr (.inr h))
    · exact .inr h.1
set_option maxRecDepth 1000000 in
set_option maxHeartbeats 8000000 in
theorem vadd_any (b : Nat) (xs : List Val) (P : Nat → Prop) (F : Nat) (X : ByteArray) (d : Int) (rd : Except Nat Val) (w : World) (hET : ∀ args w, (callFunc F args).run Tryz.prog w = .ok (.enter F args) w) (h : Hid (VLAt b xs P w)) (hl : xs.length ≤ 1000000) (hread : Hid (∀ w', Calls Tryz.prog F #[.string X, .int .i64 d] w' (VPost rd X.size w'))) :
    Calls Tryz.prog 114 #[.pointer (some ⟨b, 0, none⟩), .string X, .int .i64 d, .func (.func F) #[] #[]] w (VAddPost b xs P rd w) := by
  obtain ⟨v, css, Q, h1, h2, h3, h4, h5, rfl⟩ := h.out
  obtain ⟨ao, cap, rfl⟩ := own_slice h2
  have H1 := Lib.hid h1
  have H2 := Lib.hid h2
  have H3 := Lib.hid h3
  have H4 := Lib.hid h4
  have H5 := Lib.hid h5
  have hbw := row_lt h1
  clear h1 h2 h3 h4 h5
  go_enter Tryz.func114, Tryz.ntmps114
  go_wp2_with fail
  refine (hread.out w).mono ?_; intro e w1 hpost
  obtain ⟨hb1, hcase⟩ := hpost
  have HB1 := Lib.hid hb1
  clear hb1
  cases rd with
  | error c =>
    obtain ⟨y, q, rfl, hq, hew⟩ := hcase
    obtain ⟨T', z, rfl⟩ := hew.iface
    have HEW := Lib.hid hew
    clear hew
    unfold vzero
    go_wp2_with fail
    go_ret
    exact ⟨(Upd.of_new HB1.out).trans (Upd.alloc _ _ _), _, rfl, (HEW.out.below (below_new _ _)).ec⟩
  | ok x =>
    obtain ⟨cs, rfl, hrel⟩ := hcase
    have HREL := Lib.hid hrel
    obtain ⟨k, S, b0, n, lo, ln, lc, mo, mn, mc, I, U, hcs⟩ := hrel.form
    have HCS := Lib.hid hcs
    rw [hcs]
    clear hcs hrel
    go_wp2_with fail
    obtain ⟨bx, hbx⟩ : ∃ bx, w1.heap.size = bx := ⟨_, rfl⟩
    obtain ⟨W2, hW2⟩ : ∃ W, w1.alloc (.cells #[.int .i64 k, .string S, .bool b0, .int .u64 n, .slice lo ln lc, .slice mo mn mc, .string I, .string U] 27) = W := ⟨_, rfl⟩
    have HB2 : Hid (Below w1.heap.size w1 W2) := Lib.hid (by rw [← hW2]; exact below_new _ _)
    have HX2 : Hid (W2.heap[bx]? = some (.cells #[.int .i64 k, .string S, .bool b0, .int .u64 n, .slice lo ln lc, .slice mo mn mc, .string I, .string U] 27 (0, 0))) := Lib.hid (by rw [← hW2, ← hbx]; exact heap_alloc_new _ _)
    have HBX := Lib.hid hbx
    rw [hW2, hbx]
    clear hW2 hbx
    obtain ⟨D, hD⟩ : ∃ D, W2.drew = D := ⟨_, rfl⟩
    have HBD : Hid (Below w1.heap.size w1 D) := Lib.hid (by rw [← hD]; exact HB2.out.drew)
    have HXD : Hid (D.heap[bx]? = some (.cells #[.int .i64 k, .string S, .bool b0, .int .u64 n, .slice lo ln lc, .slice mo mn mc, .string I, .string U] 27 (0, 0))) := Lib.hid (by rw [← hD]; exact HX2.out)
    have HWD := Lib.hid (below_step HB1.out HBD.out)
    have HLD : Hid (D.heap[b]? = some (.cells #[.slice ao xs.length cap] 24 (0, 0))) := Lib.hid ((HWD.out.block _ hbw).trans H1.out)
    have HOD : Hid (D.ownsRow (b + 1) 27 8 (.slice ao xs.length cap) xs.length css.flatten) := Lib.hid (own_below H2.out HWD.out)
    have hcb : D.cell? ⟨b, 0, none⟩ = some (.slice ao xs.length cap) := row_cell HLD.out (j := 0) rfl
    have hne : Nonempty {w' : World // w'.heap[bx]? = some (.cells #[.int .i64 k, .string S, .bool b0, .int .u64 n, .slice lo ln lc, .slice mo mn mc, .string I, .string U] 27 (0, 0))} := ⟨⟨_, HXD.out⟩⟩
    have hsz := HWD.out.size
    have hxlt := row_lt HXD.out
    refine wp_region_seqP (S := fun w' => w'.heap[bx]? = some (.cells #[.int .i64 k, .string S, .bool b0, .int .u64 n, .slice lo ln lc, .slice mo mn mc, .string I, .string U] 27 (0, 0))) (.take 0 (.take 1 (.take 3 (.two 2 5 (.take 4 (.come 5 (.come 6 (.take 7 (.take 9 (.two 8 10 (.come 10 .done) (.come 8 .done))))))) (.come 2 (.take 4 (.come 6 (.take 7 (.take 9 (.two 8 10 (.come 10 .done) (.come 8 .done))))))))))) (by kernel_rfl) (by kernel_rfl) (by kernel_rfl) (by kernel_rfl) (by rw [hD]; exact HXD.out) ?_
    rw [hD]
    clear hD
    iterate 2 (refine seqP_take _ rfl (fun K hK => ?_); go_simp; (first | refine hK _ ?_ | refine ⟨_, fun _ _ => rfl, hK _ ?_⟩); clear hK K)
    iterate 1 (refine seqP_take _ rfl (fun K hK => ?_); go_simp; (refine ⟨.agg #[.int .i64 k, .string S, .bool b0, .int .u64 n, .slice lo ln lc, .slice mo mn mc, .string I, .string U], fun a ha => by (have e0 : a.cell? ⟨bx, 0, none⟩ = some (.int .i64 k) := row_cell ha (j := 0) rfl); (have e1 : a.cell? ⟨bx, 1, none⟩ = some (.string S) := row_cell ha (j := 1) rfl); (have e2 : a.cell? ⟨bx, 2, none⟩ = some (.bool b0) := row_cell ha (j := 2) rfl); (have e3 : a.cell? ⟨bx, 3, none⟩ = some (.int .u64 n) := row_cell ha (j := 3) rfl); (have e4 : a.cell? ⟨bx, 4, none⟩ = some (.slice lo ln lc) := row_cell ha (j := 4) rfl); (have e5 : a.cell? ⟨bx, 5, none⟩ = some (.slice mo mn mc) := row_cell ha (j := 5) rfl); (have e6 : a.cell? ⟨bx, 6, none⟩ = some (.string I) := row_cell ha (j := 6) rfl); (have e7 : a.cell? ⟨bx, 7, none⟩ = some (.string U) := row_cell ha (j := 7) rfl); simp only [e0, e1, e2, e3, e4, e5, e6, e7, Result.andThen], hK _ ?_⟩); clear hK K)
    have HXE : Hid ((D.alloc (.cells #[.int .i64 0, .string ⟨#[]⟩, .bool false, .int .u64 0, .slice none 0 0, .slice none 0 0, .string ⟨#[]⟩, .string ⟨#[]⟩] 27)).heap[bx]? = some (.cells #[.int .i64 k, .string S, .bool b0, .int .u64 n, .slice lo ln lc, .slice mo mn mc, .string I, .string U] 27 (0, 0))) := Lib.hid ((Below.heap_alloc _ _ _ hxlt).trans HXD.out)
    have hcbE : (D.alloc (.cells #[.int .i64 0, .string ⟨#[]⟩, .bool false, .int .u64 0, .slice none 0 0, .slice none 0 0, .string ⟨#[]⟩, .string ⟨#[]⟩] 27)).cell? ⟨b, 0, none⟩ = some (.slice ao xs.length cap) := row_cell ((Below.heap_alloc _ _ _ (row_lt HLD.out)).trans HLD.out) (j := 0) rfl
    refine seqP_two _ _ rfl rfl (fun K hK => ?_) (fun K hK => ?_)
    all_goals go_simp
    · refine hK.out _ _ HXD.out ?_; clear hK K
      iterate 1 (refine seqP_take _ rfl (fun K hK => ?_); go_simp; (first | refine hK _ ?_ | refine ⟨_, fun _ _ => rfl, hK _ ?_⟩); clear hK K)
      refine seqP_come _ rfl (fun K hK => ?_); go_simp
      refine hK.out _ _ HXE.out ?_; clear hK K
      refine seqP_wp _ rfl rfl (fun K hK => ?_)
      refine wp_app_at _ _ 24 rfl Tryz.elVL (by decide) (HOD.out.alloc _) rfl (b := D.heap.size) (off := 0) (m := 1) (c := 1) (news := [.int .i64 0, .string ⟨#[]⟩, .bool false, .int .u64 0, .slice none 0 0, .slice none 0 0, .string ⟨#[]⟩, .string ⟨#[]⟩]) rfl rfl (fun j u hj => by rw [Nat.zero_add]; exact row_cell (heap_alloc_new D _) (by simpa using hj)) (by simp [Value.oneCell']) (by unfold maxLen; omega) (by omega) (by simp; omega) (fun v' w3 hown3 hgrow hnew => ?_)
      obtain ⟨g, cap', hv', hg1, hg2, _, _⟩ := own_some hown3 (by omega)
      subst hv'
      have hgu : Upd (fun k => (Value.slice ao xs.length cap).ownBlock = some k) (D.alloc (.cells #[.int .i64 0, .string ⟨#[]⟩, .bool false, .int .u64 0, .slice none 0 0, .slice none 0 0, .string ⟨#[]⟩, .string ⟨#[]⟩] 27)) w3 := Upd.of_grown hgrow
      have HGU := Lib.hid hgu
      have HO3 := Lib.hid hown3
      have HNEW : Hid (∀ k, (Value.slice (some ⟨g, 0, none⟩) (xs.length + 1) cap').ownBlock = some k → (Value.slice ao xs.length cap).ownBlock = some k ∨ k = D.heap.size + 1) := Lib.hid (fun k hk => (hnew k hk).imp id (fun h => by rw [h]; exact Array.size_push ..))
      have HGB : Hid (¬ (Value.slice ao xs.length cap).ownBlock = some bx) := Lib.hid (fun h => by have := (H2.out.lt bx h).2; have := HB1.out.size; have := HBX.out; omega)
      have HGL : Hid (¬ (Value.slice ao xs.length cap).ownBlock = some b) := Lib.hid (fun h => by have := (H2.out.lt b h).1; omega)
      have HX3 : Hid (w3.heap[bx]? = some (.cells #[.int .i64 k, .string S, .bool b0, .int .u64 n, .slice lo ln lc, .slice mo mn mc, .string I, .string U] 27 (0, 0))) := Lib.hid ((hgu.block bx (row_lt HXE.out) HGB.out).trans HXE.out)
      have HL3 : Hid (w3.heap[b]? = some (.cells #[.slice ao xs.length cap] 24 (0, 0))) := Lib.hid ((hgu.block b (by have := row_lt HLD.out; simp; omega) HGL.out).trans ((Below.heap_alloc _ _ _ (row_lt HLD.out)).trans HLD.out))
      refine hK.out _ _ HX3.out ?_; clear hK K
      clear hgu hown3 hnew hgrow
      iterate 1 (refine seqP_take _ rfl (fun K hK => ?_); go_simp; (refine ⟨.pointer (some ⟨g, xs.length * 8, none⟩), fun _ _ => if_pos (by omega), hK _ ?_⟩); clear hK K)
      iterate 1 (refine seqP_take _ rfl (fun K hK => ?_); go_simp; (first | refine hK _ ?_ | refine ⟨_, fun _ _ => rfl, hK _ ?_⟩); clear hK K)
      have hgb : g ≠ b := by omega
      have hbxb : bx ≠ b := by have := HBX.out; have := HB1.out.size; omega
      have hgx : g ≠ bx := fun e => by
        rcases HNEW.out g rfl with h | h
        · exact HGB.out (e ▸ h)
        · omega
      have HFL : Hid (css.flatten.length = xs.length * 8) := Lib.hid (VRel_flat H3.out H4.out)
      refine seqP_two _ _ rfl rfl (fun K hK => ?_) (fun K hK => ?_)
      · have hg0 : w3.cell? ⟨g, xs.length * 8, none⟩ = some (.int .i64 0) := by rw [HO3.out.cellAt (xs.length * 8) (by omega), List.getElem?_append_right (by rw [HFL.out]; omega), HFL.out, show xs.length * 8 - xs.length * 8 = 0 by omega]; rfl
        have hz0 : w3.frozen? ⟨g, xs.length * 8, none⟩ = false := HO3.out.frozenAt _
        have hg1 : w3.cell? ⟨g, xs.length * 8 + 1, none⟩ = some (.string ⟨#[]⟩) := by rw [HO3.out.cellAt (xs.length * 8 + 1) (by omega), List.getElem?_append_right (by rw [HFL.out]; omega), HFL.out, show xs.length * 8 + 1 - xs.length * 8 = 1 by omega]; rfl
        have hz1 : w3.frozen? ⟨g, xs.length * 8 + 1, none⟩ = false := HO3.out.frozenAt _
        have hg2 : w3.cell? ⟨g, xs.length * 8 + 2, none⟩ = some (.bool false) := by rw [HO3.out.cellAt (xs.length * 8 + 2) (by omega), List.getElem?_append_right (by rw [HFL.out]; omega), HFL.out, show xs.length * 8 + 2 - xs.length * 8 = 2 by omega]; rfl
        have hz2 : w3.frozen? ⟨g, xs.length * 8 + 2, none⟩ = false := HO3.out.frozenAt _
        have hg3 : w3.cell? ⟨g, xs.length * 8 + 3, none⟩ = some (.int .u64 0) := by rw [HO3.out.cellAt (xs.length * 8 + 3) (by omega), List.getElem?_append_right (by rw [HFL.out]; omega), HFL.out, show xs.length * 8 + 3 - xs.length * 8 = 3 by omega]; rfl
        have hz3 : w3.frozen? ⟨g, xs.length * 8 + 3, none⟩ = false := HO3.out.frozenAt _
        have hg4 : w3.cell? ⟨g, xs.length * 8 + 4, none⟩ = some (.slice none 0 0) := by rw [HO3.out.cellAt (xs.length * 8 + 4) (by omega), List.getElem?_append_right (by rw [HFL.out]; omega), HFL.out, show xs.length * 8 + 4 - xs.length * 8 = 4 by omega]; rfl
        have hz4 : w3.frozen? ⟨g, xs.length * 8 + 4, none⟩ = false := HO3.out.frozenAt _
        have hg5 : w3.cell? ⟨g, xs.length * 8 + 5, none⟩ = some (.slice none 0 0) := by rw [HO3.out.cellAt (xs.length * 8 + 5) (by omega), List.getElem?_append_right (by rw [HFL.out]; omega), HFL.out, show xs.length * 8 + 5 - xs.length * 8 = 5 by omega]; rfl
        have hz5 : w3.frozen? ⟨g, xs.length * 8 + 5, none⟩ = false := HO3.out.frozenAt _
        have hg6 : w3.cell? ⟨g, xs.length * 8 + 6, none⟩ = some (.string ⟨#[]⟩) := by rw [HO3.out.cellAt (xs.length * 8 + 6) (by omega), List.getElem?_append_right (by rw [HFL.out]; omega), HFL.out, show xs.length * 8 + 6 - xs.length * 8 = 6 by omega]; rfl
        have hz6 : w3.frozen? ⟨g, xs.length * 8 + 6, none⟩ = false := HO3.out.frozenAt _
        have hg7 : w3.cell? ⟨g, xs.length * 8 + 7, none⟩ = some (.string ⟨#[]⟩) := by rw [HO3.out.cellAt (xs.length * 8 + 7) (by omega), List.getElem?_append_right (by rw [HFL.out]; omega), HFL.out, show xs.length * 8 + 7 - xs.length * 8 = 7 by omega]; rfl
        have hz7 : w3.frozen? ⟨g, xs.length * 8 + 7, none⟩ = false := HO3.out.frozenAt _
        go_simp
        obtain ⟨W4, hW4⟩ : ∃ W, ((((((((w3).setCell ⟨g, xs.length * 8, none⟩ (.int .i64 k)).setCell ⟨g, xs.length * 8 + 1, none⟩ (.string S)).setCell ⟨g, xs.length * 8 + 2, none⟩ (.bool b0)).setCell ⟨g, xs.length * 8 + 3, none⟩ (.int .u64 n)).setCell ⟨g, xs.length * 8 + 4, none⟩ (.slice lo ln lc)).setCell ⟨g, xs.length * 8 + 5, none⟩ (.slice mo mn mc)).setCell ⟨g, xs.length * 8 + 6, none⟩ (.string I)).setCell ⟨g, xs.length * 8 + 7, none⟩ (.string U) = W := ⟨_, rfl⟩
        have hset := ownset_8 HO3.out HFL.out (.int .i64 k) (.string S) (.bool b0) (.int .u64 n) (.slice lo ln lc) (.slice mo mn mc) (.string I) (.string U)
        rw [hW4] at hset ⊢
        obtain ⟨ho4, hu4⟩ := hset
        clear hW4 hg0 hz0 hg1 hz1 hg2 hz2 hg3 hz3 hg4 hz4 hg5 hz5 hg6 hz6 hg7 hz7
        have HO4 := Lib.hid ho4
        have HU4 := Lib.hid hu4
        have HX4 : Hid (W4.heap[bx]? = some (.cells #[.int .i64 k, .string S, .bool b0, .int .u64 n, .slice lo ln lc, .slice mo mn mc, .string I, .string U] 27 (0, 0))) := Lib.hid ((hu4.block bx (row_lt HX3.out) (fun e => hgx e.symm)).trans HX3.out)
        have HL4 : Hid (W4.heap[b]? = some (.cells #[.slice ao xs.length cap] 24 (0, 0))) := Lib.hid ((hu4.block b (row_lt HL3.out) (fun e => hgb e.symm)).trans HL3.out)
        clear ho4 hu4
        refine hK.out _ _ HX4.out ?_; clear hK K
        refine seqP_come _ rfl (fun K2 hK2 => ?_)
        have hcb : W4.cell? ⟨b, 0, none⟩ = some (.slice ao xs.length cap) := row_cell HL4.out (j := 0) rfl
        have hfb : W4.frozen? ⟨b, 0, none⟩ = false := row_thaw HL4.out 0
        go_simp
        have hu5 := Upd.set W4 ⟨b, 0, none⟩ (.slice (some ⟨g, 0, none⟩) (xs.length + 1) cap')
        refine hK2.out _ _ ((hu5.block bx (row_lt HX4.out) (fun e => hbxb e)).trans HX4.out) ?_
        clear hK2 K2 hcb hfb
        refine seqP_done ?_
        go_wp2_with fail
        go_ret
        refine vfin h hbw HB1.out H3.out H4.out H5.out HREL.out (g := g) (hb0 := fun k hk => (H2.out.lt k hk).2) (cap' := cap') (W := W4.setCell ⟨b, 0, none⟩ (.slice (some ⟨g, 0, none⟩) (xs.length + 1) cap')) (row_set HL4.out 0 _) ?_ ?_ ?_
        · exact HCS.out ▸ hu5.own HO4.out (fun k hk e => by have e : k = b := e; have := (HO4.out.lt k hk).1; omega)
        · refine ((Upd.of_new HBD.out).trans ((Upd.alloc _ _ _).trans (HGU.out.mono fun k _ h => .inr h))).trans' (S' := fun k => k = g ∨ k = b) ((HU4.out.mono fun k _ h => .inl h).trans (hu5.mono fun k _ h => .inr h)) (fun k hk h => ?_)
          rcases h with h | h
          · rcases HNEW.out g rfl with h2 | h2
            · exact .inr (h ▸ h2)
            · have := HBD.out.size; omega
          · exact .inl h
        · rcases HNEW.out g rfl with h | h
          · exact .inl h
          · exact .inr (by have := HBD.out.size; omega)
      · have hcb : w3.cell? ⟨b, 0, none⟩ = some (.slice ao xs.length cap) := row_cell HL3.out (j := 0) rfl
        have hfb : w3.frozen? ⟨b, 0, none⟩ = false := row_thaw HL3.out 0
        go_simp
        obtain ⟨W4, hW4⟩ : ∃ W, w3.setCell ⟨b, 0, none⟩ (.slice (some ⟨g, 0, none⟩) (xs.length + 1) cap') = W := ⟨_, rfl⟩
        have hu4 := Upd.set w3 ⟨b, 0, none⟩ (.slice (some ⟨g, 0, none⟩) (xs.length + 1) cap')
        have hl4 := row_set HL3.out 0 (.slice (some ⟨g, 0, none⟩) (xs.length + 1) cap')
        rw [hW4] at hu4 hl4 ⊢
        clear hW4 hcb hfb
        have HU4 := Lib.hid hu4
        have HL4 := Lib.hid hl4
        have HO4 : Hid (W4.ownsRow (b + 1) 27 8 (.slice (some ⟨g, 0, none⟩) (xs.length + 1) cap') (xs.length + 1) (css.flatten ++ [.int .i64 0, .string ⟨#[]⟩, .bool false, .int .u64 0, .slice none 0 0, .slice none 0 0, .string ⟨#[]⟩, .string ⟨#[]⟩])) := Lib.hid (hu4.own HO3.out (fun k hk e => by have e : k = b := e; have := (HO3.out.lt k hk).1; omega))
        have HX4 : Hid (W4.heap[bx]? = some (.cells #[.int .i64 k, .string S, .bool b0, .int .u64 n, .slice lo ln lc, .slice mo mn mc, .string I, .string U] 27 (0, 0))) := Lib.hid ((hu4.block bx (row_lt HX3.out) (fun e => hbxb e)).trans HX3.out)
        clear hu4 hl4
        refine hK.out _ _ HX4.out ?_; clear hK K
        refine seqP_come _ rfl (fun K2 hK2 => ?_)
        have hg0 : W4.cell? ⟨g, xs.length * 8, none⟩ = some (.int .i64 0) := by rw [HO4.out.cellAt (xs.length * 8) (by omega), List.getElem?_append_right (by rw [HFL.out]; omega), HFL.out, show xs.length * 8 - xs.length * 8 = 0 by omega]; rfl
        have hz0 : W4.frozen? ⟨g, xs.length * 8, none⟩ = false := HO4.out.frozenAt _
        have hg1 : W4.cell? ⟨g, xs.length * 8 + 1, none⟩ = some (.string ⟨#[]⟩) := by rw [HO4.out.cellAt (xs.length * 8 + 1) (by omega), List.getElem?_append_right (by rw [HFL.out]; omega), HFL.out, show xs.length * 8 + 1 - xs.length * 8 = 1 by omega]; rfl
        have hz1 : W4.frozen? ⟨g, xs.length * 8 + 1, none⟩ = false := HO4.out.frozenAt _
        have hg2 : W4.cell? ⟨g, xs.length * 8 + 2, none⟩ = some (.bool false) := by rw [HO4.out.cellAt (xs.length * 8 + 2) (by omega), List.getElem?_append_right (by rw [HFL.out]; omega), HFL.out, show xs.length * 8 + 2 - xs.length * 8 = 2 by omega]; rfl
        have hz2 : W4.frozen? ⟨g, xs.length * 8 + 2, none⟩ = false := HO4.out.frozenAt _
        have hg3 : W4.cell? ⟨g, xs.length * 8 + 3, none⟩ = some (.int .u64 0) := by rw [HO4.out.cellAt (xs.length * 8 + 3) (by omega), List.getElem?_append_right (by rw [HFL.out]; omega), HFL.out, show xs.length * 8 + 3 - xs.length * 8 = 3 by omega]; rfl
        have hz3 : W4.frozen? ⟨g, xs.length * 8 + 3, none⟩ = false := HO4.out.frozenAt _
        have hg4 : W4.cell? ⟨g, xs.length * 8 + 4, none⟩ = some (.slice none 0 0) := by rw [HO4.out.cellAt (xs.length * 8 + 4) (by omega), List.getElem?_append_right (by rw [HFL.out]; omega), HFL.out, show xs.length * 8 + 4 - xs.length * 8 = 4 by omega]; rfl
        have hz4 : W4.frozen? ⟨g, xs.length * 8 + 4, none⟩ = false := HO4.out.frozenAt _
        have hg5 : W4.cell? ⟨g, xs.length * 8 + 5, none⟩ = some (.slice none 0 0) := by rw [HO4.out.cellAt (xs.length * 8 + 5) (by omega), List.getElem?_append_right (by rw [HFL.out]; omega), HFL.out, show xs.length * 8 + 5 - xs.length * 8 = 5 by omega]; rfl
        have hz5 : W4.frozen? ⟨g, xs.length * 8 + 5, none⟩ = false := HO4.out.frozenAt _
        have hg6 : W4.cell? ⟨g, xs.length * 8 + 6, none⟩ = some (.string ⟨#[]⟩) := by rw [HO4.out.cellAt (xs.length * 8 + 6) (by omega), List.getElem?_append_right (by rw [HFL.out]; omega), HFL.out, show xs.length * 8 + 6 - xs.length * 8 = 6 by omega]; rfl
        have hz6 : W4.frozen? ⟨g, xs.length * 8 + 6, none⟩ = false := HO4.out.frozenAt _
        have hg7 : W4.cell? ⟨g, xs.length * 8 + 7, none⟩ = some (.string ⟨#[]⟩) := by rw [HO4.out.cellAt (xs.length * 8 + 7) (by omega), List.getElem?_append_right (by rw [HFL.out]; omega), HFL.out, show xs.length * 8 + 7 - xs.length * 8 = 7 by omega]; rfl
        have hz7 : W4.frozen? ⟨g, xs.length * 8 + 7, none⟩ = false := HO4.out.frozenAt _
        go_simp
        obtain ⟨W5, hW5⟩ : ∃ W, ((((((((W4).setCell ⟨g, xs.length * 8, none⟩ (.int .i64 k)).setCell ⟨g, xs.length * 8 + 1, none⟩ (.string S)).setCell ⟨g, xs.length * 8 + 2, none⟩ (.bool b0)).setCell ⟨g, xs.length * 8 + 3, none⟩ (.int .u64 n)).setCell ⟨g, xs.length * 8 + 4, none⟩ (.slice lo ln lc)).setCell ⟨g, xs.length * 8 + 5, none⟩ (.slice mo mn mc)).setCell ⟨g, xs.length * 8 + 6, none⟩ (.string I)).setCell ⟨g, xs.length * 8 + 7, none⟩ (.string U) = W := ⟨_, rfl⟩
        have hset := ownset_8 HO4.out HFL.out (.int .i64 k) (.string S) (.bool b0) (.int .u64 n) (.slice lo ln lc) (.slice mo mn mc) (.string I) (.string U)
        rw [hW5] at hset ⊢
        obtain ⟨ho5, hu5⟩ := hset
        clear hW5 hg0 hz0 hg1 hz1 hg2 hz2 hg3 hz3 hg4 hz4 hg5 hz5 hg6 hz6 hg7 hz7
        refine hK2.out _ _ ((hu5.block bx (row_lt HX4.out) (fun e => hgx e.symm)).trans HX4.out) ?_
        clear hK2 K2
        refine seqP_done ?_
        have HO5 := Lib.hid ho5
        have HU5 := Lib.hid hu5
        clear ho5 hu5
        go_wp2_with fail
        go_ret
        refine vfin h hbw HB1.out H3.out H4.out H5.out HREL.out (g := g) (hb0 := fun k hk => (H2.out.lt k hk).2) (cap' := cap') (W := W5) ((HU5.out.block b (row_lt HL4.out) (fun e => hgb e.symm)).trans HL4.out) ?_ ?_ ?_
        · exact HCS.out ▸ HO5.out
        · refine ((Upd.of_new HBD.out).trans ((Upd.alloc _ _ _).trans (HGU.out.mono fun k _ h => .inr h))).trans' (S' := fun k => k = g ∨ k = b) ((HU4.out.mono fun k _ h => .inr h).trans (HU5.out.mono fun k _ h => .inl h)) (fun k hk h => ?_)
          rcases h with h | h
          · rcases HNEW.out g rfl with h2 | h2
            · exact .inr (h ▸ h2)
            · have := HBD.out.size; omega
          · exact .inl h
        · rcases HNEW.out g rfl with h | h
          · exact .inl h
          · exact .inr (by have := HBD.out.size; omega)
    · refine hK.out _ _ HXE.out ?_; clear hK K
      refine seqP_come _ rfl (fun K hK => ?_); go_simp
      refine hK.out _ _ HXE.out ?_; clear hK K
      iterate 1 (refine seqP_take _ rfl (fun K hK => ?_); go_simp; (first | refine hK _ ?_ | refine ⟨_, fun _ _ => rfl, hK _ ?_⟩); clear hK K)
      refine seqP_wp _ rfl rfl (fun K hK => ?_)
      refine wp_app_at _ _ 24 rfl Tryz.elVL (by decide) (HOD.out.alloc _) rfl (b := D.heap.size) (off := 0) (m := 1) (c := 1) (news := [.int .i64 0, .string ⟨#[]⟩, .bool false, .int .u64 0, .slice none 0 0, .slice none 0 0, .string ⟨#[]⟩, .string ⟨#[]⟩]) rfl rfl (fun j u hj => by rw [Nat.zero_add]; exact row_cell (heap_alloc_new D _) (by simpa using hj)) (by simp [Value.oneCell']) (by unfold maxLen; omega) (by omega) (by simp; omega) (fun v' w3 hown3 hgrow hnew => ?_)
      obtain ⟨g, cap', hv', hg1, hg2, _, _⟩ := own_some hown3 (by omega)
      subst hv'
      have hgu : Upd (fun k => (Value.slice ao xs.length cap).ownBlock = some k) (D.alloc (.cells #[.int .i64 0, .string ⟨#[]⟩, .bool false, .int .u64 0, .slice none 0 0, .slice none 0 0, .string ⟨#[]⟩, .string ⟨#[]⟩] 27)) w3 := Upd.of_grown hgrow
      have HGU := Lib.hid hgu
      have HO3 := Lib.hid hown3
      have HNEW : Hid (∀ k, (Value.slice (some ⟨g, 0, none⟩) (xs.length + 1) cap').ownBlock = some k → (Value.slice ao xs.length cap).ownBlock = some k ∨ k = D.heap.size + 1) := Lib.hid (fun k hk => (hnew k hk).imp id (fun h => by rw [h]; exact Array.size_push ..))
      have HGB : Hid (¬ (Value.slice ao xs.length cap).ownBlock = some bx) := Lib.hid (fun h => by have := (H2.out.lt bx h).2; have := HB1.out.size; have := HBX.out; omega)
      have HGL : Hid (¬ (Value.slice ao xs.length cap).ownBlock = some b) := Lib.hid (fun h => by have := (H2.out.lt b h).1; omega)
      have HX3 : Hid (w3.heap[bx]? = some (.cells #[.int .i64 k, .string S, .bool b0, .int .u64 n, .slice lo ln lc, .slice mo mn mc, .string I, .string U] 27 (0, 0))) := Lib.hid ((hgu.block bx (row_lt HXE.out) HGB.out).trans HXE.out)
      have HL3 : Hid (w3.heap[b]? = some (.cells #[.slice ao xs.length cap] 24 (0, 0))) := Lib.hid ((hgu.block b (by have := row_lt HLD.out; simp; omega) HGL.out).trans ((Below.heap_alloc _ _ _ (row_lt HLD.out)).trans HLD.out))
      refine hK.out _ _ HX3.out ?_; clear hK K
      clear hgu hown3 hnew hgrow
      iterate 1 (refine seqP_take _ rfl (fun K hK => ?_); go_simp; (refine ⟨.pointer (some ⟨g, xs.length * 8, none⟩), fun _ _ => if_pos (by omega), hK _ ?_⟩); clear hK K)
      iterate 1 (refine seqP_take _ rfl (fun K hK => ?_); go_simp; (first | refine hK _ ?_ | refine ⟨_, fun _ _ => rfl, hK _ ?_⟩); clear hK K)
      have hgb : g ≠ b := by omega
      have hbxb : bx ≠ b := by have := HBX.out; have := HB1.out.size; omega
      have hgx : g ≠ bx := fun e => by
        rcases HNEW.out g rfl with h | h
        · exact HGB.out (e ▸ h)
        · omega
      have HFL : Hid (css.flatten.length = xs.length * 8) := Lib.hid (VRel_flat H3.out H4.out)
      refine seqP_two _ _ rfl rfl (fun K hK => ?_) (fun K hK => ?_)
      · have hg0 : w3.cell? ⟨g, xs.length * 8, none⟩ = some (.int .i64 0) := by rw [HO3.out.cellAt (xs.length * 8) (by omega), List.getElem?_append_right (by rw [HFL.out]; omega), HFL.out, show xs.length * 8 - xs.length * 8 = 0 by omega]; rfl
        have hz0 : w3.frozen? ⟨g, xs.length * 8, none⟩ = false := HO3.out.frozenAt _
        have hg1 : w3.cell? ⟨g, xs.length * 8 + 1, none⟩ = some (.string ⟨#[]⟩) := by rw [HO3.out.cellAt (xs.length * 8 + 1) (by omega), List.getElem?_append_right (by rw [HFL.out]; omega), HFL.out, show xs.length * 8 + 1 - xs.length * 8 = 1 by omega]; rfl
        have hz1 : w3.frozen? ⟨g, xs.length * 8 + 1, none⟩ = false := HO3.out.frozenAt _
        have hg2 : w3.cell? ⟨g, xs.length * 8 + 2, none⟩ = some (.bool false) := by rw [HO3.out.cellAt (xs.length * 8 + 2) (by omega), List.getElem?_append_right (by rw [HFL.out]; omega), HFL.out, show xs.length * 8 + 2 - xs.length * 8 = 2 by omega]; rfl
        have hz2 : w3.frozen? ⟨g, xs.length * 8 + 2, none⟩ = false := HO3.out.frozenAt _
        have hg3 : w3.cell? ⟨g, xs.length * 8 + 3, none⟩ = some (.int .u64 0) := by rw [HO3.out.cellAt (xs.length * 8 + 3) (by omega), List.getElem?_append_right (by rw [HFL.out]; omega), HFL.out, show xs.length * 8 + 3 - xs.length * 8 = 3 by omega]; rfl
        have hz3 : w3.frozen? ⟨g, xs.length * 8 + 3, none⟩ = false := HO3.out.frozenAt _
        have hg4 : w3.cell? ⟨g, xs.length * 8 + 4, none⟩ = some (.slice none 0 0) := by rw [HO3.out.cellAt (xs.length * 8 + 4) (by omega), List.getElem?_append_right (by rw [HFL.out]; omega), HFL.out, show xs.length * 8 + 4 - xs.length * 8 = 4 by omega]; rfl
        have hz4 : w3.frozen? ⟨g, xs.length * 8 + 4, none⟩ = false := HO3.out.frozenAt _
        have hg5 : w3.cell? ⟨g, xs.length * 8 + 5, none⟩ = some (.slice none 0 0) := by rw [HO3.out.cellAt (xs.length * 8 + 5) (by omega), List.getElem?_append_right (by rw [HFL.out]; omega), HFL.out, show xs.length * 8 + 5 - xs.length * 8 = 5 by omega]; rfl
        have hz5 : w3.frozen? ⟨g, xs.length * 8 + 5, none⟩ = false := HO3.out.frozenAt _
        have hg6 : w3.cell? ⟨g, xs.length * 8 + 6, none⟩ = some (.string ⟨#[]⟩) := by rw [HO3.out.cellAt (xs.length * 8 + 6) (by omega), List.getElem?_append_right (by rw [HFL.out]; omega), HFL.out, show xs.length * 8 + 6 - xs.length * 8 = 6 by omega]; rfl
        have hz6 : w3.frozen? ⟨g, xs.length * 8 + 6, none⟩ = false := HO3.out.frozenAt _
        have hg7 : w3.cell? ⟨g, xs.length * 8 + 7, none⟩ = some (.string ⟨#[]⟩) := by rw [HO3.out.cellAt (xs.length * 8 + 7) (by omega), List.getElem?_append_right (by rw [HFL.out]; omega), HFL.out, show xs.length * 8 + 7 - xs.length * 8 = 7 by omega]; rfl
        have hz7 : w3.frozen? ⟨g, xs.length * 8 + 7, none⟩ = false := HO3.out.frozenAt _
        go_simp
        obtain ⟨W4, hW4⟩ : ∃ W, ((((((((w3).setCell ⟨g, xs.length * 8, none⟩ (.int .i64 k)).setCell ⟨g, xs.length * 8 + 1, none⟩ (.string S)).setCell ⟨g, xs.length * 8 + 2, none⟩ (.bool b0)).setCell ⟨g, xs.length * 8 + 3, none⟩ (.int .u64 n)).setCell ⟨g, xs.length * 8 + 4, none⟩ (.slice lo ln lc)).setCell ⟨g, xs.length * 8 + 5, none⟩ (.slice mo mn mc)).setCell ⟨g, xs.length * 8 + 6, none⟩ (.string I)).setCell ⟨g, xs.length * 8 + 7, none⟩ (.string U) = W := ⟨_, rfl⟩
        have hset := ownset_8 HO3.out HFL.out (.int .i64 k) (.string S) (.bool b0) (.int .u64 n) (.slice lo ln lc) (.slice mo mn mc) (.string I) (.string U)
        rw [hW4] at hset ⊢
        obtain ⟨ho4, hu4⟩ := hset
        clear hW4 hg0 hz0 hg1 hz1 hg2 hz2 hg3 hz3 hg4 hz4 hg5 hz5 hg6 hz6 hg7 hz7
        have HO4 := Lib.hid ho4
        have HU4 := Lib.hid hu4
        have HX4 : Hid (W4.heap[bx]? = some (.cells #[.int .i64 k, .string S, .bool b0, .int .u64 n, .slice lo ln lc, .slice mo mn mc, .string I, .string U] 27 (0, 0))) := Lib.hid ((hu4.block bx (row_lt HX3.out) (fun e => hgx e.symm)).trans HX3.out)
        have HL4 : Hid (W4.heap[b]? = some (.cells #[.slice ao xs.length cap] 24 (0, 0))) := Lib.hid ((hu4.block b (row_lt HL3.out) (fun e => hgb e.symm)).trans HL3.out)
        clear ho4 hu4
        refine hK.out _ _ HX4.out ?_; clear hK K
        refine seqP_come _ rfl (fun K2 hK2 => ?_)
        have hcb : W4.cell? ⟨b, 0, none⟩ = some (.slice ao xs.length cap) := row_cell HL4.out (j := 0) rfl
        have hfb : W4.frozen? ⟨b, 0, none⟩ = false := row_thaw HL4.out 0
        go_simp
        have hu5 := Upd.set W4 ⟨b, 0, none⟩ (.slice (some ⟨g, 0, none⟩) (xs.length + 1) cap')
        refine hK2.out _ _ ((hu5.block bx (row_lt HX4.out) (fun e => hbxb e)).trans HX4.out) ?_
        clear hK2 K2 hcb hfb
        refine seqP_done ?_
        go_wp2_with fail
        go_ret
        refine vfin h hbw HB1.out H3.out H4.out H5.out HREL.out (g := g) (hb0 := fun k hk => (H2.out.lt k hk).2) (cap' := cap') (W := W4.setCell ⟨b, 0, none⟩ (.slice (some ⟨g, 0, none⟩) (xs.length + 1) cap')) (row_set HL4.out 0 _) ?_ ?_ ?_
        · exact HCS.out ▸ hu5.own HO4.out (fun k hk e => by have e : k = b := e; have := (HO4.out.lt k hk).1; omega)
        · refine ((Upd.of_new HBD.out).trans ((Upd.alloc _ _ _).trans (HGU.out.mono fun k _ h => .inr h))).trans' (S' := fun k => k = g ∨ k = b) ((HU4.out.mono fun k _ h => .inl h).trans (hu5.mono fun k _ h => .inr h)) (fun k hk h => ?_)
          rcases h with h | h
          · rcases HNEW.out g rfl with h2 | h2
            · exact .inr (h ▸ h2)
            · have := HBD.out.size; omega
          · exact .inl h
        · rcases HNEW.out g rfl with h | h
          · exact .inl h
          · exact .inr (by have := HBD.out.size; omega)
      · have hcb : w3.cell? ⟨b, 0, none⟩ = some (.slice ao xs.length cap) := row_cell HL3.out (j := 0) rfl
        have hfb : w3.frozen? ⟨b, 0, none⟩ = false := row_thaw HL3.out 0
        go_simp
        obtain ⟨W4, hW4⟩ : ∃ W, w3.setCell ⟨b, 0, none⟩ (.slice (some ⟨g, 0, none⟩) (xs.length + 1) cap') = W := ⟨_, rfl⟩
        have hu4 := Upd.set w3 ⟨b, 0, none⟩ (.slice (some ⟨g, 0, none⟩) (xs.length + 1) cap')
        have hl4 := row_set HL3.out 0 (.slice (some ⟨g, 0, none⟩) (xs.length + 1) cap')
        rw [hW4] at hu4 hl4 ⊢
        clear hW4 hcb hfb
        have HU4 := Lib.hid hu4
        have HL4 := Lib.hid hl4
        have HO4 : Hid (W4.ownsRow (b + 1) 27 8 (.slice (some ⟨g, 0, none⟩) (xs.length + 1) cap') (xs.length + 1) (css.flatten ++ [.int .i64 0, .string ⟨#[]⟩, .bool false, .int .u64 0, .slice none 0 0, .slice none 0 0, .string ⟨#[]⟩, .string ⟨#[]⟩])) := Lib.hid (hu4.own HO3.out (fun k hk e => by have e : k = b := e; have := (HO3.out.lt k hk).1; omega))
        have HX4 : Hid (W4.heap[bx]? = some (.cells #[.int .i64 k, .string S, .bool b0, .int .u64 n, .slice lo ln lc, .slice mo mn mc, .string I, .string U] 27 (0, 0))) := Lib.hid ((hu4.block bx (row_lt HX3.out) (fun e => hbxb e)).trans HX3.out)
        clear hu4 hl4
        refine hK.out _ _ HX4.out ?_; clear hK K
        refine seqP_come _ rfl (fun K2 hK2 => ?_)
        have hg0 : W4.cell? ⟨g, xs.length * 8, none⟩ = some (.int .i64 0) := by rw [HO4.out.cellAt (xs.length * 8) (by omega), List.getElem?_append_right (by rw [HFL.out]; omega), HFL.out, show xs.length * 8 - xs.length * 8 = 0 by omega]; rfl
        have hz0 : W4.frozen? ⟨g, xs.length * 8, none⟩ = false := HO4.out.frozenAt _
        have hg1 : W4.cell? ⟨g, xs.length * 8 + 1, none⟩ = some (.string ⟨#[]⟩) := by rw [HO4.out.cellAt (xs.length * 8 + 1) (by omega), List.getElem?_append_right (by rw [HFL.out]; omega), HFL.out, show xs.length * 8 + 1 - xs.length * 8 = 1 by omega]; rfl
        have hz1 : W4.frozen? ⟨g, xs.length * 8 + 1, none⟩ = false := HO4.out.frozenAt _
        have hg2 : W4.cell? ⟨g, xs.length * 8 + 2, none⟩ = some (.bool false) := by rw [HO4.out.cellAt (xs.length * 8 + 2) (by omega), List.getElem?_append_right (by rw [HFL.out]; omega), HFL.out, show xs.length * 8 + 2 - xs.length * 8 = 2 by omega]; rfl
        have hz2 : W4.frozen? ⟨g, xs.length * 8 + 2, none⟩ = false := HO4.out.frozenAt _
        have hg3 : W4.cell? ⟨g, xs.length * 8 + 3, none⟩ = some (.int .u64 0) := by rw [HO4.out.cellAt (xs.length * 8 + 3) (by omega), List.getElem?_append_right (by rw [HFL.out]; omega), HFL.out, show xs.length * 8 + 3 - xs.length * 8 = 3 by omega]; rfl
        have hz3 : W4.frozen? ⟨g, xs.length * 8 + 3, none⟩ = false := HO4.out.frozenAt _
        have hg4 : W4.cell? ⟨g, xs.length * 8 + 4, none⟩ = some (.slice none 0 0) := by rw [HO4.out.cellAt (xs.length * 8 + 4) (by omega), List.getElem?_append_right (by rw [HFL.out]; omega), HFL.out, show xs.length * 8 + 4 - xs.length * 8 = 4 by omega]; rfl
        have hz4 : W4.frozen? ⟨g, xs.length * 8 + 4, none⟩ = false := HO4.out.frozenAt _
        have hg5 : W4.cell? ⟨g, xs.length * 8 + 5, none⟩ = some (.slice none 0 0) := by rw [HO4.out.cellAt (xs.length * 8 + 5) (by omega), List.getElem?_append_right (by rw [HFL.out]; omega), HFL.out, show xs.length * 8 + 5 - xs.length * 8 = 5 by omega]; rfl
        have hz5 : W4.frozen? ⟨g, xs.length * 8 + 5, none⟩ = false := HO4.out.frozenAt _
        have hg6 : W4.cell? ⟨g, xs.length * 8 + 6, none⟩ = some (.string ⟨#[]⟩) := by rw [HO4.out.cellAt (xs.length * 8 + 6) (by omega), List.getElem?_append_right (by rw [HFL.out]; omega), HFL.out, show xs.length * 8 + 6 - xs.length * 8 = 6 by omega]; rfl
        have hz6 : W4.frozen? ⟨g, xs.length * 8 + 6, none⟩ = false := HO4.out.frozenAt _
        have hg7 : W4.cell? ⟨g, xs.length * 8 + 7, none⟩ = some (.string ⟨#[]⟩) := by rw [HO4.out.cellAt (xs.length * 8 + 7) (by omega), List.getElem?_append_right (by rw [HFL.out]; omega), HFL.out, show xs.length * 8 + 7 - xs.length * 8 = 7 by omega]; rfl
        have hz7 : W4.frozen? ⟨g, xs.length * 8 + 7, none⟩ = false := HO4.out.frozenAt _
        go_simp
        obtain ⟨W5, hW5⟩ : ∃ W, ((((((((W4).setCell ⟨g, xs.length * 8, none⟩ (.int .i64 k)).setCell ⟨g, xs.length * 8 + 1, none⟩ (.string S)).setCell ⟨g, xs.length * 8 + 2, none⟩ (.bool b0)).setCell ⟨g, xs.length * 8 + 3, none⟩ (.int .u64 n)).setCell ⟨g, xs.length * 8 + 4, none⟩ (.slice lo ln lc)).setCell ⟨g, xs.length * 8 + 5, none⟩ (.slice mo mn mc)).setCell ⟨g, xs.length * 8 + 6, none⟩ (.string I)).setCell ⟨g, xs.length * 8 + 7, none⟩ (.string U) = W := ⟨_, rfl⟩
        have hset := ownset_8 HO4.out HFL.out (.int .i64 k) (.string S) (.bool b0) (.int .u64 n) (.slice lo ln lc) (.slice mo mn mc) (.string I) (.string U)
        rw [hW5] at hset ⊢
        obtain ⟨ho5, hu5⟩ := hset
        clear hW5 hg0 hz0 hg1 hz1 hg2 hz2 hg3 hz3 hg4 hz4 hg5 hz5 hg6 hz6 hg7 hz7
        refine hK2.out _ _ ((hu5.block bx (row_lt HX4.out) (fun e => hgx e.symm)).trans HX4.out) ?_
        clear hK2 K2
        refine seqP_done ?_
        have HO5 := Lib.hid ho5
        have HU5 := Lib.hid hu5
        clear ho5 hu5
        go_wp2_with fail
        go_ret
        refine vfin h hbw HB1.out H3.out H4.out H5.out HREL.out (g := g) (hb0 := fun k hk => (H2.out.lt k hk).2) (cap' := cap') (W := W5) ((HU5.out.block b (row_lt HL4.out) (fun e => hgb e.symm)).trans HL4.out) ?_ ?_ ?_
        · exact HCS.out ▸ HO5.out
        · refine ((Upd.of_new HBD.out).trans ((Upd.alloc _ _ _).trans (HGU.out.mono fun k _ h => .inr h))).trans' (S' := fun k => k = g ∨ k = b) ((HU4.out.mono fun k _ h => .inr h).trans (HU5.out.mono fun k _ h => .inl h)) (fun k hk h => ?_)
          rcases h with h | h
          · rcases HNEW.out g rfl with h2 | h2
            · exact .inr (h ▸ h2)
            · have := HBD.out.size; omega
          · exact .inl h
        · rcases HNEW.out g rfl with h | h
          · exact .inl h
          · exact .inr (by have := HBD.out.size; omega)
theorem Tryz.elKL : Elem Tryz.prog 25 35 (.agg #[.string ⟨#[]⟩, .bool false, .int .i64 0, .string ⟨#[]⟩, .bool false, .int .u64 0, .slice none 0 0, .slice none 0 0, .string ⟨#[]⟩, .string ⟨#[]⟩, .string ⟨#[]⟩]) 11 160 := ⟨Tryz.underlying25, by kernel_rfl, by decide⟩
/-- reading one, of what comes of it -/
def KPost (rd : Except Nat KV) (n : Nat) (w : World) (e : Ending) (w' : World) : Prop := Below w.heap.size w w' ∧ match rd with
  | .error c => ∃ v q, e = .returned (.tuple #[.agg kzero, v]) ∧ q ≤ n ∧ EW w' v q c
  | .ok x => ∃ cs, e = .returned (.tuple #[.agg cs.toArray, .nilIface]) ∧ KRel w' (fun k => w.heap.size ≤ k) x cs
/-- a list that is being read, at block b -/
def KLAt (b : Nat) (xs : List KV) (P : Nat → Prop) (w : World) : Prop := ∃ (v : Value) (css : List (List Value)) (Q : Nat → Prop), w.heap[b]? = some (.cells #[v] 25 (0, 0)) ∧ w.ownsRow (b + 1) 35 11 v xs.length css.flatten ∧ css.length = xs.length ∧ (∀ j (h1 : j < xs.length) (h2 : j < css.length), KRel w Q xs[j] css[j]) ∧ (∀ k, Q k → k < w.heap.size ∧ k ≠ b ∧ v.ownBlock ≠ some k) ∧ P = fun k => k = b ∨ v.ownBlock = some k ∨ Q k
def KAddPost (b : Nat) (xs : List KV) (P : Nat → Prop) (rd : Except Nat KV) (w : World) (e : Ending) (w' : World) : Prop := Upd P w w' ∧ match rd with
  | .error c => ∃ y, e = .returned y ∧ EC w' y c
  | .ok x => e = .returned .nilIface ∧ ∃ P', KLAt b (xs ++ [x]) P' w' ∧ ∀ k, P' k → P k ∨ w.heap.size ≤ k
theorem KRel_flat {w : World} {Q : Nat → Prop} {xs : List KV} {css : List (List Value)} (hl : css.length = xs.length) (hr : ∀ j (h1 : j < xs.length) (h2 : j < css.length), KRel w Q xs[j] css[j]) : css.flatten.length = xs.length * 11 := by
  have : ∀ c ∈ css, c.length = 11 := fun c hc => by
    obtain ⟨i, hi, rfl⟩ := List.getElem_of_mem hc
    exact (hr i (by omega) hi).len
  have aux : ∀ (l : List (List Value)), (∀ c ∈ l, c.length = 11) → l.flatten.length = l.length * 11 := fun l => by
    induction l with
    | nil => intro _; simp
    | cons c l ih => intro h; rw [List.flatten_cons, List.length_append, ih (fun x hx => h x (List.mem_cons_of_mem _ hx)), h c (List.mem_cons_self ..), List.length_cons]; omega
  rw [aux css this, hl]
theorem kfin {b : Nat} {xs : List KV} {x : KV} {ao : Option Addr} {cap : Nat} {Q : Nat → Prop} {w w1 W : World} {css : List (List Value)} {cs : List Value} {g cap' : Nat}
    (_h : Hid (KLAt b xs (fun k => k = b ∨ (Value.slice ao xs.length cap).ownBlock = some k ∨ Q k) w)) (hbw : b < w.heap.size) (hb1 : Below w.heap.size w w1) (h3 : css.length = xs.length) (h4 : ∀ j (h1 : j < xs.length) (h2 : j < css.length), KRel w Q xs[j] css[j]) (h5 : ∀ k, Q k → k < w.heap.size ∧ k ≠ b ∧ (Value.slice ao xs.length cap).ownBlock ≠ some k)
    (hrel : KRel w1 (fun k => w.heap.size ≤ k) x cs) (hrow : W.heap[b]? = some (.cells #[.slice (some ⟨g, 0, none⟩) (xs.length + 1) cap'] 25 (0, 0))) (hown : W.ownsRow (b + 1) 35 11 (.slice (some ⟨g, 0, none⟩) (xs.length + 1) cap') (xs.length + 1) (css.flatten ++ cs))
    (hu : Upd (fun k => k = b ∨ (Value.slice ao xs.length cap).ownBlock = some k) w1 W) (hg : (Value.slice ao xs.length cap).ownBlock = some g ∨ w1.heap.size ≤ g) (hb0 : ∀ k, (Value.slice ao xs.length cap).ownBlock = some k → k < w.heap.size) :
    KAddPost b xs (fun k => k = b ∨ (Value.slice ao xs.length cap).ownBlock = some k ∨ Q k) (.ok x) w (.returned .nilIface) W := by
  have hs1 := hb1.size
  have hs2 := hu.size
  have huw : Upd (fun k => k = b ∨ (Value.slice ao xs.length cap).ownBlock = some k) w W := (Upd.of_new hb1).trans hu
  refine ⟨huw.mono (fun k _ h => h.imp id .inl), rfl, fun k => k = b ∨ g = k ∨ (Q k ∨ (w.heap.size ≤ k ∧ k < w1.heap.size)), ⟨.slice (some ⟨g, 0, none⟩) (xs.length + 1) cap', css ++ [cs], fun k => Q k ∨ (w.heap.size ≤ k ∧ k < w1.heap.size), hrow, ?_, ?_, ?_, ?_, ?_⟩, ?_⟩
  · rw [List.flatten_append, List.flatten_singleton, List.length_append]
    exact hown
  · rw [List.length_append, List.length_append, h3]; rfl
  · intro j h1 h2
    by_cases hj : j < xs.length
    · rw [List.getElem_append_left hj, List.getElem_append_left (by omega)]
      exact KRel.upd huw (fun k hk hs => by
        have := h5 k hk
        rcases hs with h | h
        · exact this.2.1 h
        · exact this.2.2 h) (fun k hk => .inl hk) _ _ (h4 j hj (by omega))
    · have hje : j = xs.length := by rw [List.length_append, List.length_singleton] at h1; omega
      subst hje
      rw [List.getElem_append_right (Nat.le_refl _), List.getElem_append_right (by omega)]
      simp only [Nat.sub_self, List.getElem_cons_zero, h3]
      refine KRel.upd hu (fun k hk hs => ?_) (fun k hk => .inr hk) _ _ (KRel.lt _ _ hrel)
      rcases hs with h | h
      · omega
      · have := hb0 k h; omega
  · intro k hk
    rcases hk with hk | hk
    · have := h5 k hk
      refine ⟨by omega, this.2.1, fun e => ?_⟩
      have e : g = k := by simpa [Value.ownBlock] using e
      rcases hg with h | h
      · exact this.2.2 (e ▸ h)
      · omega
    · refine ⟨by omega, by omega, fun e => ?_⟩
      have e : g = k := by simpa [Value.ownBlock] using e
      rcases hg with h | h
      · have := hb0 g h; omega
      · omega
  · funext k
    simp [Value.ownBlock]
  · intro k hk
    rcases hk with h | h | h | h
    · exact .inl (.inl h)
    · rcases hg with h2 | h2
      · exact .inl (.inr (.inl (h ▸ h2)))
      · exact .inr (by omega)
    · exact .inl (.inr (.inr h))
    · exact .inr h.1
set_option maxRecDepth 1000000 in
set_option maxHeartbeats 8000000 in
theorem kadd_any (b : Nat) (xs : List KV) (P : Nat → Prop) (F : Nat) (X : ByteArray) (d : Int) (rd : Except Nat KV) (w : World) (hET : ∀ args w, (callFunc F args).run Tryz.prog w = .ok (.enter F args) w) (h : Hid (KLAt b xs P w)) (hl : xs.length ≤ 1000000) (hread : Hid (∀ w', Calls Tryz.prog F #[.string X, .int .i64 d] w' (KPost rd X.size w'))) :
    Calls Tryz.prog 116 #[.pointer (some ⟨b, 0, none⟩), .string X, .int .i64 d, .func (.func F) #[] #[]] w (KAddPost b xs P rd w) := by
  obtain ⟨v, css, Q, h1, h2, h3, h4, h5, rfl⟩ := h.out
  obtain ⟨ao, cap, rfl⟩ := own_slice h2
  have H1 := Lib.hid h1
  have H2 := Lib.hid h2
  have H3 := Lib.hid h3
  have H4 := Lib.hid h4
  have H5 := Lib.hid h5
  have hbw := row_lt h1
  clear h1 h2 h3 h4 h5
  go_enter Tryz.func116, Tryz.ntmps116
  go_wp2_with fail
  refine (hread.out w).mono ?_; intro e w1 hpost
  obtain ⟨hb1, hcase⟩ := hpost
  have HB1 := Lib.hid hb1
  clear hb1
  cases rd with
  | error c =>
    obtain ⟨y, q, rfl, hq, hew⟩ := hcase
    obtain ⟨T', z, rfl⟩ := hew.iface
    have HEW := Lib.hid hew
    clear hew
    unfold kzero
    go_wp2_with fail
    go_ret
    exact ⟨(Upd.of_new HB1.out).trans (Upd.alloc _ _ _), _, rfl, (HEW.out.below (below_new _ _)).ec⟩
  | ok x =>
    obtain ⟨cs, rfl, hrel⟩ := hcase
    have HREL := Lib.hid hrel
    obtain ⟨K0, h0, k, S, b0, n, lo, ln, lc, mo, mn, mc, I, U, U0, hcs⟩ := hrel.form
    have HCS := Lib.hid hcs
    rw [hcs]
    clear hcs hrel
    go_wp2_with fail
    obtain ⟨bx, hbx⟩ : ∃ bx, w1.heap.size = bx := ⟨_, rfl⟩
    obtain ⟨W2, hW2⟩ : ∃ W, w1.alloc (.cells #[.string K0, .bool h0, .int .i64 k, .string S, .bool b0, .int .u64 n, .slice lo ln lc, .slice mo mn mc, .string I, .string U, .string U0] 35) = W := ⟨_, rfl⟩
    have HB2 : Hid (Below w1.heap.size w1 W2) := Lib.hid (by rw [← hW2]; exact below_new _ _)
    have HX2 : Hid (W2.heap[bx]? = some (.cells #[.string K0, .bool h0, .int .i64 k, .string S, .bool b0, .int .u64 n, .slice lo ln lc, .slice mo mn mc, .string I, .string U, .string U0] 35 (0, 0))) := Lib.hid (by rw [← hW2, ← hbx]; exact heap_alloc_new _ _)
    have HBX := Lib.hid hbx
    rw [hW2, hbx]
    clear hW2 hbx
    obtain ⟨D, hD⟩ : ∃ D, W2.drew = D := ⟨_, rfl⟩
    have HBD : Hid (Below w1.heap.size w1 D) := Lib.hid (by rw [← hD]; exact HB2.out.drew)
    have HXD : Hid (D.heap[bx]? = some (.cells #[.string K0, .bool h0, .int .i64 k, .string S, .bool b0, .int .u64 n, .slice lo ln lc, .slice mo mn mc, .string I, .string U, .string U0] 35 (0, 0))) := Lib.hid (by rw [← hD]; exact HX2.out)
    have HWD := Lib.hid (below_step HB1.out HBD.out)
    have HLD : Hid (D.heap[b]? = some (.cells #[.slice ao xs.length cap] 25 (0, 0))) := Lib.hid ((HWD.out.block _ hbw).trans H1.out)
    have HOD : Hid (D.ownsRow (b + 1) 35 11 (.slice ao xs.length cap) xs.length css.flatten) := Lib.hid (own_below H2.out HWD.out)
    have hcb : D.cell? ⟨b, 0, none⟩ = some (.slice ao xs.length cap) := row_cell HLD.out (j := 0) rfl
    have hne : Nonempty {w' : World // w'.heap[bx]? = some (.cells #[.string K0, .bool h0, .int .i64 k, .string S, .bool b0, .int .u64 n, .slice lo ln lc, .slice mo mn mc, .string I, .string U, .string U0] 35 (0, 0))} := ⟨⟨_, HXD.out⟩⟩
    have hsz := HWD.out.size
    have hxlt := row_lt HXD.out
    refine wp_region_seqP (S := fun w' => w'.heap[bx]? = some (.cells #[.string K0, .bool h0, .int .i64 k, .string S, .bool b0, .int .u64 n, .slice lo ln lc, .slice mo mn mc, .string I, .string U, .string U0] 35 (0, 0))) (.take 0 (.take 1 (.take 3 (.two 2 5 (.take 4 (.come 5 (.come 6 (.take 7 (.take 9 (.two 8 10 (.come 10 .done) (.come 8 .done))))))) (.come 2 (.take 4 (.come 6 (.take 7 (.take 9 (.two 8 10 (.come 10 .done) (.come 8 .done))))))))))) (by kernel_rfl) (by kernel_rfl) (by kernel_rfl) (by kernel_rfl) (by rw [hD]; exact HXD.out) ?_
    rw [hD]
    clear hD
    iterate 2 (refine seqP_take _ rfl (fun K hK => ?_); go_simp; (first | refine hK _ ?_ | refine ⟨_, fun _ _ => rfl, hK _ ?_⟩); clear hK K)
    iterate 1 (refine seqP_take _ rfl (fun K hK => ?_); go_simp; (refine ⟨.agg #[.string K0, .bool h0, .int .i64 k, .string S, .bool b0, .int .u64 n, .slice lo ln lc, .slice mo mn mc, .string I, .string U, .string U0], fun a ha => by (have e0 : a.cell? ⟨bx, 0, none⟩ = some (.string K0) := row_cell ha (j := 0) rfl); (have e1 : a.cell? ⟨bx, 1, none⟩ = some (.bool h0) := row_cell ha (j := 1) rfl); (have e2 : a.cell? ⟨bx, 2, none⟩ = some (.int .i64 k) := row_cell ha (j := 2) rfl); (have e3 : a.cell? ⟨bx, 3, none⟩ = some (.string S) := row_cell ha (j := 3) rfl); (have e4 : a.cell? ⟨bx, 4, none⟩ = some (.bool b0) := row_cell ha (j := 4) rfl); (have e5 : a.cell? ⟨bx, 5, none⟩ = some (.int .u64 n) := row_cell ha (j := 5) rfl); (have e6 : a.cell? ⟨bx, 6, none⟩ = some (.slice lo ln lc) := row_cell ha (j := 6) rfl); (have e7 : a.cell? ⟨bx, 7, none⟩ = some (.slice mo mn mc) := row_cell ha (j := 7) rfl); (have e8 : a.cell? ⟨bx, 8, none⟩ = some (.string I) := row_cell ha (j := 8) rfl); (have e9 : a.cell? ⟨bx, 9, none⟩ = some (.string U) := row_cell ha (j := 9) rfl); (have e10 : a.cell? ⟨bx, 10, none⟩ = some (.string U0) := row_cell ha (j := 10) rfl); simp only [e0, e1, e2, e3, e4, e5, e6, e7, e8, e9, e10, Result.andThen], hK _ ?_⟩); clear hK K)
    have HXE : Hid ((D.alloc (.cells #[.string ⟨#[]⟩, .bool false, .int .i64 0, .string ⟨#[]⟩, .bool false, .int .u64 0, .slice none 0 0, .slice none 0 0, .string ⟨#[]⟩, .string ⟨#[]⟩, .string ⟨#[]⟩] 35)).heap[bx]? = some (.cells #[.string K0, .bool h0, .int .i64 k, .string S, .bool b0, .int .u64 n, .slice lo ln lc, .slice mo mn mc, .string I, .string U, .string U0] 35 (0, 0))) := Lib.hid ((Below.heap_alloc _ _ _ hxlt).trans HXD.out)
    have hcbE : (D.alloc (.cells #[.string ⟨#[]⟩, .bool false, .int .i64 0, .string ⟨#[]⟩, .bool false, .int .u64 0, .slice none 0 0, .slice none 0 0, .string ⟨#[]⟩, .string ⟨#[]⟩, .string ⟨#[]⟩] 35)).cell? ⟨b, 0, none⟩ = some (.slice ao xs.length cap) := row_cell ((Below.heap_alloc _ _ _ (row_lt HLD.out)).trans HLD.out) (j := 0) rfl
    refine seqP_two _ _ rfl rfl (fun K hK => ?_) (fun K hK => ?_)
    all_goals go_simp
    · refine hK.out _ _ HXD.out ?_; clear hK K
      iterate 1 (refine seqP_take _ rfl (fun K hK => ?_); go_simp; (first | refine hK _ ?_ | refine ⟨_, fun _ _ => rfl, hK _ ?_⟩); clear hK K)
      refine seqP_come _ rfl (fun K hK => ?_); go_simp
      refine hK.out _ _ HXE.out ?_; clear hK K
      refine seqP_wp _ rfl rfl (fun K hK => ?_)
      refine wp_app_at _ _ 25 rfl Tryz.elKL (by decide) (HOD.out.alloc _) rfl (b := D.heap.size) (off := 0) (m := 1) (c := 1) (news := [.string ⟨#[]⟩, .bool false, .int .i64 0, .string ⟨#[]⟩, .bool false, .int .u64 0, .slice none 0 0, .slice none 0 0, .string ⟨#[]⟩, .string ⟨#[]⟩, .string ⟨#[]⟩]) rfl rfl (fun j u hj => by rw [Nat.zero_add]; exact row_cell (heap_alloc_new D _) (by simpa using hj)) (by simp [Value.oneCell']) (by unfold maxLen; omega) (by omega) (by simp; omega) (fun v' w3 hown3 hgrow hnew => ?_)
      obtain ⟨g, cap', hv', hg1, hg2, _, _⟩ := own_some hown3 (by omega)
      subst hv'
      have hgu : Upd (fun k => (Value.slice ao xs.length cap).ownBlock = some k) (D.alloc (.cells #[.string ⟨#[]⟩, .bool false, .int .i64 0, .string ⟨#[]⟩, .bool false, .int .u64 0, .slice none 0 0, .slice none 0 0, .string ⟨#[]⟩, .string ⟨#[]⟩, .string ⟨#[]⟩] 35)) w3 := Upd.of_grown hgrow
      have HGU := Lib.hid hgu
      have HO3 := Lib.hid hown3
      have HNEW : Hid (∀ k, (Value.slice (some ⟨g, 0, none⟩) (xs.length + 1) cap').ownBlock = some k → (Value.slice ao xs.length cap).ownBlock = some k ∨ k = D.heap.size + 1) := Lib.hid (fun k hk => (hnew k hk).imp id (fun h => by rw [h]; exact Array.size_push ..))
      have HGB : Hid (¬ (Value.slice ao xs.length cap).ownBlock = some bx) := Lib.hid (fun h => by have := (H2.out.lt bx h).2; have := HB1.out.size; have := HBX.out; omega)
      have HGL : Hid (¬ (Value.slice ao xs.length cap).ownBlock = some b) := Lib.hid (fun h => by have := (H2.out.lt b h).1; omega)
      have HX3 : Hid (w3.heap[bx]? = some (.cells #[.string K0, .bool h0, .int .i64 k, .string S, .bool b0, .int .u64 n, .slice lo ln lc, .slice mo mn mc, .string I, .string U, .string U0] 35 (0, 0))) := Lib.hid ((hgu.block bx (row_lt HXE.out) HGB.out).trans HXE.out)
      have HL3 : Hid (w3.heap[b]? = some (.cells #[.slice ao xs.length cap] 25 (0, 0))) := Lib.hid ((hgu.block b (by have := row_lt HLD.out; simp; omega) HGL.out).trans ((Below.heap_alloc _ _ _ (row_lt HLD.out)).trans HLD.out))
      refine hK.out _ _ HX3.out ?_; clear hK K
      clear hgu hown3 hnew hgrow
      iterate 1 (refine seqP_take _ rfl (fun K hK => ?_); go_simp; (refine ⟨.pointer (some ⟨g, xs.length * 11, none⟩), fun _ _ => if_pos (by omega), hK _ ?_⟩); clear hK K)
      iterate 1 (refine seqP_take _ rfl (fun K hK => ?_); go_simp; (first | refine hK _ ?_ | refine ⟨_, fun _ _ => rfl, hK _ ?_⟩); clear hK K)
      have hgb : g ≠ b := by omega
      have hbxb : bx ≠ b := by have := HBX.out; have := HB1.out.size; omega
      have hgx : g ≠ bx := fun e => by
        rcases HNEW.out g rfl with h | h
        · exact HGB.out (e ▸ h)
        · omega
      have HFL : Hid (css.flatten.length = xs.length * 11) := Lib.hid (KRel_flat H3.out H4.out)
      refine seqP_two _ _ rfl rfl (fun K hK => ?_) (fun K hK => ?_)
      · have hg0 : w3.cell? ⟨g, xs.length * 11, none⟩ = some (.string ⟨#[]⟩) := by rw [HO3.out.cellAt (xs.length * 11) (by omega), List.getElem?_append_right (by rw [HFL.out]; omega), HFL.out, show xs.length * 11 - xs.length * 11 = 0 by omega]; rfl
        have hz0 : w3.frozen? ⟨g, xs.length * 11, none⟩ = false := HO3.out.frozenAt _
        have hg1 : w3.cell? ⟨g, xs.length * 11 + 1, none⟩ = some (.bool false) := by rw [HO3.out.cellAt (xs.length * 11 + 1) (by omega), List.getElem?_append_right (by rw [HFL.out]; omega), HFL.out, show xs.length * 11 + 1 - xs.length * 11 = 1 by omega]; rfl
        have hz1 : w3.frozen? ⟨g, xs.length * 11 + 1, none⟩ = false := HO3.out.frozenAt _
        have hg2 : w3.cell? ⟨g, xs.length * 11 + 2, none⟩ = some (.int .i64 0) := by rw [HO3.out.cellAt (xs.length * 11 + 2) (by omega), List.getElem?_append_right (by rw [HFL.out]; omega), HFL.out, show xs.length * 11 + 2 - xs.length * 11 = 2 by omega]; rfl
        have hz2 : w3.frozen? ⟨g, xs.length * 11 + 2, none⟩ = false := HO3.out.frozenAt _
        have hg3 : w3.cell? ⟨g, xs.length * 11 + 3, none⟩ = some (.string ⟨#[]⟩) := by rw [HO3.out.cellAt (xs.length * 11 + 3) (by omega), List.getElem?_append_right (by rw [HFL.out]; omega), HFL.out, show xs.length * 11 + 3 - xs.length * 11 = 3 by omega]; rfl
        have hz3 : w3.frozen? ⟨g, xs.length * 11 + 3, none⟩ = false := HO3.out.frozenAt _
        have hg4 : w3.cell? ⟨g, xs.length * 11 + 4, none⟩ = some (.bool false) := by rw [HO3.out.cellAt (xs.length * 11 + 4) (by omega), List.getElem?_append_right (by rw [HFL.out]; omega), HFL.out, show xs.length * 11 + 4 - xs.length * 11 = 4 by omega]; rfl
        have hz4 : w3.frozen? ⟨g, xs.length * 11 + 4, none⟩ = false := HO3.out.frozenAt _
        have hg5 : w3.cell? ⟨g, xs.length * 11 + 5, none⟩ = some (.int .u64 0) := by rw [HO3.out.cellAt (xs.length * 11 + 5) (by omega), List.getElem?_append_right (by rw [HFL.out]; omega), HFL.out, show xs.length * 11 + 5 - xs.length * 11 = 5 by omega]; rfl
        have hz5 : w3.frozen? ⟨g, xs.length * 11 + 5, none⟩ = false := HO3.out.frozenAt _
        have hg6 : w3.cell? ⟨g, xs.length * 11 + 6, none⟩ = some (.slice none 0 0) := by rw [HO3.out.cellAt (xs.length * 11 + 6) (by omega), List.getElem?_append_right (by rw [HFL.out]; omega), HFL.out, show xs.length * 11 + 6 - xs.length * 11 = 6 by omega]; rfl
        have hz6 : w3.frozen? ⟨g, xs.length * 11 + 6, none⟩ = false := HO3.out.frozenAt _
        have hg7 : w3.cell? ⟨g, xs.length * 11 + 7, none⟩ = some (.slice none 0 0) := by rw [HO3.out.cellAt (xs.length * 11 + 7) (by omega), List.getElem?_append_right (by rw [HFL.out]; omega), HFL.out, show xs.length * 11 + 7 - xs.length * 11 = 7 by omega]; rfl
        have hz7 : w3.frozen? ⟨g, xs.length * 11 + 7, none⟩ = false := HO3.out.frozenAt _
        have hg8 : w3.cell? ⟨g, xs.length * 11 + 8, none⟩ = some (.string ⟨#[]⟩) := by rw [HO3.out.cellAt (xs.length * 11 + 8) (by omega), List.getElem?_append_right (by rw [HFL.out]; omega), HFL.out, show xs.length * 11 + 8 - xs.length * 11 = 8 by omega]; rfl
        have hz8 : w3.frozen? ⟨g, xs.length * 11 + 8, none⟩ = false := HO3.out.frozenAt _
        have hg9 : w3.cell? ⟨g, xs.length * 11 + 9, none⟩ = some (.string ⟨#[]⟩) := by rw [HO3.out.cellAt (xs.length * 11 + 9) (by omega), List.getElem?_append_right (by rw [HFL.out]; omega), HFL.out, show xs.length * 11 + 9 - xs.length * 11 = 9 by omega]; rfl
        have hz9 : w3.frozen? ⟨g, xs.length * 11 + 9, none⟩ = false := HO3.out.frozenAt _
        have hg10 : w3.cell? ⟨g, xs.length * 11 + 10, none⟩ = some (.string ⟨#[]⟩) := by rw [HO3.out.cellAt (xs.length * 11 + 10) (by omega), List.getElem?_append_right (by rw [HFL.out]; omega), HFL.out, show xs.length * 11 + 10 - xs.length * 11 = 10 by omega]; rfl
        have hz10 : w3.frozen? ⟨g, xs.length * 11 + 10, none⟩ = false := HO3.out.frozenAt _
        go_simp
        obtain ⟨W4, hW4⟩ : ∃ W, (((((((((((w3).setCell ⟨g, xs.length * 11, none⟩ (.string K0)).setCell ⟨g, xs.length * 11 + 1, none⟩ (.bool h0)).setCell ⟨g, xs.length * 11 + 2, none⟩ (.int .i64 k)).setCell ⟨g, xs.length * 11 + 3, none⟩ (.string S)).setCell ⟨g, xs.length * 11 + 4, none⟩ (.bool b0)).setCell ⟨g, xs.length * 11 + 5, none⟩ (.int .u64 n)).setCell ⟨g, xs.length * 11 + 6, none⟩ (.slice lo ln lc)).setCell ⟨g, xs.length * 11 + 7, none⟩ (.slice mo mn mc)).setCell ⟨g, xs.length * 11 + 8, none⟩ (.string I)).setCell ⟨g, xs.length * 11 + 9, none⟩ (.string U)).setCell ⟨g, xs.length * 11 + 10, none⟩ (.string U0) = W := ⟨_, rfl⟩
        have hset := ownset_11 HO3.out HFL.out (.string K0) (.bool h0) (.int .i64 k) (.string S) (.bool b0) (.int .u64 n) (.slice lo ln lc) (.slice mo mn mc) (.string I) (.string U) (.string U0)
        rw [hW4] at hset ⊢
        obtain ⟨ho4, hu4⟩ := hset
        clear hW4 hg0 hz0 hg1 hz1 hg2 hz2 hg3 hz3 hg4 hz4 hg5 hz5 hg6 hz6 hg7 hz7 hg8 hz8 hg9 hz9 hg10 hz10
        have HO4 := Lib.hid ho4
        have HU4 := Lib.hid hu4
        have HX4 : Hid (W4.heap[bx]? = some (.cells #[.string K0, .bool h0, .int .i64 k, .string S, .bool b0, .int .u64 n, .slice lo ln lc, .slice mo mn mc, .string I, .string U, .string U0] 35 (0, 0))) := Lib.hid ((hu4.block bx (row_lt HX3.out) (fun e => hgx e.symm)).trans HX3.out)
        have HL4 : Hid (W4.heap[b]? = some (.cells #[.slice ao xs.length cap] 25 (0, 0))) := Lib.hid ((hu4.block b (row_lt HL3.out) (fun e => hgb e.symm)).trans HL3.out)
        clear ho4 hu4
        refine hK.out _ _ HX4.out ?_; clear hK K
        refine seqP_come _ rfl (fun K2 hK2 => ?_)
        have hcb : W4.cell? ⟨b, 0, none⟩ = some (.slice ao xs.length cap) := row_cell HL4.out (j := 0) rfl
        have hfb : W4.frozen? ⟨b, 0, none⟩ = false := row_thaw HL4.out 0
        go_simp
        have hu5 := Upd.set W4 ⟨b, 0, none⟩ (.slice (some ⟨g, 0, none⟩) (xs.length + 1) cap')
        refine hK2.out _ _ ((hu5.block bx (row_lt HX4.out) (fun e => hbxb e)).trans HX4.out) ?_
        clear hK2 K2 hcb hfb
        refine seqP_done ?_
        go_wp2_with fail
        go_ret
        refine kfin h hbw HB1.out H3.out H4.out H5.out HREL.out (g := g) (hb0 := fun k hk => (H2.out.lt k hk).2) (cap' := cap') (W := W4.setCell ⟨b, 0, none⟩ (.slice (some ⟨g, 0, none⟩) (xs.length + 1) cap')) (row_set HL4.out 0 _) ?_ ?_ ?_
        · exact HCS.out ▸ hu5.own HO4.out (fun k hk e => by have e : k = b := e; have := (HO4.out.lt k hk).1; omega)
        · refine ((Upd.of_new HBD.out).trans ((Upd.alloc _ _ _).trans (HGU.out.mono fun k _ h => .inr h))).trans' (S' := fun k => k = g ∨ k = b) ((HU4.out.mono fun k _ h => .inl h).trans (hu5.mono fun k _ h => .inr h)) (fun k hk h => ?_)
          rcases h with h | h
          · rcases HNEW.out g rfl with h2 | h2
            · exact .inr (h ▸ h2)
            · have := HBD.out.size; omega
          · exact .inl h
        · rcases HNEW.out g rfl with h | h
          · exact .inl h
          · exact .inr (by have := HBD.out.size; omega)
      · have hcb : w3.cell? ⟨b, 0, none⟩ = some (.slice ao xs.length cap) := row_cell HL3.out (j := 0) rfl
        have hfb : w3.frozen? ⟨b, 0, none⟩ = false := row_thaw HL3.out 0
        go_simp
        obtain ⟨W4, hW4⟩ : ∃ W, w3.setCell ⟨b, 0, none⟩ (.slice (some ⟨g, 0, none⟩) (xs.length + 1) cap') = W := ⟨_, rfl⟩
        have hu4 := Upd.set w3 ⟨b, 0, none⟩ (.slice (some ⟨g, 0, none⟩) (xs.length + 1) cap')
        have hl4 := row_set HL3.out 0 (.slice (some ⟨g, 0, none⟩) (xs.length + 1) cap')
        rw [hW4] at hu4 hl4 ⊢
        clear hW4 hcb hfb
        have HU4 := Lib.hid hu4
        have HL4 := Lib.hid hl4
        have HO4 : Hid (W4.ownsRow (b + 1) 35 11 (.slice (some ⟨g, 0, none⟩) (xs.length + 1) cap') (xs.length + 1) (css.flatten ++ [.string ⟨#[]⟩, .bool false, .int .i64 0, .string ⟨#[]⟩, .bool false, .int .u64 0, .slice none 0 0, .slice none 0 0, .string ⟨#[]⟩, .string ⟨#[]⟩, .string ⟨#[]⟩])) := Lib.hid (hu4.own HO3.out (fun k hk e => by have e : k = b := e; have := (HO3.out.lt k hk).1; omega))
        have HX4 : Hid (W4.heap[bx]? = some (.cells #[.string K0, .bool h0, .int .i64 k, .string S, .bool b0, .int .u64 n, .slice lo ln lc, .slice mo mn mc, .string I, .string U, .string U0] 35 (0, 0))) := Lib.hid ((hu4.block bx (row_lt HX3.out) (fun e => hbxb e)).trans HX3.out)
        clear hu4 hl4
        refine hK.out _ _ HX4.out ?_; clear hK K
        refine seqP_come _ rfl (fun K2 hK2 => ?_)
        have hg0 : W4.cell? ⟨g, xs.length * 11, none⟩ = some (.string ⟨#[]⟩) := by rw [HO4.out.cellAt (xs.length * 11) (by omega), List.getElem?_append_right (by rw [HFL.out]; omega), HFL.out, show xs.length * 11 - xs.length * 11 = 0 by omega]; rfl
        have hz0 : W4.frozen? ⟨g, xs.length * 11, none⟩ = false := HO4.out.frozenAt _
        have hg1 : W4.cell? ⟨g, xs.length * 11 + 1, none⟩ = some (.bool false) := by rw [HO4.out.cellAt (xs.length * 11 + 1) (by omega), List.getElem?_append_right (by rw [HFL.out]; omega), HFL.out, show xs.length * 11 + 1 - xs.length * 11 = 1 by omega]; rfl
        have hz1 : W4.frozen? ⟨g, xs.length * 11 + 1, none⟩ = false := HO4.out.frozenAt _
        have hg2 : W4.cell? ⟨g, xs.length * 11 + 2, none⟩ = some (.int .i64 0) := by rw [HO4.out.cellAt (xs.length * 11 + 2) (by omega), List.getElem?_append_right (by rw [HFL.out]; omega), HFL.out, show xs.length * 11 + 2 - xs.length * 11 = 2 by omega]; rfl
        have hz2 : W4.frozen? ⟨g, xs.length * 11 + 2, none⟩ = false := HO4.out.frozenAt _
        have hg3 : W4.cell? ⟨g, xs.length * 11 + 3, none⟩ = some (.string ⟨#[]⟩) := by rw [HO4.out.cellAt (xs.length * 11 + 3) (by omega), List.getElem?_append_right (by rw [HFL.out]; omega), HFL.out, show xs.length * 11 + 3 - xs.length * 11 = 3 by omega]; rfl
        have hz3 : W4.frozen? ⟨g, xs.length * 11 + 3, none⟩ = false := HO4.out.frozenAt _
        have hg4 : W4.cell? ⟨g, xs.length * 11 + 4, none⟩ = some (.bool false) := by rw [HO4.out.cellAt (xs.length * 11 + 4) (by omega), List.getElem?_append_right (by rw [HFL.out]; omega), HFL.out, show xs.length * 11 + 4 - xs.length * 11 = 4 by omega]; rfl
        have hz4 : W4.frozen? ⟨g, xs.length * 11 + 4, none⟩ = false := HO4.out.frozenAt _
        have hg5 : W4.cell? ⟨g, xs.length * 11 + 5, none⟩ = some (.int .u64 0) := by rw [HO4.out.cellAt (xs.length * 11 + 5) (by omega), List.getElem?_append_right (by rw [HFL.out]; omega), HFL.out, show xs.length * 11 + 5 - xs.length * 11 = 5 by omega]; rfl
        have hz5 : W4.frozen? ⟨g, xs.length * 11 + 5, none⟩ = false := HO4.out.frozenAt _
        have hg6 : W4.cell? ⟨g, xs.length * 11 + 6, none⟩ = some (.slice none 0 0) := by rw [HO4.out.cellAt (xs.length * 11 + 6) (by omega), List.getElem?_append_right (by rw [HFL.out]; omega), HFL.out, show xs.length * 11 + 6 - xs.length * 11 = 6 by omega]; rfl
        have hz6 : W4.frozen? ⟨g, xs.length * 11 + 6, none⟩ = false := HO4.out.frozenAt _
        have hg7 : W4.cell? ⟨g, xs.length * 11 + 7, none⟩ = some (.slice none 0 0) := by rw [HO4.out.cellAt (xs.length * 11 + 7) (by omega), List.getElem?_append_right (by rw [HFL.out]; omega), HFL.out, show xs.length * 11 + 7 - xs.length * 11 = 7 by omega]; rfl
        have hz7 : W4.frozen? ⟨g, xs.length * 11 + 7, none⟩ = false := HO4.out.frozenAt _
        have hg8 : W4.cell? ⟨g, xs.length * 11 + 8, none⟩ = some (.string ⟨#[]⟩) := by rw [HO4.out.cellAt (xs.length * 11 + 8) (by omega), List.getElem?_append_right (by rw [HFL.out]; omega), HFL.out, show xs.length * 11 + 8 - xs.length * 11 = 8 by omega]; rfl
        have hz8 : W4.frozen? ⟨g, xs.length * 11 + 8, none⟩ = false := HO4.out.frozenAt _
        have hg9 : W4.cell? ⟨g, xs.length * 11 + 9, none⟩ = some (.string ⟨#[]⟩) := by rw [HO4.out.cellAt (xs.length * 11 + 9) (by omega), List.getElem?_append_right (by rw [HFL.out]; omega), HFL.out, show xs.length * 11 + 9 - xs.length * 11 = 9 by omega]; rfl
        have hz9 : W4.frozen? ⟨g, xs.length * 11 + 9, none⟩ = false := HO4.out.frozenAt _
        have hg10 : W4.cell? ⟨g, xs.length * 11 + 10, none⟩ = some (.string ⟨#[]⟩) := by rw [HO4.out.cellAt (xs.length * 11 + 10) (by omega), List.getElem?_append_right (by rw [HFL.out]; omega), HFL.out, show xs.length * 11 + 10 - xs.length * 11 = 10 by omega]; rfl
        have hz10 : W4.frozen? ⟨g, xs.length * 11 + 10, none⟩ = false := HO4.out.frozenAt _
        go_simp
        obtain ⟨W5, hW5⟩ : ∃ W, (((((((((((W4).setCell ⟨g, xs.length * 11, none⟩ (.string K0)).setCell ⟨g, xs.length * 11 + 1, none⟩ (.bool h0)).setCell ⟨g, xs.length * 11 + 2, none⟩ (.int .i64 k)).setCell ⟨g, xs.length * 11 + 3, none⟩ (.string S)).setCell ⟨g, xs.length * 11 + 4, none⟩ (.bool b0)).setCell ⟨g, xs.length * 11 + 5, none⟩ (.int .u64 n)).setCell ⟨g, xs.length * 11 + 6, none⟩ (.slice lo ln lc)).setCell ⟨g, xs.length * 11 + 7, none⟩ (.slice mo mn mc)).setCell ⟨g, xs.length * 11 + 8, none⟩ (.string I)).setCell ⟨g, xs.length * 11 + 9, none⟩ (.string U)).setCell ⟨g, xs.length * 11 + 10, none⟩ (.string U0) = W := ⟨_, rfl⟩
        have hset := ownset_11 HO4.out HFL.out (.string K0) (.bool h0) (.int .i64 k) (.string S) (.bool b0) (.int .u64 n) (.slice lo ln lc) (.slice mo mn mc) (.string I) (.string U) (.string U0)
        rw [hW5] at hset ⊢
        obtain ⟨ho5, hu5⟩ := hset
        clear hW5 hg0 hz0 hg1 hz1 hg2 hz2 hg3 hz3 hg4 hz4 hg5 hz5 hg6 hz6 hg7 hz7 hg8 hz8 hg9 hz9 hg10 hz10
        refine hK2.out _ _ ((hu5.block bx (row_lt HX4.out) (fun e => hgx e.symm)).trans HX4.out) ?_
        clear hK2 K2
        refine seqP_done ?_
        have HO5 := Lib.hid ho5
        have HU5 := Lib.hid hu5
        clear ho5 hu5
        go_wp2_with fail
        go_ret
        refine kfin h hbw HB1.out H3.out H4.out H5.out HREL.out (g := g) (hb0 := fun k hk => (H2.out.lt k hk).2) (cap' := cap') (W := W5) ((HU5.out.block b (row_lt HL4.out) (fun e => hgb e.symm)).trans HL4.out) ?_ ?_ ?_
        · exact HCS.out ▸ HO5.out
        · refine ((Upd.of_new HBD.out).trans ((Upd.alloc _ _ _).trans (HGU.out.mono fun k _ h => .inr h))).trans' (S' := fun k => k = g ∨ k = b) ((HU4.out.mono fun k _ h => .inr h).trans (HU5.out.mono fun k _ h => .inl h)) (fun k hk h => ?_)
          rcases h with h | h
          · rcases HNEW.out g rfl with h2 | h2
            · exact .inr (h ▸ h2)
            · have := HBD.out.size; omega
          · exact .inl h
        · rcases HNEW.out g rfl with h | h
          · exact .inl h
          · exact .inr (by have := HBD.out.size; omega)
    · refine hK.out _ _ HXE.out ?_; clear hK K
      refine seqP_come _ rfl (fun K hK => ?_); go_simp
      refine hK.out _ _ HXE.out ?_; clear hK K
      iterate 1 (refine seqP_take _ rfl (fun K hK => ?_); go_simp; (first | refine hK _ ?_ | refine ⟨_, fun _ _ => rfl, hK _ ?_⟩); clear hK K)
      refine seqP_wp _ rfl rfl (fun K hK => ?_)
      refine wp_app_at _ _ 25 rfl Tryz.elKL (by decide) (HOD.out.alloc _) rfl (b := D.heap.size) (off := 0) (m := 1) (c := 1) (news := [.string ⟨#[]⟩, .bool false, .int .i64 0, .string ⟨#[]⟩, .bool false, .int .u64 0, .slice none 0 0, .slice none 0 0, .string ⟨#[]⟩, .string ⟨#[]⟩, .string ⟨#[]⟩]) rfl rfl (fun j u hj => by rw [Nat.zero_add]; exact row_cell (heap_alloc_new D _) (by simpa using hj)) (by simp [Value.oneCell']) (by unfold maxLen; omega) (by omega) (by simp; omega) (fun v' w3 hown3 hgrow hnew => ?_)
      obtain ⟨g, cap', hv', hg1, hg2, _, _⟩ := own_some hown3 (by omega)
      subst hv'
      have hgu : Upd (fun k => (Value.slice ao xs.length cap).ownBlock = some k) (D.alloc (.cells #[.string ⟨#[]⟩, .bool false, .int .i64 0, .string ⟨#[]⟩, .bool false, .int .u64 0, .slice none 0 0, .slice none 0 0, .string ⟨#[]⟩, .string ⟨#[]⟩, .string ⟨#[]⟩] 35)) w3 := Upd.of_grown hgrow
      have HGU := Lib.hid hgu
      have HO3 := Lib.hid hown3
      have HNEW : Hid (∀ k, (Value.slice (some ⟨g, 0, none⟩) (xs.length + 1) cap').ownBlock = some k → (Value.slice ao xs.length cap).ownBlock = some k ∨ k = D.heap.size + 1) := Lib.hid (fun k hk => (hnew k hk).imp id (fun h => by rw [h]; exact Array.size_push ..))
      have HGB : Hid (¬ (Value.slice ao xs.length cap).ownBlock = some bx) := Lib.hid (fun h => by have := (H2.out.lt bx h).2; have := HB1.out.size; have := HBX.out; omega)
      have HGL : Hid (¬ (Value.slice ao xs.length cap).ownBlock = some b) := Lib.hid (fun h => by have := (H2.out.lt b h).1; omega)
      have HX3 : Hid (w3.heap[bx]? = some (.cells #[.string K0, .bool h0, .int .i64 k, .string S, .bool b0, .int .u64 n, .slice lo ln lc, .slice mo mn mc, .string I, .string U, .string U0] 35 (0, 0))) := Lib.hid ((hgu.block bx (row_lt HXE.out) HGB.out).trans HXE.out)
      have HL3 : Hid (w3.heap[b]? = some (.cells #[.slice ao xs.length cap] 25 (0, 0))) := Lib.hid ((hgu.block b (by have := row_lt HLD.out; simp; omega) HGL.out).trans ((Below.heap_alloc _ _ _ (row_lt HLD.out)).trans HLD.out))
      refine hK.out _ _ HX3.out ?_; clear hK K
      clear hgu hown3 hnew hgrow
      iterate 1 (refine seqP_take _ rfl (fun K hK => ?_); go_simp; (refine ⟨.pointer (some ⟨g, xs.length * 11, none⟩), fun _ _ => if_pos (by omega), hK _ ?_⟩); clear hK K)
      iterate 1 (refine seqP_take _ rfl (fun K hK => ?_); go_simp; (first | refine hK _ ?_ | refine ⟨_, fun _ _ => rfl, hK _ ?_⟩); clear hK K)
      have hgb : g ≠ b := by omega
      have hbxb : bx ≠ b := by have := HBX.out; have := HB1.out.size; omega
      have hgx : g ≠ bx := fun e => by
        rcases HNEW.out g rfl with h | h
        · exact HGB.out (e ▸ h)
        · omega
      have HFL : Hid (css.flatten.length = xs.length * 11) := Lib.hid (KRel_flat H3.out H4.out)
      refine seqP_two _ _ rfl rfl (fun K hK => ?_) (fun K hK => ?_)
      · have hg0 : w3.cell? ⟨g, xs.length * 11, none⟩ = some (.string ⟨#[]⟩) := by rw [HO3.out.cellAt (xs.length * 11) (by omega), List.getElem?_append_right (by rw [HFL.out]; omega), HFL.out, show xs.length * 11 - xs.length * 11 = 0 by omega]; rfl
        have hz0 : w3.frozen? ⟨g, xs.length * 11, none⟩ = false := HO3.out.frozenAt _
        have hg1 : w3.cell? ⟨g, xs.length * 11 + 1, none⟩ = some (.bool false) := by rw [HO3.out.cellAt (xs.length * 11 + 1) (by omega), List.getElem?_append_right (by rw [HFL.out]; omega), HFL.out, show xs.length * 11 + 1 - xs.length * 11 = 1 by omega]; rfl
        have hz1 : w3.frozen? ⟨g, xs.length * 11 + 1, none⟩ = false := HO3.out.frozenAt _
        have hg2 : w3.cell? ⟨g, xs.length * 11 + 2, none⟩ = some (.int .i64 0) := by rw [HO3.out.cellAt (xs.length * 11 + 2) (by omega), List.getElem?_append_right (by rw [HFL.out]; omega), HFL.out, show xs.length * 11 + 2 - xs.length * 11 = 2 by omega]; rfl
        have hz2 : w3.frozen? ⟨g, xs.length * 11 + 2, none⟩ = false := HO3.out.frozenAt _
        have hg3 : w3.cell? ⟨g, xs.length * 11 + 3, none⟩ = some (.string ⟨#[]⟩) := by rw [HO3.out.cellAt (xs.length * 11 + 3) (by omega), List.getElem?_append_right (by rw [HFL.out]; omega), HFL.out, show xs.length * 11 + 3 - xs.length * 11 = 3 by omega]; rfl
        have hz3 : w3.frozen? ⟨g, xs.length * 11 + 3, none⟩ = false := HO3.out.frozenAt _
        have hg4 : w3.cell? ⟨g, xs.length * 11 + 4, none⟩ = some (.bool false) := by rw [HO3.out.cellAt (xs.length * 11 + 4) (by omega), List.getElem?_append_right (by rw [HFL.out]; omega), HFL.out, show xs.length * 11 + 4 - xs.length * 11 = 4 by omega]; rfl
        have hz4 : w3.frozen? ⟨g, xs.length * 11 + 4, none⟩ = false := HO3.out.frozenAt _
        have hg5 : w3.cell? ⟨g, xs.length * 11 + 5, none⟩ = some (.int .u64 0) := by rw [HO3.out.cellAt (xs.length * 11 + 5) (by omega), List.getElem?_append_right (by rw [HFL.out]; omega), HFL.out, show xs.length * 11 + 5 - xs.length * 11 = 5 by omega]; rfl
        have hz5 : w3.frozen? ⟨g, xs.length * 11 + 5, none⟩ = false := HO3.out.frozenAt _
        have hg6 : w3.cell? ⟨g, xs.length * 11 + 6, none⟩ = some (.slice none 0 0) := by rw [HO3.out.cellAt (xs.length * 11 + 6) (by omega), List.getElem?_append_right (by rw [HFL.out]; omega), HFL.out, show xs.length * 11 + 6 - xs.length * 11 = 6 by omega]; rfl
        have hz6 : w3.frozen? ⟨g, xs.length * 11 + 6, none⟩ = false := HO3.out.frozenAt _
        have hg7 : w3.cell? ⟨g, xs.length * 11 + 7, none⟩ = some (.slice none 0 0) := by rw [HO3.out.cellAt (xs.length * 11 + 7) (by omega), List.getElem?_append_right (by rw [HFL.out]; omega), HFL.out, show xs.length * 11 + 7 - xs.length * 11 = 7 by omega]; rfl
        have hz7 : w3.frozen? ⟨g, xs.length * 11 + 7, none⟩ = false := HO3.out.frozenAt _
        have hg8 : w3.cell? ⟨g, xs.length * 11 + 8, none⟩ = some (.string ⟨#[]⟩) := by rw [HO3.out.cellAt (xs.length * 11 + 8) (by omega), List.getElem?_append_right (by rw [HFL.out]; omega), HFL.out, show xs.length * 11 + 8 - xs.length * 11 = 8 by omega]; rfl
        have hz8 : w3.frozen? ⟨g, xs.length * 11 + 8, none⟩ = false := HO3.out.frozenAt _
        have hg9 : w3.cell? ⟨g, xs.length * 11 + 9, none⟩ = some (.string ⟨#[]⟩) := by rw [HO3.out.cellAt (xs.length * 11 + 9) (by omega), List.getElem?_append_right (by rw [HFL.out]; omega), HFL.out, show xs.length * 11 + 9 - xs.length * 11 = 9 by omega]; rfl
        have hz9 : w3.frozen? ⟨g, xs.length * 11 + 9, none⟩ = false := HO3.out.frozenAt _
        have hg10 : w3.cell? ⟨g, xs.length * 11 + 10, none⟩ = some (.string ⟨#[]⟩) := by rw [HO3.out.cellAt (xs.length * 11 + 10) (by omega), List.getElem?_append_right (by rw [HFL.out]; omega), HFL.out, show xs.length * 11 + 10 - xs.length * 11 = 10 by omega]; rfl
        have hz10 : w3.frozen? ⟨g, xs.length * 11 + 10, none⟩ = false := HO3.out.frozenAt _
        go_simp
        obtain ⟨W4, hW4⟩ : ∃ W, (((((((((((w3).setCell ⟨g, xs.length * 11, none⟩ (.string K0)).setCell ⟨g, xs.length * 11 + 1, none⟩ (.bool h0)).setCell ⟨g, xs.length * 11 + 2, none⟩ (.int .i64 k)).setCell ⟨g, xs.length * 11 + 3, none⟩ (.string S)).setCell ⟨g, xs.length * 11 + 4, none⟩ (.bool b0)).setCell ⟨g, xs.length * 11 + 5, none⟩ (.int .u64 n)).setCell ⟨g, xs.length * 11 + 6, none⟩ (.slice lo ln lc)).setCell ⟨g, xs.length * 11 + 7, none⟩ (.slice mo mn mc)).setCell ⟨g, xs.length * 11 + 8, none⟩ (.string I)).setCell ⟨g, xs.length * 11 + 9, none⟩ (.string U)).setCell ⟨g, xs.length * 11 + 10, none⟩ (.string U0) = W := ⟨_, rfl⟩
        have hset := ownset_11 HO3.out HFL.out (.string K0) (.bool h0) (.int .i64 k) (.string S) (.bool b0) (.int .u64 n) (.slice lo ln lc) (.slice mo mn mc) (.string I) (.string U) (.string U0)
        rw [hW4] at hset ⊢
        obtain ⟨ho4, hu4⟩ := hset
        clear hW4 hg0 hz0 hg1 hz1 hg2 hz2 hg3 hz3 hg4 hz4 hg5 hz5 hg6 hz6 hg7 hz7 hg8 hz8 hg9 hz9 hg10 hz10
        have HO4 := Lib.hid ho4
        have HU4 := Lib.hid hu4
        have HX4 : Hid (W4.heap[bx]? = some (.cells #[.string K0, .bool h0, .int .i64 k, .string S, .bool b0, .int .u64 n, .slice lo ln lc, .slice mo mn mc, .string I, .string U, .string U0] 35 (0, 0))) := Lib.hid ((hu4.block bx (row_lt HX3.out) (fun e => hgx e.symm)).trans HX3.out)
        have HL4 : Hid (W4.heap[b]? = some (.cells #[.slice ao xs.length cap] 25 (0, 0))) := Lib.hid ((hu4.block b (row_lt HL3.out) (fun e => hgb e.symm)).trans HL3.out)
        clear ho4 hu4
        refine hK.out _ _ HX4.out ?_; clear hK K
        refine seqP_come _ rfl (fun K2 hK2 => ?_)
        have hcb : W4.cell? ⟨b, 0, none⟩ = some (.slice ao xs.length cap) := row_cell HL4.out (j := 0) rfl
        have hfb : W4.frozen? ⟨b, 0, none⟩ = false := row_thaw HL4.out 0
        go_simp
        have hu5 := Upd.set W4 ⟨b, 0, none⟩ (.slice (some ⟨g, 0, none⟩) (xs.length + 1) cap')
        refine hK2.out _ _ ((hu5.block bx (row_lt HX4.out) (fun e => hbxb e)).trans HX4.out) ?_
        clear hK2 K2 hcb hfb
        refine seqP_done ?_
        go_wp2_with fail
        go_ret
        refine kfin h hbw HB1.out H3.out H4.out H5.out HREL.out (g := g) (hb0 := fun k hk => (H2.out.lt k hk).2) (cap' := cap') (W := W4.setCell ⟨b, 0, none⟩ (.slice (some ⟨g, 0, none⟩) (xs.length + 1) cap')) (row_set HL4.out 0 _) ?_ ?_ ?_
        · exact HCS.out ▸ hu5.own HO4.out (fun k hk e => by have e : k = b := e; have := (HO4.out.lt k hk).1; omega)
        · refine ((Upd.of_new HBD.out).trans ((Upd.alloc _ _ _).trans (HGU.out.mono fun k _ h => .inr h))).trans' (S' := fun k => k = g ∨ k = b) ((HU4.out.mono fun k _ h => .inl h).trans (hu5.mono fun k _ h => .inr h)) (fun k hk h => ?_)
          rcases h with h | h
          · rcases HNEW.out g rfl with h2 | h2
            · exact .inr (h ▸ h2)
            · have := HBD.out.size; omega
          · exact .inl h
        · rcases HNEW.out g rfl with h | h
          · exact .inl h
          · exact .inr (by have := HBD.out.size; omega)
      · have hcb : w3.cell? ⟨b, 0, none⟩ = some (.slice ao xs.length cap) := row_cell HL3.out (j := 0) rfl
        have hfb : w3.frozen? ⟨b, 0, none⟩ = false := row_thaw HL3.out 0
        go_simp
        obtain ⟨W4, hW4⟩ : ∃ W, w3.setCell ⟨b, 0, none⟩ (.slice (some ⟨g, 0, none⟩) (xs.length + 1) cap') = W := ⟨_, rfl⟩
        have hu4 := Upd.set w3 ⟨b, 0, none⟩ (.slice (some ⟨g, 0, none⟩) (xs.length + 1) cap')
        have hl4 := row_set HL3.out 0 (.slice (some ⟨g, 0, none⟩) (xs.length + 1) cap')
        rw [hW4] at hu4 hl4 ⊢
        clear hW4 hcb hfb
        have HU4 := Lib.hid hu4
        have HL4 := Lib.hid hl4
        have HO4 : Hid (W4.ownsRow (b + 1) 35 11 (.slice (some ⟨g, 0, none⟩) (xs.length + 1) cap') (xs.length + 1) (css.flatten ++ [.string ⟨#[]⟩, .bool false, .int .i64 0, .string ⟨#[]⟩, .bool false, .int .u64 0, .slice none 0 0, .slice none 0 0, .string ⟨#[]⟩, .string ⟨#[]⟩, .string ⟨#[]⟩])) := Lib.hid (hu4.own HO3.out (fun k hk e => by have e : k = b := e; have := (HO3.out.lt k hk).1; omega))
        have HX4 : Hid (W4.heap[bx]? = some (.cells #[.string K0, .bool h0, .int .i64 k, .string S, .bool b0, .int .u64 n, .slice lo ln lc, .slice mo mn mc, .string I, .string U, .string U0] 35 (0, 0))) := Lib.hid ((hu4.block bx (row_lt HX3.out) (fun e => hbxb e)).trans HX3.out)
        clear hu4 hl4
        refine hK.out _ _ HX4.out ?_; clear hK K
        refine seqP_come _ rfl (fun K2 hK2 => ?_)
        have hg0 : W4.cell? ⟨g, xs.length * 11, none⟩ = some (.string ⟨#[]⟩) := by rw [HO4.out.cellAt (xs.length * 11) (by omega), List.getElem?_append_right (by rw [HFL.out]; omega), HFL.out, show xs.length * 11 - xs.length * 11 = 0 by omega]; rfl
        have hz0 : W4.frozen? ⟨g, xs.length * 11, none⟩ = false := HO4.out.frozenAt _
        have hg1 : W4.cell? ⟨g, xs.length * 11 + 1, none⟩ = some (.bool false) := by rw [HO4.out.cellAt (xs.length * 11 + 1) (by omega), List.getElem?_append_right (by rw [HFL.out]; omega), HFL.out, show xs.length * 11 + 1 - xs.length * 11 = 1 by omega]; rfl
        have hz1 : W4.frozen? ⟨g, xs.length * 11 + 1, none⟩ = false := HO4.out.frozenAt _
        have hg2 : W4.cell? ⟨g, xs.length * 11 + 2, none⟩ = some (.int .i64 0) := by rw [HO4.out.cellAt (xs.length * 11 + 2) (by omega), List.getElem?_append_right (by rw [HFL.out]; omega), HFL.out, show xs.length * 11 + 2 - xs.length * 11 = 2 by omega]; rfl
        have hz2 : W4.frozen? ⟨g, xs.length * 11 + 2, none⟩ = false := HO4.out.frozenAt _
        have hg3 : W4.cell? ⟨g, xs.length * 11 + 3, none⟩ = some (.string ⟨#[]⟩) := by rw [HO4.out.cellAt (xs.length * 11 + 3) (by omega), List.getElem?_append_right (by rw [HFL.out]; omega), HFL.out, show xs.length * 11 + 3 - xs.length * 11 = 3 by omega]; rfl
        have hz3 : W4.frozen? ⟨g, xs.length * 11 + 3, none⟩ = false := HO4.out.frozenAt _
        have hg4 : W4.cell? ⟨g, xs.length * 11 + 4, none⟩ = some (.bool false) := by rw [HO4.out.cellAt (xs.length * 11 + 4) (by omega), List.getElem?_append_right (by rw [HFL.out]; omega), HFL.out, show xs.length * 11 + 4 - xs.length * 11 = 4 by omega]; rfl
        have hz4 : W4.frozen? ⟨g, xs.length * 11 + 4, none⟩ = false := HO4.out.frozenAt _
        have hg5 : W4.cell? ⟨g, xs.length * 11 + 5, none⟩ = some (.int .u64 0) := by rw [HO4.out.cellAt (xs.length * 11 + 5) (by omega), List.getElem?_append_right (by rw [HFL.out]; omega), HFL.out, show xs.length * 11 + 5 - xs.length * 11 = 5 by omega]; rfl
        have hz5 : W4.frozen? ⟨g, xs.length * 11 + 5, none⟩ = false := HO4.out.frozenAt _
        have hg6 : W4.cell? ⟨g, xs.length * 11 + 6, none⟩ = some (.slice none 0 0) := by rw [HO4.out.cellAt (xs.length * 11 + 6) (by omega), List.getElem?_append_right (by rw [HFL.out]; omega), HFL.out, show xs.length * 11 + 6 - xs.length * 11 = 6 by omega]; rfl
        have hz6 : W4.frozen? ⟨g, xs.length * 11 + 6, none⟩ = false := HO4.out.frozenAt _
        have hg7 : W4.cell? ⟨g, xs.length * 11 + 7, none⟩ = some (.slice none 0 0) := by rw [HO4.out.cellAt (xs.length * 11 + 7) (by omega), List.getElem?_append_right (by rw [HFL.out]; omega), HFL.out, show xs.length * 11 + 7 - xs.length * 11 = 7 by omega]; rfl
        have hz7 : W4.frozen? ⟨g, xs.length * 11 + 7, none⟩ = false := HO4.out.frozenAt _
        have hg8 : W4.cell? ⟨g, xs.length * 11 + 8, none⟩ = some (.string ⟨#[]⟩) := by rw [HO4.out.cellAt (xs.length * 11 + 8) (by omega), List.getElem?_append_right (by rw [HFL.out]; omega), HFL.out, show xs.length * 11 + 8 - xs.length * 11 = 8 by omega]; rfl
        have hz8 : W4.frozen? ⟨g, xs.length * 11 + 8, none⟩ = false := HO4.out.frozenAt _
        have hg9 : W4.cell? ⟨g, xs.length * 11 + 9, none⟩ = some (.string ⟨#[]⟩) := by rw [HO4.out.cellAt (xs.length * 11 + 9) (by omega), List.getElem?_append_right (by rw [HFL.out]; omega), HFL.out, show xs.length * 11 + 9 - xs.length * 11 = 9 by omega]; rfl
        have hz9 : W4.frozen? ⟨g, xs.length * 11 + 9, none⟩ = false := HO4.out.frozenAt _
        have hg10 : W4.cell? ⟨g, xs.length * 11 + 10, none⟩ = some (.string ⟨#[]⟩) := by rw [HO4.out.cellAt (xs.length * 11 + 10) (by omega), List.getElem?_append_right (by rw [HFL.out]; omega), HFL.out, show xs.length * 11 + 10 - xs.length * 11 = 10 by omega]; rfl
        have hz10 : W4.frozen? ⟨g, xs.length * 11 + 10, none⟩ = false := HO4.out.frozenAt _
        go_simp
        obtain ⟨W5, hW5⟩ : ∃ W, (((((((((((W4).setCell ⟨g, xs.length * 11, none⟩ (.string K0)).setCell ⟨g, xs.length * 11 + 1, none⟩ (.bool h0)).setCell ⟨g, xs.length * 11 + 2, none⟩ (.int .i64 k)).setCell ⟨g, xs.length * 11 + 3, none⟩ (.string S)).setCell ⟨g, xs.length * 11 + 4, none⟩ (.bool b0)).setCell ⟨g, xs.length * 11 + 5, none⟩ (.int .u64 n)).setCell ⟨g, xs.length * 11 + 6, none⟩ (.slice lo ln lc)).setCell ⟨g, xs.length * 11 + 7, none⟩ (.slice mo mn mc)).setCell ⟨g, xs.length * 11 + 8, none⟩ (.string I)).setCell ⟨g, xs.length * 11 + 9, none⟩ (.string U)).setCell ⟨g, xs.length * 11 + 10, none⟩ (.string U0) = W := ⟨_, rfl⟩
        have hset := ownset_11 HO4.out HFL.out (.string K0) (.bool h0) (.int .i64 k) (.string S) (.bool b0) (.int .u64 n) (.slice lo ln lc) (.slice mo mn mc) (.string I) (.string U) (.string U0)
        rw [hW5] at hset ⊢
        obtain ⟨ho5, hu5⟩ := hset
        clear hW5 hg0 hz0 hg1 hz1 hg2 hz2 hg3 hz3 hg4 hz4 hg5 hz5 hg6 hz6 hg7 hz7 hg8 hz8 hg9 hz9 hg10 hz10
        refine hK2.out _ _ ((hu5.block bx (row_lt HX4.out) (fun e => hgx e.symm)).trans HX4.out) ?_
        clear hK2 K2
        refine seqP_done ?_
        have HO5 := Lib.hid ho5
        have HU5 := Lib.hid hu5
        clear ho5 hu5
        go_wp2_with fail
        go_ret
        refine kfin h hbw HB1.out H3.out H4.out H5.out HREL.out (g := g) (hb0 := fun k hk => (H2.out.lt k hk).2) (cap' := cap') (W := W5) ((HU5.out.block b (row_lt HL4.out) (fun e => hgb e.symm)).trans HL4.out) ?_ ?_ ?_
        · exact HCS.out ▸ HO5.out
        · refine ((Upd.of_new HBD.out).trans ((Upd.alloc _ _ _).trans (HGU.out.mono fun k _ h => .inr h))).trans' (S' := fun k => k = g ∨ k = b) ((HU4.out.mono fun k _ h => .inr h).trans (HU5.out.mono fun k _ h => .inl h)) (fun k hk h => ?_)
          rcases h with h | h
          · rcases HNEW.out g rfl with h2 | h2
            · exact .inr (h ▸ h2)
            · have := HBD.out.size; omega
          · exact .inl h
        · rcases HNEW.out g rfl with h | h
          · exact .inl h
          · exact .inr (by have := HBD.out.size; omega)
end Go.Proofs.YteknippgiljgeaaGreatDoor
namespace Go.Proofs.YteknippgiljgeaaGreatDoor
open Go.RowKit

theorem lfold_len {α : Type} {rd : List UInt8 → Int → Except Nat α} {d e : Int} : ∀ (rs : List Rec) {xs ys : List α}, (∀ r ∈ rs, IsRec e r) → mfold itk (lstep rd d) xs rs = .ok ys → ys.length ≤ xs.length + (rs.flatMap Rec.raw).length
  | [], xs, ys, _, h => by
    simp only [mfold, Except.ok.injEq] at h
    subst h
    omega
  | r :: rs, xs, ys, hr, h => by
    rw [mfold] at h
    rw [List.flatMap_cons, List.length_append]
    have h1 := isrec_s (hr r (List.mem_cons_self ..))
    have hrs := fun z hz => hr z (List.mem_cons_of_mem _ hz)
    split at h
    · unfold lstep at h
      split at h
      · cases h
      · rename_i st' heq
        split at heq
        · cases heq
        · simp only [Except.ok.injEq] at heq
          subst heq
          have ih := lfold_len rs hrs h
          rw [List.length_append, List.length_singleton] at ih
          omega
    · have ih := lfold_len rs hrs h
      omega
/-- a list that is being read, with what its closure holds -/
def VLS (b bd bf : Nat) (d : Int) (F : Nat) (xs : List Val) (P : Nat → Prop) (w : World) : Prop := ∃ P0, VLAt b xs P0 w ∧ ¬ P0 bd ∧ ¬ P0 bf ∧ w.heap[bd]? = some (.cells #[.int .i64 d] 3 (0, 0)) ∧ w.heap[bf]? = some (.cells #[.func (.func F) #[] #[]] 31 (0, 0)) ∧ P = fun k => P0 k ∨ k = bd ∨ k = bf
theorem VLAt.lt {b : Nat} {xs : List Val} {P : Nat → Prop} {w : World} (h : VLAt b xs P w) : ∀ k, P k → k < w.heap.size := by
  obtain ⟨v, css, Q, h1, h2, h3, h4, h5, rfl⟩ := h
  rintro k (rfl | hk | hk)
  · exact row_lt h1
  · exact (h2.lt k hk).2
  · exact (h5 k hk).1
theorem VLAt.kept {b : Nat} {xs : List Val} {P : Nat → Prop} {w w' : World} (h : VLAt b xs P w) (hu : Upd (fun k => ¬ P k) w w') : VLAt b xs P w' := by
  obtain ⟨v, css, Q, h1, h2, h3, h4, h5, rfl⟩ := h
  exact ⟨v, css, Q, (hu.block b (row_lt h1) (fun h => h (.inl rfl))).trans h1, hu.own h2 (fun k hk h => h (.inr (.inl hk))), h3, fun j g1 g2 => VRel.upd hu (fun k hk h => h (.inr (.inr hk))) (fun k hk => hk) _ _ (h4 j g1 g2), fun k hk => ⟨Nat.lt_of_lt_of_le (h5 k hk).1 hu.size, (h5 k hk).2⟩, rfl⟩
def vlTaker (b bd bf : Nat) (d : Int) (F : Nat) : Taker (List Val) where
  rel := VLS b bd bf d F
  lt := by
    rintro xs P w ⟨P0, h1, _, _, h4, h5, rfl⟩ k (hk | rfl | rfl)
    · exact h1.lt k hk
    · exact row_lt h4
    · exact row_lt h5
  kept := by
    rintro xs P w w' ⟨P0, h1, h2, h3, h4, h5, rfl⟩ hu
    exact ⟨P0, h1.kept (hu.mono fun k _ h h' => h (.inl h')), h2, h3, (hu.block bd (row_lt h4) (fun h => h (.inr (.inl rfl)))).trans h4, (hu.block bf (row_lt h5) (fun h => h (.inr (.inr rfl)))).trans h5, rfl⟩
set_option maxRecDepth 1000000 in
set_option maxHeartbeats 8000000 in
theorem vltake_any (b bd bf : Nat) (d : Int) (F : Nat) (rd : List UInt8 → Int → Except Nat Val) (r : Rec) (xs : List Val) (P : Nat → Prop) (w : World) (hET : ∀ args w, (callFunc F args).run Tryz.prog w = .ok (.enter F args) w) (hd : -9223372036854775807 ≤ d ∧ d ≤ 9223372036854775807) (hl : xs.length ≤ 1000000)
    (hread : Hid (∀ (X : ByteArray) w', X.data.toList = r.s → Calls Tryz.prog F #[.string X, .int .i64 (d - 1)] w' (VPost (rd r.s (d - 1)) X.size w'))) (h : Hid (VLS b bd bf d F xs P w)) :
    Calls Tryz.prog 113 #[recV r, .pointer (some ⟨b, 0, none⟩), .pointer (some ⟨bd, 0, none⟩), .pointer (some ⟨bf, 0, none⟩)] w (TakePost (vlTaker b bd bf d F) (lstep rd (d - 1)) xs P r w) := by
  obtain ⟨P0, h1, h2, h3, h4, h5, rfl⟩ := h.out
  have H1 := Lib.hid h1
  have H2 := Lib.hid h2
  have H3 := Lib.hid h3
  have H4 := Lib.hid h4
  have H5 := Lib.hid h5
  clear h1 h2 h3 h4 h5
  obtain ⟨X, hX⟩ : ∃ X : ByteArray, (⟨r.s.toArray⟩ : ByteArray) = X := ⟨_, rfl⟩
  have hXD : X.data.toList = r.s := by rw [← hX]
  obtain ⟨rb, hrb⟩ : ∃ rb, w.heap.size = rb := ⟨_, rfl⟩
  obtain ⟨W0, hW0⟩ : ∃ W0, w.alloc (.cells #[.int .i64 (r.num : Int), .int .i64 (r.ty : Int), .int .u64 (r.n : Int), .string X, .string ⟨r.raw.toArray⟩] 67) = W0 := ⟨_, rfl⟩
  have HU0 : Hid (Upd (fun _ => False) w W0) := Lib.hid (by rw [← hW0]; exact Upd.alloc _ _ _)
  have hr3 : W0.cell? ⟨rb, 3, none⟩ = some (.string X) := by rw [← hW0, ← hrb]; exact row_cell (heap_alloc_new w _) (j := 3) rfl
  have hcd : W0.cell? ⟨bd, 0, none⟩ = some (.int .i64 d) := row_cell ((HU0.out.block bd (row_lt H4.out) (fun h => h)).trans H4.out) (j := 0) rfl
  have hcf : W0.cell? ⟨bf, 0, none⟩ = some (.func (.func F) #[] #[]) := row_cell ((HU0.out.block bf (row_lt H5.out) (fun h => h)).trans H5.out) (j := 0) rfl
  have q1 : IntKind.i64.wrap (d - 1) = d - 1 := IntWalk.i64_in _ (by omega)
  have HA := Lib.hid (vadd_any b xs P0 F X (d - 1) (rd r.s (d - 1)) W0 hET (Lib.hid (H1.out.kept (HU0.out.mono fun _ _ h => h.elim))) hl (Lib.hid (fun w' => hread.out X w' hXD)))
  have HW0 := Lib.hid hW0
  have HRB := Lib.hid hrb
  rw [← hW0] at hcd hcf
  clear hW0 hrb hET hXD hr3
  unfold recV
  rw [hX]
  clear hX
  go_enter Tryz.func113, Tryz.ntmps113
  go_wp2_with fail
  rw [HW0.out]
  refine HA.out.mono ?_; intro e w1 hpost
  obtain ⟨hu1, hcase⟩ := hpost
  have HU1 : Hid (Upd P0 w w1) := Lib.hid ((HU0.out.mono fun _ _ h => h.elim).trans hu1)
  have HS0 := Lib.hid HU0.out.size
  clear hu1 hcd hcf
  cases hrd : rd r.s (d - 1) with
  | error c =>
    rw [hrd] at hcase
    obtain ⟨y, rfl, hec⟩ := hcase
    obtain ⟨T', z, rfl⟩ := hec.iface
    have HEC := Lib.hid hec
    have HST : Hid (lstep rd (d - 1) xs r = .error c) := Lib.hid (by unfold lstep; rw [hrd])
    clear hec hrd
    go_wp2_with fail
    refine (in_any _ _ _ _).mono ?_; rintro e w' ⟨rfl, rfl⟩
    go_wp2_with fail
    go_ret
    refine ⟨(HU1.out.mono fun k _ h => .inl h).trans (Upd.alloc _ _ _), ?_⟩
    rw [HST.out]
    exact ⟨_, rfl, ec_field HEC.out⟩
  | ok x =>
    rw [hrd] at hcase
    obtain ⟨rfl, P', hat, hp⟩ := hcase
    have HAT := Lib.hid hat
    have HP := Lib.hid hp
    have HST : Hid (lstep rd (d - 1) xs r = .ok (xs ++ [x])) := Lib.hid (by unfold lstep; rw [hrd])
    clear hat hp hrd
    go_wp2_with fail
    refine (in_nil _ _).mono ?_; rintro e w' ⟨rfl, rfl⟩
    go_wp2_with fail
    go_ret
    refine ⟨HU1.out.mono fun k _ h => .inl h, ?_⟩
    rw [HST.out]
    have hn : ∀ k, k < w.heap.size → ¬ P0 k → ¬ P' k := fun k hk h0 h' => by
      rcases HP.out k h' with h | h
      · exact h0 h
      · have := HS0.out; omega
    refine ⟨rfl, _, ⟨P', HAT.out, hn bd (row_lt H4.out) H2.out, hn bf (row_lt H5.out) H3.out, (HU1.out.block bd (row_lt H4.out) H2.out).trans H4.out, (HU1.out.block bf (row_lt H5.out) H3.out).trans H5.out, rfl⟩, fun k hk => ?_⟩
    rcases hk with hk | hk
    · rcases HP.out k hk with h | h
      · exact .inl (.inl h)
      · exact .inr (Nat.le_trans HS0.out h)
    · exact .inl (.inr hk)
def VListPost (rd : Except Nat (List Val × List UInt8)) (w : World) (e : Ending) (w' : World) : Prop := Below w.heap.size w w' ∧ match rd with
  | .error c => ∃ y, e = .returned (.tuple #[.slice none 0 0, .string ⟨#[]⟩, y]) ∧ EC w' y c
  | .ok (xs, i) => ∃ lo lc, e = .returned (.tuple #[.slice lo xs.length lc, .string ⟨i.toArray⟩, .nilIface]) ∧ VRels w' (fun k => w.heap.size ≤ k) xs lo 0
set_option maxRecDepth 1000000 in
set_option maxHeartbeats 8000000 in
theorem vlist_any (F : Nat) (X : ByteArray) (d : Int) (rd : List UInt8 → Int → Except Nat Val) (w : World) (hX : X.size ≤ 1000000) (hET : ∀ args w, (callFunc F args).run Tryz.prog w = .ok (.enter F args) w) (hd : -9223372036854775807 ≤ d ∧ d ≤ 9223372036854775807)
    (hread : Hid (∀ (Y : ByteArray) w', Y.size < X.size → Calls Tryz.prog F #[.string Y, .int .i64 (d - 1)] w' (VPost (rd Y.data.toList (d - 1)) Y.size w'))) :
    Calls Tryz.prog 81 #[.string X, .int .i64 d, .func (.func F) #[] #[]] w (VListPost (lread rd X.data.toList d) w) := by
  have HK := Lib.hid (fun (b bd bf : Nat) (r : Rec) (st : List Val) (P : Nat → Prop) (w : World) (_ : itk r = true) (hr : IsRec d r) (hraw : r.raw.length ≤ X.size) (_ : ∀ rs, wall X.data.toList d = .ok rs → r ∈ rs) (hpre : ∃ pre : List Rec, (∀ x ∈ pre, IsRec d x) ∧ mfold itk (lstep rd (d - 1)) [] pre = .ok st ∧ (pre.flatMap Rec.raw).length + r.raw.length ≤ X.size) (h : (vlTaker b bd bf d F).rel st P w) => vltake_any b bd bf d F rd r st P w hET hd (by
    obtain ⟨pre, h1, h2, h3⟩ := hpre
    have := lfold_len pre h1 h2
    dsimp only [List.length_nil] at this
    omega) (Lib.hid (fun Y w' hY => by
      have hz : Y.size = r.s.length := by rw [← hY]; simp
      have := hread.out Y w' (by have := isrec_s hr; omega)
      rw [hY] at this
      exact this)) (Lib.hid h))
  have HE1 := Lib.hid (enters_of Tryz.func112 (by kernel_rfl) rfl)
  have HE2 := Lib.hid (enters_of Tryz.func113 (by kernel_rfl) rfl)
  obtain ⟨g, hg⟩ : ∃ g, w.heap.size = g := ⟨_, rfl⟩
  obtain ⟨W0, hW0⟩ : ∃ W0, ((w.alloc (.cells #[.int .i64 d] 3)).alloc (.cells #[.func (.func F) #[] #[]] 31)).alloc (.cells #[.slice none 0 0] 24) = W0 := ⟨_, rfl⟩
  have HB0 : Hid (Below w.heap.size w W0) := Lib.hid (by rw [← hW0]; exact below_step (below_step (below_new _ _) (below_new _ _)) (below_new _ _))
  have s1 : (w.alloc (.cells #[.int .i64 d] 3)).heap.size = g + 1 := by rw [← hg]; exact Array.size_push ..
  have s2 : ((w.alloc (.cells #[.int .i64 d] 3)).alloc (.cells #[.func (.func F) #[] #[]] 31)).heap.size = g + 2 := by rw [show g + 2 = g + 1 + 1 from rfl, ← s1]; exact Array.size_push ..
  have HRD : Hid (W0.heap[g]? = some (.cells #[.int .i64 d] 3 (0, 0))) := Lib.hid (by rw [← hW0, ← hg]; exact (Below.heap_alloc _ _ _ (by rw [s2]; omega)).trans ((Below.heap_alloc _ _ _ (by rw [s1]; omega)).trans (heap_alloc_new w _)))
  have HRF : Hid (W0.heap[g + 1]? = some (.cells #[.func (.func F) #[] #[]] 31 (0, 0))) := Lib.hid (by rw [← hW0, ← s1]; exact (Below.heap_alloc _ _ _ (by rw [s2, s1]; omega)).trans (heap_alloc_new _ _))
  have HRL : Hid (W0.heap[g + 2]? = some (.cells #[.slice none 0 0] 24 (0, 0))) := Lib.hid (by rw [← hW0, ← s2]; exact heap_alloc_new _ _)
  have HTK : Hid ((vlTaker (g + 2) g (g + 1) d F).rel [] (fun k => (k = g + 2 ∨ (Value.slice none 0 0).ownBlock = some k ∨ False) ∨ k = g ∨ k = g + 1) W0) := Lib.hid ⟨_, ⟨.slice none 0 0, [], fun _ => False, HRL.out, World.ownsRow_nil _ _ _ _, rfl, fun j h1 => by simp at h1, fun _ h => h.elim, rfl⟩, by simp [Value.ownBlock], by simp [Value.ownBlock], HRD.out, HRF.out, rfl⟩
  have hcd : W0.cell? ⟨g, 0, none⟩ = some (.int .i64 d) := row_cell HRD.out (j := 0) rfl
  have HW0 := Lib.hid hW0
  have HGG := Lib.hid hg
  clear hW0 s1 s2 hET
  go_enter Tryz.func81, Tryz.ntmps81
  go_wp2_with fail
  rw [HW0.out]
  go_wp2_with fail
  refine (mread_any (vlTaker (g + 2) g (g + 1) d F) itk (lstep rd (d - 1)) 112 113 #[.pointer (some ⟨g + 2, 0, none⟩), .pointer (some ⟨g, 0, none⟩), .pointer (some ⟨g + 1, 0, none⟩)] [] X d W0 hX HE1.out HE2.out (fun r w _ => itakes_any r w) (HK.out (g + 2) g (g + 1)) _ HTK.out).mono ?_; intro e w1 hpost
  obtain ⟨hu, hcase⟩ := hpost
  have HB1 : Hid (Below w.heap.size w w1) := Lib.hid (HB0.out.trans (hu.below (by have := HB0.out.size; omega) (fun k _ h => by
    have := HGG.out
    rcases h with (h | h | h) | h | h
    · omega
    · simp [Value.ownBlock] at h
    · exact h.elim
    · omega
    · omega)))
  clear hu hcd
  cases hb : mread itk (lstep rd (d - 1)) [] X.data.toList d with
  | error c =>
    rw [hb] at hcase
    obtain ⟨v, q, rfl, hq, hew⟩ := hcase
    obtain ⟨T', y, rfl⟩ := hew.iface
    have HBR : Hid (lread rd X.data.toList d = .error c) := Lib.hid hb
    have HEC := Lib.hid hew.ec
    clear hb hew
    go_wp2_with fail
    go_ret3
    refine ⟨HB1.out, ?_⟩
    rw [HBR.out]
    exact ⟨_, rfl, HEC.out⟩
  | ok xu =>
    obtain ⟨xs, i⟩ := xu
    rw [hb] at hcase
    obtain ⟨rfl, P', ⟨P0, hat, h2, h3, h4, h5, rfl⟩, hp⟩ := hcase
    have HBR : Hid (lread rd X.data.toList d = .ok (xs, i)) := Lib.hid hb
    obtain ⟨v, css, Q, g1, g2, g3, g4, g5, rfl⟩ := hat
    obtain ⟨lo, lc, rfl⟩ := own_slice g2
    have HR := Lib.hid (VRel_own g2 g3 (P := fun k => w.heap.size ≤ k) (fun j a1 a2 => VRel.upd (Upd.refl (fun _ => False) w1) (fun _ _ h => h) (fun k hk => by
      have := hp k (.inl (.inr (.inr hk)))
      have h0 := HGG.out
      have h9 := HB0.out.size
      rcases this with ((h | h | h) | h | h) | h
      · omega
      · simp [Value.ownBlock] at h
      · exact h.elim
      · omega
      · omega
      · omega) _ _ (g4 j a1 a2)) (fun k hk => by have := (g2.lt k hk).1; have := HGG.out; omega))
    have hcl : w1.cell? ⟨g + 2, 0, none⟩ = some (.slice lo xs.length lc) := row_cell g1 (j := 0) rfl
    clear hb g1 g2 g3 g4 g5 h2 h3 h4 h5 hp
    go_wp2_with fail
    go_ret3
    refine ⟨HB1.out, ?_⟩
    rw [HBR.out]
    exact ⟨lo, lc, rfl, HR.out⟩
/-- a list that is being read, with what its closure holds -/
def KLS (b bd bf : Nat) (d : Int) (F : Nat) (xs : List KV) (P : Nat → Prop) (w : World) : Prop := ∃ P0, KLAt b xs P0 w ∧ ¬ P0 bd ∧ ¬ P0 bf ∧ w.heap[bd]? = some (.cells #[.int .i64 d] 3 (0, 0)) ∧ w.heap[bf]? = some (.cells #[.func (.func F) #[] #[]] 37 (0, 0)) ∧ P = fun k => P0 k ∨ k = bd ∨ k = bf
theorem KLAt.lt {b : Nat} {xs : List KV} {P : Nat → Prop} {w : World} (h : KLAt b xs P w) : ∀ k, P k → k < w.heap.size := by
  obtain ⟨v, css, Q, h1, h2, h3, h4, h5, rfl⟩ := h
  rintro k (rfl | hk | hk)
  · exact row_lt h1
  · exact (h2.lt k hk).2
  · exact (h5 k hk).1
theorem KLAt.kept {b : Nat} {xs : List KV} {P : Nat → Prop} {w w' : World} (h : KLAt b xs P w) (hu : Upd (fun k => ¬ P k) w w') : KLAt b xs P w' := by
  obtain ⟨v, css, Q, h1, h2, h3, h4, h5, rfl⟩ := h
  exact ⟨v, css, Q, (hu.block b (row_lt h1) (fun h => h (.inl rfl))).trans h1, hu.own h2 (fun k hk h => h (.inr (.inl hk))), h3, fun j g1 g2 => KRel.upd hu (fun k hk h => h (.inr (.inr hk))) (fun k hk => hk) _ _ (h4 j g1 g2), fun k hk => ⟨Nat.lt_of_lt_of_le (h5 k hk).1 hu.size, (h5 k hk).2⟩, rfl⟩
def klTaker (b bd bf : Nat) (d : Int) (F : Nat) : Taker (List KV) where
  rel := KLS b bd bf d F
  lt := by
    rintro xs P w ⟨P0, h1, _, _, h4, h5, rfl⟩ k (hk | rfl | rfl)
    · exact h1.lt k hk
    · exact row_lt h4
    · exact row_lt h5
  kept := by
    rintro xs P w w' ⟨P0, h1, h2, h3, h4, h5, rfl⟩ hu
    exact ⟨P0, h1.kept (hu.mono fun k _ h h' => h (.inl h')), h2, h3, (hu.block bd (row_lt h4) (fun h => h (.inr (.inl rfl)))).trans h4, (hu.block bf (row_lt h5) (fun h => h (.inr (.inr rfl)))).trans h5, rfl⟩
set_option maxRecDepth 1000000 in
set_option maxHeartbeats 8000000 in
theorem kltake_any (b bd bf : Nat) (d : Int) (F : Nat) (rd : List UInt8 → Int → Except Nat KV) (r : Rec) (xs : List KV) (P : Nat → Prop) (w : World) (hET : ∀ args w, (callFunc F args).run Tryz.prog w = .ok (.enter F args) w) (hd : -9223372036854775807 ≤ d ∧ d ≤ 9223372036854775807) (hl : xs.length ≤ 1000000)
    (hread : Hid (∀ (X : ByteArray) w', X.data.toList = r.s → Calls Tryz.prog F #[.string X, .int .i64 (d - 1)] w' (KPost (rd r.s (d - 1)) X.size w'))) (h : Hid (KLS b bd bf d F xs P w)) :
    Calls Tryz.prog 115 #[recV r, .pointer (some ⟨b, 0, none⟩), .pointer (some ⟨bd, 0, none⟩), .pointer (some ⟨bf, 0, none⟩)] w (TakePost (klTaker b bd bf d F) (lstep rd (d - 1)) xs P r w) := by
  obtain ⟨P0, h1, h2, h3, h4, h5, rfl⟩ := h.out
  have H1 := Lib.hid h1
  have H2 := Lib.hid h2
  have H3 := Lib.hid h3
  have H4 := Lib.hid h4
  have H5 := Lib.hid h5
  clear h1 h2 h3 h4 h5
  obtain ⟨X, hX⟩ : ∃ X : ByteArray, (⟨r.s.toArray⟩ : ByteArray) = X := ⟨_, rfl⟩
  have hXD : X.data.toList = r.s := by rw [← hX]
  obtain ⟨rb, hrb⟩ : ∃ rb, w.heap.size = rb := ⟨_, rfl⟩
  obtain ⟨W0, hW0⟩ : ∃ W0, w.alloc (.cells #[.int .i64 (r.num : Int), .int .i64 (r.ty : Int), .int .u64 (r.n : Int), .string X, .string ⟨r.raw.toArray⟩] 67) = W0 := ⟨_, rfl⟩
  have HU0 : Hid (Upd (fun _ => False) w W0) := Lib.hid (by rw [← hW0]; exact Upd.alloc _ _ _)
  have hr3 : W0.cell? ⟨rb, 3, none⟩ = some (.string X) := by rw [← hW0, ← hrb]; exact row_cell (heap_alloc_new w _) (j := 3) rfl
  have hcd : W0.cell? ⟨bd, 0, none⟩ = some (.int .i64 d) := row_cell ((HU0.out.block bd (row_lt H4.out) (fun h => h)).trans H4.out) (j := 0) rfl
  have hcf : W0.cell? ⟨bf, 0, none⟩ = some (.func (.func F) #[] #[]) := row_cell ((HU0.out.block bf (row_lt H5.out) (fun h => h)).trans H5.out) (j := 0) rfl
  have q1 : IntKind.i64.wrap (d - 1) = d - 1 := IntWalk.i64_in _ (by omega)
  have HA := Lib.hid (kadd_any b xs P0 F X (d - 1) (rd r.s (d - 1)) W0 hET (Lib.hid (H1.out.kept (HU0.out.mono fun _ _ h => h.elim))) hl (Lib.hid (fun w' => hread.out X w' hXD)))
  have HW0 := Lib.hid hW0
  have HRB := Lib.hid hrb
  rw [← hW0] at hcd hcf
  clear hW0 hrb hET hXD hr3
  unfold recV
  rw [hX]
  clear hX
  go_enter Tryz.func115, Tryz.ntmps115
  go_wp2_with fail
  rw [HW0.out]
  refine HA.out.mono ?_; intro e w1 hpost
  obtain ⟨hu1, hcase⟩ := hpost
  have HU1 : Hid (Upd P0 w w1) := Lib.hid ((HU0.out.mono fun _ _ h => h.elim).trans hu1)
  have HS0 := Lib.hid HU0.out.size
  clear hu1 hcd hcf
  cases hrd : rd r.s (d - 1) with
  | error c =>
    rw [hrd] at hcase
    obtain ⟨y, rfl, hec⟩ := hcase
    obtain ⟨T', z, rfl⟩ := hec.iface
    have HEC := Lib.hid hec
    have HST : Hid (lstep rd (d - 1) xs r = .error c) := Lib.hid (by unfold lstep; rw [hrd])
    clear hec hrd
    go_wp2_with fail
    refine (in_any _ _ _ _).mono ?_; rintro e w' ⟨rfl, rfl⟩
    go_wp2_with fail
    go_ret
    refine ⟨(HU1.out.mono fun k _ h => .inl h).trans (Upd.alloc _ _ _), ?_⟩
    rw [HST.out]
    exact ⟨_, rfl, ec_field HEC.out⟩
  | ok x =>
    rw [hrd] at hcase
    obtain ⟨rfl, P', hat, hp⟩ := hcase
    have HAT := Lib.hid hat
    have HP := Lib.hid hp
    have HST : Hid (lstep rd (d - 1) xs r = .ok (xs ++ [x])) := Lib.hid (by unfold lstep; rw [hrd])
    clear hat hp hrd
    go_wp2_with fail
    refine (in_nil _ _).mono ?_; rintro e w' ⟨rfl, rfl⟩
    go_wp2_with fail
    go_ret
    refine ⟨HU1.out.mono fun k _ h => .inl h, ?_⟩
    rw [HST.out]
    have hn : ∀ k, k < w.heap.size → ¬ P0 k → ¬ P' k := fun k hk h0 h' => by
      rcases HP.out k h' with h | h
      · exact h0 h
      · have := HS0.out; omega
    refine ⟨rfl, _, ⟨P', HAT.out, hn bd (row_lt H4.out) H2.out, hn bf (row_lt H5.out) H3.out, (HU1.out.block bd (row_lt H4.out) H2.out).trans H4.out, (HU1.out.block bf (row_lt H5.out) H3.out).trans H5.out, rfl⟩, fun k hk => ?_⟩
    rcases hk with hk | hk
    · rcases HP.out k hk with h | h
      · exact .inl (.inl h)
      · exact .inr (Nat.le_trans HS0.out h)
    · exact .inl (.inr hk)
def KListPost (rd : Except Nat (List KV × List UInt8)) (w : World) (e : Ending) (w' : World) : Prop := Below w.heap.size w w' ∧ match rd with
  | .error c => ∃ y, e = .returned (.tuple #[.slice none 0 0, .string ⟨#[]⟩, y]) ∧ EC w' y c
  | .ok (xs, i) => ∃ lo lc, e = .returned (.tuple #[.slice lo xs.length lc, .string ⟨i.toArray⟩, .nilIface]) ∧ KRels w' (fun k => w.heap.size ≤ k) xs lo 0
set_option maxRecDepth 1000000 in
set_option maxHeartbeats 8000000 in
theorem klist_any (F : Nat) (X : ByteArray) (d : Int) (rd : List UInt8 → Int → Except Nat KV) (w : World) (hX : X.size ≤ 1000000) (hET : ∀ args w, (callFunc F args).run Tryz.prog w = .ok (.enter F args) w) (hd : -9223372036854775807 ≤ d ∧ d ≤ 9223372036854775807)
    (hread : Hid (∀ (Y : ByteArray) w', Y.size < X.size → Calls Tryz.prog F #[.string Y, .int .i64 (d - 1)] w' (KPost (rd Y.data.toList (d - 1)) Y.size w'))) :
    Calls Tryz.prog 83 #[.string X, .int .i64 d, .func (.func F) #[] #[]] w (KListPost (lread rd X.data.toList d) w) := by
  have HK := Lib.hid (fun (b bd bf : Nat) (r : Rec) (st : List KV) (P : Nat → Prop) (w : World) (_ : itk r = true) (hr : IsRec d r) (hraw : r.raw.length ≤ X.size) (_ : ∀ rs, wall X.data.toList d = .ok rs → r ∈ rs) (hpre : ∃ pre : List Rec, (∀ x ∈ pre, IsRec d x) ∧ mfold itk (lstep rd (d - 1)) [] pre = .ok st ∧ (pre.flatMap Rec.raw).length + r.raw.length ≤ X.size) (h : (klTaker b bd bf d F).rel st P w) => kltake_any b bd bf d F rd r st P w hET hd (by
    obtain ⟨pre, h1, h2, h3⟩ := hpre
    have := lfold_len pre h1 h2
    dsimp only [List.length_nil] at this
    omega) (Lib.hid (fun Y w' hY => by
      have hz : Y.size = r.s.length := by rw [← hY]; simp
      have := hread.out Y w' (by have := isrec_s hr; omega)
      rw [hY] at this
      exact this)) (Lib.hid h))
  have HE1 := Lib.hid (enters_of Tryz.func112 (by kernel_rfl) rfl)
  have HE2 := Lib.hid (enters_of Tryz.func115 (by kernel_rfl) rfl)
  obtain ⟨g, hg⟩ : ∃ g, w.heap.size = g := ⟨_, rfl⟩
  obtain ⟨W0, hW0⟩ : ∃ W0, ((w.alloc (.cells #[.int .i64 d] 3)).alloc (.cells #[.func (.func F) #[] #[]] 37)).alloc (.cells #[.slice none 0 0] 25) = W0 := ⟨_, rfl⟩
  have HB0 : Hid (Below w.heap.size w W0) := Lib.hid (by rw [← hW0]; exact below_step (below_step (below_new _ _) (below_new _ _)) (below_new _ _))
  have s1 : (w.alloc (.cells #[.int .i64 d] 3)).heap.size = g + 1 := by rw [← hg]; exact Array.size_push ..
  have s2 : ((w.alloc (.cells #[.int .i64 d] 3)).alloc (.cells #[.func (.func F) #[] #[]] 37)).heap.size = g + 2 := by rw [show g + 2 = g + 1 + 1 from rfl, ← s1]; exact Array.size_push ..
  have HRD : Hid (W0.heap[g]? = some (.cells #[.int .i64 d] 3 (0, 0))) := Lib.hid (by rw [← hW0, ← hg]; exact (Below.heap_alloc _ _ _ (by rw [s2]; omega)).trans ((Below.heap_alloc _ _ _ (by rw [s1]; omega)).trans (heap_alloc_new w _)))
  have HRF : Hid (W0.heap[g + 1]? = some (.cells #[.func (.func F) #[] #[]] 37 (0, 0))) := Lib.hid (by rw [← hW0, ← s1]; exact (Below.heap_alloc _ _ _ (by rw [s2, s1]; omega)).trans (heap_alloc_new _ _))
  have HRL : Hid (W0.heap[g + 2]? = some (.cells #[.slice none 0 0] 25 (0, 0))) := Lib.hid (by rw [← hW0, ← s2]; exact heap_alloc_new _ _)
  have HTK : Hid ((klTaker (g + 2) g (g + 1) d F).rel [] (fun k => (k = g + 2 ∨ (Value.slice none 0 0).ownBlock = some k ∨ False) ∨ k = g ∨ k = g + 1) W0) := Lib.hid ⟨_, ⟨.slice none 0 0, [], fun _ => False, HRL.out, World.ownsRow_nil _ _ _ _, rfl, fun j h1 => by simp at h1, fun _ h => h.elim, rfl⟩, by simp [Value.ownBlock], by simp [Value.ownBlock], HRD.out, HRF.out, rfl⟩
  have hcd : W0.cell? ⟨g, 0, none⟩ = some (.int .i64 d) := row_cell HRD.out (j := 0) rfl
  have HW0 := Lib.hid hW0
  have HGG := Lib.hid hg
  clear hW0 s1 s2 hET
  go_enter Tryz.func83, Tryz.ntmps83
  go_wp2_with fail
  rw [HW0.out]
  go_wp2_with fail
  refine (mread_any (klTaker (g + 2) g (g + 1) d F) itk (lstep rd (d - 1)) 112 115 #[.pointer (some ⟨g + 2, 0, none⟩), .pointer (some ⟨g, 0, none⟩), .pointer (some ⟨g + 1, 0, none⟩)] [] X d W0 hX HE1.out HE2.out (fun r w _ => itakes_any r w) (HK.out (g + 2) g (g + 1)) _ HTK.out).mono ?_; intro e w1 hpost
  obtain ⟨hu, hcase⟩ := hpost
  have HB1 : Hid (Below w.heap.size w w1) := Lib.hid (HB0.out.trans (hu.below (by have := HB0.out.size; omega) (fun k _ h => by
    have := HGG.out
    rcases h with (h | h | h) | h | h
    · omega
    · simp [Value.ownBlock] at h
    · exact h.elim
    · omega
    · omega)))
  clear hu hcd
  cases hb : mread itk (lstep rd (d - 1)) [] X.data.toList d with
  | error c =>
    rw [hb] at hcase
    obtain ⟨v, q, rfl, hq, hew⟩ := hcase
    obtain ⟨T', y, rfl⟩ := hew.iface
    have HBR : Hid (lread rd X.data.toList d = .error c) := Lib.hid hb
    have HEC := Lib.hid hew.ec
    clear hb hew
    go_wp2_with fail
    go_ret3
    refine ⟨HB1.out, ?_⟩
    rw [HBR.out]
    exact ⟨_, rfl, HEC.out⟩
  | ok xu =>
    obtain ⟨xs, i⟩ := xu
    rw [hb] at hcase
    obtain ⟨rfl, P', ⟨P0, hat, h2, h3, h4, h5, rfl⟩, hp⟩ := hcase
    have HBR : Hid (lread rd X.data.toList d = .ok (xs, i)) := Lib.hid hb
    obtain ⟨v, css, Q, g1, g2, g3, g4, g5, rfl⟩ := hat
    obtain ⟨lo, lc, rfl⟩ := own_slice g2
    have HR := Lib.hid (KRel_own g2 g3 (P := fun k => w.heap.size ≤ k) (fun j a1 a2 => KRel.upd (Upd.refl (fun _ => False) w1) (fun _ _ h => h) (fun k hk => by
      have := hp k (.inl (.inr (.inr hk)))
      have h0 := HGG.out
      have h9 := HB0.out.size
      rcases this with ((h | h | h) | h | h) | h
      · omega
      · simp [Value.ownBlock] at h
      · exact h.elim
      · omega
      · omega
      · omega) _ _ (g4 j a1 a2)) (fun k hk => by have := (g2.lt k hk).1; have := HGG.out; omega))
    have hcl : w1.cell? ⟨g + 2, 0, none⟩ = some (.slice lo xs.length lc) := row_cell g1 (j := 0) rfl
    clear hb g1 g2 g3 g4 g5 h2 h3 h4 h5 hp
    go_wp2_with fail
    go_ret3
    refine ⟨HB1.out, ?_⟩
    rw [HBR.out]
    exact ⟨lo, lc, rfl, HR.out⟩
end Go.Proofs.YteknippgiljgeaaGreatDoor
