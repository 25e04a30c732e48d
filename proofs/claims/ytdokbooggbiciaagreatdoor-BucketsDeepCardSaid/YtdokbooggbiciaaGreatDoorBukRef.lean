/-
  hyglaw14.BucketsJoins.
-/
/-
  Buckets: what is written is read back.
-/
/-
  hyglaw14.BucketsTwice, exph.MayBuckets.
-/
/-
  hygref.Nums, hygref.Buckets.
-/
import Derived.Test.YtdokbooggbiciaaGreatDoorFirst14
import Derived.Test.YtdokbooggbiciaaGreatDoorWireBackMath
import Derived.Test.YtdokbooggbiciaaGreatDoorNatsApp
import Derived.Deep.Strs
import Derived.IntWalk
import Derived.Test.YtdokbooggbiciaaGreatDoorOrd
namespace Go.Proofs.YtdokbooggbiciaaGreatDoor
open Go.RowKit

/-- UnmarshalBuckets, of whatever it answers -/
def UBAny (s : ByteArray) (d : Int) (w : World) (e : Ending) (w' : World) : Prop :=
  Below w.heap.size w w' ∧ ∃ (x : Bk) (u : List UInt8) (ao : Option Addr) (cap : Nat) (v : Value), e = .returned (.tuple #[.agg #[.int .i32 x.off, .slice ao x.cs.length cap, .string ⟨u.toArray⟩], v]) ∧
    ((v = .nilIface ∧ bread s.data.toList d = .ok (x, u) ∧ w'.ownsRow w.heap.size 44 1 (.slice ao x.cs.length cap) x.cs.length (nats64 x.cs)) ∨ (∃ T y q c, v = .iface T y ∧ bread s.data.toList d = .error c ∧ q ≤ s.size ∧ EW w' v q c ∧ x = ⟨0, []⟩ ∧ u = [] ∧ ao = none ∧ cap = 0))
theorem ub_gen (s : ByteArray) (d : Int) (w : World) (hs : s.size ≤ 1000000) :
    Calls Tryz.prog 7 #[.string s, .int .i64 d] w (UBAny s d w) := by
  refine (ub_any s d w hs).mono ?_
  rintro e w' ⟨hb, hcase⟩
  refine ⟨hb, ?_⟩
  cases h : bread s.data.toList d with
  | error c =>
    rw [h] at hcase
    obtain ⟨v, q, rfl, hq, hew⟩ := hcase
    obtain ⟨T, y, hv⟩ := hew.iface
    exact ⟨⟨0, []⟩, [], none, 0, v, rfl, .inr ⟨T, y, q, c, hv, rfl, hq, hew, rfl, rfl, rfl, rfl⟩⟩
  | ok xu =>
    obtain ⟨x, u⟩ := xu
    rw [h] at hcase
    obtain ⟨v, rfl, ho⟩ := hcase
    obtain ⟨ao, cap, rfl⟩ := own_slice ho
    exact ⟨x, u, ao, cap, .nilIface, rfl, .inl ⟨rfl, rfl, ho⟩⟩
theorem pstep_front (c : List Nat) {xs ys : List Nat} {r : Rec} (h : pstep xs r = .ok ys) : pstep (c ++ xs) r = .ok (c ++ ys) := by
  unfold pstep at h ⊢
  split at h
  · rename_i h1
    rw [if_pos h1]
    simp only [Except.ok.injEq] at h ⊢
    rw [← h, List.append_assoc]
  · rename_i h1
    rw [if_neg h1]
    cases hw : wvars r.s with
    | error c => rw [hw] at h; cases h
    | ok ns =>
      rw [hw] at h
      simp only [Except.ok.injEq] at h ⊢
      rw [← h, List.append_assoc]
theorem bfold_from : ∀ (rs : List Rec) (c : List Nat) (o : Int) {a y : Bk}, mfold btk bstep a rs = .ok y → ∃ z, mfold btk bstep ⟨o, c ++ a.cs⟩ rs = .ok z ∧ z.cs = c ++ y.cs ∧ (z.off = y.off ∨ (y.off = a.off ∧ z.off = o))
  | [], c, o, a, y, h => by
    simp only [mfold, Except.ok.injEq] at h
    subst h
    exact ⟨_, rfl, rfl, .inr ⟨rfl, rfl⟩⟩
  | r :: rs, c, o, a, y, h => by
    rw [mfold] at h ⊢
    split at h
    · rename_i h1
      rw [if_pos h1]
      cases hs : bstep a r with
      | error e => rw [hs] at h; cases h
      | ok b =>
        rw [hs] at h
        unfold bstep at hs ⊢
        split at hs
        · rename_i h2
          rw [if_pos h2]
          simp only [Except.ok.injEq] at hs
          subst hs
          obtain ⟨z, g1, g2, g3⟩ := bfold_from rs c (zag (r.n % 2 ^ 32)) h
          refine ⟨z, g1, g2, ?_⟩
          rcases g3 with g3 | ⟨g3, g4⟩
          · exact .inl g3
          · exact .inl (by rw [g4, g3])
        · rename_i h2
          rw [if_neg h2]
          cases hp : pstep a.cs r with
          | error e => rw [hp] at hs; cases hs
          | ok ys =>
            rw [hp] at hs
            simp only [Except.ok.injEq] at hs
            subst hs
            dsimp only
            rw [pstep_front c hp]
            dsimp only
            obtain ⟨z, g1, g2, g3⟩ := bfold_from rs c o h
            exact ⟨z, g1, g2, g3⟩
    · rename_i h1
      rw [if_neg h1]
      exact bfold_from rs c o h
theorem bread_unk {l : List UInt8} {d : Int} {x : Bk} {u : List UInt8} (h : bread l d = .ok (x, u)) : u.length ≤ l.length := by
  unfold bread mread at h
  split at h
  · cases h
  · cases hw : wall l d with
    | error c => rw [hw] at h; cases h
    | ok rs =>
      rw [hw] at h
      dsimp only at h
      cases hf : mfold btk bstep ⟨0, []⟩ rs with
      | error c => rw [hf] at h; cases h
      | ok x' =>
        rw [hf] at h
        simp only [Except.ok.injEq, Prod.mk.injEq] at h
        rw [← h.2]
        have := munk_le btk rs
        rw [(wall_raws _ (Nat.le_refl _) hw).1] at this
        exact this
theorem bread_cs {l : List UInt8} {d : Int} {x : Bk} {u : List UInt8} (h : bread l d = .ok (x, u)) : x.cs.length ≤ l.length ∧ BkOk x := by
  unfold bread mread at h
  split at h
  · cases h
  · cases hw : wall l d with
    | error c => rw [hw] at h; cases h
    | ok rs =>
      rw [hw] at h
      dsimp only at h
      cases hf : mfold btk bstep ⟨0, []⟩ rs with
      | error c => rw [hf] at h; cases h
      | ok x' =>
        rw [hf] at h
        simp only [Except.ok.injEq, Prod.mk.injEq] at h
        rw [← h.1]
        have h1 := bfold_len rs (wall_recs _ (Nat.le_refl _) hw) hf
        rw [(wall_raws _ (Nat.le_refl _) hw).1] at h1
        exact ⟨by have := h1.1; simpa using this, h1.2 ⟨by decide, by decide, by simp⟩⟩
/-- of two that are read, one behind the other it is read -/
theorem bread_join {s t : List UInt8} {d : Int} {x y : Bk} {u v : List UInt8} (h1 : bread s d = .ok (x, u)) (h2 : bread t d = .ok (y, v)) : ∃ z, bread (s ++ t) d = .ok (z, u ++ v) ∧ z.cs = x.cs ++ y.cs ∧ (z.off = y.off ∨ (y.off = 0 ∧ z.off = x.off)) := by
  unfold bread mread at h1 h2 ⊢
  split at h1
  · cases h1
  · rename_i hd
    rw [if_neg hd] at h2 ⊢
    cases hs : wall s d with
    | error c => rw [hs] at h1; cases h1
    | ok rs =>
      cases ht : wall t d with
      | error c => rw [ht] at h2; cases h2
      | ok ts =>
        rw [hs] at h1
        rw [ht] at h2
        rw [wall_append _ t (Nat.le_refl _) hs, ht]
        dsimp only at h1 h2 ⊢
        cases hf : mfold btk bstep ⟨0, []⟩ rs with
        | error c => rw [hf] at h1; cases h1
        | ok x' =>
          cases hg : mfold btk bstep ⟨0, []⟩ ts with
          | error c => rw [hg] at h2; cases h2
          | ok y' =>
            rw [hf] at h1
            rw [hg] at h2
            simp only [Except.ok.injEq, Prod.mk.injEq] at h1 h2
            obtain ⟨rfl, rfl⟩ := h1
            obtain ⟨rfl, rfl⟩ := h2
            obtain ⟨z, g1, g2, g3⟩ := bfold_from ts x'.cs x'.off hg
            rw [List.append_nil] at g1
            rw [mfold_append, hf]
            dsimp only
            rw [g1]
            dsimp only
            exact ⟨z, by rw [munk_append], g2, g3⟩
end Go.Proofs.YtdokbooggbiciaaGreatDoor
/-
  slices.Equal of numbers; exph.SameBuckets.
-/
namespace Go.Proofs.YtdokbooggbiciaaGreatDoor
open Go.RowKit

theorem zag_back32 (n : Int) (h1 : -2147483648 ≤ n) (h2 : n ≤ 2147483647) : ∃ z : Nat, zig n = z ∧ z < 2^64 ∧ zag (z % 2^32) = n := by
  refine ⟨(zig n).toNat, ?_, ?_, ?_⟩ <;> unfold zig <;> (try unfold zag) <;> split <;> (try split) <;> omega
/-- the records that a side is written of -/
def bkRecs (x : Bk) : List Rec :=
  (if (zig x.off).toNat = 0 then [] else [⟨1, 0, (zig x.off).toNat, [], vput (8 * 1 + 0) ++ vput (zig x.off).toNat⟩]) ++
  (if vputs x.cs = [] then [] else [⟨2, 2, 0, vputs x.cs, vput (8 * 2 + 2) ++ (vput (vputs x.cs).length ++ vputs x.cs)⟩])
theorem wrec_ok {num kind : Nat} (h1 : 1 ≤ num) (h2 : num ≤ 536870911) (h3 : kind ≤ 5) (t : List UInt8) : wrec num kind t = vput (8 * num + kind) ++ t := by
  unfold wrec
  rw [wtag_ok h1 h2 h3, if_neg (vput_ne _)]
theorem bkRecs_raw (x : Bk) : (bkRecs x).flatMap Rec.raw = (bparts x).flatten := by
  have e1 := wrec_ok (num := 1) (kind := 0) (by omega) (by omega) (by omega)
  have e2 := wrec_ok (num := 2) (kind := 2) (by omega) (by omega) (by omega)
  unfold bkRecs bparts wvarP wbytesP
  rw [List.flatMap_append, List.flatten_append]
  congr 1
  · split
    · rfl
    · rw [show wrec ((1 : Nat) : Int) 0 (vput (zig x.off).toNat) = _ from e1 _]
      simp
  · rw [show x.cs.flatMap vput = vputs x.cs from rfl]
    split
    · rfl
    · rw [show wrec ((2 : Nat) : Int) 2 (vput (vputs x.cs).length ++ vputs x.cs) = _ from e2 _]
      simp
theorem bkRecs_rec {x : Bk} (hx : BkOk x) (hl : (vputs x.cs).length < 2 ^ 64) : ∀ r ∈ bkRecs x, ∀ d, IsRec d r := by
  have hz := (zig_nat hx.lo hx.hi).2
  intro r hr d
  unfold bkRecs at hr
  rcases List.mem_append.1 hr with h | h
  · split at h
    · cases h
    · rw [List.mem_singleton] at h
      subst h
      exact txt_isrec (txt_num (by omega) (by omega) (by omega)) d
  · split at h
    · cases h
    · rw [List.mem_singleton] at h
      subst h
      exact txt_isrec (txt_bytes (by omega) (by omega) hl) d
theorem bkRecs_tk (x : Bk) : ((bkRecs x).all fun r => btk r) = true := by
  unfold bkRecs
  rw [List.all_append]
  split <;> split <;> simp [btk]
theorem vputs_none {l : List Nat} (h : vputs l = []) : l = [] := by
  cases l with
  | nil => rfl
  | cons n l =>
    have e : vputs (n :: l) = vput n ++ vputs l := rfl
    rw [e] at h
    exact absurd (List.append_eq_nil_iff.1 h).1 (vput_ne n)
theorem bkRecs_fold {x : Bk} (hx : BkOk x) : mfold btk bstep ⟨0, []⟩ (bkRecs x) = .ok x := by
  obtain ⟨z, hz, hz1, hz2⟩ := zag_back32 x.off hx.lo hx.hi
  have hzn : (zig x.off).toNat = z := by omega
  have hw := wvars_vputs x.cs hx.each
  unfold bkRecs
  rw [hzn, mfold_append]
  have e1 : mfold btk bstep ⟨0, []⟩ (if z = 0 then [] else [⟨1, 0, z, [], vput (8 * 1 + 0) ++ vput z⟩]) = .ok ⟨x.off, []⟩ := by
    split
    · rename_i h
      subst h
      have : x.off = 0 := by rw [← hz2]; rfl
      rw [this]; rfl
    · simp [mfold, btk, bstep, hz2]
  rw [e1]
  dsimp only
  split
  · rename_i h
    have := vputs_none h
    rw [mfold, ← this]
  · simp [mfold, btk, bstep, pstep, hw]
theorem bread_put {x : Bk} {u : List UInt8} {d : Int} (hx : BkOk x) (hl : (vputs x.cs).length < 2 ^ 64) (hm : bmay u d = true) : bread (bput x u) d = .ok (x, u) := by
  unfold bmay at hm
  rw [Bool.and_eq_true, decide_eq_true_iff] at hm
  have := mread_put_ok hm.1 (bkRecs_rec hx hl) (bkRecs_fold hx) (bkRecs_tk x) hm.2
  rw [bkRecs_raw] at this
  unfold bread bput
  rw [List.flatten_append]
  simpa using this
/-- what was read may be written -/
theorem bread_may {l : List UInt8} {d : Int} {x : Bk} {u : List UInt8} (h : bread l d = .ok (x, u)) : bmay u d = true := by
  unfold bread mread at h
  split at h
  · cases h
  · rename_i hd
    unfold bmay
    rw [Bool.and_eq_true, decide_eq_true_iff]
    refine ⟨by omega, ?_⟩
    cases hw : wall l d with
    | error c => rw [hw] at h; cases h
    | ok rs =>
      rw [hw] at h
      dsimp only at h
      cases hf : mfold btk bstep ⟨0, []⟩ rs with
      | error c => rw [hf] at h; cases h
      | ok y =>
        rw [hf] at h
        simp only [Except.ok.injEq, Prod.mk.injEq] at h
        rw [← h.2]
        exact munk_ok hw
theorem vputs_len10 : ∀ (l : List Nat), (vputs l).length ≤ 10 * l.length
  | [] => by simp [vputs]
  | n :: l => by
    have e : vputs (n :: l) = vput n ++ vputs l := rfl
    have h1 := vputs_len10 l
    have h2 := (vput_length n).2
    rw [e, List.length_append, List.length_cons]
    omega
theorem bput_len (x : Bk) (u : List UInt8) : (bput x u).length ≤ 10 * x.cs.length + 60 + u.length := by
  have h1 := vputs_len10 x.cs
  have h2 := (vput_length (zig x.off).toNat).2
  have h3 := (vput_length (vputs x.cs).length).2
  have h4 : (vput 8).length ≤ 10 := (vput_length _).2
  have h5 : (vput 18).length ≤ 10 := (vput_length _).2
  unfold bput
  rw [List.flatten_append, ← bkRecs_raw]
  unfold bkRecs
  rw [List.flatMap_append]
  split <;> split <;> simp <;> omega
end Go.Proofs.YtdokbooggbiciaaGreatDoor
namespace Go.Proofs.YtdokbooggbiciaaGreatDoor
open Go.RowKit

end Go.Proofs.YtdokbooggbiciaaGreatDoor
/-
  A side as an argument, opened; hygref.take, RoomBuckets.
-/
/-
  hyglaw14.BucketsBack.
-/
namespace Go.Proofs.YtdokbooggbiciaaGreatDoor
open Go.RowKit

set_option maxRecDepth 1000000 in
set_option maxHeartbeats 4000000 in
theorem mayB_any (x : Bk) (u : List UInt8) (ao : Option Addr) (cap : Nat) (X : ByteArray) (d : Int) (w : World) (hx : Hid (BkOk x)) (hN : Hid (Nats .u64 w ao x.cs)) (hl : x.cs.length ≤ 100000) (hu : u.length ≤ 1000000) (hX : Hid (X = ⟨u.toArray⟩)) :
    Calls Tryz.prog 14 #[.agg #[.int .i32 x.off, .slice ao x.cs.length cap, .string X], .int .i64 d] w fun e w' => e = .returned (.bool (bmay u d)) ∧ Below w.heap.size w w' := by
  have hal : Below w.heap.size w (w.alloc (.cells #[.int .i32 x.off, .slice ao x.cs.length cap, .string X] 25)) := below_new _ _
  have HBA := Lib.hid hal
  have HN2 : Hid (Nats .u64 (w.alloc (.cells #[.int .i32 x.off, .slice ao x.cs.length cap, .string X] 25)) ao x.cs) := Lib.hid (hN.out.below hal)
  obtain ⟨W0, hW0⟩ : ∃ W0, w.alloc (.cells #[.int .i32 x.off, .slice ao x.cs.length cap, .string X] 25) = W0 := ⟨_, rfl⟩
  have hrow : W0.heap[w.heap.size]? = some (.cells #[.int .i32 x.off, .slice ao x.cs.length cap, .string X] 25 (0, 0)) := by rw [← hW0]; exact heap_alloc_new w _
  rw [hW0] at HN2 HBA
  have HP := Lib.hid (mb_any x u ao cap X d W0 hx HN2 hl hu hX)
  have HW0 := Lib.hid hW0
  have hc0 : W0.cell? ⟨w.heap.size, 0, none⟩ = some (.int .i32 x.off) := row_cell hrow (j := 0) rfl
  have hc1 : W0.cell? ⟨w.heap.size, 1, none⟩ = some (.slice ao x.cs.length cap) := row_cell hrow (j := 1) rfl
  have hc2 : W0.cell? ⟨w.heap.size, 2, none⟩ = some (.string X) := row_cell hrow (j := 2) rfl
  clear hW0 hal hrow hN hx
  go_enter Tryz.func14, Tryz.ntmps14
  go_wp2_with fail
  rw [HW0.out]
  go_wp2_with fail
  refine HP.out.mono ?_; rintro e w' ⟨hb, hcase⟩
  have HB := Lib.hid (below_step HBA.out hb)
  clear hb
  rcases hcase with ⟨hm, rfl⟩ | ⟨hm, v, rfl, hec⟩
  · have HM := Lib.hid hm
    clear hm
    go_wp2_with fail
    go_ret
    exact ⟨by rw [HM.out]; rfl, HB.out⟩
  · obtain ⟨T, y, rfl⟩ := hec.iface
    have HM := Lib.hid hm
    clear hm hec
    go_wp2_with fail
    go_ret
    exact ⟨by rw [HM.out]; rfl, HB.out⟩
end Go.Proofs.YtdokbooggbiciaaGreatDoor
namespace Go.Proofs.YtdokbooggbiciaaGreatDoor
open Go.ChangeShapes Go.WideShapes Go.ChangeAt Go.RowKit Go.Deep

/-- the cells of a slice of numbers, read -/
theorem ints_trod {H : Type} {enc : TypeId × Value → H} {P : Program} {W : World} {sp : Nat → Bool} {T E : TypeId} {k : IntKind} {v : Value} {fuel : Nat} {x : DataW H × List MemPlace}
    (hT : P.underlying T = some (.slice E)) (hE : P.underlying E = some (.int k)) (hcE : P.cellsOf E = 1)
    (hf : DataW.trod enc P W 0 sp true fuel T [v] = some x) (hlt : ∀ y ∈ x.2, y.block < W.heap.size) :
    ∃ ao cap l, v = .slice ao (List.length l) cap ∧ Ints k W ao l ∧ (∀ n ∈ l, (Lit.int k n).wf = true) ∧ l.length ≤ maxLen := by
  rcases open_ints hT hE hcE hf with ⟨hcs, hx⟩ | ⟨a, len, cap, zs, hcs, _, hl, hm, hz, hx, hcell, hwz⟩
  · simp only [List.cons.injEq, and_true] at hcs
    subst hcs
    exact ⟨none, 0, [], rfl, fun h => absurd rfl h, by simp, by simp [maxLen]⟩
  · simp only [List.cons.injEq, and_true] at hcs
    subst hcs
    have hle : len ≤ zs.length := by rw [hz]; split <;> omega
    have hll : (zs.take len).length = len := by simp; omega
    refine ⟨some a, cap, zs.take len, by rw [hll], fun hne => ?_, fun n hn => hwz n (List.mem_of_mem_take hn), by rw [hll]; omega⟩
    have h0 : 0 < len := by
      rcases Nat.eq_zero_or_pos len with e | e
      · subst e; exact absurd rfl hne
      · exact e
    obtain ⟨b, off, spot⟩ := a
    have hspot : spot = none := by simpa [Addr.add] using World.cell?_spot (hcell 0 (by omega))
    subst hspot
    subst hx
    refine ⟨b, off, rfl, hlt (.cell b off) (MemPlace.mem_row.2 ⟨0, by omega, by simp⟩), fun j hj => ?_⟩
    have hj' : j < zs.length := by omega
    have := hcell j hj'
    have hadd : (⟨b, off, none⟩ : Addr).add j = ⟨b, off + j, none⟩ := by unfold Addr.add; split <;> simp_all
    rw [hadd] at this
    rw [this]
    simp [List.getElem_take, List.getElem?_eq_getElem hj']
theorem open_Bk {H : Type} {enc : TypeId × Value → H} {P : Program} {W : World} {sp : Nat → Bool} {base : Nat} {T E : TypeId} {f0 f1 f2 : Field} {v : Value} {d : DataW H} {p : List MemPlace}
    (hT : P.underlying T = some (.struct #[f0, f1, f2])) (ce : P.cellsOf T = 3) (o0 : f0.offset = 0) (o1 : f1.offset = 1) (o2 : f2.offset = 2) (c0 : P.cellsOf f0.type = 1) (c1 : P.cellsOf f1.type = 1) (c2 : P.cellsOf f2.type = 1)
    (h0 : P.underlying f0.type = some (.int .i32)) (h1 : P.underlying f1.type = some (.slice E)) (hE : P.underlying E = some (.int .u64)) (hcE : P.cellsOf E = 1) (h2 : P.underlying f2.type = some .string)
    (hv : Value.okWide P W .any base T v) (h : DataW.Trod enc P W 0 sp true T v d p) (hlt : ∀ x ∈ p, x.block < W.heap.size) :
    ∃ (x : Bk) (u : List UInt8) (ao : Option Addr) (cap : Nat), v = .agg #[.int .i32 x.off, .slice ao x.cs.length cap, .string ⟨u.toArray⟩] ∧ Nats .u64 W ao x.cs ∧ BkOk x ∧ x.cs.length ≤ maxLen ∧ u.length ≤ maxLen := by
  obtain ⟨cs, rfl, hsz⟩ := okWide_struct hT hv
  obtain ⟨fuel, hf⟩ := h
  have hcs : cs.size = 3 := by rw [hsz, ce]
  obtain ⟨V0, V1, V2, rfl⟩ : ∃ V0 V1 V2, cs = #[V0, V1, V2] := by
    match cs, hcs with
    | ⟨[a, b, c]⟩, _ => exact ⟨a, b, c, rfl⟩
  obtain ⟨y0, y1, y2, n, hx, _, g0, g1, g2⟩ := trod_struct3 hT hf
  rw [o0, c0] at g0
  rw [o1, c1] at g1
  rw [o2, c2] at g2
  obtain ⟨n0, e0, _, w0⟩ := DataW.trod_int h0 g0
  obtain ⟨s2, e2, _, w2⟩ := DataW.trod_string h2 g2
  simp only [Prod.mk.injEq] at hx
  obtain ⟨_, hp⟩ := hx
  have hV0 : V0 = .int .i32 n0 := by simpa [Value.cells] using e0
  have hV2 : V2 = .string s2 := by simpa [Value.cells] using e2
  obtain ⟨ao, cap, l, hV1, hI, hw, hm⟩ := ints_trod h1 hE hcE (v := V1) (by simpa [Value.cells] using g1) (fun y hy => hlt y (by rw [hp]; simp [hy]))
  subst hV0; subst hV1; subst hV2
  have hw' : ∀ n ∈ l, 0 ≤ n ∧ n < 18446744073709551616 := fun n hn => by
    have := hw n hn
    simp [Lit.wf, IntKind.min, IntKind.max, IntKind.signed, IntKind.bits] at this
    omega
  simp [Lit.wf, IntKind.min, IntKind.max, IntKind.signed, IntKind.bits] at w0
  refine ⟨⟨n0, l.map Int.toNat⟩, s2.data.toList, ao, cap, by simp, hI.nats (fun n hn => (hw' n hn).1), ⟨by show -2147483648 ≤ n0; omega, by show n0 ≤ 2147483647; omega, fun n hn => ?_⟩, by simpa using hm, by simpa using w2⟩
  obtain ⟨z, hz, rfl⟩ := List.mem_map.1 hn
  have := hw' z hz
  omega
set_option maxRecDepth 1000000 in
set_option maxHeartbeats 4000000 in
theorem take_any (a b : Int) (w : World) (ha : -10 ≤ a ∧ a ≤ 1000000) (hb : 0 ≤ b ∧ b ≤ 9223372036854775807) :
    Calls Tryz.prog 33 #[.int .i64 a, .int .i64 b] w fun e w' => w = w' ∧ ((a < 0 ∨ a - 20 < b) ∧ e = .returned (.int .i64 (-1)) ∨ 0 ≤ a ∧ b ≤ a - 20 ∧ e = .returned (.int .i64 (a - b - 20))) := by
  have q1 : IntKind.i64.wrap (a - 20) = a - 20 := IntWalk.i64_in _ (by omega)
  by_cases h1 : a < 0
  · have d1 : decide (a < 0) = true := decide_eq_true h1
    go_enter Tryz.func33, Tryz.ntmps33
    go_wp2_with fail
    go_ret
    exact ⟨rfl, .inl ⟨.inl h1, rfl⟩⟩
  · have d1 : decide (a < 0) = false := decide_eq_false h1
    by_cases h2 : b > a - 20
    · have d2 : decide (b > a - 20) = true := decide_eq_true h2
      have H2 := Lib.hid h2
      clear h1 h2
      go_enter Tryz.func33, Tryz.ntmps33
      go_wp2_with fail
      go_ret
      exact ⟨rfl, .inl ⟨.inr H2.out, rfl⟩⟩
    · have d2 : decide (b > a - 20) = false := decide_eq_false h2
      have q2 : IntKind.i64.wrap (a - b) = a - b := IntWalk.i64_in _ (by omega)
      have q3 : IntKind.i64.wrap (a - b - 20) = a - b - 20 := IntWalk.i64_in _ (by omega)
      have H1 := Lib.hid h1
      have H2 := Lib.hid h2
      clear h1 h2
      go_enter Tryz.func33, Tryz.ntmps33
      go_wp2_with fail
      go_ret
      exact ⟨rfl, .inr ⟨by have := H1.out; omega, by have := H2.out; omega, rfl⟩⟩
set_option maxRecDepth 1000000 in
set_option maxHeartbeats 4000000 in
theorem roomB_any (x : Bk) (u : List UInt8) (ao : Option Addr) (cap : Nat) (w : World) (hl : x.cs.length ≤ 9223372036854775807) (hu : u.length ≤ 9223372036854775807) :
    Calls Tryz.prog 11 #[.agg #[.int .i32 x.off, .slice ao x.cs.length cap, .string ⟨u.toArray⟩], .int .i64 12000] w fun e w' => Below w.heap.size w w' ∧ ∃ r : Int, e = .returned (.int .i64 r) ∧ (r < 0 ∨ x.cs.length ≤ 2000 ∧ u.length ≤ 12000) := by
  obtain ⟨X, hX⟩ : ∃ X : ByteArray, (⟨u.toArray⟩ : ByteArray) = X := ⟨_, rfl⟩
  have hXs : X.size = u.length := by rw [← hX]; simp [ByteArray.size]
  rw [hX]
  rw [← hXs] at hu ⊢
  clear hX hXs
  obtain ⟨n, hn⟩ : ∃ n, x.cs.length = n := ⟨_, rfl⟩
  rw [hn] at hl ⊢
  clear hn
  obtain ⟨m, hm⟩ : ∃ m : Int, min (n : Int) 100000 = m := ⟨_, rfl⟩
  have hmb : 0 ≤ m ∧ m ≤ 100000 ∧ (m = n ∨ m = 100000) := by rw [← hm]; omega
  have HM := Lib.hid hm
  have q1 : IntKind.i64.wrap (8 * m) = 8 * m := IntWalk.i64_in _ (by omega)
  have HMB := Lib.hid hmb
  clear hm hmb
  obtain ⟨W0, hW0⟩ : ∃ W0, w.alloc (.cells #[.int .i32 x.off, .slice ao n cap, .string X] 25) = W0 := ⟨_, rfl⟩
  have HBW0 : Hid (Below w.heap.size w W0) := Lib.hid (by rw [← hW0]; exact below_new _ _)
  have HR0 : Hid (W0.heap[w.heap.size]? = some (.cells #[.int .i32 x.off, .slice ao n cap, .string X] 25 (0, 0))) := Lib.hid (by rw [← hW0]; exact heap_alloc_new w _)
  have HW0 := Lib.hid hW0
  clear hW0
  obtain ⟨b, hb⟩ : ∃ b, w.heap.size = b := ⟨_, rfl⟩
  have HBB := Lib.hid hb
  go_enter Tryz.func11, Tryz.ntmps11
  go_wp2_with fail
  rw [HW0.out]
  obtain ⟨D, hD⟩ : ∃ D, W0.drew = D := ⟨_, rfl⟩
  have HBD : Hid (Below w.heap.size w D) := Lib.hid (by rw [← hD]; exact HBW0.out.drew)
  have HRD : Hid (D.heap[w.heap.size]? = some (.cells #[.int .i32 x.off, .slice ao n cap, .string X] 25 (0, 0))) := Lib.hid (by rw [← hD]; exact HR0.out)
  have hs0 : D.cell? ⟨w.heap.size, 2, none⟩ = some (.string X) ∧ D.cell? ⟨w.heap.size, 1, none⟩ = some (.slice ao n cap) := ⟨row_cell HRD.out (j := 2) rfl, row_cell HRD.out (j := 1) rfl⟩
  refine wp_region_seq (S := fun w' => w'.cell? ⟨w.heap.size, 2, none⟩ = some (.string X) ∧ w'.cell? ⟨w.heap.size, 1, none⟩ = some (.slice ao n cap)) [(0, true), (1, true), (2, true), (3, true), (5, true), (6, true), (7, true), (8, true), (9, true), (4, false), (10, false), (11, true)] (by kernel_rfl) (by kernel_rfl) (by kernel_rfl) (by kernel_rfl) (by rw [hD]; exact hs0) ?_
  rw [hD]
  iterate 7 (refine seq_take _ rfl (fun K hK => ?_); go_simp; (first | refine hK _ ?_ | refine ⟨_, fun _ _ _ => rfl, hK _ ?_⟩ | refine ⟨.string X, fun a ha _ => by rw [ha]; rfl, hK _ ?_⟩ | refine ⟨.slice ao n cap, fun a _ ha => by rw [ha]; rfl, hK _ ?_⟩); clear hK K)
  refine seq_take _ rfl (fun K hK => ?_); go_simp; refine ⟨.int .i64 m, fun a _ _ => by rw [HM.out], hK _ ?_⟩; clear hK K
  refine seq_take _ rfl (fun K hK => ?_); go_simp; (first | refine hK _ ?_ | refine ⟨_, fun _ _ _ => rfl, hK _ ?_⟩); clear hK K
  refine seq_come _ rfl (fun K hK => ?_); go_simp
  refine (take_any 12000 X.size D (by omega) (by omega)).mono ?_; rintro e w1 ⟨rfl, hc1⟩
  obtain ⟨r1, rfl, hr1⟩ : ∃ r1 : Int, e = .returned (.int .i64 r1) ∧ (r1 = -1 ∨ (0 ≤ r1 ∧ r1 ≤ 11980 ∧ X.size ≤ 12000)) := by
    rcases hc1 with ⟨_, rfl⟩ | ⟨_, h, rfl⟩
    · exact ⟨_, rfl, .inl rfl⟩
    · exact ⟨_, rfl, .inr ⟨by omega, by omega, by omega⟩⟩
  have HR1 := Lib.hid hr1
  have HC2 := Lib.hid (take_any r1 (8 * m) D (by omega) (by have := HMB.out; omega))
  clear hr1 hc1
  go_simp; refine hK.out _ _ hs0 ?_; clear hK K
  refine seq_come _ rfl (fun K hK => ?_); go_simp
  refine HC2.out.mono ?_; rintro e w1 ⟨rfl, hc2⟩
  obtain ⟨r2, rfl, hr2⟩ : ∃ r2 : Int, e = .returned (.int .i64 r2) ∧ (r2 < 0 ∨ n ≤ 2000 ∧ X.size ≤ 12000) := by
    have h1 := HR1.out
    have h2 := HMB.out
    rcases hc2 with ⟨_, rfl⟩ | ⟨_, h, rfl⟩
    · exact ⟨_, rfl, .inl (by omega)⟩
    · exact ⟨_, rfl, .inr ⟨by omega, by omega⟩⟩
  have HR2 := Lib.hid hr2
  clear hr2 hc2
  go_simp; refine hK.out _ _ hs0 ?_; clear hK K
  refine seq_take _ rfl (fun K hK => ?_); go_simp; (first | refine hK _ ?_ | refine ⟨_, fun _ _ _ => rfl, hK _ ?_⟩); clear hK K
  refine seq_done ?_
  go_wp2_with fail
  go_ret
  exact ⟨HBD.out, _, rfl, HR2.out⟩
end Go.Proofs.YtdokbooggbiciaaGreatDoor
namespace Go.Proofs.YtdokbooggbiciaaGreatDoor
open Go.RowKit

theorem bread_put_less {x : Bk} {u : List UInt8} {d d' : Int} (hx : BkOk x) (hl : (vputs x.cs).length < 2 ^ 64) (hm : bmay u d = true) (hle : d' ≤ d) (hn : bmay u d' = false) : ∃ c, bread (bput x u) d' = .error c := by
  unfold bmay at hm hn
  rw [Bool.and_eq_true, decide_eq_true_iff] at hm
  have hn2 : d' < 0 ∨ munkOk btk u d' = false := by
    by_cases h : 0 ≤ d'
    · rw [decide_eq_true h, Bool.true_and] at hn
      exact .inr hn
    · exact .inl (by omega)
  have := mread_put_no (bkRecs_rec hx hl) (bkRecs_fold hx) (bkRecs_tk x) hm.2 hle hn2
  rw [bkRecs_raw] at this
  unfold bread bput
  rw [List.flatten_append]
  simpa using this
/-- three sides in memory -/
def B3 (a b c : Nat) (A B C : Array Value) (w : World) : Prop := w.heap[a]? = some (.cells A 25 (0, 0)) ∧ w.heap[b]? = some (.cells B 25 (0, 0)) ∧ w.heap[c]? = some (.cells C 25 (0, 0))
theorem B3.below {a b c : Nat} {A B C : Array Value} {w w' : World} (h : B3 a b c A B C w) (hb : Below w.heap.size w w') : B3 a b c A B C w' :=
  ⟨(hb.block _ (row_lt h.1)).trans h.1, (hb.block _ (row_lt h.2.1)).trans h.2.1, (hb.block _ (row_lt h.2.2)).trans h.2.2⟩
end Go.Proofs.YtdokbooggbiciaaGreatDoor
namespace Go.Proofs.YtdokbooggbiciaaGreatDoor
open Go.RowKit

set_option maxRecDepth 1000000 in
set_option maxHeartbeats 4000000 in
theorem nums_any (ao bo : Option Addr) (cap bcap : Nat) (a b : List Nat) (w : World) (ha : Hid (Nats .u64 w ao a)) (hb : Hid (Nats .u64 w bo b)) (hla : a.length ≤ 1000000000) {r : Bool} (hr : Hid (decide (a = b) = r)) :
    Calls Tryz.prog 32 #[.slice ao a.length cap, .slice bo b.length bcap] w fun e w' => e = .returned (.bool r) ∧ Below w.heap.size w w' := by
  by_cases hne : a.length = b.length
  case neg =>
    have hr2 : r = false := by rw [← hr.out]; exact decide_eq_false (fun h => hne (by rw [h]))
    subst hr2
    have d1 : ((a.length : Int) == (b.length : Int)) = false := by rw [beq_eq_false_iff_ne]; omega
    have d2 : ((a.length : Int) != (b.length : Int)) = true := by rw [bne_iff_ne]; omega
    clear hr
    go_enter Tryz.func32, Tryz.ntmps32
    go_wp2_with fail
    go_ret
    exact ⟨rfl, Below.refl _ _⟩
  case pos =>
  obtain ⟨n, hn⟩ : ∃ n, a.length = n := ⟨_, rfl⟩
  have hnb : b.length = n := by omega
  have HA0 := Lib.hid hn
  have HB0 := Lib.hid hnb
  rw [hn, hnb]
  have hn9 : n ≤ 1000000000 := by omega
  clear hne hn hnb hla
  go_enter Tryz.func32, Tryz.ntmps32
  go_wp2_with fail
  go_loopg [5] n (fun k i wr => ∃ j : Nat, j + k = n ∧ i = .int .i64 j ∧ Hid (∀ m (h1 : m < a.length) (h2 : m < b.length), m < j → a[m] = b[m]) ∧ Below w.heap.size w wr)
  case atStart => exact ⟨0, by omega, rfl, Lib.hid (fun m _ _ h => by omega), Below.refl _ _⟩
  case round =>
    obtain ⟨j, hj, rfl, HM, hbr⟩ := hrel
    have HB := Lib.hid hbr
    have HJ := Lib.hid hj
    have HA := Lib.hid (ha.out.below hbr)
    have HBB := Lib.hid (hb.out.below hbr)
    have hjl : j ≤ n := by omega
    clear hj hbr
    by_cases hlt : j < n
    · obtain ⟨g, off, x, HX, rfl, hbl, hc⟩ := HA.out.at (i := j) (by rw [HA0.out]; exact hlt)
      obtain ⟨g2, off2, y, HY, rfl, hbl2, hc2⟩ := HBB.out.at (i := j) (by rw [HB0.out]; exact hlt)
      have hI : Below wr.heap.size wr wr.drew := (Below.refl _ _).drew
      have hne : Nonempty { w' : World // Below wr.heap.size wr w' } := ⟨⟨_, hI⟩⟩
      have hc3 : ∀ t : { w' : World // Below wr.heap.size wr w' }, t.1.cell? ⟨g, off + j, none⟩ = some (.int .u64 (x : Int)) := fun t => (t.2.cell (p := ⟨g, off + j, none⟩) hbl).trans hc
      have hc4 : ∀ t : { w' : World // Below wr.heap.size wr w' }, t.1.cell? ⟨g2, off2 + j, none⟩ = some (.int .u64 (y : Int)) := fun t => (t.2.cell (p := ⟨g2, off2 + j, none⟩) hbl2).trans hc2
      by_cases hxy : x = y
      · have d1 : ((x : Int) == (y : Int)) = true := by rw [beq_iff_eq]; omega
        have HM2 : Hid (∀ m (h1 : m < a.length) (h2 : m < b.length), m < j + 1 → a[m] = b[m]) := Lib.hid (fun m h1 h2 hm => by
          by_cases hmj : m = j
          · subst hmj; rw [← HX.out, ← HY.out, hxy]
          · exact HM.out m h1 h2 (by omega))
        subst hxy
        go_wp2_with fail
        refine wp_region_seq (S := fun w' => Below wr.heap.size wr w') [(0, true), (1, true), (2, true), (3, true), (4, true), (5, true), (6, true), (7, true), (8, true)] (by kernel_rfl) (by kernel_rfl) (by kernel_rfl) (by kernel_rfl) hI ?_
        iterate 9 (refine seq_take _ rfl (fun K hK => ?_); go_simp; refine hK _ ?_; clear hK K)
        refine seq_done ?_
        clear hc3 hc4
        go_wp2_with fail
        have hj := HJ.out
        go_roundg (gk - 1)
        case measure => omega
        case rel => exact ⟨j + 1, by omega, by simp, HM2, HB.out.trans (hI.mono HB.out.size)⟩
      · have hr2 : r = false := by
          rw [← hr.out]
          refine decide_eq_false (fun h => ?_)
          subst h
          exact hxy (by rw [HX.out, HY.out])
        subst hr2
        have d1 : ((x : Int) == (y : Int)) = false := by rw [beq_eq_false_iff_ne]; omega
        have d2 : ((x : Int) != (y : Int)) = true := by rw [bne, d1]; rfl
        clear hxy
        go_wp2_with fail
        refine wp_region_seq (S := fun w' => Below wr.heap.size wr w') [(0, true), (1, true), (2, true), (3, true), (4, true), (5, true), (6, true), (7, true), (8, true)] (by kernel_rfl) (by kernel_rfl) (by kernel_rfl) (by kernel_rfl) hI ?_
        iterate 9 (refine seq_take _ rfl (fun K hK => ?_); go_simp; refine hK _ ?_; clear hK K)
        refine seq_done ?_
        clear hc3 hc4
        go_wp2_with fail
        go_ret
        exact ⟨rfl, HB.out.trans (hI.mono HB.out.size)⟩
    · have hjn : j = n := by have := HJ.out; omega
      have hr2 : r = true := by
        rw [← hr.out]
        exact decide_eq_true (List.ext_getElem (by rw [HA0.out, HB0.out]) (fun m h1 h2 => HM.out m h1 h2 (by rw [HA0.out] at h1; omega)))
      subst hr2
      go_wp2_with fail
      go_ret
      exact ⟨rfl, HB.out⟩
set_option maxRecDepth 1000000 in
set_option maxHeartbeats 4000000 in
theorem refB_any (x y : Bk) (u v : List UInt8) (ao bo : Option Addr) (cap bcap : Nat) (w : World) (ha : Hid (Nats .u64 w ao x.cs)) (hb : Hid (Nats .u64 w bo y.cs)) (hla : x.cs.length ≤ 1000000000) {r : Bool} (hr : Hid (decide (x.off = y.off ∧ u = v ∧ x.cs = y.cs) = r)) :
    Calls Tryz.prog 10 #[.agg #[.int .i32 x.off, .slice ao x.cs.length cap, .string ⟨u.toArray⟩], .agg #[.int .i32 y.off, .slice bo y.cs.length bcap, .string ⟨v.toArray⟩]] w fun e w' => e = .returned (.bool r) ∧ Below w.heap.size w w' := by
  obtain ⟨X, hX⟩ : ∃ X : ByteArray, (⟨u.toArray⟩ : ByteArray) = X := ⟨_, rfl⟩
  obtain ⟨Y, hY⟩ : ∃ X : ByteArray, (⟨v.toArray⟩ : ByteArray) = X := ⟨_, rfl⟩
  have hXY : X = Y ↔ u = v := by rw [← hX, ← hY]; simp
  rw [hX, hY]
  obtain ⟨W0, hW0⟩ : ∃ W, (w.alloc (.cells #[.int .i32 x.off, .slice ao x.cs.length cap, .string X] 25)).alloc (.cells #[.int .i32 y.off, .slice bo y.cs.length bcap, .string Y] 25) = W := ⟨_, rfl⟩
  have HB0 : Hid (Below w.heap.size w W0) := Lib.hid (by rw [← hW0]; exact below_step (below_new _ _) (below_new _ _))
  have HR0 : Hid (W0.heap[w.heap.size]? = some (.cells #[.int .i32 x.off, .slice ao x.cs.length cap, .string X] 25 (0, 0))) := Lib.hid (by rw [← hW0]; exact (Below.heap_alloc _ _ _ (row_lt (heap_alloc_new w _))).trans (heap_alloc_new w _))
  have HS0 : Hid (W0.heap[(w.alloc (.cells #[.int .i32 x.off, .slice ao x.cs.length cap, .string X] 25)).heap.size]? = some (.cells #[.int .i32 y.off, .slice bo y.cs.length bcap, .string Y] 25 (0, 0))) := Lib.hid (by rw [← hW0]; exact heap_alloc_new _ _)
  have HW0 := Lib.hid hW0
  have HNA := Lib.hid (ha.out.below HB0.out)
  have HNB := Lib.hid (hb.out.below HB0.out)
  obtain ⟨r1, hr1⟩ : ∃ r1, decide (x.cs = y.cs) = r1 := ⟨_, rfl⟩
  have HP := Lib.hid (nums_any ao bo cap bcap x.cs y.cs W0 HNA HNB hla (Lib.hid hr1))
  clear hX hY hW0 ha hb
  by_cases ho : x.off = y.off
  case neg =>
    have hr2 : r = false := by rw [← hr.out]; exact decide_eq_false (fun h => ho h.1)
    subst hr2
    have d1 : (x.off == y.off) = false := by rw [beq_eq_false_iff_ne]; exact ho
    clear hr ho hXY hr1
    go_enter Tryz.func10, Tryz.ntmps10
    go_wp2_with fail
    go_ret
    rw [HW0.out]
    exact ⟨rfl, HB0.out⟩
  case pos =>
    have d1 : (x.off == y.off) = true := by rw [beq_iff_eq]; exact ho
    have HRR : Hid ((r1 && decide (u = v)) = r) := Lib.hid (by
      rw [← hr.out, ← hr1, ← Bool.decide_and]
      exact decide_eq_decide.2 ⟨fun h => ⟨ho, h.2, h.1⟩, fun h => ⟨h.2.2, h.2.1⟩⟩)
    have HXY := Lib.hid hXY
    clear hr ho hr1 hXY
    go_enter Tryz.func10, Tryz.ntmps10
    go_wp2_with fail
    rw [HW0.out]
    refine HP.out.mono ?_; rintro e w1 ⟨rfl, hb1⟩
    have HB1 := Lib.hid (below_step HB0.out hb1)
    have hc0 := row_cell ((hb1.block _ (row_lt HR0.out)).trans HR0.out) (j := 2) rfl
    have hc1 := row_cell ((hb1.block _ (row_lt HS0.out)).trans HS0.out) (j := 2) rfl
    rw [show (w.alloc (.cells #[.int .i32 x.off, .slice ao x.cs.length cap, .string X] 25)).heap.size = w.heap.size + 1 from Array.size_push ..] at hc1
    clear hb1
    cases r1 with
    | false =>
      have hr2 : r = false := by rw [← HRR.out]; rfl
      subst hr2
      clear hc0 hc1
      go_wp2_with fail
      go_ret
      exact ⟨rfl, HB1.out⟩
    | true =>
      by_cases hu : u = v
      · have hr2 : r = true := by rw [← HRR.out]; simp [hu]
        subst hr2
        have d2 : (X.toList == Y.toList) = true := by rw [HXY.out.2 hu]; simp
        clear hu
        go_wp2_with fail
        go_ret
        exact ⟨rfl, HB1.out⟩
      · have hr2 : r = false := by rw [← HRR.out]; simp [hu]
        subst hr2
        have d2 : (X.toList == Y.toList) = false := by
          rw [beq_eq_false_iff_ne, ByteArray.toList_eq, ByteArray.toList_eq]
          intro h
          exact hu (HXY.out.1 (ByteArray.ext (Array.ext' h)))
        clear hu
        go_wp2_with fail
        go_ret
        exact ⟨rfl, HB1.out⟩
/-- two sides in memory -/
def B2 (a b : Nat) (A B : Array Value) (w : World) : Prop := w.heap[a]? = some (.cells A 25 (0, 0)) ∧ w.heap[b]? = some (.cells B 25 (0, 0))
theorem B2.below {a b : Nat} {A B : Array Value} {w w' : World} (h : B2 a b A B w) (hb : Below w.heap.size w w') : B2 a b A B w' :=
  ⟨(hb.block _ (row_lt h.1)).trans h.1, (hb.block _ (row_lt h.2)).trans h.2⟩
end Go.Proofs.YtdokbooggbiciaaGreatDoor
