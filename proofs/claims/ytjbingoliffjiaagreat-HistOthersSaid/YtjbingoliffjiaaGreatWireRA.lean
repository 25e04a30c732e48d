/-
  hygref2.GetVarint, with every answer that it can give.
-/
import Derived.Test.YtjbingoliffjiaaGreatKit
import Derived.Test.YtjbingoliffjiaaGreatMsgMath
import Derived.Test.YtjbingoliffjiaaGreatWireMath
import Derived.Test.YtjbingoliffjiaaGreatWireR5
import Derived.Test.YtjbingoliffjiaaGreatErrNew
namespace Go.Proofs.YtjbingoliffjiaaGreat
open Go.RowKit
def RefPost (r : Except Nat (Nat × Nat)) (w : World) (e : Ending) (w' : World) : Prop :=
 w = w' ∧ e = .returned (match r with
 | .ok (n, q) => .tuple #[.int .u64 n, .int .i64 q, .int .i64 0]
 | .error c => .tuple #[.int .u64 0, .int .i64 0, .int .i64 c])
theorem refPost_err {r : Except Nat (Nat × Nat)} {c : Nat} (h : r = .error c) {w : World} {c' : Int} (hc : c' = c) :
  RefPost r w (.returned (.tuple #[.int .u64 0, .int .i64 0, .int .i64 c'])) w := by
 subst h; subst hc; exact ⟨rfl, rfl⟩
theorem refPost_ok {r : Except Nat (Nat × Nat)} {n q : Nat} (h : r = .ok (n, q)) {w : World} {n' q' : Int} (hn : n' = n) (hq : q' = q) :
  RefPost r w (.returned (.tuple #[.int .u64 n', .int .i64 q', .int .i64 0])) w := by
 subst h; subst hn; subst hq; exact ⟨rfl, rfl⟩
open Go.RowKit
theorem wlit_drop (s : ByteArray) (i : Nat) (h : i < s.size) : wlit (s.data.toList.drop i) = (s[i]'h).toNat + 256 * wlit (s.data.toList.drop (i + 1)) := by
 have hl : i < s.data.toList.length := by simpa using h
 rw [List.drop_eq_getElem_cons hl]; rfl
theorem wlit_dlt (s : ByteArray) (i : Nat) (hs : s.size ≤ 8) (hi : 1 ≤ i) : wlit (s.data.toList.drop i) < 256 ^ 7 := by
 refine Nat.lt_of_lt_of_le (wlit_lt _) (Nat.pow_le_pow_right (by omega) ?_)
 simp; omega
theorem rfix_or (m : Nat) (c : UInt8) (hm : m < 256 ^ 7) : bits .or .u64 ((m : Int) * 256) (c.toNat : Int) = ((c.toNat + 256 * m : Nat) : Int) := by
 have hc := c.toNat_lt
 have e : (m : Int) * 256 = ((m * 256 : Nat) : Int) := by simp
 rw [e, u64_or_nat _ _ (by omega) (by omega), nat_join 8 (m * 256) c.toNat (by omega) (by omega)]
 congr 1
 omega
open Go.RowKit
def RFixedsPost (s : ByteArray) (w : World) (e : Ending) (w' : World) : Prop :=
 if s.size % 8 = 0 then ∃ u, e = .returned (.tuple #[u, .bool true]) ∧ w'.ownsRow w.heap.size 23 1 u (s.size / 8) (nats64 (fixs s.data.toList (s.size / 8))) ∧ Below w.heap.size w w'
 else e = .returned (.tuple #[.slice none 0 0, .bool false]) ∧ Below w.heap.size w w'
theorem rfixeds_ok {s : ByteArray} {w w' : World} {u : Value} {K : Nat} (h : s.size = 8 * K) (ho : w'.ownsRow w.heap.size 23 1 u K (nats64 (fixs s.data.toList K))) (hB : Below w.heap.size w w') : RFixedsPost s w (.returned (.tuple #[u, .bool true])) w' := by
 have e : s.size / 8 = K := by omega
 unfold RFixedsPost; rw [if_pos (by omega), e]; exact ⟨u, rfl, ho, hB⟩
def RVarsPost (s : ByteArray) (w : World) (e : Ending) (w' : World) : Prop := match wvars s.data.toList with
 | .error c => e = .returned (.tuple #[.slice none 0 0, .int .i64 (c : Int)]) ∧ Below w.heap.size w w'
 | .ok ns => ∃ u, e = .returned (.tuple #[u, .int .i64 0]) ∧ w'.ownsRow w.heap.size 23 1 u ns.length (nats64 ns) ∧ ns.length ≤ s.size ∧ Below w.heap.size w w'
theorem rvars_no {s : ByteArray} {c : Nat} {w w' : World} (h : wvars s.data.toList = .error c) (hB : Below w.heap.size w w') : RVarsPost s w (.returned (.tuple #[.slice none 0 0, .int .i64 (c : Int)])) w' := by
 unfold RVarsPost; rw [h]; exact ⟨rfl, hB⟩
theorem rvars_ok {s : ByteArray} {ns : List Nat} {w w' : World} {u : Value} (h : wvars s.data.toList = .ok ns) (ho : w'.ownsRow w.heap.size 23 1 u ns.length (nats64 ns)) (hl : ns.length ≤ s.size) (hB : Below w.heap.size w w') : RVarsPost s w (.returned (.tuple #[u, .int .i64 0])) w' := by
 unfold RVarsPost; rw [h]; exact ⟨u, rfl, ho, hl, hB⟩
open Go.RowKit
def RNextPost (s : ByteArray) (p : Nat) (d : Int) (w : World) (e : Ending) (w' : World) : Prop := match wnx (s.data.toList.drop p) d with
 | .error _ => e = .returned (.tuple #[rec0, .int .i64 0, .bool false]) ∧ Below w.heap.size w w'
 | .ok (r, j) => e = .returned (.tuple #[recV r, .int .i64 ((p + j : Nat) : Int), .bool true]) ∧ Below w.heap.size w w'
theorem rnext_no {s : ByteArray} {p c : Nat} {d : Int} {w w' : World} {V : Value} (h : wnx (s.data.toList.drop p) d = .error c) (hV : V = rec0) (hB : Below w.heap.size w w') : RNextPost s p d w (.returned (.tuple #[V, .int .i64 0, .bool false])) w' := by
 subst hV; unfold RNextPost; rw [h]; exact ⟨rfl, hB⟩
theorem rnext_ok {s : ByteArray} {p j : Nat} {d : Int} {r : Rec} {w w' : World} (h : wnx (s.data.toList.drop p) d = .ok (r, j)) {V : Value} {Q : Int} (hV : V = recV r) (hQ : Q = ((p + j : Nat) : Int)) (hB : Below w.heap.size w w') :
  RNextPost s p d w (.returned (.tuple #[V, .int .i64 Q, .bool true])) w' := by
 subst hV; subst hQ; unfold RNextPost; rw [h]; exact ⟨rfl, hB⟩
def RGroupPost (s : ByteArray) (p num : Nat) (d : Int) (w : World) (e : Ending) (w' : World) : Prop := match wgroup (s.data.toList.drop p) [num] d with
 | .error _ => (∃ x : Int, e = .returned (.tuple #[.int .i64 x, .bool false])) ∧ Below w.heap.size w w'
 | .ok k => e = .returned (.tuple #[.int .i64 ((p + k : Nat) : Int), .bool true]) ∧ Below w.heap.size w w'
theorem wnx_form {l : List UInt8} {d : Int} {t j : Nat} (h : wv l = .ok (t, j)) (hb : t / 8 < 1 ∨ 536870911 < t / 8 ∨ 5 < t % 8) : wnx l d = .error 3 := wnx_no (whd_form h hb)
def TagIs (s : ByteArray) (p t j num ty q : Nat) : Prop := wv (s.data.toList.drop p) = .ok (t, j) ∧ num = t / 8 ∧ ty = t % 8 ∧ q = p + j ∧ q ≤ s.size ∧ t < 2 ^ 64
theorem TagIs.whd {s : ByteArray} {p t j num ty q : Nat} (h : TagIs s p t j num ty q) (h1 : 1 ≤ num) (h2 : num ≤ 536870911) (h3 : ty ≤ 5) : whd (s.data.toList.drop p) = .ok (num, ty, j) := by
 obtain ⟨hv, rfl, rfl, _⟩ := h
 exact whd_ok hv h1 h2 h3
theorem TagIs.get {s : ByteArray} {p t j num ty q : Nat} (h : TagIs s p t j num ty q) (hp : p ≤ s.size) : vget s.data.toList p = .ok (t, q) := by
 obtain ⟨hv, _, _, rfl, _⟩ := h
 exact vget_ok (by simpa using hp) hv
open Go.RowKit
open Go.RowKit
theorem og_step {l : List UInt8} {num : Nat} {d : Int} (h1 : 1 ≤ num) (h2 : num ≤ 536870911) : opt (wgroup l [num] d) = if d < 1 then none else match wv l with
  | .error _ => none
  | .ok (t, j) => if t % 8 = 4 then (if t / 8 = num then some j else none) else match opt (wnx l (d - 1)) with
   | none => none
   | some (_, k) => (opt (wgroup (l.drop k) [num] d)).map (k + ·) := by
 rw [← rgr_eq (f := l.length + 2) (by omega) h1 h2, rgr]
 split
 ·rfl
 ·cases hv : wv l with
  | error c => rfl
  | ok x =>
   obtain ⟨t, j⟩ := x
   dsimp only
   split
   ·rfl
   ·rw [rnx_eq (by omega)]
    cases hn : wnx l (d - 1) with
    | error c => rfl
    | ok y =>
     obtain ⟨r, k⟩ := y
     show (rgr (l.length + 1) (l.drop k) num d).map (k + ·) = _
     rw [rgr_eq (by simp; omega) h1 h2]
     rfl
theorem rg_no {s : ByteArray} {p num : Nat} {d : Int} {w w' : World} {x : Int} (h : opt (wgroup (s.data.toList.drop p) [num] d) = none) (hB : Below w.heap.size w w') : RGroupPost s p num d w (.returned (.tuple #[.int .i64 x, .bool false])) w' := by
 unfold RGroupPost
 cases hw : wgroup (s.data.toList.drop p) [num] d with
 | error c => exact ⟨⟨x, rfl⟩, hB⟩
 | ok k => rw [hw] at h; cases h
theorem rg_ok {s : ByteArray} {p num k : Nat} {d : Int} {w w' : World} {x : Int} (h : opt (wgroup (s.data.toList.drop p) [num] d) = some k) (hx : x = ((p + k : Nat) : Int)) (hB : Below w.heap.size w w') : RGroupPost s p num d w (.returned (.tuple #[.int .i64 x, .bool true])) w' := by
 subst hx
 unfold RGroupPost
 cases hw : wgroup (s.data.toList.drop p) [num] d with
 | error c => rw [hw] at h; cases h
 | ok k' =>
  rw [hw] at h
  simp only [opt, Option.some.injEq] at h
  subst h
  exact ⟨rfl, hB⟩
def OgRel (s : ByteArray) (p num : Nat) (d : Int) (q : Nat) : Prop := p ≤ q ∧ q ≤ s.size ∧ opt (wgroup (s.data.toList.drop p) [num] d) = (opt (wgroup (s.data.toList.drop q) [num] d)).map (q - p + ·)
theorem og_start {s : ByteArray} {p num : Nat} {d : Int} (hp : p ≤ s.size) : OgRel s p num d p := by
 refine ⟨Nat.le_refl _, hp, ?_⟩
 rw [Nat.sub_self]
 cases opt (wgroup (s.data.toList.drop p) [num] d) <;> simp
theorem og_none {s : ByteArray} {p num q : Nat} {d : Int} (h : OgRel s p num d q) (hn : opt (wgroup (s.data.toList.drop q) [num] d) = none) : opt (wgroup (s.data.toList.drop p) [num] d) = none := by
 rw [h.2.2, hn]; rfl
theorem og_next {s : ByteArray} {p num q k : Nat} {d : Int} (h : OgRel s p num d q) (hk : q + k ≤ s.size) (hn : opt (wgroup (s.data.toList.drop q) [num] d) = (opt (wgroup ((s.data.toList.drop q).drop k) [num] d)).map (k + ·)) : OgRel s p num d (q + k) := by
 obtain ⟨a, b, c⟩ := h
 refine ⟨by omega, hk, ?_⟩
 rw [c, hn, List.drop_drop]
 cases opt (wgroup (s.data.toList.drop (q + k)) [num] d) with
 | none => rfl
 | some z => simp; omega
open Go.RowKit
open Go.RowKit
def CodeOk (c : Nat) : Prop := c = 1 ∨ c = 3 ∨ c = 4 ∨ c = 6
theorem whd_code {l : List UInt8} {c : Nat} (h : whd l = .error c) : CodeOk c := by
 unfold whd at h
 cases hv : wv l with
 | error c' =>
  rw [hv] at h
  simp only [Except.error.injEq] at h
  subst h
  rcases wv_err hv with h | h
  ·exact .inl h
  ·exact .inr (.inr (.inl h))
 | ok x =>
  obtain ⟨t, j⟩ := x
  rw [hv] at h
  dsimp only at h
  split at h
  ·simp only [Except.error.injEq] at h
   exact .inr (.inl h.symm)
  ·cases h
theorem wbd_code {l : List UInt8} {ty c : Nat} (h : wbd l ty = .error c) : CodeOk c := by
 unfold wbd at h
 split at h
 ·split at h
  ·simp only [Except.error.injEq] at h
   exact .inl h.symm
  ·cases h
 ·split at h
  ·split at h
   ·simp only [Except.error.injEq] at h
    exact .inl h.symm
   ·cases h
  ·cases hv : wv l with
   | error c' =>
    rw [hv] at h
    simp only [Except.error.injEq] at h
    subst h
    rcases wv_err hv with h | h
    ·exact .inl h
    ·exact .inr (.inr (.inl h))
   | ok x =>
    obtain ⟨t, j⟩ := x
    rw [hv] at h
    dsimp only at h
    split at h
    ·cases h
    ·split at h
     ·simp only [Except.error.injEq] at h
      exact .inl h.symm
     ·cases h
theorem wgr_code : ∀ (f : Nat) {l : List UInt8} {st : List Nat} {d : Int} {c : Nat}, wgr f l st d = .error c → CodeOk c
 | 0, _, _, _, c, h => by
  simp only [wgr, Except.error.injEq] at h
  exact .inl h.symm
 | f + 1, l, st, d, c, h => by
  rw [wgr] at h
  split at h
  ·cases h
  ·split at h
   ·simp only [Except.error.injEq] at h
    exact .inr (.inr (.inr h.symm))
   ·cases hh : whd l with
    | error c' =>
     rw [hh] at h
     simp only [Except.error.injEq] at h
     subst h
     exact whd_code hh
    | ok x =>
     obtain ⟨num, ty, j⟩ := x
     rw [hh] at h
     dsimp only at h
     split at h
     ·exact wgr_code f (wadd_err h)
     ·split at h
      ·split at h
       ·exact wgr_code f (wadd_err h)
       ·simp only [Except.error.injEq] at h
        exact .inr (.inl h.symm)
      ·cases hb : wbd (l.drop j) ty with
       | error c' =>
        rw [hb] at h
        simp only [Except.error.injEq] at h
        subst h
        exact wbd_code hb
       | ok y =>
        obtain ⟨n, t, k⟩ := y
        rw [hb] at h
        exact wgr_code f (wadd_err h)
theorem wnx_code {l : List UInt8} {d : Int} {c : Nat} (h : wnx l d = .error c) : CodeOk c := by
 cases hh : whd l with
 | error c' =>
  rw [wnx_no hh] at h
  simp only [Except.error.injEq] at h
  subst h
  exact whd_code hh
 | ok x =>
  obtain ⟨num, ty, j⟩ := x
  by_cases h4 : ty = 4
  ·subst h4
   rw [wnx_end hh] at h
   simp only [Except.error.injEq] at h
   exact .inr (.inl h.symm)
  ·by_cases h3 : ty = 3
   ·subst h3
    rw [wnx_group hh] at h
    cases hg : wgroup (l.drop j) [num] d with
    | error c' =>
     rw [hg] at h
     simp only [Except.error.injEq] at h
     subst h
     exact wgr_code _ hg
    | ok k => rw [hg] at h; cases h
   ·rw [wnx_body hh h3 h4] at h
    cases hb : wbd (l.drop j) ty with
    | error c' =>
     rw [hb] at h
     simp only [Except.error.injEq] at h
     subst h
     exact wbd_code hb
    | ok y => obtain ⟨n, t, k⟩ := y; rw [hb] at h; cases h
theorem wal_code : ∀ (f : Nat) {l : List UInt8} {d : Int} {c : Nat}, wal f l d = .error c → CodeOk c
 | 0, _, _, _, h => by cases h
 | f + 1, l, d, c, h => by
  rw [wal] at h
  split at h
  ·cases h
  ·cases hn : wnx l d with
   | error c' =>
    rw [hn] at h
    simp only [Except.error.injEq] at h
    subst h
    exact wnx_code hn
   | ok x =>
    obtain ⟨r, j⟩ := x
    rw [hn] at h
    dsimp only at h
    cases hw : wal f (l.drop j) d with
    | error c' =>
     rw [hw] at h
     simp only [Except.error.injEq] at h
     subst h
     exact wal_code f hw
    | ok rs => rw [hw] at h; cases h
theorem body_cell1 {P : Program} {fn : Func} {R : Ending → World → Prop} {a : Act} {w : World} {p : Tmp} {ty : TypeId} {g : Nat} {cs : Array Value}
  (h : fn.results = #[.cell p ty]) (hp : a.tmps.getD p undef = .pointer (some ⟨g, 0, none⟩)) (hl : (loadVar ty ⟨g, 0, none⟩).run P w = .ok (.agg cs) w) (hdf : a.defers = [])
  (hR : R (.returned (.agg cs)) w) : bodyPost P fn R .ret a w := by
 refine bodyPost_ret ?_ hdf hR
 have hp' : a.tmps[p]?.getD undef = .pointer (some ⟨g, 0, none⟩) := by simpa using hp
 have hr : (asAddr (a.tmps[p]?.getD undef)).run P w = .ok ⟨g, 0, none⟩ w := by rw [hp']; rfl
 simp [results, h, Sem.run_bind, Result.andThen, hr, hl]
theorem new_two (w : World) (a b : Obj) : ((w.alloc a).alloc b).heap[w.heap.size + 1]? = some b := by
 have := heap_alloc_new (w.alloc a) b
 rwa [show (w.alloc a).heap.size = w.heap.size + 1 by simp] at this
end Go.Proofs.YtjbingoliffjiaaGreat
