/-
  hyglaw4.plain, hyglaw4.Wrong.
-/
import Derived.Test.YtbhppchdoalahaaDoorWireRA
import Derived.Test.YtbhppchdoalahaaDoorErrNew
namespace Go.Proofs.YtbhppchdoalahaaDoor
open Go.RowKit

def CodeOk (c : Nat) : Prop := c = 1 ∨ c = 3 ∨ c = 4 ∨ c = 6
theorem whd_code {l : List UInt8} {c : Nat} (h : whd l = .error c) : CodeOk c := by
  unfold whd at h
  cases hv : wv l with
  | error c' =>
    rw [hv] at h
    simp only [Except.error.injEq] at h
    subst h
    rcases wv_err hv with h | h
    · exact .inl h
    · exact .inr (.inr (.inl h))
  | ok x =>
    obtain ⟨t, j⟩ := x
    rw [hv] at h
    dsimp only at h
    split at h
    · simp only [Except.error.injEq] at h
      exact .inr (.inl h.symm)
    · cases h
theorem wbd_code {l : List UInt8} {ty c : Nat} (h : wbd l ty = .error c) : CodeOk c := by
  unfold wbd at h
  split at h
  · split at h
    · simp only [Except.error.injEq] at h
      exact .inl h.symm
    · cases h
  · split at h
    · split at h
      · simp only [Except.error.injEq] at h
        exact .inl h.symm
      · cases h
    · cases hv : wv l with
      | error c' =>
        rw [hv] at h
        simp only [Except.error.injEq] at h
        subst h
        rcases wv_err hv with h | h
        · exact .inl h
        · exact .inr (.inr (.inl h))
      | ok x =>
        obtain ⟨t, j⟩ := x
        rw [hv] at h
        dsimp only at h
        split at h
        · cases h
        · split at h
          · simp only [Except.error.injEq] at h
            exact .inl h.symm
          · cases h
theorem wgr_code : ∀ (f : Nat) {l : List UInt8} {st : List Nat} {d : Int} {c : Nat}, wgr f l st d = .error c → CodeOk c
  | 0, _, _, _, c, h => by
    simp only [wgr, Except.error.injEq] at h
    exact .inl h.symm
  | f + 1, l, st, d, c, h => by
    rw [wgr] at h
    split at h
    · cases h
    · split at h
      · simp only [Except.error.injEq] at h
        exact .inr (.inr (.inr h.symm))
      · cases hh : whd l with
        | error c' =>
          rw [hh] at h
          simp only [Except.error.injEq] at h
          subst h
          exact whd_code hh
        | ok x =>
          obtain ⟨num, ty, j⟩ := x
          rw [hh] at h
          dsimp only at h
          split at h
          · exact wgr_code f (wadd_err h)
          · split at h
            · split at h
              · exact wgr_code f (wadd_err h)
              · simp only [Except.error.injEq] at h
                exact .inr (.inl h.symm)
            · cases hb : wbd (l.drop j) ty with
              | error c' =>
                rw [hb] at h
                simp only [Except.error.injEq] at h
                subst h
                exact wbd_code hb
              | ok y =>
                obtain ⟨n, t, k⟩ := y
                rw [hb] at h
                exact wgr_code f (wadd_err h)
theorem wnx_code {l : List UInt8} {d : Int} {c : Nat} (h : wnx l d = .error c) : CodeOk c := by
  cases hh : whd l with
  | error c' =>
    rw [wnx_no hh] at h
    simp only [Except.error.injEq] at h
    subst h
    exact whd_code hh
  | ok x =>
    obtain ⟨num, ty, j⟩ := x
    by_cases h4 : ty = 4
    · subst h4
      rw [wnx_end hh] at h
      simp only [Except.error.injEq] at h
      exact .inr (.inl h.symm)
    · by_cases h3 : ty = 3
      · subst h3
        rw [wnx_group hh] at h
        cases hg : wgroup (l.drop j) [num] d with
        | error c' =>
          rw [hg] at h
          simp only [Except.error.injEq] at h
          subst h
          exact wgr_code _ hg
        | ok k => rw [hg] at h; cases h
      · rw [wnx_body hh h3 h4] at h
        cases hb : wbd (l.drop j) ty with
        | error c' =>
          rw [hb] at h
          simp only [Except.error.injEq] at h
          subst h
          exact wbd_code hb
        | ok y => obtain ⟨n, t, k⟩ := y; rw [hb] at h; cases h
theorem wal_code : ∀ (f : Nat) {l : List UInt8} {d : Int} {c : Nat}, wal f l d = .error c → CodeOk c
  | 0, _, _, _, h => by cases h
  | f + 1, l, d, c, h => by
    rw [wal] at h
    split at h
    · cases h
    · cases hn : wnx l d with
      | error c' =>
        rw [hn] at h
        simp only [Except.error.injEq] at h
        subst h
        exact wnx_code hn
      | ok x =>
        obtain ⟨r, j⟩ := x
        rw [hn] at h
        dsimp only at h
        cases hw : wal f (l.drop j) d with
        | error c' =>
          rw [hw] at h
          simp only [Except.error.injEq] at h
          subst h
          exact wal_code f hw
        | ok rs => rw [hw] at h; cases h
theorem body_cell1 {P : Program} {fn : Func} {R : Ending → World → Prop} {a : Act} {w : World} {p : Tmp} {ty : TypeId} {g : Nat} {cs : Array Value}
    (h : fn.results = #[.cell p ty]) (hp : a.tmps.getD p undef = .pointer (some ⟨g, 0, none⟩)) (hl : (loadVar ty ⟨g, 0, none⟩).run P w = .ok (.agg cs) w) (hdf : a.defers = [])
    (hR : R (.returned (.agg cs)) w) : bodyPost P fn R .ret a w := by
  refine bodyPost_ret ?_ hdf hR
  have hp' : a.tmps[p]?.getD undef = .pointer (some ⟨g, 0, none⟩) := by simpa using hp
  have hr : (asAddr (a.tmps[p]?.getD undef)).run P w = .ok ⟨g, 0, none⟩ w := by rw [hp']; rfl
  simp [results, h, Sem.run_bind, Result.andThen, hr, hl]
theorem new_two (w : World) (a b : Obj) : ((w.alloc a).alloc b).heap[w.heap.size + 1]? = some b := by
  have := heap_alloc_new (w.alloc a) b
  rwa [show (w.alloc a).heap.size = w.heap.size + 1 by simp] at this
set_option maxRecDepth 100000 in
set_option maxHeartbeats 2000000 in
theorem plain_any (r : Rec) (w : World) : Calls Tryd.prog 22 #[recV r] w fun e w' => e = .returned (recV r) ∧ Below w.heap.size w w' := by
  unfold recV
  go_enter Tryd.func22, Tryd.ntmps22
  go_wp2_with fail
  refine body_cell1 rfl rfl (load_rrec (new_two _ _ _) rfl) rfl ?_
  exact ⟨rfl, below_step (below_new _ _) (below_new _ _)⟩
set_option maxRecDepth 100000 in
set_option maxHeartbeats 2000000 in
theorem wrong_any (q n c : Nat) (v : Value) (w : World) (hE : isErr w [(true, (q : Int))] v (codeV c)) (hg : Glob w) (hq : q ≤ n) (hc : CodeOk c) :
    Calls Tryd.prog 23 #[v, .int .i64 (n : Int)] w fun e w' => e = .returned (.bool true) ∧ Below w.heap.size w w' := by
  obtain ⟨T, y, rfl⟩ := isErr_iface hE (root_code _)
  have HE := Lib.hid hE
  have HG := Lib.hid hg
  clear hE hg
  rcases hc with rfl | rfl | rfl | rfl
  all_goals go_enter Tryd.func23, Tryd.ntmps23
  all_goals go_wp2_with fail
  all_goals refine (place_any _ _ _ w HE.out (root_code _) HG.out).mono ?_
  all_goals rintro e w1 ⟨rfl, hb⟩
  all_goals rw [show placeN [(true, (q : Int))] = (q : Int) from rfl, show placeB [(true, (q : Int))] = true from rfl]
  all_goals have HE1 := Lib.hid (isErr_below hb HE.out)
  all_goals have HG1 := Lib.hid (HG.out.below hb)
  all_goals have HB := Lib.hid hb
  all_goals clear hb
  all_goals go_wp2_with fail
  all_goals refine (code_any _ _ _ w1 HE1.out (root_code _) HG1.out).mono ?_
  all_goals rintro e w2 ⟨rfl, hb⟩
  all_goals have HB2 := Lib.hid (below_step HB.out hb)
  all_goals clear hb
  · rw [show codeOf (codeV ((1 : Nat) : Int)) = 1 from rfl]
    go_wp2_with fail
    go_ret
    exact ⟨rfl, HB2.out⟩
  · rw [show codeOf (codeV ((3 : Nat) : Int)) = 3 from rfl]
    go_wp2_with fail
    go_ret
    exact ⟨rfl, HB2.out⟩
  · rw [show codeOf (codeV ((4 : Nat) : Int)) = 4 from rfl]
    go_wp2_with fail
    go_ret
    exact ⟨rfl, HB2.out⟩
  · rw [show codeOf (codeV ((6 : Nat) : Int)) = 6 from rfl]
    go_wp2_with fail
    go_ret
    exact ⟨rfl, HB2.out⟩
end Go.Proofs.YtbhppchdoalahaaDoor
