/-
  wire.group: where a group ends.
-/
import Derived.Test.YtdokbooggbiciaaWireR2
import Derived.WalkSmall
namespace Go.Proofs.Ytdokbooggbiciaa
open Go.RowKit

theorem Try.elIntW : Elem Try.prog 156 3 (.int .i64 0) 1 8 := ⟨Try.underlying156, by kernel_rfl, by decide⟩
def nint (l : List Nat) : List Value := l.map fun n : Nat => .int .i64 (n : Int)
theorem own_below {w w' : World} {base : Nat} {e : TypeId} {size : Nat} {v : Value} {n : Nat} {xs : List Value} (ho : w.ownsRow base e size v n xs) (hb : Below w.heap.size w w') : w'.ownsRow base e size v n xs :=
  (Upd.of_new (S := fun _ => False) hb).own ho (fun _ _ h => h)
theorem below_new (w : World) (o : Obj) : Below w.heap.size w (w.alloc o) := (Below.refl _ _).alloc (Nat.le_refl _) o
theorem below_step {a b c : World} (h1 : Below a.heap.size a b) (h2 : Below b.heap.size b c) : Below a.heap.size a c := h1.trans (h2.mono h1.size)
def GroupPost (s : ByteArray) (p num : Nat) (d : Int) (w : World) (e : Ending) (w' : World) : Prop := match wgroup (s.data.toList.drop p) [num] d with
  | .error c => ∃ v, e = .returned (.tuple #[.int .i64 0, v]) ∧ ∃ q : Nat, q ≤ s.size ∧ ErrNew w (q : Int) (c : Int) v w'
  | .ok k => e = .returned (.tuple #[.int .i64 ((p + k : Nat) : Int), .nilIface]) ∧ Below w.heap.size w w'
theorem group_no {s : ByteArray} {p num c : Nat} {d : Int} {w w' : World} {v : Value} (h : wgroup (s.data.toList.drop p) [num] d = .error c) (q : Nat) (hq : q ≤ s.size) (hE : ErrNew w (q : Int) (c : Int) v w') : GroupPost s p num d w (.returned (.tuple #[.int .i64 0, v])) w' := by
  unfold GroupPost; rw [h]; exact ⟨v, rfl, q, hq, hE⟩
theorem own_one (w : World) (u : Value) (e : TypeId) (base : Nat) (hb : base ≤ w.heap.size) : (w.alloc (.cells #[u] e)).ownsRow base e 1 (.slice (some ⟨w.heap.size, 0, none⟩) 1 1) 1 [u] :=
  ⟨rfl, .inr ⟨w.heap.size, 1, #[u], rfl, hb, heap_alloc_new w _, Nat.le_refl _, by simp [maxLen], rfl, rfl⟩⟩
theorem own_drewN {w : World} {base : Nat} {e : TypeId} {size : Nat} {v : Value} {n : Nat} {xs : List Value} (ho : w.ownsRow base e size v n xs) (k : Nat) : (w.drewN k).ownsRow base e size v n xs := own_below ho (below_drewN0 w k)
/-- how far a group has been read -/
def GrRel (s : ByteArray) (p num : Nat) (d : Int) (q : Nat) (st : List Nat) : Prop := p ≤ q ∧ q ≤ s.size ∧ st.length ≤ q - p + 1 ∧ wgroup (s.data.toList.drop p) [num] d = wadd (q - p) (wgroup (s.data.toList.drop q) st d)
theorem gr_err {s : ByteArray} {p num q c : Nat} {d : Int} {st : List Nat} (h : GrRel s p num d q st) (he : wgroup (s.data.toList.drop q) st d = .error c) : wgroup (s.data.toList.drop p) [num] d = .error c := by
  rw [h.2.2.2, he]; rfl
theorem gr_next {s : ByteArray} {p num q j : Nat} {d : Int} {st st' : List Nat} (h : GrRel s p num d q st) (he : wgroup (s.data.toList.drop q) st d = wadd j (wgroup ((s.data.toList.drop q).drop j) st' d)) (hj : 1 ≤ j) (hq : q + j ≤ s.size) (hl : st'.length ≤ st.length + 1) : GrRel s p num d (q + j) st' := by
  obtain ⟨h1, h2, h3, h4⟩ := h
  refine ⟨by omega, hq, by omega, ?_⟩
  rw [h4, he, wadd_add, List.drop_drop]
  congr 1
  omega
theorem gr_end {s : ByteArray} {p num q : Nat} {d : Int} {w w' : World} (h : GrRel s p num d q []) (hB : Below w.heap.size w w') : GroupPost s p num d w (.returned (.tuple #[.int .i64 (q : Int), .nilIface])) w' := by
  obtain ⟨h1, h2, h3, h4⟩ := h
  rw [wgroup_nil] at h4
  unfold GroupPost
  rw [h4]
  refine ⟨?_, hB⟩
  rw [show p + (q - p + 0) = q by omega]
theorem wbd_cases {l : List UInt8} {num ty j : Nat} (h : whd l = .ok (num, ty, j)) (h3 : ty ≠ 3) (h4 : ty ≠ 4) : ty = 0 ∨ ty = 1 ∨ ty = 2 ∨ ty = 5 := by
  have := whd_bounds h
  omega
set_option maxRecDepth 100000 in
set_option maxHeartbeats 8000000 in
theorem group_any (s : ByteArray) (p num : Nat) (d : Int) (w : World) (hp : p ≤ s.size) (hs : s.size ≤ 1000000000) :
    Calls Try.prog 76 #[.string s, .int .i64 (p : Int), .int .i64 (num : Int), .int .i64 d] w (GroupPost s p num d w) := by
  have HL := Lib.hid (show s.data.toList.length = s.size by simp)
  have HS := Lib.hid hs
  have HP := Lib.hid hp
  go_enter Try.func76, Try.ntmps76
  go_wp2_with fail
  go_loopg [1, 10] (s.size - p) (fun k a v wr => ∃ (q : Nat) (st : List Nat), q + k = s.size ∧ a = .int .i64 (q : Int) ∧ GrRel s p num d q st ∧ wr.ownsRow w.heap.size 3 1 v st.length (nint st.reverse) ∧ Below w.heap.size w wr)
  case atStart => exact ⟨p, [num], by have := HP.out; omega, rfl, ⟨Nat.le_refl _, HP.out, by simp, by rw [Nat.sub_self, wadd_zero]⟩, own_one w _ _ _ (Nat.le_refl _), below_new _ _⟩
  case round =>
    obtain ⟨q, st, hqk, rfl, hgr, hown, hb⟩ := hrel
    have HGR := Lib.hid hgr
    have HOWN := Lib.hid hown
    have HB := Lib.hid hb
    have HQ := Lib.hid hqk
    have hqs : q ≤ s.size := hgr.2.1
    have hsz : s.size ≤ 1000000000 := HS.out
    have hstl : st.length ≤ 1000000001 := by have := hgr.2.2.1; omega
    have hwb : w.heap.size ≤ wr.heap.size := hb.size
    clear hgr hb hqk
    match st, HGR, HOWN, hstl with
    | [], HGR, HOWN, hstl =>
      obtain ⟨ao, cap, rfl⟩ := own_slice HOWN.out
      clear hown
      go_wp2_with fail
      go_ret2
      exact gr_end HGR.out HB.out
    | top :: rest, HGR, HOWN, hstl =>
      obtain ⟨ao, cap, rfl⟩ := own_slice HOWN.out
      clear hown
      obtain ⟨m, hm⟩ : ∃ m, m = rest.length := ⟨_, rfl⟩
      have HM := Lib.hid hm
      have HN : Hid (nint (top :: rest).reverse = nint rest.reverse ++ [.int .i64 (top : Int)]) := Lib.hid (by simp [nint])
      have hml : m ≤ 1000000000 := by simp at hstl; omega
      rw [show (top :: rest).length = m + 1 by simp [hm]] at *
      clear hm
      by_cases hdp : d < (m : Int) + 1
      · have HF := Lib.hid (gr_err HGR.out (wgroup_deep (by simp) (by simp; have := HM.out; omega)))
        go_wp2_with fail
        refine (at_any _ _ _ _).mono ?_; rintro e w' ⟨rfl, rfl⟩
        go_wp2_with fail
        go_ret2
        exact group_no HF.out q hqs (errNew_at HB.out)
      · have hdp' : (((top :: rest).length : Nat) : Int) ≤ d := by simp; have := HM.out; omega
        have HDP := Lib.hid hdp'
        clear hdp'
        cases hh : whd (s.data.toList.drop q) with
        | error c =>
          have HF := Lib.hid (gr_err HGR.out (wgroup_no (by simp) HDP.out hh))
          have HH := Lib.hid hh
          clear hh
          go_wp2_with fail
          refine (head_any s q wr hqs hsz).mono ?_; intro e w1 hpost
          unfold HeadPost at hpost
          rw [HH.out] at hpost
          obtain ⟨v, rfl, hE⟩ := hpost
          obtain ⟨T, y, rfl⟩ := hE.iface
          have HE := Lib.hid hE
          clear hE
          unfold rec0
          go_wp2_with fail
          go_ret2
          exact group_no HF.out q hqs ((HE.out.after HB.out).stay (below_new _ _))
        | ok x =>
          obtain ⟨num', ty, j⟩ := x
          have hbd := whd_bounds hh
          have hqj : q + j ≤ s.size := by have := hbd.2.1; simp at this; have := HL.out; omega
          have hj1 : 1 ≤ j := hbd.1
          have hn1 : num' ≤ 536870911 := hbd.2.2.2.1
          have hty : ty ≤ 5 := hbd.2.2.2.2.1
          have HH := Lib.hid hh
          clear hh hbd
          by_cases h3 : ty = 3
          · subst h3
            have HG := Lib.hid (gr_next HGR.out (wgroup_begin (by simp) HDP.out HH.out) hj1 hqj (by simp))
            go_wp2_with fail
            refine (head_any s q wr hqs hsz).mono ?_; intro e w1 hpost
            unfold HeadPost at hpost
            rw [HH.out] at hpost
            obtain ⟨rfl, hb1⟩ := hpost
            have HB1 := Lib.hid hb1
            have hown1 := (own_below HOWN.out hb1).alloc (.cells #[.int .i64 (num' : Int), .int .i64 3, .int .u64 0, .string ⟨#[]⟩, .string ⟨#[]⟩] 63)
            have hs1 := hb1.size
            clear hb1
            go_wp2_with (at_builtin; refine wpList_app1 (c := 1) rfl _ _ 156 rfl Try.elIntW (by decide) hown1 rfl (by show Value.slice (some ⟨w1.heap.size + 1, 0, none⟩) 1 1 = _; simp) rfl (by simp [Value.oneCell']) (by unfold maxLen; omega) (by omega) (by simp; omega) ?_; intro v' w2 hown' hgrow)
            have HO2 : Hid (w2.ownsRow w.heap.size 3 1 v' (num' :: top :: rest).length (nint (num' :: top :: rest).reverse)) := Lib.hid (by
              have e1 : (num' :: top :: rest).length = m + 1 + 1 := by simp [HM.out]
              have e2 : nint (num' :: top :: rest).reverse = nint (top :: rest).reverse ++ [.int .i64 (num' : Int)] := by simp [nint]
              rw [e1, e2]; exact hown')
            have HB2 : Hid (Below w.heap.size w w2) := Lib.hid (((below_step HB.out HB1.out).alloc (by omega) _).grown hgrow (by simp; omega) (fun k hk => (hown1.lt _ hk).1))
            have hq := HQ.out
            go_roundg (s.size - (q + j))
            case measure => omega
            case rel => exact ⟨q + j, num' :: top :: rest, by omega, by simp, HG.out, HO2.out, HB2.out⟩
          · by_cases h4 : ty = 4
            · subst h4
              by_cases hnt : num' = top
              · subst hnt
                have HG := Lib.hid (gr_next HGR.out (wgroup_end HDP.out HH.out) hj1 hqj (by simp only [List.length_cons]; omega))
                obtain ⟨g, cap', hv, hg1, hg2, hg3, hg4⟩ := own_some HOWN.out (by simp)
                simp only [Value.slice.injEq] at hv
                obtain ⟨rfl, _, rfl⟩ := hv
                have hcell0 : wr.cell? ⟨g, m, none⟩ = some (.int .i64 (num' : Int)) := by
                  rw [HOWN.out.cellAt m (by simp), HN.out]
                  simp [nint, HM.out]
                have HCELL := Lib.hid hcell0
                clear hcell0
                go_wp2_with fail
                refine (head_any s q wr hqs hsz).mono ?_; intro e w1 hpost
                unfold HeadPost at hpost
                rw [HH.out] at hpost
                obtain ⟨rfl, hb1⟩ := hpost
                have HB1 := Lib.hid hb1
                have hs1 := hb1.size
                clear hb1
                go_wp2_with fail
                obtain ⟨w5, hw5⟩ : ∃ w5, w5 = w1.alloc (.cells #[.int .i64 (num' : Int), .int .i64 4, .int .u64 0, .string ⟨#[]⟩, .string ⟨#[]⟩] 63) := ⟨_, rfl⟩
                have hc0 : w5.cell? ⟨w1.heap.size, 0, none⟩ = some (.int .i64 (num' : Int)) := by rw [hw5]; simp
                have hcg : w5.cell? ⟨g, m, none⟩ = some (.int .i64 (num' : Int)) := by
                  rw [hw5, World.cell?_alloc_lt _ _ ⟨g, m, none⟩ (by simp; omega)]
                  exact (HB1.out.cell (p := ⟨g, m, none⟩) hg2).trans HCELL.out
                have HB5 : Hid (Below wr.heap.size wr w5) := Lib.hid (by rw [hw5]; exact below_step HB1.out (below_new _ _))
                rw [← hw5]
                have hm0 : (0 : Int) ≤ (m : Int) := by omega
                have hm1 : (m : Int) < (m : Int) + 1 := by omega
                have hm2 : (m : Int) < ((m + 1 : Nat) : Int) := by omega
                clear hw5
                go_quiet (fail)
                go_wp2_with fail
                have HO5 : Hid (w5.ownsRow w.heap.size 3 1 (.slice (some ⟨g, 0, none⟩) rest.length cap) rest.length (nint rest.reverse)) := Lib.hid (by
                  have ho := own_below HOWN.out HB5.out
                  rw [HN.out] at ho
                  rw [← HM.out]
                  exact ownsRow_pop (by simp [nint, HM.out]) ho)
                have hq := HQ.out
                go_roundg (s.size - (q + j))
                case measure => omega
                case rel => exact ⟨q + j, rest, by omega, by simp, HG.out, by rw [← HM.out] at HO5 ⊢; exact own_drewN HO5.out _, below_step (below_step HB.out HB5.out) (below_drewN0 _ _)⟩
              · have HF := Lib.hid (gr_err HGR.out (wgroup_other HDP.out HH.out hnt))
                have hne : ((num' : Int) == (top : Int)) = false := by simp; omega
                obtain ⟨g, cap', hv, hg1, hg2, hg3, hg4⟩ := own_some HOWN.out (by simp)
                simp only [Value.slice.injEq] at hv
                obtain ⟨rfl, _, rfl⟩ := hv
                have hcell0 : wr.cell? ⟨g, m, none⟩ = some (.int .i64 (top : Int)) := by
                  rw [HOWN.out.cellAt m (by simp), HN.out]
                  simp [nint, HM.out]
                have HCELL := Lib.hid hcell0
                clear hcell0
                go_wp2_with fail
                refine (head_any s q wr hqs hsz).mono ?_; intro e w1 hpost
                unfold HeadPost at hpost
                rw [HH.out] at hpost
                obtain ⟨rfl, hb1⟩ := hpost
                have HB1 := Lib.hid hb1
                have hs1 := hb1.size
                clear hb1
                go_wp2_with fail
                obtain ⟨w5, hw5⟩ : ∃ w5, w5 = w1.alloc (.cells #[.int .i64 (num' : Int), .int .i64 4, .int .u64 0, .string ⟨#[]⟩, .string ⟨#[]⟩] 63) := ⟨_, rfl⟩
                have hc0 : w5.cell? ⟨w1.heap.size, 0, none⟩ = some (.int .i64 (num' : Int)) := by rw [hw5]; simp
                have hcg : w5.cell? ⟨g, m, none⟩ = some (.int .i64 (top : Int)) := by
                  rw [hw5, World.cell?_alloc_lt _ _ ⟨g, m, none⟩ (by simp; omega)]
                  exact (HB1.out.cell (p := ⟨g, m, none⟩) hg2).trans HCELL.out
                have HB5 : Hid (Below wr.heap.size wr w5) := Lib.hid (by rw [hw5]; exact below_step HB1.out (below_new _ _))
                rw [← hw5]
                have hm0 : (0 : Int) ≤ (m : Int) := by omega
                have hm1 : (m : Int) < (m : Int) + 1 := by omega
                have hm2 : (m : Int) < ((m + 1 : Nat) : Int) := by omega
                clear hw5
                go_quiet (fail)
                go_wp2_with fail
                refine (at_any _ _ _ _).mono ?_; rintro e w' ⟨rfl, rfl⟩
                go_wp2_with fail
                go_ret2
                exact group_no HF.out q hqs (errNew_at (below_step (below_step HB.out HB5.out) (below_drewN0 _ _)))
            · have hbdc := wbd_cases HH.out h3 h4
              have hT3 : ((ty : Int) == 3) = false := by simp; omega
              have hT4 : ((ty : Int) == 4) = false := by simp; omega
              cases hbd : wbd (s.data.toList.drop (q + j)) ty with
              | error c =>
                have HBD := Lib.hid hbd
                have HF := Lib.hid (gr_err HGR.out (wgroup_bodyNo (by simp) HDP.out HH.out h3 h4 (by rw [List.drop_drop]; exact hbd)))
                clear hbd h3 h4
                go_wp2_with fail
                refine (head_any s q wr hqs hsz).mono ?_; intro e w1 hpost
                unfold HeadPost at hpost
                rw [HH.out] at hpost
                obtain ⟨rfl, hb1⟩ := hpost
                have HB1 := Lib.hid hb1
                clear hb1
                go_wp2_with fail
                refine (body_any s (q + j) ty _ hqj hsz hbdc).mono ?_; intro e w6 hpost
                unfold BodyPost at hpost
                rw [HBD.out] at hpost
                obtain ⟨v, rfl, q', hq', hE⟩ := hpost
                obtain ⟨T, y, rfl⟩ := hE.iface
                have HE := Lib.hid hE
                clear hE
                go_wp2_with fail
                go_ret2
                exact group_no HF.out q' hq' (HE.out.after (below_step (below_step HB.out HB1.out) (below_new _ _)))
              | ok z =>
                obtain ⟨n, t, k⟩ := z
                have HBD := Lib.hid hbd
                have hbb := wbd_bounds hbd
                have hqk : q + j + k ≤ s.size := by have := hbb.2.1; simp at this; have := HL.out; omega
                have hk1 : 1 ≤ k := hbb.1
                have HG0 := gr_next HGR.out (wgroup_bodyOk (by simp) HDP.out HH.out h3 h4 (by rw [List.drop_drop]; exact hbd)) (by omega) (by omega) (by simp)
                have HG := Lib.hid HG0
                clear hbd h3 h4 hbb HG0
                go_wp2_with fail
                refine (head_any s q wr hqs hsz).mono ?_; intro e w1 hpost
                unfold HeadPost at hpost
                rw [HH.out] at hpost
                obtain ⟨rfl, hb1⟩ := hpost
                have HB1 := Lib.hid hb1
                clear hb1
                go_wp2_with fail
                refine (body_any s (q + j) ty _ hqj hsz hbdc).mono ?_; intro e w6 hpost
                unfold BodyPost at hpost
                rw [HBD.out] at hpost
                obtain ⟨rfl, hb6⟩ := hpost
                have HB6 := Lib.hid (below_step (below_step HB1.out (below_new _ _)) hb6)
                clear hb6
                go_wp2_with fail
                have hq := HQ.out
                go_roundg (s.size - (q + (j + k)))
                case measure => omega
                case rel => exact ⟨q + (j + k), top :: rest, by omega, by simp; omega, HG.out, by have := own_below HOWN.out HB6.out; simpa [HM.out] using this, below_step HB.out HB6.out⟩
end Go.Proofs.Ytdokbooggbiciaa
