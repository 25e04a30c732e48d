/-
  scope.UnmarshalRes, scope.Unmarshal: any text.
-/
import Derived.Test.YtbdbmkmebeemoaaScTake
namespace Go.Proofs.Ytbdbmkmebeemoaa
open Go.RowKit

theorem kv_len {num : Nat} {d : Int} {l : List KV} {t : Nat} (h : (listF num kvS).inv d l t) : l.length * 40 ≤ 51 * t := by
  have h1 : lsum (l.map kvS.wt) ≤ 51 * t := h.2
  have h2 := kvs_wt num l
  have h2 : lsum (l.map kvS.wt) = ksw l := h2
  have := ksw_len l
  omega
theorem tlen_le (tk : Rec → Bool) (rs : List Rec) : tlen tk rs ≤ (rs.flatMap Rec.raw).length := by have := tlen_munk tk rs; omega
set_option maxRecDepth 1000000 in
set_option maxHeartbeats 8000000 in
theorem mread_neg (FT FK : Nat) (caps : Array Value) (s : ByteArray) (d : Int) (w : World) (hd : d < 0) :
    Calls Try.prog 40 #[.string s, .int .i64 d, .func (.func FT) #[] #[], .func (.func FK) #[] caps] w fun e w' => ∃ v, e = .returned (.tuple #[.string ⟨#[]⟩, v]) ∧ Below w.heap.size w w' ∧ EW w' v 0 6 := by
  have d1 : decide (d < 0) = true := decide_eq_true hd
  clear hd
  go_enter Try.func40, Try.ntmps40
  go_wp2_with fail
  refine (at_any _ _ _ _).mono ?_; rintro e w' ⟨rfl, rfl⟩
  go_wp2_with fail
  go_ret2
  exact ⟨_, rfl, below_new _ _, ew_at ⟨[], rfl⟩⟩
set_option maxRecDepth 100000 in
set_option maxHeartbeats 2000000 in
theorem rstakes_any (r : Rec) (w : World) : Calls Try.prog 44 #[.int .i64 (r.num : Int), .int .i64 (r.ty : Int)] w fun e w' => e = .returned (.bool (rsF.tk r)) ∧ w = w' := by
  obtain ⟨num, ty, n, s, raw⟩ := r
  have hq := rsF_tk ⟨num, ty, n, s, raw⟩
  dsimp only at hq
  obtain ⟨q, hqe⟩ : ∃ q, rsF.tk ⟨num, ty, n, s, raw⟩ = q := ⟨_, rfl⟩
  rw [hqe] at hq ⊢
  clear hqe
  by_cases h1 : num = 1
  · subst h1
    have hb : Hid (q = ((ty : Int) == (2 : Int))) := Lib.hid (by rw [show ((2 : Int)) = ((2 : Nat) : Int) from rfl, ibeq, hq]; exact decide_eq_decide.2 (by omega))
    clear hq
    go_enter Try.func44, Try.ntmps44
    go_wp2_with fail
    go_ret
    exact ⟨by rw [hb.out]; rfl, rfl⟩
  by_cases h2 : num = 2
  · subst h2
    have hb : Hid (q = ((ty : Int) == (0 : Int))) := Lib.hid (by rw [show ((0 : Int)) = ((0 : Nat) : Int) from rfl, ibeq, hq]; exact decide_eq_decide.2 (by omega))
    clear hq
    go_enter Try.func44, Try.ntmps44
    go_wp2_with fail
    go_ret
    exact ⟨by rw [hb.out]; rfl, rfl⟩
  have d1 : ((num : Int) == (1 : Int)) = false := by rw [beq_eq_false_iff_ne]; omega
  have d2 : ((num : Int) == (2 : Int)) = false := by rw [beq_eq_false_iff_ne]; omega
  have hb : Hid (q = false) := Lib.hid (by rw [hq]; exact decide_eq_false (by omega))
  clear h1 h2 hq
  go_enter Try.func44, Try.ntmps44
  go_wp2_with fail
  go_ret
  exact ⟨by rw [hb.out]; rfl, rfl⟩
theorem rs_set {w : World} {g : Nat} {T : TypeId} {z0 z1 z2 : Value} (h : w.heap[g]? = some (.cells #[z0, z1, z2] T (0, 0))) (c0 c1 c2 : Value) : (((w.setCell ⟨g, 0, none⟩ c0).setCell ⟨g, 1, none⟩ c1).setCell ⟨g, 2, none⟩ c2).heap[g]? = some (.cells #[c0, c1, c2] T (0, 0)) ∧ Upd (fun k => k = g) w (((w.setCell ⟨g, 0, none⟩ c0).setCell ⟨g, 1, none⟩ c1).setCell ⟨g, 2, none⟩ c2) := by
  have r0 := row_set h 0 c0
  have r1 := row_set r0 1 c1
  have r2 := row_set r1 2 c2
  exact ⟨r2, ((Upd.set w ⟨g, 0, none⟩ c0).trans (Upd.set _ ⟨g, 1, none⟩ c1)).trans (Upd.set _ ⟨g, 2, none⟩ c2)⟩
/-- in memory, with what is unknown behind it -/
def RsRel (w : World) (P : Nat → Prop) (x : (List KV × Nat) × List UInt8) (cs : List Value) : Prop := ∃ lo lc, cs = [.slice lo x.1.1.length lc, .int .u32 (x.1.2 : Int), strV x.2] ∧ KRels w P x.1.1 lo 0
def rsCel : Cel ((List KV × Nat) × List UInt8) where
  R := RsRel
  size := 3
  len := by rintro w P x cs ⟨lo, lc, rfl, _⟩; rfl
  upd := by rintro w w' S P Q x cs hu hs hq ⟨lo, lc, h1, h2⟩; exact ⟨lo, lc, h1, KRels.upd hu hs hq _ _ _ h2⟩
  lt := by rintro w P x cs ⟨lo, lc, h1, h2⟩; exact ⟨lo, lc, h1, KRels.lt _ _ _ h2⟩
def rszero : Array Value := #[.slice none 0 0, .int .u32 0, .string ⟨#[]⟩]
def rsrd (l : List UInt8) (d : Int) : Except Nat ((List KV × Nat) × List UInt8) := mread (σ := List KV × Nat) rsF.tk (rsF.step d) rsF.z l d
theorem rs_len {d : Int} {pre : List Rec} {st : List KV × Nat} (h1 : ∀ x ∈ pre, IsRec d x) (h2 : mfold rsF.tk (rsF.step d) rsF.z pre = .ok st) (h3 : (pre.flatMap Rec.raw).length ≤ 500000) : st.1.length ≤ 1000000 := by
  have hi := mfold_tlen (d := d) 1000000 (rsF.inv d) (rsF_ok.go d) pre rsF.z st 0 h1 (rsF_ok.start d) (by have := tlen_le rsF.tk pre; omega) h2
  rw [Nat.zero_add] at hi
  have := tlen_le rsF.tk pre
  obtain ⟨t1, t2, ht, i1, _⟩ := hi
  have := kv_len i1
  omega
theorem load_rs {w : World} {g : Nat} {cs : Array Value} (hg : w.heap[g]? = some (.cells cs 40 (0, 0))) (hc : cs.size = 3) : (loadVar 40 ⟨g, 0, none⟩).run Try.prog w = .ok (.agg cs) w :=
  run_loadVar_row w g 40 40 cs (0, 0) _ hg Try.underlying40 rfl (by rw [hc]; kernel_rfl)
set_option maxRecDepth 1000000 in
set_option maxHeartbeats 8000000 in
theorem unres_any (hU : Hid UKey) (X : ByteArray) (d : Int) (w : World) (hX : X.size ≤ 500000) (hd : -9223372036854775808 ≤ d ∧ d ≤ 9223372036854775807) :
    Calls Try.prog 24 #[.string X, .int .i64 d] w (RdPost rsCel rszero (rsrd X.data.toList d) X.size w) := by
  have HE1 := enters_of Try.func44 (by kernel_rfl) rfl
  have HE2 := enters_of Try.func45 (by kernel_rfl) rfl
  obtain ⟨g, hg⟩ : ∃ g, w.heap.size = g := ⟨_, rfl⟩
  obtain ⟨W0, hW0⟩ : ∃ W0, ((w.alloc (.cells #[.int .i64 d] 3)).alloc (.cells #[.slice none 0 0, .int .u32 0, .string ⟨#[]⟩] 40)).alloc (.cells #[.slice none 0 0, .int .u32 0, .string ⟨#[]⟩] 40) = W0 := ⟨_, rfl⟩
  have HB0 : Hid (Below w.heap.size w W0) := Lib.hid (by rw [← hW0]; exact below_step (below_step (below_new _ _) (below_new _ _)) (below_new _ _))
  have h3 := new_three_c hg (.cells #[.int .i64 d] 3) (.cells #[.slice none 0 0, .int .u32 0, .string ⟨#[]⟩] 40) (.cells #[.slice none 0 0, .int .u32 0, .string ⟨#[]⟩] 40)
  rw [hW0] at h3
  have HR0 := Lib.hid h3.2.1
  have hcd : W0.cell? ⟨g, 0, none⟩ = some (.int .i64 d) := row_cell h3.1 (j := 0) rfl
  have htk : (capT (rsT (g + 2)) g d).rel rsF.z (fun k => (k = g + 2 ∨ ((Value.slice none 0 0).ownBlock = some k ∨ False)) ∨ k = g) W0 := ⟨_, ⟨.slice none 0 0, _, h3.2.2, LsAt.nil _ _ _ _, rfl⟩, by simp [Value.ownBlock], h3.1, rfl⟩
  have HRD : Hid (Calls Try.prog 40 #[.string X, .int .i64 d, .func (.func 44) #[] #[], .func (.func 45) #[] #[.pointer (some ⟨g + 2, 0, none⟩), .pointer (some ⟨g, 0, none⟩)]] W0 (ReadPost (capT (rsT (g + 2)) g d) rsF.tk (rsF.step d) rsF.z (fun k => (k = g + 2 ∨ ((Value.slice none 0 0).ownBlock = some k ∨ False)) ∨ k = g) X d W0)) := Lib.hid (by
    by_cases h0 : d < 0
    · refine (mread_neg _ _ _ X d W0 h0).mono ?_
      rintro e w' ⟨v, rfl, hb, he⟩
      refine ⟨Upd.of_new hb, ?_⟩
      have e6 : mread (σ := List KV × Nat) rsF.tk (rsF.step d) rsF.z X.data.toList d = .error 6 := by unfold mread; rw [if_pos h0]
      rw [e6]
      exact ⟨v, 0, rfl, Nat.zero_le _, he⟩
    · exact mread_any (capT (rsT (g + 2)) g d) rsF.tk (rsF.step d) 44 45 #[.pointer (some ⟨g + 2, 0, none⟩), .pointer (some ⟨g, 0, none⟩)] rsF.z X d W0 (by omega) HE1 HE2 (fun r w _ => rstakes_any r w) (fun r st P w hk hr hraw _ hpre h => rsclo_any hU (g + 2) g d r st P w (by omega) hk (by have := isrec_s hr; omega) (by
        obtain ⟨pre, h1, h2, h3⟩ := hpre
        exact rs_len h1 h2 (by omega)) (Lib.hid h)) _ htk)
  have HW0 := Lib.hid hW0
  have HGG := Lib.hid hg
  clear hW0 h3 htk HE1 HE2
  go_enter Try.func24, Try.ntmps24
  go_wp2_with fail
  rw [HW0.out]
  go_wp2_with fail
  refine HRD.out.mono ?_; intro e w1 hpost
  obtain ⟨hu, hcase⟩ := hpost
  have hu1 : Upd (fun k => k = g + 2 ∨ k = g) W0 w1 := hu.mono (fun k _ h => by
    rcases h with (h | h | h) | h
    · exact .inl h
    · simp [Value.ownBlock] at h
    · exact h.elim
    · exact .inr h)
  have HR1 : Hid (w1.heap[g + 1]? = some (.cells #[.slice none 0 0, .int .u32 0, .string ⟨#[]⟩] 40 (0, 0))) := Lib.hid ((hu1.block (g + 1) (row_lt HR0.out) (by omega)).trans HR0.out)
  have HB1 : Hid (Below w.heap.size w w1) := Lib.hid (HB0.out.trans (hu1.below (by have := HB0.out.size; omega) (fun k _ h => by omega)))
  clear hu hu1 hcd HRD
  have hz0 : w1.cell? ⟨g + 1, 0, none⟩ = some (.slice none 0 0) := row_cell HR1.out (j := 0) rfl
  have fz0 : w1.frozen? ⟨g + 1, 0, none⟩ = false := row_thaw HR1.out 0
  have hz1 : w1.cell? ⟨g + 1, 1, none⟩ = some (.int .u32 0) := row_cell HR1.out (j := 1) rfl
  have fz1 : w1.frozen? ⟨g + 1, 1, none⟩ = false := row_thaw HR1.out 1
  have hz2 : w1.cell? ⟨g + 1, 2, none⟩ = some (.string ⟨#[]⟩) := row_cell HR1.out (j := 2) rfl
  have fz2 : w1.frozen? ⟨g + 1, 2, none⟩ = false := row_thaw HR1.out 2
  cases hb : mread (σ := List KV × Nat) rsF.tk (rsF.step d) rsF.z X.data.toList d with
  | error c =>
    rw [hb] at hcase
    obtain ⟨v, q, rfl, hq, hew⟩ := hcase
    obtain ⟨T', y, rfl⟩ := hew.iface
    have HBR : Hid (rsrd X.data.toList d = .error c) := Lib.hid hb
    have HEW := Lib.hid hew
    clear hb hew
    go_wp2_with fail
    obtain ⟨hr, hua⟩ := rs_set HR1.out (.slice none 0 0) (.int .u32 0) (.string ⟨#[]⟩)
    refine body_cell2v rfl rfl (load_rs hr rfl) rfl ?_
    refine ⟨HB1.out.trans (hua.below (by have := HB1.out.size; omega) (fun k _ h => by have h : k = g + 1 := h; omega)), ?_⟩
    rw [HBR.out]
    obtain ⟨ws, he⟩ := HEW.out
    exact ⟨_, q, rfl, hq, ws, isErr_upd hua (fun k hk b m e h => by have hk : k = g + 1 := hk; subst hk; rw [HR1.out] at h; simp at h) he⟩
  | ok xu =>
    obtain ⟨st, u⟩ := xu
    rw [hb] at hcase
    obtain ⟨rfl, P', ⟨P0, ⟨v, P1, h1, h2, rfl⟩, h3, h4, rfl⟩, hp⟩ := hcase
    obtain ⟨l, n⟩ := st
    have HBR : Hid (rsrd X.data.toList d = .ok ((l, n), u)) := Lib.hid hb
    obtain ⟨css, Q, g2, g3, g4, g5, rfl⟩ := h2
    obtain ⟨lo, lc, rfl⟩ := own_slice g2
    have HRL := Lib.hid (KRel_own g2 g3 (P := fun k => g + 3 ≤ k) (fun j a1 a2 => KRel.upd (Upd.refl (fun _ => False) w1) (fun _ _ h => h) (fun k hk => (g5 k hk).2.1) _ _ (g4 j a1 a2)) (fun k hk => (g2.lt k hk).1))
    obtain ⟨U, hU⟩ : ∃ U : ByteArray, (⟨u.toArray⟩ : ByteArray) = U := ⟨_, rfl⟩
    have HUU := Lib.hid hU
    rw [hU]
    have HX1 : Hid (w1.heap[g + 2]? = some (.cells #[.slice lo l.length lc, .int .u32 (n : Int), .string ⟨#[]⟩] 40 (0, 0))) := Lib.hid (by exact h1)
    have hx0 : w1.cell? ⟨g + 2, 0, none⟩ = some (.slice lo l.length lc) := row_cell HX1.out (j := 0) rfl
    have hx1 : w1.cell? ⟨g + 2, 1, none⟩ = some (.int .u32 (n : Int)) := row_cell HX1.out (j := 1) rfl
    have hx2 : w1.cell? ⟨g + 2, 2, none⟩ = some (.string ⟨#[]⟩) := row_cell HX1.out (j := 2) rfl
    have hfx : w1.frozen? ⟨g + 2, 2, none⟩ = false := row_thaw HX1.out 2
    clear hb h1 g2 g3 g4 g5 h3 h4 hp hU
    go_wp2_with fail
    have hux := Upd.set w1 ⟨g + 2, 2, none⟩ (.string U)
    obtain ⟨hr, hua⟩ := rs_set ((hux.block (g + 1) (row_lt HR1.out) (fun e => by have e : g + 1 = g + 2 := e; omega)).trans HR1.out) (.slice lo l.length lc) (.int .u32 (n : Int)) (.string U)
    refine body_cell2v rfl rfl (load_rs hr rfl) rfl ?_
    have hub := (hux.mono (S' := fun k => k = g + 1 ∨ k = g + 2) fun k _ h => .inr h).trans (hua.mono fun k _ h => .inl h)
    refine ⟨HB1.out.trans (hub.below (by have := HB1.out.size; omega) (fun k _ h => by omega)), ?_⟩
    rw [HBR.out]
    refine ⟨[.slice lo l.length lc, .int .u32 (n : Int), .string U], rfl, lo, lc, ?_, KRels.upd hub (fun k hk e => by omega) (fun k hk => by omega) _ _ _ HRL.out⟩
    rw [← HUU.out]; rfl
set_option maxRecDepth 100000 in
set_option maxHeartbeats 2000000 in
theorem sctakes_any (r : Rec) (w : World) : Calls Try.prog 38 #[.int .i64 (r.num : Int), .int .i64 (r.ty : Int)] w fun e w' => e = .returned (.bool (scF.tk r)) ∧ w = w' := by
  obtain ⟨num, ty, n, s, raw⟩ := r
  have hq := scF_tk ⟨num, ty, n, s, raw⟩
  dsimp only at hq
  obtain ⟨q, hqe⟩ : ∃ q, scF.tk ⟨num, ty, n, s, raw⟩ = q := ⟨_, rfl⟩
  rw [hqe] at hq ⊢
  clear hqe
  by_cases h1 : num = 1
  · subst h1
    have hb : Hid (q = ((ty : Int) == (2 : Int))) := Lib.hid (by rw [show ((2 : Int)) = ((2 : Nat) : Int) from rfl, ibeq, hq]; exact decide_eq_decide.2 (by omega))
    clear hq
    go_enter Try.func38, Try.ntmps38
    go_wp2_with fail
    go_ret
    exact ⟨by rw [hb.out]; rfl, rfl⟩
  by_cases h2 : num = 2
  · subst h2
    have hb : Hid (q = ((ty : Int) == (2 : Int))) := Lib.hid (by rw [show ((2 : Int)) = ((2 : Nat) : Int) from rfl, ibeq, hq]; exact decide_eq_decide.2 (by omega))
    clear hq
    go_enter Try.func38, Try.ntmps38
    go_wp2_with fail
    go_ret
    exact ⟨by rw [hb.out]; rfl, rfl⟩
  by_cases h3 : num = 3
  · subst h3
    have hb : Hid (q = ((ty : Int) == (2 : Int))) := Lib.hid (by rw [show ((2 : Int)) = ((2 : Nat) : Int) from rfl, ibeq, hq]; exact decide_eq_decide.2 (by omega))
    clear hq
    go_enter Try.func38, Try.ntmps38
    go_wp2_with fail
    go_ret
    exact ⟨by rw [hb.out]; rfl, rfl⟩
  by_cases h4 : num = 4
  · subst h4
    have hb : Hid (q = ((ty : Int) == (0 : Int))) := Lib.hid (by rw [show ((0 : Int)) = ((0 : Nat) : Int) from rfl, ibeq, hq]; exact decide_eq_decide.2 (by omega))
    clear hq
    go_enter Try.func38, Try.ntmps38
    go_wp2_with fail
    go_ret
    exact ⟨by rw [hb.out]; rfl, rfl⟩
  have d1 : ((num : Int) == (1 : Int)) = false := by rw [beq_eq_false_iff_ne]; omega
  have d2 : ((num : Int) == (2 : Int)) = false := by rw [beq_eq_false_iff_ne]; omega
  have d3 : ((num : Int) == (3 : Int)) = false := by rw [beq_eq_false_iff_ne]; omega
  have d4 : ((num : Int) == (4 : Int)) = false := by rw [beq_eq_false_iff_ne]; omega
  have hb : Hid (q = false) := Lib.hid (by rw [hq]; exact decide_eq_false (by omega))
  clear h1 h2 h3 h4 hq
  go_enter Try.func38, Try.ntmps38
  go_wp2_with fail
  go_ret
  exact ⟨by rw [hb.out]; rfl, rfl⟩
theorem sc_set {w : World} {g : Nat} {T : TypeId} {z0 z1 z2 z3 z4 : Value} (h : w.heap[g]? = some (.cells #[z0, z1, z2, z3, z4] T (0, 0))) (c0 c1 c2 c3 c4 : Value) : (((((w.setCell ⟨g, 0, none⟩ c0).setCell ⟨g, 1, none⟩ c1).setCell ⟨g, 2, none⟩ c2).setCell ⟨g, 3, none⟩ c3).setCell ⟨g, 4, none⟩ c4).heap[g]? = some (.cells #[c0, c1, c2, c3, c4] T (0, 0)) ∧ Upd (fun k => k = g) w (((((w.setCell ⟨g, 0, none⟩ c0).setCell ⟨g, 1, none⟩ c1).setCell ⟨g, 2, none⟩ c2).setCell ⟨g, 3, none⟩ c3).setCell ⟨g, 4, none⟩ c4) := by
  have r0 := row_set h 0 c0
  have r1 := row_set r0 1 c1
  have r2 := row_set r1 2 c2
  have r3 := row_set r2 3 c3
  have r4 := row_set r3 4 c4
  exact ⟨r4, ((((Upd.set w ⟨g, 0, none⟩ c0).trans (Upd.set _ ⟨g, 1, none⟩ c1)).trans (Upd.set _ ⟨g, 2, none⟩ c2)).trans (Upd.set _ ⟨g, 3, none⟩ c3)).trans (Upd.set _ ⟨g, 4, none⟩ c4)⟩
/-- in memory, with what is unknown behind it -/
def ScRel (w : World) (P : Nat → Prop) (x : (List UInt8 × List UInt8 × List KV × Nat) × List UInt8) (cs : List Value) : Prop := ∃ lo lc, cs = [strV x.1.1, strV x.1.2.1, .slice lo x.1.2.2.1.length lc, .int .u32 (x.1.2.2.2 : Int), strV x.2] ∧ KRels w P x.1.2.2.1 lo 0
def scCel : Cel ((List UInt8 × List UInt8 × List KV × Nat) × List UInt8) where
  R := ScRel
  size := 5
  len := by rintro w P x cs ⟨lo, lc, rfl, _⟩; rfl
  upd := by rintro w w' S P Q x cs hu hs hq ⟨lo, lc, h1, h2⟩; exact ⟨lo, lc, h1, KRels.upd hu hs hq _ _ _ h2⟩
  lt := by rintro w P x cs ⟨lo, lc, h1, h2⟩; exact ⟨lo, lc, h1, KRels.lt _ _ _ h2⟩
def sczero : Array Value := #[.string ⟨#[]⟩, .string ⟨#[]⟩, .slice none 0 0, .int .u32 0, .string ⟨#[]⟩]
def scrd (l : List UInt8) (d : Int) : Except Nat ((List UInt8 × List UInt8 × List KV × Nat) × List UInt8) := mread (σ := List UInt8 × List UInt8 × List KV × Nat) scF.tk (scF.step d) scF.z l d
theorem sc_len {d : Int} {pre : List Rec} {st : List UInt8 × List UInt8 × List KV × Nat} (h1 : ∀ x ∈ pre, IsRec d x) (h2 : mfold scF.tk (scF.step d) scF.z pre = .ok st) (h3 : (pre.flatMap Rec.raw).length ≤ 500000) : st.2.2.1.length ≤ 1000000 := by
  have hi := mfold_tlen (d := d) 1000000 (scF.inv d) (scF_ok.go d) pre scF.z st 0 h1 (scF_ok.start d) (by have := tlen_le scF.tk pre; omega) h2
  rw [Nat.zero_add] at hi
  have := tlen_le scF.tk pre
  obtain ⟨t1, t2, ht, _, u1, u2, hu, _, v1, v2, hv, i1, _⟩ := hi
  have := kv_len i1
  omega
theorem load_sc {w : World} {g : Nat} {cs : Array Value} (hg : w.heap[g]? = some (.cells cs 25 (0, 0))) (hc : cs.size = 5) : (loadVar 25 ⟨g, 0, none⟩).run Try.prog w = .ok (.agg cs) w :=
  run_loadVar_row w g 25 25 cs (0, 0) _ hg Try.underlying25 rfl (by rw [hc]; kernel_rfl)
set_option maxRecDepth 1000000 in
set_option maxHeartbeats 8000000 in
theorem unsc_any (hU : Hid UKey) (X : ByteArray) (d : Int) (w : World) (hX : X.size ≤ 500000) (hd : -9223372036854775808 ≤ d ∧ d ≤ 9223372036854775807) :
    Calls Try.prog 18 #[.string X, .int .i64 d] w (RdPost scCel sczero (scrd X.data.toList d) X.size w) := by
  have HE1 := enters_of Try.func38 (by kernel_rfl) rfl
  have HE2 := enters_of Try.func41 (by kernel_rfl) rfl
  obtain ⟨g, hg⟩ : ∃ g, w.heap.size = g := ⟨_, rfl⟩
  obtain ⟨W0, hW0⟩ : ∃ W0, ((w.alloc (.cells #[.int .i64 d] 3)).alloc (.cells #[.string ⟨#[]⟩, .string ⟨#[]⟩, .slice none 0 0, .int .u32 0, .string ⟨#[]⟩] 25)).alloc (.cells #[.string ⟨#[]⟩, .string ⟨#[]⟩, .slice none 0 0, .int .u32 0, .string ⟨#[]⟩] 25) = W0 := ⟨_, rfl⟩
  have HB0 : Hid (Below w.heap.size w W0) := Lib.hid (by rw [← hW0]; exact below_step (below_step (below_new _ _) (below_new _ _)) (below_new _ _))
  have h3 := new_three_c hg (.cells #[.int .i64 d] 3) (.cells #[.string ⟨#[]⟩, .string ⟨#[]⟩, .slice none 0 0, .int .u32 0, .string ⟨#[]⟩] 25) (.cells #[.string ⟨#[]⟩, .string ⟨#[]⟩, .slice none 0 0, .int .u32 0, .string ⟨#[]⟩] 25)
  rw [hW0] at h3
  have HR0 := Lib.hid h3.2.1
  have hcd : W0.cell? ⟨g, 0, none⟩ = some (.int .i64 d) := row_cell h3.1 (j := 0) rfl
  have htk : (capT (scT (g + 2)) g d).rel scF.z (fun k => (k = g + 2 ∨ ((Value.slice none 0 0).ownBlock = some k ∨ False)) ∨ k = g) W0 := ⟨_, ⟨.slice none 0 0, _, h3.2.2, LsAt.nil _ _ _ _, rfl⟩, by simp [Value.ownBlock], h3.1, rfl⟩
  have HRD : Hid (Calls Try.prog 40 #[.string X, .int .i64 d, .func (.func 38) #[] #[], .func (.func 41) #[] #[.pointer (some ⟨g + 2, 0, none⟩), .pointer (some ⟨g, 0, none⟩)]] W0 (ReadPost (capT (scT (g + 2)) g d) scF.tk (scF.step d) scF.z (fun k => (k = g + 2 ∨ ((Value.slice none 0 0).ownBlock = some k ∨ False)) ∨ k = g) X d W0)) := Lib.hid (by
    by_cases h0 : d < 0
    · refine (mread_neg _ _ _ X d W0 h0).mono ?_
      rintro e w' ⟨v, rfl, hb, he⟩
      refine ⟨Upd.of_new hb, ?_⟩
      have e6 : mread (σ := List UInt8 × List UInt8 × List KV × Nat) scF.tk (scF.step d) scF.z X.data.toList d = .error 6 := by unfold mread; rw [if_pos h0]
      rw [e6]
      exact ⟨v, 0, rfl, Nat.zero_le _, he⟩
    · exact mread_any (capT (scT (g + 2)) g d) scF.tk (scF.step d) 38 41 #[.pointer (some ⟨g + 2, 0, none⟩), .pointer (some ⟨g, 0, none⟩)] scF.z X d W0 (by omega) HE1 HE2 (fun r w _ => sctakes_any r w) (fun r st P w hk hr hraw _ hpre h => scclo_any hU (g + 2) g d r st P w (by omega) hk (by have := isrec_s hr; omega) (by
        obtain ⟨pre, h1, h2, h3⟩ := hpre
        exact sc_len h1 h2 (by omega)) (Lib.hid h)) _ htk)
  have HW0 := Lib.hid hW0
  have HGG := Lib.hid hg
  clear hW0 h3 htk HE1 HE2
  go_enter Try.func18, Try.ntmps18
  go_wp2_with fail
  rw [HW0.out]
  go_wp2_with fail
  refine HRD.out.mono ?_; intro e w1 hpost
  obtain ⟨hu, hcase⟩ := hpost
  have hu1 : Upd (fun k => k = g + 2 ∨ k = g) W0 w1 := hu.mono (fun k _ h => by
    rcases h with (h | h | h) | h
    · exact .inl h
    · simp [Value.ownBlock] at h
    · exact h.elim
    · exact .inr h)
  have HR1 : Hid (w1.heap[g + 1]? = some (.cells #[.string ⟨#[]⟩, .string ⟨#[]⟩, .slice none 0 0, .int .u32 0, .string ⟨#[]⟩] 25 (0, 0))) := Lib.hid ((hu1.block (g + 1) (row_lt HR0.out) (by omega)).trans HR0.out)
  have HB1 : Hid (Below w.heap.size w w1) := Lib.hid (HB0.out.trans (hu1.below (by have := HB0.out.size; omega) (fun k _ h => by omega)))
  clear hu hu1 hcd HRD
  have hz0 : w1.cell? ⟨g + 1, 0, none⟩ = some (.string ⟨#[]⟩) := row_cell HR1.out (j := 0) rfl
  have fz0 : w1.frozen? ⟨g + 1, 0, none⟩ = false := row_thaw HR1.out 0
  have hz1 : w1.cell? ⟨g + 1, 1, none⟩ = some (.string ⟨#[]⟩) := row_cell HR1.out (j := 1) rfl
  have fz1 : w1.frozen? ⟨g + 1, 1, none⟩ = false := row_thaw HR1.out 1
  have hz2 : w1.cell? ⟨g + 1, 2, none⟩ = some (.slice none 0 0) := row_cell HR1.out (j := 2) rfl
  have fz2 : w1.frozen? ⟨g + 1, 2, none⟩ = false := row_thaw HR1.out 2
  have hz3 : w1.cell? ⟨g + 1, 3, none⟩ = some (.int .u32 0) := row_cell HR1.out (j := 3) rfl
  have fz3 : w1.frozen? ⟨g + 1, 3, none⟩ = false := row_thaw HR1.out 3
  have hz4 : w1.cell? ⟨g + 1, 4, none⟩ = some (.string ⟨#[]⟩) := row_cell HR1.out (j := 4) rfl
  have fz4 : w1.frozen? ⟨g + 1, 4, none⟩ = false := row_thaw HR1.out 4
  cases hb : mread (σ := List UInt8 × List UInt8 × List KV × Nat) scF.tk (scF.step d) scF.z X.data.toList d with
  | error c =>
    rw [hb] at hcase
    obtain ⟨v, q, rfl, hq, hew⟩ := hcase
    obtain ⟨T', y, rfl⟩ := hew.iface
    have HBR : Hid (scrd X.data.toList d = .error c) := Lib.hid hb
    have HEW := Lib.hid hew
    clear hb hew
    go_wp2_with fail
    obtain ⟨hr, hua⟩ := sc_set HR1.out (.string ⟨#[]⟩) (.string ⟨#[]⟩) (.slice none 0 0) (.int .u32 0) (.string ⟨#[]⟩)
    refine body_cell2v rfl rfl (load_sc hr rfl) rfl ?_
    refine ⟨HB1.out.trans (hua.below (by have := HB1.out.size; omega) (fun k _ h => by have h : k = g + 1 := h; omega)), ?_⟩
    rw [HBR.out]
    obtain ⟨ws, he⟩ := HEW.out
    exact ⟨_, q, rfl, hq, ws, isErr_upd hua (fun k hk b m e h => by have hk : k = g + 1 := hk; subst hk; rw [HR1.out] at h; simp at h) he⟩
  | ok xu =>
    obtain ⟨st, u⟩ := xu
    rw [hb] at hcase
    obtain ⟨rfl, P', ⟨P0, ⟨v, P1, h1, h2, rfl⟩, h3, h4, rfl⟩, hp⟩ := hcase
    obtain ⟨a, b, l, n⟩ := st
    have HBR : Hid (scrd X.data.toList d = .ok ((a, b, l, n), u)) := Lib.hid hb
    obtain ⟨css, Q, g2, g3, g4, g5, rfl⟩ := h2
    obtain ⟨lo, lc, rfl⟩ := own_slice g2
    have HRL := Lib.hid (KRel_own g2 g3 (P := fun k => g + 3 ≤ k) (fun j a1 a2 => KRel.upd (Upd.refl (fun _ => False) w1) (fun _ _ h => h) (fun k hk => (g5 k hk).2.1) _ _ (g4 j a1 a2)) (fun k hk => (g2.lt k hk).1))
    obtain ⟨U, hU⟩ : ∃ U : ByteArray, (⟨u.toArray⟩ : ByteArray) = U := ⟨_, rfl⟩
    have HUU := Lib.hid hU
    rw [hU]
    obtain ⟨A, hA⟩ : ∃ U : ByteArray, (⟨a.toArray⟩ : ByteArray) = U := ⟨_, rfl⟩
    obtain ⟨B, hB⟩ : ∃ U : ByteArray, (⟨b.toArray⟩ : ByteArray) = U := ⟨_, rfl⟩
    have HA := Lib.hid hA
    have HBB := Lib.hid hB
    unfold scRow strV at h1
    have HX1 : Hid (w1.heap[g + 2]? = some (.cells #[.string A, .string B, .slice lo l.length lc, .int .u32 (n : Int), .string ⟨#[]⟩] 25 (0, 0))) := Lib.hid (by rw [← hA, ← hB]; exact h1)
    have hx0 : w1.cell? ⟨g + 2, 0, none⟩ = some (.string A) := row_cell HX1.out (j := 0) rfl
    have hx1 : w1.cell? ⟨g + 2, 1, none⟩ = some (.string B) := row_cell HX1.out (j := 1) rfl
    have hx2 : w1.cell? ⟨g + 2, 2, none⟩ = some (.slice lo l.length lc) := row_cell HX1.out (j := 2) rfl
    have hx3 : w1.cell? ⟨g + 2, 3, none⟩ = some (.int .u32 (n : Int)) := row_cell HX1.out (j := 3) rfl
    have hx4 : w1.cell? ⟨g + 2, 4, none⟩ = some (.string ⟨#[]⟩) := row_cell HX1.out (j := 4) rfl
    have hfx : w1.frozen? ⟨g + 2, 4, none⟩ = false := row_thaw HX1.out 4
    clear hb h1 g2 g3 g4 g5 h3 h4 hp hU
    go_wp2_with fail
    have hux := Upd.set w1 ⟨g + 2, 4, none⟩ (.string U)
    obtain ⟨hr, hua⟩ := sc_set ((hux.block (g + 1) (row_lt HR1.out) (fun e => by have e : g + 1 = g + 2 := e; omega)).trans HR1.out) (.string A) (.string B) (.slice lo l.length lc) (.int .u32 (n : Int)) (.string U)
    refine body_cell2v rfl rfl (load_sc hr rfl) rfl ?_
    have hub := (hux.mono (S' := fun k => k = g + 1 ∨ k = g + 2) fun k _ h => .inr h).trans (hua.mono fun k _ h => .inl h)
    refine ⟨HB1.out.trans (hub.below (by have := HB1.out.size; omega) (fun k _ h => by omega)), ?_⟩
    rw [HBR.out]
    refine ⟨[.string A, .string B, .slice lo l.length lc, .int .u32 (n : Int), .string U], rfl, lo, lc, ?_, KRels.upd hub (fun k hk e => by omega) (fun k hk => by omega) _ _ _ HRL.out⟩
    rw [← HUU.out, ← HA.out, ← HBB.out]; rfl
end Go.Proofs.Ytbdbmkmebeemoaa
