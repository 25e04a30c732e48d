/-
  exph.Unmarshal of any text.
-/
import Derived.Test.YtficgfemmijaaaaGreatDoorXrTake
import Derived.Test.YtficgfemmijaaaaGreatDoorXpRel
import Derived.Test.YtficgfemmijaaaaGreatDoorExUn
import Derived.Test.YtficgfemmijaaaaGreatDoorFirst14
set_option maxRecDepth 1000000
set_option maxHeartbeats 16000000
namespace Go.Proofs.YtficgfemmijaaaaGreatDoor
open Go.RowKit
theorem xrclo_any (bx bd : Nat) (D : Int) (r : Rec) (hUl : Hid (r.num = 1 → UKey)) (hUes : Hid (r.num = 11 → ExUn)) (st : xrS) (P : Nat → Prop) (w : World) (hD : -9223372036854775807 ≤ D ∧ D ≤ 9223372036854775807) (hk : xrF.tk r = true) (hn64 : Hid (r.n < 2 ^ 64)) (hs : r.s.length ≤ 500000) (hll : st.1.length ≤ 1000000) (hles : st.2.2.2.2.2.2.2.2.2.2.1.length ≤ 1000000) (hlsp : st.2.2.2.2.2.2.2.1.length ≤ 1000000) (hlsn : st.2.2.2.2.2.2.2.2.1.length ≤ 1000000) (h : Hid ((capT (xrT bx) bd D).rel st P w)) :
  Calls Tryz.prog 22 #[recV r, .pointer (some ⟨bx, 0, none⟩), .pointer (some ⟨bd, 0, none⟩)] w (TakePost (capT (xrT bx) bd D) (xrF.step D) st P r w) := by
 obtain ⟨P0, hr, hn, hb, rfl⟩ := h.out
 refine Calls.mono ?_ (fun e w' hp => capT_post hp hn hb)
 have HR := Lib.hid hr
 have HB := Lib.hid hb
 clear h hr hb
 obtain ⟨X, hX⟩ : ∃ X : ByteArray, (⟨r.s.toArray⟩ : ByteArray) = X := ⟨_, rfl⟩
 have HX : Hid ((⟨r.s.toArray⟩ : ByteArray) = X) := Lib.hid hX
 obtain ⟨rb, hrb⟩ : ∃ rb, w.heap.size = rb := ⟨_, rfl⟩
 obtain ⟨W0, hW0⟩ : ∃ W0, w.alloc (.cells #[.int .i64 (r.num : Int), .int .i64 (r.ty : Int), .int .u64 (r.n : Int), .string X, .string ⟨r.raw.toArray⟩] 61) = W0 := ⟨_, rfl⟩
 have HB0 : Hid (Below w.heap.size w W0) := Lib.hid (by rw [← hW0]; exact below_new _ _)
 have HR0 : Hid (W0.heap[rb]? = some (.cells #[.int .i64 (r.num : Int), .int .i64 (r.ty : Int), .int .u64 (r.n : Int), .string X, .string ⟨r.raw.toArray⟩] 61 (0, 0))) := Lib.hid (by rw [← hW0, ← hrb]; exact heap_alloc_new _ _)
 have HW0 := Lib.hid hW0
 have HRB := Lib.hid hrb
 have q1 : IntKind.i64.wrap (D - 1) = D - 1 := IntWalk.i64_in _ (by omega)
 unfold recV
 rw [hX]
 clear hX hW0
 go_enter Tryz.func22, Tryz.ntmps22
 go_wp2_with fail
 rw [HW0.out]
 go_upto_region 1 with fail
 all_goals
  obtain ⟨D0, hD0⟩ : ∃ D0, W0.drew = D0 := ⟨_, rfl⟩
  have hB0 : Below W0.heap.size W0 D0 := by rw [← hD0]; exact (Below.refl _ _).drew
  have HBD := Lib.hid (below_step HB0.out hB0)
  have hS : R2 rb #[.int .i64 (r.num : Int), .int .i64 (r.ty : Int), .int .u64 (r.n : Int), .string X, .string ⟨r.raw.toArray⟩] 61 bd #[.int .i64 D] 3 D0 := ⟨(hB0.block _ (row_lt HR0.out)).trans HR0.out, (HBD.out.block _ (row_lt HB.out)).trans HB.out⟩
  have hne : Nonempty {w' : World // R2 rb #[.int .i64 (r.num : Int), .int .i64 (r.ty : Int), .int .u64 (r.n : Int), .string X, .string ⟨r.raw.toArray⟩] 61 bd #[.int .i64 D] 3 w'} := ⟨⟨_, hS⟩⟩
  refine wp_region_seq (S := R2 rb #[.int .i64 (r.num : Int), .int .i64 (r.ty : Int), .int .u64 (r.n : Int), .string X, .string ⟨r.raw.toArray⟩] 61 bd #[.int .i64 D] 3) [(0, true), (1, true), (2, true), (3, true), (4, true), (5, false), (6, false), (7, true)] (by kernel_rfl) (by kernel_rfl) (by kernel_rfl) (by kernel_rfl) (by rw [hD0]; exact hS) ?_
  rw [hD0]
  (refine seq_take _ rfl (fun KC hK => ?_); go_simp; (first | refine hK _ ?_ | refine ⟨_, fun _ _ => rfl, hK _ ?_⟩); clear hK KC)
  refine seq_take _ rfl (fun KC hK => ?_); go_simp
  refine ⟨.int .i64 (r.num : Int), fun a ha => by rw [row_cell ha.1 (j := 0) rfl]; rfl, hK _ ?_⟩
  clear hK KC
  refine seq_take _ rfl (fun KC hK => ?_); go_simp
  refine ⟨.agg #[.int .i64 (r.num : Int), .int .i64 (r.ty : Int), .int .u64 (r.n : Int), .string X, .string ⟨r.raw.toArray⟩], fun a ha => by (have e0 := row_cell ha.1 (j := 0) rfl; have e1 := row_cell ha.1 (j := 1) rfl; have e2 := row_cell ha.1 (j := 2) rfl; have e3 := row_cell ha.1 (j := 3) rfl; have e4 := row_cell ha.1 (j := 4) rfl); simp only [e0, e1, e2, e3, e4, Result.andThen]; rfl, hK _ ?_⟩
  clear hK KC
  refine seq_take _ rfl (fun KC hK => ?_); go_simp
  refine ⟨.int .i64 D, fun a ha => by rw [row_cell ha.2 (j := 0) rfl]; rfl, hK _ ?_⟩
  clear hK KC
  (refine seq_take _ rfl (fun KC hK => ?_); go_simp; (first | refine hK _ ?_ | refine ⟨_, fun _ _ => rfl, hK _ ?_⟩); clear hK KC)
  have HT := Lib.hid (xrtake_any bx D r hUl hUes st P0 D0 hD hk hn64 hs hll hles hlsp hlsn (Lib.hid ((xrT bx).kept _ _ _ _ HR.out (Upd.of_new HBD.out))))
  unfold recV at HT
  rw [HX.out] at HT
  refine seq_come _ rfl (fun KC hK => ?_); go_simp
  refine HT.out.mono ?_; rintro e w1 ⟨hu, hcase⟩
  have hlt := (xrT bx).lt _ _ _ HR.out
  have hS1 : R2 rb #[.int .i64 (r.num : Int), .int .i64 (r.ty : Int), .int .u64 (r.n : Int), .string X, .string ⟨r.raw.toArray⟩] 61 bd #[.int .i64 D] 3 w1 := ⟨(hu.block rb (row_lt hS.1) (fun e => by have := hlt rb e; have := HRB.out; omega)).trans hS.1, (hu.block bd (row_lt hS.2) hn).trans hS.2⟩
  cases hst : xrF.step D st r with
  | error c =>
   rw [hst] at hcase
   obtain ⟨y, rfl, hec⟩ := hcase
   obtain ⟨T', z, rfl⟩ := hec.iface
   have HEC := Lib.hid hec
   have HU := Lib.hid hu
   clear hec hu hlt
   go_simp
   refine hK.out _ _ hS1 ?_; clear hK KC
   refine seq_come _ rfl (fun KC hK => ?_); go_simp
   refine (in_any _ _ _ _).mono ?_; rintro e w' ⟨rfl, rfl⟩
   go_simp
   refine hK.out _ _ (hS1.below (below_new _ _)) ?_; clear hK KC
   (refine seq_take _ rfl (fun KC hK => ?_); go_simp; (first | refine hK _ ?_ | refine ⟨_, fun _ _ => rfl, hK _ ?_⟩); clear hK KC)
   refine seq_done ?_
   go_wp2_with fail
   go_ret
   exact takepost_no hst (((Upd.of_new HBD.out).trans HU.out).trans (Upd.alloc _ _ _)) (ec_field HEC.out)
  | ok st' =>
   rw [hst] at hcase
   obtain ⟨rfl, P', hr, hp⟩ := hcase
   have HRL := Lib.hid hr
   have HP := Lib.hid hp
   have HU := Lib.hid hu
   clear hr hp hu hlt
   go_simp
   refine hK.out _ _ hS1 ?_; clear hK KC
   refine seq_come _ rfl (fun KC hK => ?_); go_simp
   refine (in_nil _ _).mono ?_; rintro e w' ⟨rfl, rfl⟩
   go_simp
   refine hK.out _ _ hS1 ?_; clear hK KC
   (refine seq_take _ rfl (fun KC hK => ?_); go_simp; (first | refine hK _ ?_ | refine ⟨_, fun _ _ => rfl, hK _ ?_⟩); clear hK KC)
   refine seq_done ?_
   go_wp2_with fail
   go_ret
   exact takepost_ok hst ((Upd.of_new HBD.out).trans HU.out) HRL.out (fun k hk => (HP.out k hk).imp id (fun h => Nat.le_trans HBD.out.size h))
theorem xr_len_l {d : Int} {pre : List Rec} {st : xrS} (h1 : ∀ x ∈ pre, IsRec d x) (h2 : mfold xrF.tk (xrF.step d) xrF.z pre = .ok st) (h3 : (pre.flatMap Rec.raw).length ≤ 500000) : st.1.length ≤ 1000000 := by
 have hi := mfold_tlen (d := d) 1000000 (xrF.inv d) (xrF_ok.go d) pre xrF.z st 0 h1 (xrF_ok.start d) (by have := tlen_le xrF.tk pre; omega) h2
 rw [Nat.zero_add] at hi
 have := tlen_le xrF.tk pre
 obtain ⟨s, t, q, i1, _⟩ := hi
 have := kv_len i1
 omega
theorem xr_len_es {d : Int} {pre : List Rec} {st : xrS} (h1 : ∀ x ∈ pre, IsRec d x) (h2 : mfold xrF.tk (xrF.step d) xrF.z pre = .ok st) (h3 : (pre.flatMap Rec.raw).length ≤ 500000) : st.2.2.2.2.2.2.2.2.2.2.1.length ≤ 1000000 := by
 have hi := mfold_tlen (d := d) 1000000 (xrF.inv d) (xrF_ok.go d) pre xrF.z st 0 h1 (xrF_ok.start d) (by have := tlen_le xrF.tk pre; omega) h2
 rw [Nat.zero_add] at hi
 have := tlen_le xrF.tk pre
 obtain ⟨s, t, q, _, ⟨sb, tb, qb, _, ⟨sbb, tbb, qbb, _, ⟨sbbb, tbbb, qbbb, _, ⟨sbbbb, tbbbb, qbbbb, _, ⟨sbbbbb, tbbbbb, qbbbbb, _, ⟨sbbbbbb, tbbbbbb, qbbbbbb, _, ⟨sbbbbbbb, tbbbbbbb, qbbbbbbb, _, ⟨sbbbbbbbb, tbbbbbbbb, qbbbbbbbb, _, ⟨sbbbbbbbbb, tbbbbbbbbb, qbbbbbbbbb, _, ⟨sbbbbbbbbbb, tbbbbbbbbbb, qbbbbbbbbbb, i1, _⟩⟩⟩⟩⟩⟩⟩⟩⟩⟩⟩ := hi
 have i2 : lwt exSb st.2.2.2.2.2.2.2.2.2.2.1 ≤ 51 * _ := i1.2
 have := exs_len st.2.2.2.2.2.2.2.2.2.2.1
 omega
theorem xr_len_sp {d : Int} {pre : List Rec} {st : xrS} (h1 : ∀ x ∈ pre, IsRec d x) (h2 : mfold xrF.tk (xrF.step d) xrF.z pre = .ok st) (h3 : (pre.flatMap Rec.raw).length ≤ 500000) : st.2.2.2.2.2.2.2.1.length ≤ 1000000 := by
 have hi := mfold_tlen (d := d) 1000000 (xrF.inv d) (xrF_ok.go d) pre xrF.z st 0 h1 (xrF_ok.start d) (by have := tlen_le xrF.tk pre; omega) h2
 rw [Nat.zero_add] at hi
 have := tlen_le xrF.tk pre
 obtain ⟨s, t, q, _, ⟨sb, tb, qb, _, ⟨sbb, tbb, qbb, _, ⟨sbbb, tbbb, qbbb, _, ⟨sbbbb, tbbbb, qbbbb, _, ⟨sbbbbb, tbbbbb, qbbbbb, _, ⟨sbbbbbb, tbbbbbb, qbbbbbb, _, ⟨sbbbbbbb, tbbbbbbb, qbbbbbbb, i1, _⟩⟩⟩⟩⟩⟩⟩⟩ := hi
 have i2 : st.2.2.2.2.2.2.2.1.flatten.length + st.2.2.2.2.2.2.2.1.length ≤ _ := i1
 omega
theorem xr_len_sn {d : Int} {pre : List Rec} {st : xrS} (h1 : ∀ x ∈ pre, IsRec d x) (h2 : mfold xrF.tk (xrF.step d) xrF.z pre = .ok st) (h3 : (pre.flatMap Rec.raw).length ≤ 500000) : st.2.2.2.2.2.2.2.2.1.length ≤ 1000000 := by
 have hi := mfold_tlen (d := d) 1000000 (xrF.inv d) (xrF_ok.go d) pre xrF.z st 0 h1 (xrF_ok.start d) (by have := tlen_le xrF.tk pre; omega) h2
 rw [Nat.zero_add] at hi
 have := tlen_le xrF.tk pre
 obtain ⟨s, t, q, _, ⟨sb, tb, qb, _, ⟨sbb, tbb, qbb, _, ⟨sbbb, tbbb, qbbb, _, ⟨sbbbb, tbbbb, qbbbb, _, ⟨sbbbbb, tbbbbb, qbbbbb, _, ⟨sbbbbbb, tbbbbbb, qbbbbbb, _, ⟨sbbbbbbb, tbbbbbbb, qbbbbbbb, _, ⟨sbbbbbbbb, tbbbbbbbb, qbbbbbbbb, i1, _⟩⟩⟩⟩⟩⟩⟩⟩⟩ := hi
 have i2 : st.2.2.2.2.2.2.2.2.1.flatten.length + st.2.2.2.2.2.2.2.2.1.length ≤ _ := i1
 omega
theorem xr_flat_sp {d : Int} {l u : List UInt8} {st : xrS} (hl : l.length ≤ 500000) (h : mread (σ := xrS) xrF.tk (xrF.step d) xrF.z l d = .ok (st, u)) : st.2.2.2.2.2.2.2.1.flatten.length ≤ 500000 ∧ st.2.2.2.2.2.2.2.1.length ≤ 500000 := by
 obtain ⟨h0, rs, h1, h2, h3, h4, h5⟩ := mread_inv h
 have h6 := tlen_munk xrF.tk rs
 rw [h4, ← h2] at h6
 have hi := mfold_tlen (d := d) 1000000 (xrF.inv d) (xrF_ok.go d) rs xrF.z st 0 h3 (xrF_ok.start d) (by omega) h1
 rw [Nat.zero_add] at hi
 obtain ⟨s, t, q, _, ⟨sb, tb, qb, _, ⟨sbb, tbb, qbb, _, ⟨sbbb, tbbb, qbbb, _, ⟨sbbbb, tbbbb, qbbbb, _, ⟨sbbbbb, tbbbbb, qbbbbb, _, ⟨sbbbbbb, tbbbbbb, qbbbbbb, _, ⟨sbbbbbbb, tbbbbbbb, qbbbbbbb, i1, _⟩⟩⟩⟩⟩⟩⟩⟩ := hi
 have i2 : st.2.2.2.2.2.2.2.1.flatten.length + st.2.2.2.2.2.2.2.1.length ≤ _ := i1
 omega
theorem xr_flat_sn {d : Int} {l u : List UInt8} {st : xrS} (hl : l.length ≤ 500000) (h : mread (σ := xrS) xrF.tk (xrF.step d) xrF.z l d = .ok (st, u)) : st.2.2.2.2.2.2.2.2.1.flatten.length ≤ 500000 ∧ st.2.2.2.2.2.2.2.2.1.length ≤ 500000 := by
 obtain ⟨h0, rs, h1, h2, h3, h4, h5⟩ := mread_inv h
 have h6 := tlen_munk xrF.tk rs
 rw [h4, ← h2] at h6
 have hi := mfold_tlen (d := d) 1000000 (xrF.inv d) (xrF_ok.go d) rs xrF.z st 0 h3 (xrF_ok.start d) (by omega) h1
 rw [Nat.zero_add] at hi
 obtain ⟨s, t, q, _, ⟨sb, tb, qb, _, ⟨sbb, tbb, qbb, _, ⟨sbbb, tbbb, qbbb, _, ⟨sbbbb, tbbbb, qbbbb, _, ⟨sbbbbb, tbbbbb, qbbbbb, _, ⟨sbbbbbb, tbbbbbb, qbbbbbb, _, ⟨sbbbbbbb, tbbbbbbb, qbbbbbbb, _, ⟨sbbbbbbbb, tbbbbbbbb, qbbbbbbbb, i1, _⟩⟩⟩⟩⟩⟩⟩⟩⟩ := hi
 have i2 : st.2.2.2.2.2.2.2.2.1.flatten.length + st.2.2.2.2.2.2.2.2.1.length ≤ _ := i1
 omega
theorem Fnl.and_no1 {A B : Fld} {N : Fnl A} {M : Fnl B} {d : Int} {s : A.σ} {t : B.σ} {c : Nat} (h : N.fin d s = .error c) : (N.and M).fin d (s, t) = .error c := by
 show (match N.fin d s with
  | .error c => .error c
  | .ok a => match M.fin d t with
   | .error c => .error c
   | .ok b => .ok (a, b)) = Except.error c
 rw [h]
theorem Fnl.and_no2 {A B : Fld} {N : Fnl A} {M : Fnl B} {d : Int} {s : A.σ} {t : B.σ} {a : N.τ} {c : Nat} (h1 : N.fin d s = .ok a) (h : M.fin d t = .error c) : (N.and M).fin d (s, t) = .error c := by
 show (match N.fin d s with
  | .error c => .error c
  | .ok a => match M.fin d t with
   | .error c => .error c
   | .ok b => .ok (a, b)) = Except.error c
 rw [h1]
 dsimp only
 rw [h]
def sideR (s : List (List UInt8)) (d : Int) : Except Nat (Bool × Bk × List UInt8) := (partN 8 bkSb (⟨0, []⟩, []) bkz).fin d s
theorem sideR_no {s : List (List UInt8)} {d : Int} {c : Nat} (h0 : s ≠ []) (h : bread s.flatten (d - 1) = .error c) : sideR s d = .error c := by
 unfold sideR partN
 dsimp only
 rw [if_neg h0, show bkSb.rd (d - 1) s.flatten = .error c from h]
theorem sideR_ok {s : List (List UInt8)} {d : Int} {x : Bk × List UInt8} (h0 : s ≠ []) (h : bread s.flatten (d - 1) = .ok x) : sideR s d = .ok (true, x) := by
 unfold sideR partN
 dsimp only
 rw [if_neg h0, show bkSb.rd (d - 1) s.flatten = .ok x from h]
def SidePost (ps : List (List UInt8)) (d : Int) (w : World) (e : Ending) (w' : World) : Prop := Below w.heap.size w w' ∧ match sideR ps d with
 | .error c => ∃ y, e = .returned (.tuple #[bukV ⟨0, []⟩ (.slice none 0 0) [], .bool false, y]) ∧ EW w' y 0 c
 | .ok (b, x, u) => ∃ vs, e = .returned (.tuple #[bukV x vs u, .bool b, .nilIface]) ∧ w'.ownsRow w.heap.size 24 1 vs x.cs.length (nats64 x.cs)
theorem side_post {ps : List (List UInt8)} {d : Int} {w : World} {e : Ending} {w' : World} (h : BWh ps (d - 1) w e w') : SidePost ps d w e w' := by
 obtain ⟨hb, h⟩ := h
 refine ⟨hb, ?_⟩
 by_cases h0 : ps = []
 ·rw [if_pos h0] at h
  subst h0
  exact h
 ·rw [if_neg h0] at h
  cases hr : bread ps.flatten (d - 1) with
  | error c =>
   rw [hr] at h
   rw [sideR_no h0 hr]
   exact h
  | ok x =>
   rw [hr] at h
   rw [sideR_ok h0 hr]
   exact h
theorem xp_fin_ok {d : Int} {l : List KV} {a : Nat} {t : Nat} {k : Nat} {bp : Bool} {vp : Nat} {sc : Int} {zc : Nat} {sp : List (List UInt8)} {sn : List (List UInt8)} {f : Nat} {es : List Ex} {bm : Bool} {vm : Nat} {bg : Bool} {vg : Nat} {th : Nat} {gp gn : Bool} {pb nb : Bk} {pu nu : List UInt8} (h1 : sideR sp d = .ok (gp, pb, pu)) (h2 : sideR sn d = .ok (gn, nb, nu)) : xpN.fin d (l, (a, (t, (k, ((bp, vp), (sc, (zc, (sp, (sn, (f, (es, ((bm, vm), ((bg, vg), th))))))))))))) = .ok (l, (a, (t, (k, ((bp, vp), (sc, (zc, ((gp, pb, pu), ((gn, nb, nu), (f, (es, ((bm, vm), ((bg, vg), th))))))))))))) := (Fnl.and_ok rfl (Fnl.and_ok rfl (Fnl.and_ok rfl (Fnl.and_ok rfl (Fnl.and_ok rfl (Fnl.and_ok rfl (Fnl.and_ok rfl (Fnl.and_ok h1 (Fnl.and_ok h2 (Fnl.and_ok rfl (Fnl.and_ok rfl (Fnl.and_ok rfl (Fnl.and_ok rfl rfl)))))))))))))
theorem xp_fin_no1 {d : Int} {l : List KV} {a : Nat} {t : Nat} {k : Nat} {bp : Bool} {vp : Nat} {sc : Int} {zc : Nat} {sp : List (List UInt8)} {sn : List (List UInt8)} {f : Nat} {es : List Ex} {bm : Bool} {vm : Nat} {bg : Bool} {vg : Nat} {th : Nat} {c : Nat} (h3 : sideR sp d = .error c) : xpN.fin d (l, (a, (t, (k, ((bp, vp), (sc, (zc, (sp, (sn, (f, (es, ((bm, vm), ((bg, vg), th))))))))))))) = .error c := (Fnl.and_no2 rfl (Fnl.and_no2 rfl (Fnl.and_no2 rfl (Fnl.and_no2 rfl (Fnl.and_no2 rfl (Fnl.and_no2 rfl (Fnl.and_no2 rfl (Fnl.and_no1 h3))))))))
theorem xp_fin_no2 {d : Int} {l : List KV} {a : Nat} {t : Nat} {k : Nat} {bp : Bool} {vp : Nat} {sc : Int} {zc : Nat} {sp : List (List UInt8)} {sn : List (List UInt8)} {f : Nat} {es : List Ex} {bm : Bool} {vm : Nat} {bg : Bool} {vg : Nat} {th : Nat} {p : Bool × Bk × List UInt8} {c : Nat} (h1 : sideR sp d = .ok p) (h3 : sideR sn d = .error c) : xpN.fin d (l, (a, (t, (k, ((bp, vp), (sc, (zc, (sp, (sn, (f, (es, ((bm, vm), ((bg, vg), th))))))))))))) = .error c := (Fnl.and_no2 rfl (Fnl.and_no2 rfl (Fnl.and_no2 rfl (Fnl.and_no2 rfl (Fnl.and_no2 rfl (Fnl.and_no2 rfl (Fnl.and_no2 rfl (Fnl.and_no2 h1 (Fnl.and_no1 h3)))))))))
theorem upd_setRow (w : World) (g : Nat) (cs : Array Value) : Upd (fun k => k = g) w (w.setRow g cs) :=
 ⟨rfl, rfl, rfl, by simp [World.setRow], fun k _ h => setRow_other w g k cs (fun e => h e)⟩
theorem unxp_if (X : ByteArray) (d : Int) (hUl : Hid (∀ r : Rec, (∀ rs, wall X.data.toList d = .ok rs → r ∈ rs) → r.num = 1 → UKey)) (hUes : Hid (∀ r : Rec, (∀ rs, wall X.data.toList d = .ok rs → r ∈ rs) → r.num = 11 → ExUn)) (w : World) (hX : X.size ≤ 500000) (hd : -9223372036854775808 ≤ d ∧ d ≤ 9223372036854775807) :
  Calls Tryz.prog 7 #[.string X, .int .i64 d] w (RdPost xpCel xpzero (xprd X.data.toList d) X.size w) := by
 have HE1 := enters_of Tryz.func21 (by kernel_rfl) rfl
 have HE2 := enters_of Tryz.func22 (by kernel_rfl) rfl
 obtain ⟨g, hg⟩ : ∃ g, w.heap.size = g := ⟨_, rfl⟩
 obtain ⟨W0, hW0⟩ : ∃ W0, ((w.alloc (.cells #[.int .i64 d] 3)).alloc (.cells #[.slice none 0 0, .int .u64 0, .int .u64 0, .int .u64 0, .bool false, .int .u64 0, .bool false, .int .u64 0, .bool false, .int .u64 0, .int .i32 0, .int .u64 0, .bool false, .int .i32 0, .slice none 0 0, .string ⟨#[]⟩, .bool false, .int .i32 0, .slice none 0 0, .string ⟨#[]⟩, .slice none 0 0, .int .u32 0, .int .u64 0, .string ⟨#[]⟩] 33)).alloc (.cells #[.slice none 0 0, .int .u64 0, .int .u64 0, .int .u64 0, .bool false, .int .u64 0, .bool false, .int .u64 0, .bool false, .int .u64 0, .int .i32 0, .int .u64 0, .bool false, .int .i32 0, .slice none 0 0, .string ⟨#[]⟩, .bool false, .int .i32 0, .slice none 0 0, .string ⟨#[]⟩, .slice none 0 0, .int .u32 0, .int .u64 0, .string ⟨#[]⟩, .slice none 0 0, .slice none 0 0] 57) = W0 := ⟨_, rfl⟩
 have HB0 : Hid (Below w.heap.size w W0) := Lib.hid (by rw [← hW0]; exact below_step (below_step (below_new _ _) (below_new _ _)) (below_new _ _))
 have h3 := new_three_c hg (.cells #[.int .i64 d] 3) (.cells #[.slice none 0 0, .int .u64 0, .int .u64 0, .int .u64 0, .bool false, .int .u64 0, .bool false, .int .u64 0, .bool false, .int .u64 0, .int .i32 0, .int .u64 0, .bool false, .int .i32 0, .slice none 0 0, .string ⟨#[]⟩, .bool false, .int .i32 0, .slice none 0 0, .string ⟨#[]⟩, .slice none 0 0, .int .u32 0, .int .u64 0, .string ⟨#[]⟩] 33) (.cells #[.slice none 0 0, .int .u64 0, .int .u64 0, .int .u64 0, .bool false, .int .u64 0, .bool false, .int .u64 0, .bool false, .int .u64 0, .int .i32 0, .int .u64 0, .bool false, .int .i32 0, .slice none 0 0, .string ⟨#[]⟩, .bool false, .int .i32 0, .slice none 0 0, .string ⟨#[]⟩, .slice none 0 0, .int .u32 0, .int .u64 0, .string ⟨#[]⟩, .slice none 0 0, .slice none 0 0] 57)
 rw [hW0] at h3
 have HD0 := Lib.hid h3.1
 have HR0 := Lib.hid h3.2.1
 have hcd : W0.cell? ⟨g, 0, none⟩ = some (.int .i64 d) := row_cell h3.1 (j := 0) rfl
 have htk : (capT (xrT (g + 2)) g d).rel xrF.z (fun k => (k = g + 2 ∨ False) ∨ k = g) W0 := ⟨fun k => k = g + 2 ∨ False, ⟨(.slice none 0 0, (.slice none 0 0, (.slice none 0 0, .slice none 0 0))), fun _ => False, h3.2.2, ltwo_nil (lone_nil rfl) (ltwo_nil (lone_nil rfl) (ltwo_nil (lone_nil rfl) (lone_nil rfl))), rfl⟩, by simp, h3.1, rfl⟩
 have HRD : Hid (Calls Tryz.prog 20 #[.string X, .int .i64 d, .func (.func 21) #[] #[], .func (.func 22) #[] #[.pointer (some ⟨g + 2, 0, none⟩), .pointer (some ⟨g, 0, none⟩)]] W0 (ReadPost (capT (xrT (g + 2)) g d) xrF.tk (xrF.step d) xrF.z (fun k => (k = g + 2 ∨ False) ∨ k = g) X d W0)) := Lib.hid (by
  by_cases h0 : d < 0
  ·refine (mread_neg _ _ _ X d W0 h0).mono ?_
   rintro e w' ⟨v, rfl, hb, he⟩
   refine ⟨Upd.of_new hb, ?_⟩
   have e6 : mread (σ := xrS) xrF.tk (xrF.step d) xrF.z X.data.toList d = .error 6 := by unfold mread; rw [if_pos h0]
   rw [e6]
   exact ⟨v, 0, rfl, Nat.zero_le _, he⟩
  ·exact mread_any (capT (xrT (g + 2)) g d) xrF.tk (xrF.step d) 21 22 #[.pointer (some ⟨g + 2, 0, none⟩), .pointer (some ⟨g, 0, none⟩)] xrF.z X d W0 (by omega) HE1 HE2 (fun r w _ => xrtakes_any r w) (fun r st P w hk hr hraw hmem hpre h => xrclo_any (g + 2) g d r (Lib.hid (fun h1 => hUl.out r hmem h1)) (Lib.hid (fun h1 => hUes.out r hmem h1)) st P w (by omega) hk (Lib.hid (isrec_facts hr).1) (by have := isrec_s hr; omega) (by obtain ⟨pre, h1, h2, h3⟩ := hpre; exact xr_len_l h1 h2 (by omega)) (by obtain ⟨pre, h1, h2, h3⟩ := hpre; exact xr_len_es h1 h2 (by omega)) (by obtain ⟨pre, h1, h2, h3⟩ := hpre; exact xr_len_sp h1 h2 (by omega)) (by obtain ⟨pre, h1, h2, h3⟩ := hpre; exact xr_len_sn h1 h2 (by omega)) (Lib.hid h)) _ htk)
 have HW0 := Lib.hid hW0
 have HGG := Lib.hid hg
 clear hW0 h3 htk HE1 HE2
 go_enter Tryz.func7, Tryz.ntmps7
 go_wp2_with fail
 rw [HW0.out]
 go_wp2_with fail
 refine HRD.out.mono ?_; intro e w1 hpost
 obtain ⟨hu, hcase⟩ := hpost
 have hu1 : Upd (fun k => k = g + 2 ∨ k = g) W0 w1 := hu.mono (fun k _ h => by
  rcases h with (h | h) | h
  ·exact .inl h
  ·exact h.elim
  ·exact .inr h)
 have HR1 : Hid (w1.heap[g + 1]? = some (.cells #[.slice none 0 0, .int .u64 0, .int .u64 0, .int .u64 0, .bool false, .int .u64 0, .bool false, .int .u64 0, .bool false, .int .u64 0, .int .i32 0, .int .u64 0, .bool false, .int .i32 0, .slice none 0 0, .string ⟨#[]⟩, .bool false, .int .i32 0, .slice none 0 0, .string ⟨#[]⟩, .slice none 0 0, .int .u32 0, .int .u64 0, .string ⟨#[]⟩] 33 (0, 0))) := Lib.hid ((hu1.block (g + 1) (row_lt HR0.out) (by omega)).trans HR0.out)
 have HB1 : Hid (Below w.heap.size w w1) := Lib.hid (HB0.out.trans (hu1.below (by have := HB0.out.size; omega) (fun k _ h => by omega)))
 clear hu hu1 hcd HRD
 cases hb : mread (σ := xrS) xrF.tk (xrF.step d) xrF.z X.data.toList d with
 | error c =>
  rw [hb] at hcase
  obtain ⟨v, q, rfl, hq, hew⟩ := hcase
  obtain ⟨T', y, rfl⟩ := hew.iface
  have HBR : Hid (xprd X.data.toList d = .error c) := Lib.hid (Fnl.rd_no1 hb)
  have HEW := Lib.hid hew
  have HQQ := Lib.hid hq
  clear hb hew hq
  go_upto_region 8 with fail
  refine wp_region_lit ?_
  refine wpList_plain rfl (fun K hK => ?_); go_simp; refine hK _ _ ?_; clear hK K
  refine wpList_plain rfl (fun K hK => ?_); go_simp; refine hK _ _ ?_; clear hK K
  refine wpList_store_row rfl 33 (.tmp 4) (.tmp 48) rfl (g + 1) #[.slice none 0 0, .int .u64 0, .int .u64 0, .int .u64 0, .bool false, .int .u64 0, .bool false, .int .u64 0, .bool false, .int .u64 0, .int .i32 0, .int .u64 0, .bool false, .int .i32 0, .slice none 0 0, .string ⟨#[]⟩, .bool false, .int .i32 0, .slice none 0 0, .string ⟨#[]⟩, .slice none 0 0, .int .u32 0, .int .u64 0, .string ⟨#[]⟩] rfl rfl 33 #[.slice none 0 0, .int .u64 0, .int .u64 0, .int .u64 0, .bool false, .int .u64 0, .bool false, .int .u64 0, .bool false, .int .u64 0, .int .i32 0, .int .u64 0, .bool false, .int .i32 0, .slice none 0 0, .string ⟨#[]⟩, .bool false, .int .i32 0, .slice none 0 0, .string ⟨#[]⟩, .slice none 0 0, .int .u32 0, .int .u64 0, .string ⟨#[]⟩] HR1.out (by kernel_rfl) rfl (by simp [Value.oneCell']) ?_
  have HS : Hid ((w1.setRow (g + 1) #[.slice none 0 0, .int .u64 0, .int .u64 0, .int .u64 0, .bool false, .int .u64 0, .bool false, .int .u64 0, .bool false, .int .u64 0, .int .i32 0, .int .u64 0, .bool false, .int .i32 0, .slice none 0 0, .string ⟨#[]⟩, .bool false, .int .i32 0, .slice none 0 0, .string ⟨#[]⟩, .slice none 0 0, .int .u32 0, .int .u64 0, .string ⟨#[]⟩]).heap[g + 1]? = some (.cells #[.slice none 0 0, .int .u64 0, .int .u64 0, .int .u64 0, .bool false, .int .u64 0, .bool false, .int .u64 0, .bool false, .int .u64 0, .int .i32 0, .int .u64 0, .bool false, .int .i32 0, .slice none 0 0, .string ⟨#[]⟩, .bool false, .int .i32 0, .slice none 0 0, .string ⟨#[]⟩, .slice none 0 0, .int .u32 0, .int .u64 0, .string ⟨#[]⟩] 33 (0, 0))) := Lib.hid (setRow_heap _ _ _ _ _ _ HR1.out)
  have HUS : Hid (Upd (fun k => k = g + 1) w1 (w1.setRow (g + 1) #[.slice none 0 0, .int .u64 0, .int .u64 0, .int .u64 0, .bool false, .int .u64 0, .bool false, .int .u64 0, .bool false, .int .u64 0, .int .i32 0, .int .u64 0, .bool false, .int .i32 0, .slice none 0 0, .string ⟨#[]⟩, .bool false, .int .i32 0, .slice none 0 0, .string ⟨#[]⟩, .slice none 0 0, .int .u32 0, .int .u64 0, .string ⟨#[]⟩])) := Lib.hid (upd_setRow _ _ _)
  obtain ⟨W6, hW6⟩ : ∃ W6, w1.setRow (g + 1) #[.slice none 0 0, .int .u64 0, .int .u64 0, .int .u64 0, .bool false, .int .u64 0, .bool false, .int .u64 0, .bool false, .int .u64 0, .int .i32 0, .int .u64 0, .bool false, .int .i32 0, .slice none 0 0, .string ⟨#[]⟩, .bool false, .int .i32 0, .slice none 0 0, .string ⟨#[]⟩, .slice none 0 0, .int .u32 0, .int .u64 0, .string ⟨#[]⟩] = W6 := ⟨_, rfl⟩
  rw [hW6] at HS HUS ⊢
  clear hW6
  go_wp2_with fail
  refine body_cell2v rfl rfl (run_loadVar_row W6 (g + 1) 33 33 _ (0, 0) _ HS.out Tryz.underlying33 rfl (by kernel_rfl)) rfl ?_
  refine ⟨HB1.out.trans (HUS.out.below (by have := HB1.out.size; omega) (fun k _ h => by have h : k = g + 1 := h; have := HGG.out; omega)), ?_⟩
  rw [HBR.out]
  obtain ⟨ws, he⟩ := HEW.out
  exact ⟨_, q, rfl, HQQ.out, ws, isErr_upd HUS.out (fun k hk b m e h => by have hk : k = g + 1 := hk; subst hk; rw [HR1.out] at h; simp at h) he⟩
 | ok xu =>
  obtain ⟨st, u⟩ := xu
  rw [hb] at hcase
  obtain ⟨rfl, P', ⟨P0, ⟨v, P1, h1, h2, rfl⟩, h3, h4, rfl⟩, hp⟩ := hcase
  obtain ⟨hfp, hlp⟩ := xr_flat_sp (by simpa using hX) hb
  obtain ⟨hfn, hln⟩ := xr_flat_sn (by simpa using hX) hb
  obtain ⟨l, ⟨a, ⟨t, ⟨k, ⟨⟨bp, vp⟩, ⟨sc, ⟨zc, ⟨sp, ⟨sn, ⟨f, ⟨es, ⟨⟨bm, vm⟩, ⟨⟨bg, vg⟩, th⟩⟩⟩⟩⟩⟩⟩⟩⟩⟩⟩⟩⟩ := st
  obtain ⟨vl, ves, vsp, vsn⟩ := v
  have HB : Hid (mread (σ := xrS) xrF.tk (xrF.step d) xrF.z X.data.toList d = .ok ((l, (a, (t, (k, ((bp, vp), (sc, (zc, (sp, (sn, (f, (es, ((bm, vm), ((bg, vg), th))))))))))))), u)) := Lib.hid hb
  obtain ⟨Q0a, Q0b, r0, h2, _, rfl⟩ := h2
  have r0 : LsAt kcel 79 (g + 2 + 1) vl l _ w1 := r0
  have HLT0 := Lib.hid (LsAt.lt r0)
  obtain ⟨css, Q, g2, g3, g4, g5, rfl⟩ := r0
  obtain ⟨lo, lc, rfl⟩ := own_slice g2
  have HRL0 := Lib.hid (KRel_own g2 g3 (P := fun k => g + 3 ≤ k) (fun j a1 a2 => KRel.upd (Upd.refl (fun _ => False) w1) (fun _ _ h => h) (fun k hk => (g5 k hk).2.1) _ _ (g4 j a1 a2)) (fun k hk => (g2.lt k hk).1))
  clear g2 g3 g4 g5
  obtain ⟨Q1a, Q1b, r1, h2, _, rfl⟩ := h2
  have r1 : LsAt exCel 84 (g + 2 + 1) ves es _ w1 := r1
  have HLT1 := Lib.hid (LsAt.lt r1)
  obtain ⟨eo, ec, rfl⟩ : ∃ ao cap, ves = .slice ao es.length cap := by obtain ⟨_, _, g2, _⟩ := r1; exact own_slice g2
  have HRL1 := Lib.hid (CRels.of_ls r1)
  clear r1
  obtain ⟨Q2a, Q2b, r2, h2, _, rfl⟩ := h2
  have r2 : LsAt strCel 9 (g + 2 + 1) vsp sp _ w1 := r2
  obtain ⟨spo, spc, rfl⟩ : ∃ ao cap, vsp = .slice ao sp.length cap := by obtain ⟨_, _, g2, _⟩ := r2; exact own_slice g2
  have HSP := Lib.hid (ls_strs r2).1
  have h2 : LsAt strCel 9 (g + 2 + 1) vsn sn _ w1 := h2
  obtain ⟨sno, snc, rfl⟩ : ∃ ao cap, vsn = .slice ao sn.length cap := by obtain ⟨_, _, g2, _⟩ := h2; exact own_slice g2
  have HSN := Lib.hid (ls_strs h2).1
  clear r2
  have HD1 : Hid (w1.heap[g]? = some (.cells #[.int .i64 d] 3 (0, 0))) := Lib.hid h4
  obtain ⟨Xu, hU⟩ : ∃ U : ByteArray, (⟨u.toArray⟩ : ByteArray) = U := ⟨_, rfl⟩
  have HUU := Lib.hid hU
  rw [hU]
  have HX1 : Hid (w1.heap[g + 2]? = some (.cells #[.slice lo l.length lc, .int .u64 (a : Int), .int .u64 (t : Int), .int .u64 (k : Int), .bool bp, .int .u64 (vp : Int), .bool bm, .int .u64 (vm : Int), .bool bg, .int .u64 (vg : Int), .int .i32 sc, .int .u64 (zc : Int), .bool false, .int .i32 0, .slice none 0 0, .string ⟨#[]⟩, .bool false, .int .i32 0, .slice none 0 0, .string ⟨#[]⟩, .slice eo es.length ec, .int .u32 (f : Int), .int .u64 (th : Int), .string ⟨#[]⟩, .slice spo sp.length spc, .slice sno sn.length snc] 57 (0, 0))) := Lib.hid h1
  have HFP := Lib.hid hfp
  have HLP := Lib.hid hlp
  have HFN := Lib.hid hfn
  have HLN := Lib.hid hln
  have hdc : w1.cell? ⟨g, 0, none⟩ = some (.int .i64 d) := row_cell HD1.out (j := 0) rfl
  have hpc : w1.cell? ⟨g + 2, 24, none⟩ = some (.slice spo sp.length spc) := row_cell HX1.out (j := 24) rfl
  have h0 : 0 ≤ d := by obtain ⟨h0, _⟩ := mread_inv hb; exact h0
  have q1 : IntKind.i64.wrap (d - 1) = d - 1 := IntWalk.i64_in _ (by omega)
  clear hb h1 h2 h3 h4 hp hU hfp hlp hfn hln h0
  go_wp2_with fail
  refine (bwhole_any 8 (d - 1) (.slice spo sp.length spc) sp (g + 2 + 1) w1 HSP (by have := HLP.out; omega) (by have := HFP.out; omega)).mono ?_; intro e w2 hpost
  obtain ⟨hb2, hcase⟩ := side_post hpost
  have HB2 := Lib.hid (below_step HB1.out hb2)
  have HBW := Lib.hid hb2
  have HR2 : Hid (w2.heap[g + 1]? = some (.cells #[.slice none 0 0, .int .u64 0, .int .u64 0, .int .u64 0, .bool false, .int .u64 0, .bool false, .int .u64 0, .bool false, .int .u64 0, .int .i32 0, .int .u64 0, .bool false, .int .i32 0, .slice none 0 0, .string ⟨#[]⟩, .bool false, .int .i32 0, .slice none 0 0, .string ⟨#[]⟩, .slice none 0 0, .int .u32 0, .int .u64 0, .string ⟨#[]⟩] 33 (0, 0))) := Lib.hid ((hb2.block _ (row_lt HR1.out)).trans HR1.out)
  have HX2 : Hid (w2.heap[g + 2]? = some (.cells #[.slice lo l.length lc, .int .u64 (a : Int), .int .u64 (t : Int), .int .u64 (k : Int), .bool bp, .int .u64 (vp : Int), .bool bm, .int .u64 (vm : Int), .bool bg, .int .u64 (vg : Int), .int .i32 sc, .int .u64 (zc : Int), .bool false, .int .i32 0, .slice none 0 0, .string ⟨#[]⟩, .bool false, .int .i32 0, .slice none 0 0, .string ⟨#[]⟩, .slice eo es.length ec, .int .u32 (f : Int), .int .u64 (th : Int), .string ⟨#[]⟩, .slice spo sp.length spc, .slice sno sn.length snc] 57 (0, 0))) := Lib.hid ((hb2.block _ (row_lt HX1.out)).trans HX1.out)
  have HD2 : Hid (w2.heap[g]? = some (.cells #[.int .i64 d] 3 (0, 0))) := Lib.hid ((hb2.block _ (row_lt HD1.out)).trans HD1.out)
  have HSN2 := Lib.hid (own_below HSN.out hb2)
  have HS1 : Hid (g + 2 < w1.heap.size) := Lib.hid (row_lt HX1.out)
  clear hb2 hdc hpc
  have hdc : w2.cell? ⟨g, 0, none⟩ = some (.int .i64 d) := row_cell HD2.out (j := 0) rfl
  have hpc : w2.cell? ⟨g + 2, 25, none⟩ = some (.slice sno sn.length snc) := row_cell HX2.out (j := 25) rfl
  have hc12 : w2.cell? ⟨g + 2, 12, none⟩ = some (.bool false) := row_cell HX2.out (j := 12) rfl
  have hf12 : w2.frozen? ⟨g + 2, 12, none⟩ = false := row_thaw HX2.out 12
  have hc13 : w2.cell? ⟨g + 2, 13, none⟩ = some (.int .i32 0) := row_cell HX2.out (j := 13) rfl
  have hf13 : w2.frozen? ⟨g + 2, 13, none⟩ = false := row_thaw HX2.out 13
  have hc14 : w2.cell? ⟨g + 2, 14, none⟩ = some (.slice none 0 0) := row_cell HX2.out (j := 14) rfl
  have hf14 : w2.frozen? ⟨g + 2, 14, none⟩ = false := row_thaw HX2.out 14
  have hc15 : w2.cell? ⟨g + 2, 15, none⟩ = some (.string ⟨#[]⟩) := row_cell HX2.out (j := 15) rfl
  have hf15 : w2.frozen? ⟨g + 2, 15, none⟩ = false := row_thaw HX2.out 15
  cases hs1 : sideR sp d with
  | error c =>
   rw [hs1] at hcase
   obtain ⟨y', rfl, hew⟩ := hcase
   obtain ⟨T', y, rfl⟩ := hew.iface
   have HBR : Hid (xprd X.data.toList d = .error c) := Lib.hid (Fnl.rd_no2 HB.out (xp_fin_no1 hs1))
   have HEW := Lib.hid hew
   clear hew hs1
   unfold bukV
   go_upto_region 5 with fail
   obtain ⟨W3, hW3⟩ : ∃ W3, ((((w2.setCell ⟨g + 2, 13, none⟩ (.int .i32 0)).setCell ⟨g + 2, 14, none⟩ (.slice none 0 0)).setCell ⟨g + 2, 15, none⟩ (.string ⟨#[]⟩)).setCell ⟨g + 2, 12, none⟩ (.bool false)) = W3 := ⟨_, rfl⟩
   have hu3 : Upd (fun k => k = g + 2) w2 W3 := by
    rw [← hW3]
    exact (((Upd.set w2 ⟨g + 2, 13, none⟩ _).trans (Upd.set _ ⟨g + 2, 14, none⟩ _)).trans (Upd.set _ ⟨g + 2, 15, none⟩ _)).trans (Upd.set _ ⟨g + 2, 12, none⟩ _)
   have HR3 : Hid (W3.heap[g + 1]? = some (.cells #[.slice none 0 0, .int .u64 0, .int .u64 0, .int .u64 0, .bool false, .int .u64 0, .bool false, .int .u64 0, .bool false, .int .u64 0, .int .i32 0, .int .u64 0, .bool false, .int .i32 0, .slice none 0 0, .string ⟨#[]⟩, .bool false, .int .i32 0, .slice none 0 0, .string ⟨#[]⟩, .slice none 0 0, .int .u32 0, .int .u64 0, .string ⟨#[]⟩] 33 (0, 0))) := Lib.hid ((hu3.block _ (row_lt HR2.out) (by omega)).trans HR2.out)
   have HB3 : Hid (Below w.heap.size w W3) := Lib.hid (HB2.out.trans (hu3.below HB2.out.size (fun k _ h => by have h : k = g + 2 := h; have := HGG.out; omega)))
   have HEW3 : Hid (EW W3 (.iface T' y) 0 c) := Lib.hid (by
    obtain ⟨ws, he⟩ := HEW.out
    exact ⟨ws, isErr_upd hu3 (fun k hk b m e h => by have hk : k = g + 2 := hk; subst hk; rw [HX2.out] at h; simp at h) he⟩)
   rw [hW3]
   clear hW3 hu3 hdc hpc hc12 hf12 hc13 hf13 hc14 hf14 hc15 hf15
   go_upto_region 8 with fail
   refine wp_region_lit ?_
   refine wpList_plain rfl (fun K hK => ?_); go_simp; refine hK _ _ ?_; clear hK K
   refine wpList_plain rfl (fun K hK => ?_); go_simp; refine hK _ _ ?_; clear hK K
   refine wpList_store_row rfl 33 (.tmp 4) (.tmp 48) rfl (g + 1) #[.slice none 0 0, .int .u64 0, .int .u64 0, .int .u64 0, .bool false, .int .u64 0, .bool false, .int .u64 0, .bool false, .int .u64 0, .int .i32 0, .int .u64 0, .bool false, .int .i32 0, .slice none 0 0, .string ⟨#[]⟩, .bool false, .int .i32 0, .slice none 0 0, .string ⟨#[]⟩, .slice none 0 0, .int .u32 0, .int .u64 0, .string ⟨#[]⟩] rfl rfl 33 #[.slice none 0 0, .int .u64 0, .int .u64 0, .int .u64 0, .bool false, .int .u64 0, .bool false, .int .u64 0, .bool false, .int .u64 0, .int .i32 0, .int .u64 0, .bool false, .int .i32 0, .slice none 0 0, .string ⟨#[]⟩, .bool false, .int .i32 0, .slice none 0 0, .string ⟨#[]⟩, .slice none 0 0, .int .u32 0, .int .u64 0, .string ⟨#[]⟩] HR3.out (by kernel_rfl) rfl (by simp [Value.oneCell']) ?_
   have HS : Hid ((W3.setRow (g + 1) #[.slice none 0 0, .int .u64 0, .int .u64 0, .int .u64 0, .bool false, .int .u64 0, .bool false, .int .u64 0, .bool false, .int .u64 0, .int .i32 0, .int .u64 0, .bool false, .int .i32 0, .slice none 0 0, .string ⟨#[]⟩, .bool false, .int .i32 0, .slice none 0 0, .string ⟨#[]⟩, .slice none 0 0, .int .u32 0, .int .u64 0, .string ⟨#[]⟩]).heap[g + 1]? = some (.cells #[.slice none 0 0, .int .u64 0, .int .u64 0, .int .u64 0, .bool false, .int .u64 0, .bool false, .int .u64 0, .bool false, .int .u64 0, .int .i32 0, .int .u64 0, .bool false, .int .i32 0, .slice none 0 0, .string ⟨#[]⟩, .bool false, .int .i32 0, .slice none 0 0, .string ⟨#[]⟩, .slice none 0 0, .int .u32 0, .int .u64 0, .string ⟨#[]⟩] 33 (0, 0))) := Lib.hid (setRow_heap _ _ _ _ _ _ HR3.out)
   have HUS : Hid (Upd (fun k => k = g + 1) W3 (W3.setRow (g + 1) #[.slice none 0 0, .int .u64 0, .int .u64 0, .int .u64 0, .bool false, .int .u64 0, .bool false, .int .u64 0, .bool false, .int .u64 0, .int .i32 0, .int .u64 0, .bool false, .int .i32 0, .slice none 0 0, .string ⟨#[]⟩, .bool false, .int .i32 0, .slice none 0 0, .string ⟨#[]⟩, .slice none 0 0, .int .u32 0, .int .u64 0, .string ⟨#[]⟩])) := Lib.hid (upd_setRow _ _ _)
   obtain ⟨W6, hW6⟩ : ∃ W6, W3.setRow (g + 1) #[.slice none 0 0, .int .u64 0, .int .u64 0, .int .u64 0, .bool false, .int .u64 0, .bool false, .int .u64 0, .bool false, .int .u64 0, .int .i32 0, .int .u64 0, .bool false, .int .i32 0, .slice none 0 0, .string ⟨#[]⟩, .bool false, .int .i32 0, .slice none 0 0, .string ⟨#[]⟩, .slice none 0 0, .int .u32 0, .int .u64 0, .string ⟨#[]⟩] = W6 := ⟨_, rfl⟩
   rw [hW6] at HS HUS ⊢
   clear hW6
   go_wp2_with fail
   refine body_cell2v rfl rfl (run_loadVar_row W6 (g + 1) 33 33 _ (0, 0) _ HS.out Tryz.underlying33 rfl (by kernel_rfl)) rfl ?_
   refine ⟨HB3.out.trans (HUS.out.below (by have := HB3.out.size; omega) (fun k _ h => by have h : k = g + 1 := h; have := HGG.out; omega)), ?_⟩
   rw [HBR.out]
   obtain ⟨ws, he⟩ := HEW3.out
   exact ⟨_, 0, rfl, Nat.zero_le _, ws, isErr_upd HUS.out (fun k hk b m e h => by have hk : k = g + 1 := hk; subst hk; rw [HR3.out] at h; simp at h) he⟩
  | ok p =>
   obtain ⟨gp, pb, pu⟩ := p
   rw [hs1] at hcase
   obtain ⟨vs, rfl, ho⟩ := hcase
   obtain ⟨po, pc, rfl⟩ := own_slice ho
   have HS1E := Lib.hid hs1
   have HOP := Lib.hid ho
   obtain ⟨Xpu, hXpu⟩ : ∃ U : ByteArray, (⟨pu.toArray⟩ : ByteArray) = U := ⟨_, rfl⟩
   have HXPU := Lib.hid hXpu
   unfold bukV
   rw [hXpu]
   clear hs1 ho hXpu
   go_wp2_with fail
   obtain ⟨W3, hW3⟩ : ∃ W3, ((((w2.setCell ⟨g + 2, 13, none⟩ (.int .i32 pb.off)).setCell ⟨g + 2, 14, none⟩ (.slice po pb.cs.length pc)).setCell ⟨g + 2, 15, none⟩ (.string Xpu)).setCell ⟨g + 2, 12, none⟩ (.bool gp)) = W3 := ⟨_, rfl⟩
   have hu3 : Upd (fun k => k = g + 2) w2 W3 := by
    rw [← hW3]
    exact (((Upd.set w2 ⟨g + 2, 13, none⟩ _).trans (Upd.set _ ⟨g + 2, 14, none⟩ _)).trans (Upd.set _ ⟨g + 2, 15, none⟩ _)).trans (Upd.set _ ⟨g + 2, 12, none⟩ _)
   have HU3 := Lib.hid hu3
   have HX3 : Hid (W3.heap[g + 2]? = some (.cells #[.slice lo l.length lc, .int .u64 (a : Int), .int .u64 (t : Int), .int .u64 (k : Int), .bool bp, .int .u64 (vp : Int), .bool bm, .int .u64 (vm : Int), .bool bg, .int .u64 (vg : Int), .int .i32 sc, .int .u64 (zc : Int), .bool gp, .int .i32 pb.off, .slice po pb.cs.length pc, .string Xpu, .bool false, .int .i32 0, .slice none 0 0, .string ⟨#[]⟩, .slice eo es.length ec, .int .u32 (f : Int), .int .u64 (th : Int), .string ⟨#[]⟩, .slice spo sp.length spc, .slice sno sn.length snc] 57 (0, 0))) := Lib.hid (by
    rw [← hW3]
    exact row_set (row_set (row_set (row_set HX2.out 13 _) 14 _) 15 _) 12 _)
   have HR3 : Hid (W3.heap[g + 1]? = some (.cells #[.slice none 0 0, .int .u64 0, .int .u64 0, .int .u64 0, .bool false, .int .u64 0, .bool false, .int .u64 0, .bool false, .int .u64 0, .int .i32 0, .int .u64 0, .bool false, .int .i32 0, .slice none 0 0, .string ⟨#[]⟩, .bool false, .int .i32 0, .slice none 0 0, .string ⟨#[]⟩, .slice none 0 0, .int .u32 0, .int .u64 0, .string ⟨#[]⟩] 33 (0, 0))) := Lib.hid ((hu3.block _ (row_lt HR2.out) (by omega)).trans HR2.out)
   have HB3 : Hid (Below w.heap.size w W3) := Lib.hid (HB2.out.trans (hu3.below HB2.out.size (fun k _ h => by have h : k = g + 2 := h; have := HGG.out; omega)))
   have HSN3 := Lib.hid (hu3.own HSN2.out (fun k hk e => by have e : k = g + 2 := e; have := (HSN2.out.lt k hk).1; omega))
   rw [hW3]
   clear hW3 hu3 hdc hpc hc12 hf12 hc13 hf13 hc14 hf14 hc15 hf15
   refine (bwhole_any 9 (d - 1) (.slice sno sn.length snc) sn (g + 2 + 1) W3 HSN3 (by have := HLN.out; omega) (by have := HFN.out; omega)).mono ?_; intro e w4 hpost
   obtain ⟨hb4, hcase⟩ := side_post hpost
   have HB4 := Lib.hid (below_step HB3.out hb4)
   have HBV := Lib.hid hb4
   have HR4 : Hid (w4.heap[g + 1]? = some (.cells #[.slice none 0 0, .int .u64 0, .int .u64 0, .int .u64 0, .bool false, .int .u64 0, .bool false, .int .u64 0, .bool false, .int .u64 0, .int .i32 0, .int .u64 0, .bool false, .int .i32 0, .slice none 0 0, .string ⟨#[]⟩, .bool false, .int .i32 0, .slice none 0 0, .string ⟨#[]⟩, .slice none 0 0, .int .u32 0, .int .u64 0, .string ⟨#[]⟩] 33 (0, 0))) := Lib.hid ((hb4.block _ (row_lt HR3.out)).trans HR3.out)
   have HX4 : Hid (w4.heap[g + 2]? = some (.cells #[.slice lo l.length lc, .int .u64 (a : Int), .int .u64 (t : Int), .int .u64 (k : Int), .bool bp, .int .u64 (vp : Int), .bool bm, .int .u64 (vm : Int), .bool bg, .int .u64 (vg : Int), .int .i32 sc, .int .u64 (zc : Int), .bool gp, .int .i32 pb.off, .slice po pb.cs.length pc, .string Xpu, .bool false, .int .i32 0, .slice none 0 0, .string ⟨#[]⟩, .slice eo es.length ec, .int .u32 (f : Int), .int .u64 (th : Int), .string ⟨#[]⟩, .slice spo sp.length spc, .slice sno sn.length snc] 57 (0, 0))) := Lib.hid ((hb4.block _ (row_lt HX3.out)).trans HX3.out)
   have HS3 : Hid (g + 2 < W3.heap.size) := Lib.hid (row_lt HX3.out)
   clear hb4
   have hc16 : w4.cell? ⟨g + 2, 16, none⟩ = some (.bool false) := row_cell HX4.out (j := 16) rfl
   have hf16 : w4.frozen? ⟨g + 2, 16, none⟩ = false := row_thaw HX4.out 16
   have hc17 : w4.cell? ⟨g + 2, 17, none⟩ = some (.int .i32 0) := row_cell HX4.out (j := 17) rfl
   have hf17 : w4.frozen? ⟨g + 2, 17, none⟩ = false := row_thaw HX4.out 17
   have hc18 : w4.cell? ⟨g + 2, 18, none⟩ = some (.slice none 0 0) := row_cell HX4.out (j := 18) rfl
   have hf18 : w4.frozen? ⟨g + 2, 18, none⟩ = false := row_thaw HX4.out 18
   have hc19 : w4.cell? ⟨g + 2, 19, none⟩ = some (.string ⟨#[]⟩) := row_cell HX4.out (j := 19) rfl
   have hf19 : w4.frozen? ⟨g + 2, 19, none⟩ = false := row_thaw HX4.out 19
   cases hs2 : sideR sn d with
   | error c =>
    rw [hs2] at hcase
    obtain ⟨y', rfl, hew⟩ := hcase
    obtain ⟨T', y, rfl⟩ := hew.iface
    have HBR : Hid (xprd X.data.toList d = .error c) := Lib.hid (Fnl.rd_no2 HB.out (xp_fin_no2 HS1E.out hs2))
    have HEW := Lib.hid hew
    clear hew hs2
    unfold bukV
    go_upto_region 7 with fail
    obtain ⟨W5, hW5⟩ : ∃ W3, ((((w4.setCell ⟨g + 2, 17, none⟩ (.int .i32 0)).setCell ⟨g + 2, 18, none⟩ (.slice none 0 0)).setCell ⟨g + 2, 19, none⟩ (.string ⟨#[]⟩)).setCell ⟨g + 2, 16, none⟩ (.bool false)) = W3 := ⟨_, rfl⟩
    have hu5 : Upd (fun k => k = g + 2) w4 W5 := by
     rw [← hW5]
     exact (((Upd.set w4 ⟨g + 2, 17, none⟩ _).trans (Upd.set _ ⟨g + 2, 18, none⟩ _)).trans (Upd.set _ ⟨g + 2, 19, none⟩ _)).trans (Upd.set _ ⟨g + 2, 16, none⟩ _)
    have HR5 : Hid (W5.heap[g + 1]? = some (.cells #[.slice none 0 0, .int .u64 0, .int .u64 0, .int .u64 0, .bool false, .int .u64 0, .bool false, .int .u64 0, .bool false, .int .u64 0, .int .i32 0, .int .u64 0, .bool false, .int .i32 0, .slice none 0 0, .string ⟨#[]⟩, .bool false, .int .i32 0, .slice none 0 0, .string ⟨#[]⟩, .slice none 0 0, .int .u32 0, .int .u64 0, .string ⟨#[]⟩] 33 (0, 0))) := Lib.hid ((hu5.block _ (row_lt HR4.out) (by omega)).trans HR4.out)
    have HB5 : Hid (Below w.heap.size w W5) := Lib.hid (HB4.out.trans (hu5.below HB4.out.size (fun k _ h => by have h : k = g + 2 := h; have := HGG.out; omega)))
    have HEW5 : Hid (EW W5 (.iface T' y) 0 c) := Lib.hid (by
     obtain ⟨ws, he⟩ := HEW.out
     exact ⟨ws, isErr_upd hu5 (fun k hk b m e h => by have hk : k = g + 2 := hk; subst hk; rw [HX4.out] at h; simp at h) he⟩)
    rw [hW5]
    clear hW5 hu5 hc16 hf16 hc17 hf17 hc18 hf18 hc19 hf19
    go_upto_region 8 with fail
    refine wp_region_lit ?_
    refine wpList_plain rfl (fun K hK => ?_); go_simp; refine hK _ _ ?_; clear hK K
    refine wpList_plain rfl (fun K hK => ?_); go_simp; refine hK _ _ ?_; clear hK K
    refine wpList_store_row rfl 33 (.tmp 4) (.tmp 48) rfl (g + 1) #[.slice none 0 0, .int .u64 0, .int .u64 0, .int .u64 0, .bool false, .int .u64 0, .bool false, .int .u64 0, .bool false, .int .u64 0, .int .i32 0, .int .u64 0, .bool false, .int .i32 0, .slice none 0 0, .string ⟨#[]⟩, .bool false, .int .i32 0, .slice none 0 0, .string ⟨#[]⟩, .slice none 0 0, .int .u32 0, .int .u64 0, .string ⟨#[]⟩] rfl rfl 33 #[.slice none 0 0, .int .u64 0, .int .u64 0, .int .u64 0, .bool false, .int .u64 0, .bool false, .int .u64 0, .bool false, .int .u64 0, .int .i32 0, .int .u64 0, .bool false, .int .i32 0, .slice none 0 0, .string ⟨#[]⟩, .bool false, .int .i32 0, .slice none 0 0, .string ⟨#[]⟩, .slice none 0 0, .int .u32 0, .int .u64 0, .string ⟨#[]⟩] HR5.out (by kernel_rfl) rfl (by simp [Value.oneCell']) ?_
    have HS : Hid ((W5.setRow (g + 1) #[.slice none 0 0, .int .u64 0, .int .u64 0, .int .u64 0, .bool false, .int .u64 0, .bool false, .int .u64 0, .bool false, .int .u64 0, .int .i32 0, .int .u64 0, .bool false, .int .i32 0, .slice none 0 0, .string ⟨#[]⟩, .bool false, .int .i32 0, .slice none 0 0, .string ⟨#[]⟩, .slice none 0 0, .int .u32 0, .int .u64 0, .string ⟨#[]⟩]).heap[g + 1]? = some (.cells #[.slice none 0 0, .int .u64 0, .int .u64 0, .int .u64 0, .bool false, .int .u64 0, .bool false, .int .u64 0, .bool false, .int .u64 0, .int .i32 0, .int .u64 0, .bool false, .int .i32 0, .slice none 0 0, .string ⟨#[]⟩, .bool false, .int .i32 0, .slice none 0 0, .string ⟨#[]⟩, .slice none 0 0, .int .u32 0, .int .u64 0, .string ⟨#[]⟩] 33 (0, 0))) := Lib.hid (setRow_heap _ _ _ _ _ _ HR5.out)
    have HUS : Hid (Upd (fun k => k = g + 1) W5 (W5.setRow (g + 1) #[.slice none 0 0, .int .u64 0, .int .u64 0, .int .u64 0, .bool false, .int .u64 0, .bool false, .int .u64 0, .bool false, .int .u64 0, .int .i32 0, .int .u64 0, .bool false, .int .i32 0, .slice none 0 0, .string ⟨#[]⟩, .bool false, .int .i32 0, .slice none 0 0, .string ⟨#[]⟩, .slice none 0 0, .int .u32 0, .int .u64 0, .string ⟨#[]⟩])) := Lib.hid (upd_setRow _ _ _)
    obtain ⟨W6, hW6⟩ : ∃ W6, W5.setRow (g + 1) #[.slice none 0 0, .int .u64 0, .int .u64 0, .int .u64 0, .bool false, .int .u64 0, .bool false, .int .u64 0, .bool false, .int .u64 0, .int .i32 0, .int .u64 0, .bool false, .int .i32 0, .slice none 0 0, .string ⟨#[]⟩, .bool false, .int .i32 0, .slice none 0 0, .string ⟨#[]⟩, .slice none 0 0, .int .u32 0, .int .u64 0, .string ⟨#[]⟩] = W6 := ⟨_, rfl⟩
    rw [hW6] at HS HUS ⊢
    clear hW6
    go_wp2_with fail
    refine body_cell2v rfl rfl (run_loadVar_row W6 (g + 1) 33 33 _ (0, 0) _ HS.out Tryz.underlying33 rfl (by kernel_rfl)) rfl ?_
    refine ⟨HB5.out.trans (HUS.out.below (by have := HB5.out.size; omega) (fun k _ h => by have h : k = g + 1 := h; have := HGG.out; omega)), ?_⟩
    rw [HBR.out]
    obtain ⟨ws, he⟩ := HEW5.out
    exact ⟨_, 0, rfl, Nat.zero_le _, ws, isErr_upd HUS.out (fun k hk b m e h => by have hk : k = g + 1 := hk; subst hk; rw [HR5.out] at h; simp at h) he⟩
   | ok p =>
    obtain ⟨gn, nb, nu⟩ := p
    rw [hs2] at hcase
    obtain ⟨vs, rfl, ho⟩ := hcase
    obtain ⟨no, nc, rfl⟩ := own_slice ho
    have HBR : Hid (xprd X.data.toList d = .ok ((l, (a, (t, (k, ((bp, vp), (sc, (zc, ((gp, pb, pu), ((gn, nb, nu), (f, (es, ((bm, vm), ((bg, vg), th))))))))))))), u)) := Lib.hid (Fnl.rd_ok HB.out (xp_fin_ok HS1E.out hs2))
    have HON := Lib.hid ho
    obtain ⟨Xnu, hXnu⟩ : ∃ U : ByteArray, (⟨nu.toArray⟩ : ByteArray) = U := ⟨_, rfl⟩
    have HXNU := Lib.hid hXnu
    unfold bukV
    rw [hXnu]
    have hf23 : w4.frozen? ⟨g + 2, 23, none⟩ = false := row_thaw HX4.out 23
    have hc23 : w4.cell? ⟨g + 2, 23, none⟩ = some (.string ⟨#[]⟩) := row_cell HX4.out (j := 23) rfl
    clear hs2 ho hXnu
    go_upto_region 10 with fail
    obtain ⟨W5, hW5⟩ : ∃ W5, (((((w4.setCell ⟨g + 2, 17, none⟩ (.int .i32 nb.off)).setCell ⟨g + 2, 18, none⟩ (.slice no nb.cs.length nc)).setCell ⟨g + 2, 19, none⟩ (.string Xnu)).setCell ⟨g + 2, 16, none⟩ (.bool gn)).setCell ⟨g + 2, 23, none⟩ (.string Xu)) = W5 := ⟨_, rfl⟩
    have hu5 : Upd (fun k => k = g + 2) w4 W5 := by
     rw [← hW5]
     exact ((((Upd.set w4 ⟨g + 2, 17, none⟩ _).trans (Upd.set _ ⟨g + 2, 18, none⟩ _)).trans (Upd.set _ ⟨g + 2, 19, none⟩ _)).trans (Upd.set _ ⟨g + 2, 16, none⟩ _)).trans (Upd.set _ ⟨g + 2, 23, none⟩ _)
    have HU5 := Lib.hid hu5
    have HX5 : Hid (W5.heap[g + 2]? = some (.cells #[.slice lo l.length lc, .int .u64 (a : Int), .int .u64 (t : Int), .int .u64 (k : Int), .bool bp, .int .u64 (vp : Int), .bool bm, .int .u64 (vm : Int), .bool bg, .int .u64 (vg : Int), .int .i32 sc, .int .u64 (zc : Int), .bool gp, .int .i32 pb.off, .slice po pb.cs.length pc, .string Xpu, .bool gn, .int .i32 nb.off, .slice no nb.cs.length nc, .string Xnu, .slice eo es.length ec, .int .u32 (f : Int), .int .u64 (th : Int), .string Xu, .slice spo sp.length spc, .slice sno sn.length snc] 57 (0, 0))) := Lib.hid (by
     rw [← hW5]
     exact row_set (row_set (row_set (row_set (row_set HX4.out 17 _) 18 _) 19 _) 16 _) 23 _)
    have HR5 : Hid (W5.heap[g + 1]? = some (.cells #[.slice none 0 0, .int .u64 0, .int .u64 0, .int .u64 0, .bool false, .int .u64 0, .bool false, .int .u64 0, .bool false, .int .u64 0, .int .i32 0, .int .u64 0, .bool false, .int .i32 0, .slice none 0 0, .string ⟨#[]⟩, .bool false, .int .i32 0, .slice none 0 0, .string ⟨#[]⟩, .slice none 0 0, .int .u32 0, .int .u64 0, .string ⟨#[]⟩] 33 (0, 0))) := Lib.hid ((hu5.block _ (row_lt HR4.out) (by omega)).trans HR4.out)
    have HB5 : Hid (Below w.heap.size w W5) := Lib.hid (HB4.out.trans (hu5.below HB4.out.size (fun k _ h => by have h : k = g + 2 := h; have := HGG.out; omega)))
    rw [hW5]
    clear hW5 hu5 hf23 hc23 hc16 hf16 hc17 hf17 hc18 hf18 hc19 hf19
    refine wp_region_lit ?_
    refine wpList_plain rfl (fun K hK => ?_)
    go_simp
    refine hK _ _ ?_
    clear hK K
    refine wpList_load_mid rfl 33 (.tmp 53) rfl (g + 2) 0 rfl [.slice lo l.length lc, .int .u64 (a : Int), .int .u64 (t : Int), .int .u64 (k : Int), .bool bp, .int .u64 (vp : Int), .bool bm, .int .u64 (vm : Int), .bool bg, .int .u64 (vg : Int), .int .i32 sc, .int .u64 (zc : Int), .bool gp, .int .i32 pb.off, .slice po pb.cs.length pc, .string Xpu, .bool gn, .int .i32 nb.off, .slice no nb.cs.length nc, .string Xnu, .slice eo es.length ec, .int .u32 (f : Int), .int .u64 (th : Int), .string Xu] _ (fun j u hj => ?_) Tryz.underlying33 rfl (by kernel_rfl) ?_
    ·rw [Nat.zero_add, row_cell HX5.out (j := j) (u := u)]
     have hj24 : j < 24 := (List.getElem?_eq_some_iff.1 hj).1
     rw [← hj]
     match j, hj24 with
     | 0, _ => rfl
     | 1, _ => rfl
     | 2, _ => rfl
     | 3, _ => rfl
     | 4, _ => rfl
     | 5, _ => rfl
     | 6, _ => rfl
     | 7, _ => rfl
     | 8, _ => rfl
     | 9, _ => rfl
     | 10, _ => rfl
     | 11, _ => rfl
     | 12, _ => rfl
     | 13, _ => rfl
     | 14, _ => rfl
     | 15, _ => rfl
     | 16, _ => rfl
     | 17, _ => rfl
     | 18, _ => rfl
     | 19, _ => rfl
     | 20, _ => rfl
     | 21, _ => rfl
     | 22, _ => rfl
     | 23, _ => rfl
    refine wpList_store_row rfl 33 (.tmp 4) (.tmp 54) rfl (g + 1) #[.slice lo l.length lc, .int .u64 (a : Int), .int .u64 (t : Int), .int .u64 (k : Int), .bool bp, .int .u64 (vp : Int), .bool bm, .int .u64 (vm : Int), .bool bg, .int .u64 (vg : Int), .int .i32 sc, .int .u64 (zc : Int), .bool gp, .int .i32 pb.off, .slice po pb.cs.length pc, .string Xpu, .bool gn, .int .i32 nb.off, .slice no nb.cs.length nc, .string Xnu, .slice eo es.length ec, .int .u32 (f : Int), .int .u64 (th : Int), .string Xu] rfl rfl 33 #[.slice none 0 0, .int .u64 0, .int .u64 0, .int .u64 0, .bool false, .int .u64 0, .bool false, .int .u64 0, .bool false, .int .u64 0, .int .i32 0, .int .u64 0, .bool false, .int .i32 0, .slice none 0 0, .string ⟨#[]⟩, .bool false, .int .i32 0, .slice none 0 0, .string ⟨#[]⟩, .slice none 0 0, .int .u32 0, .int .u64 0, .string ⟨#[]⟩] HR5.out (by kernel_rfl) rfl (by simp [Value.oneCell']) ?_
    have HS : Hid ((W5.setRow (g + 1) #[.slice lo l.length lc, .int .u64 (a : Int), .int .u64 (t : Int), .int .u64 (k : Int), .bool bp, .int .u64 (vp : Int), .bool bm, .int .u64 (vm : Int), .bool bg, .int .u64 (vg : Int), .int .i32 sc, .int .u64 (zc : Int), .bool gp, .int .i32 pb.off, .slice po pb.cs.length pc, .string Xpu, .bool gn, .int .i32 nb.off, .slice no nb.cs.length nc, .string Xnu, .slice eo es.length ec, .int .u32 (f : Int), .int .u64 (th : Int), .string Xu]).heap[g + 1]? = some (.cells #[.slice lo l.length lc, .int .u64 (a : Int), .int .u64 (t : Int), .int .u64 (k : Int), .bool bp, .int .u64 (vp : Int), .bool bm, .int .u64 (vm : Int), .bool bg, .int .u64 (vg : Int), .int .i32 sc, .int .u64 (zc : Int), .bool gp, .int .i32 pb.off, .slice po pb.cs.length pc, .string Xpu, .bool gn, .int .i32 nb.off, .slice no nb.cs.length nc, .string Xnu, .slice eo es.length ec, .int .u32 (f : Int), .int .u64 (th : Int), .string Xu] 33 (0, 0))) := Lib.hid (setRow_heap _ _ _ _ _ _ HR5.out)
    have HUS : Hid (Upd (fun k => k = g + 1) W5 (W5.setRow (g + 1) #[.slice lo l.length lc, .int .u64 (a : Int), .int .u64 (t : Int), .int .u64 (k : Int), .bool bp, .int .u64 (vp : Int), .bool bm, .int .u64 (vm : Int), .bool bg, .int .u64 (vg : Int), .int .i32 sc, .int .u64 (zc : Int), .bool gp, .int .i32 pb.off, .slice po pb.cs.length pc, .string Xpu, .bool gn, .int .i32 nb.off, .slice no nb.cs.length nc, .string Xnu, .slice eo es.length ec, .int .u32 (f : Int), .int .u64 (th : Int), .string Xu])) := Lib.hid (upd_setRow _ _ _)
    obtain ⟨W6, hW6⟩ : ∃ W6, W5.setRow (g + 1) #[.slice lo l.length lc, .int .u64 (a : Int), .int .u64 (t : Int), .int .u64 (k : Int), .bool bp, .int .u64 (vp : Int), .bool bm, .int .u64 (vm : Int), .bool bg, .int .u64 (vg : Int), .int .i32 sc, .int .u64 (zc : Int), .bool gp, .int .i32 pb.off, .slice po pb.cs.length pc, .string Xpu, .bool gn, .int .i32 nb.off, .slice no nb.cs.length nc, .string Xnu, .slice eo es.length ec, .int .u32 (f : Int), .int .u64 (th : Int), .string Xu] = W6 := ⟨_, rfl⟩
    rw [hW6] at HS HUS ⊢
    clear hW6
    go_wp2_with fail
    refine body_cell2v rfl rfl (run_loadVar_row W6 (g + 1) 33 33 _ (0, 0) _ HS.out Tryz.underlying33 rfl (by kernel_rfl)) rfl ?_
    have h46 : Upd (fun k => k = g + 1 ∨ k = g + 2) w4 W6 := (HU5.out.mono fun k _ h => .inr h).trans (HUS.out.mono fun k _ h => .inl h)
    have h26 : Upd (fun k => k = g + 1 ∨ k = g + 2) w2 W6 := ((HU3.out.mono (S' := fun k => k = g + 1 ∨ k = g + 2) fun k _ h => .inr h).trans (Upd.of_new HBV.out)).trans h46
    have h16 : Upd (fun k => k = g + 1 ∨ k = g + 2) w1 W6 := (Upd.of_new HBW.out).trans h26
    refine ⟨HB4.out.trans (h46.below HB4.out.size (fun k _ h => by have := HGG.out; omega)), ?_⟩
    rw [HBR.out]
    have hgg := HGG.out
    have hg2 := HS1.out
    have hg3 := HS3.out
    refine ⟨[.slice lo l.length lc, .int .u64 (a : Int), .int .u64 (t : Int), .int .u64 (k : Int), .bool bp, .int .u64 (vp : Int), .bool bm, .int .u64 (vm : Int), .bool bg, .int .u64 (vg : Int), .int .i32 sc, .int .u64 (zc : Int), .bool gp, .int .i32 pb.off, .slice po pb.cs.length pc, .string Xpu, .bool gn, .int .i32 nb.off, .slice no nb.cs.length nc, .string Xnu, .slice eo es.length ec, .int .u32 (f : Int), .int .u64 (th : Int), .string Xu], rfl, lo, lc, po, pc, no, nc, eo, ec, ?_, KRels.upd h16 (fun k hk e => by omega) (fun k hk => by omega) _ _ _ HRL0.out, CRels.upd h26 (fun k hk e => ?_) (fun k hk => ?_) (CRels.of_ls (nats_ls HOP.out)), CRels.upd h46 (fun k hk e => ?_) (fun k hk => ?_) (CRels.of_ls (nats_ls HON.out)), CRels.upd h16 (fun k hk e => by have := (HLT1.out k hk).1; omega) (fun k hk => by have := (HLT1.out k hk).1; omega) HRL1.out⟩
    ·rw [← HUU.out, ← HXPU.out, ← HXNU.out]; rfl
    ·rcases hk with hk | hk
     ·have := (HOP.out.lt k hk).1; omega
     ·exact hk
    ·rcases hk with hk | hk
     ·have := (HOP.out.lt k hk).1; omega
     ·exact hk.elim
    ·rcases hk with hk | hk
     ·have := (HON.out.lt k hk).1; omega
     ·exact hk
    ·rcases hk with hk | hk
     ·have := (HON.out.lt k hk).1; omega
     ·exact hk.elim
theorem xp_un (X : ByteArray) (d : Int) (w : World) (hX : X.size ≤ 500000) (hd : -9223372036854775808 ≤ d ∧ d ≤ 9223372036854775807) :
  Calls Tryz.prog 7 #[.string X, .int .i64 d] w (RdPost xpCel xpzero (xprd X.data.toList d) X.size w) := unxp_if X d (Lib.hid (fun _ _ _ => ukey_any)) (Lib.hid fun _ _ _ => fun Y d' w' => ex_un Y d' w') w hX hd
end Go.Proofs.YtficgfemmijaaaaGreatDoor
