/-
  A point of an exponential histogram: one behind the other, read.
-/
import Derived.Test.YtficgfemmijaaaaXpUn
import Derived.Test.YtficgfemmijaaaaFx
namespace Go.Proofs.Ytficgfemmijaaaa
open Go.RowKit
theorem row24 {w : World} {g : Nat} {c0 c1 c2 c3 c4 c5 c6 c7 c8 c9 c10 c11 c12 c13 c14 c15 c16 c17 c18 c19 c20 c21 c22 c23 : Value} {T : TypeId} {fr : Nat × Nat} (h : w.heap[g]? = some (.cells #[c0, c1, c2, c3, c4, c5, c6, c7, c8, c9, c10, c11, c12, c13, c14, c15, c16, c17, c18, c19, c20, c21, c22, c23] T fr)) : w.cell? ⟨g, 0, none⟩ = some c0 ∧ w.cell? ⟨g, 1, none⟩ = some c1 ∧ w.cell? ⟨g, 2, none⟩ = some c2 ∧ w.cell? ⟨g, 3, none⟩ = some c3 ∧ w.cell? ⟨g, 4, none⟩ = some c4 ∧ w.cell? ⟨g, 5, none⟩ = some c5 ∧ w.cell? ⟨g, 6, none⟩ = some c6 ∧ w.cell? ⟨g, 7, none⟩ = some c7 ∧ w.cell? ⟨g, 8, none⟩ = some c8 ∧ w.cell? ⟨g, 9, none⟩ = some c9 ∧ w.cell? ⟨g, 10, none⟩ = some c10 ∧ w.cell? ⟨g, 11, none⟩ = some c11 ∧ w.cell? ⟨g, 12, none⟩ = some c12 ∧ w.cell? ⟨g, 13, none⟩ = some c13 ∧ w.cell? ⟨g, 14, none⟩ = some c14 ∧ w.cell? ⟨g, 15, none⟩ = some c15 ∧ w.cell? ⟨g, 16, none⟩ = some c16 ∧ w.cell? ⟨g, 17, none⟩ = some c17 ∧ w.cell? ⟨g, 18, none⟩ = some c18 ∧ w.cell? ⟨g, 19, none⟩ = some c19 ∧ w.cell? ⟨g, 20, none⟩ = some c20 ∧ w.cell? ⟨g, 21, none⟩ = some c21 ∧ w.cell? ⟨g, 22, none⟩ = some c22 ∧ w.cell? ⟨g, 23, none⟩ = some c23 := ⟨row_cell h (j := 0) rfl, row_cell h (j := 1) rfl, row_cell h (j := 2) rfl, row_cell h (j := 3) rfl, row_cell h (j := 4) rfl, row_cell h (j := 5) rfl, row_cell h (j := 6) rfl, row_cell h (j := 7) rfl, row_cell h (j := 8) rfl, row_cell h (j := 9) rfl, row_cell h (j := 10) rfl, row_cell h (j := 11) rfl, row_cell h (j := 12) rfl, row_cell h (j := 13) rfl, row_cell h (j := 14) rfl, row_cell h (j := 15) rfl, row_cell h (j := 16) rfl, row_cell h (j := 17) rfl, row_cell h (j := 18) rfl, row_cell h (j := 19) rfl, row_cell h (j := 20) rfl, row_cell h (j := 21) rfl, row_cell h (j := 22) rfl, row_cell h (j := 23) rfl⟩
theorem xp_form {rd : Except Nat Xp} {n : Nat} {w w' : World} {e : Ending} (h : RdPost xpCel xpzero rd n w e w') : Below w.heap.size w w' ∧ ∃ (lo : Option Addr) (llo : Nat) (lc : Nat) (ja : Int) (jt : Int) (jk : Int) (jbp : Bool) (jvp : Int) (jbm : Bool) (jvm : Int) (jbg : Bool) (jvg : Int) (jsc : Int) (jzc : Int) (jgp : Bool) (jop : Int) (po : Option Addr) (llp : Nat) (pc : Nat) (Xpu : ByteArray) (jgn : Bool) (jon : Int) (no : Option Addr) (lln : Nat) (nc : Nat) (Xnu : ByteArray) (eo : Option Addr) (lle : Nat) (ec : Nat) (jf : Int) (jth : Int) (Xu : ByteArray) (v : Value), e = .returned (.tuple #[.agg #[.slice lo llo lc, .int .u64 ja, .int .u64 jt, .int .u64 jk, .bool jbp, .int .u64 jvp, .bool jbm, .int .u64 jvm, .bool jbg, .int .u64 jvg, .int .i32 jsc, .int .u64 jzc, .bool jgp, .int .i32 jop, .slice po llp pc, .string Xpu, .bool jgn, .int .i32 jon, .slice no lln nc, .string Xnu, .slice eo lle ec, .int .u32 jf, .int .u64 jth, .string Xu], v]) := by
 obtain ⟨hb, h⟩ := h
 refine ⟨hb, ?_⟩
 cases rd with
 | error c => obtain ⟨v, q, rfl, _⟩ := h; exact ⟨_, _, _, _, _, _, _, _, _, _, _, _, _, _, _, _, _, _, _, _, _, _, _, _, _, _, _, _, _, _, _, _, _, rfl⟩
 | ok x => obtain ⟨cs, rfl, h⟩ := h; obtain ⟨⟨a, ⟨t, ⟨k, ⟨⟨bp, vp⟩, ⟨sc, ⟨zc, ⟨⟨gp, pb, pu⟩, ⟨⟨gn, nb, nu⟩, ⟨l, ⟨f, ⟨es, ⟨⟨bm, vm⟩, ⟨⟨bg, vg⟩, th⟩⟩⟩⟩⟩⟩⟩⟩⟩⟩⟩⟩⟩, u⟩ := x; obtain ⟨lo, lc, po, pc, no, nc, eo, ec, rfl, _, _, _, _⟩ := h; exact ⟨_, _, _, _, _, _, _, _, _, _, _, _, _, _, _, _, _, _, _, _, _, _, _, _, _, _, _, _, _, _, _, _, _, rfl⟩
theorem side_join {p q : List (List UInt8)} {d : Int} {g1 g2 : Bool} {b1 b2 : Bk} {u1 u2 : List UInt8} (h1 : sideR p d = .ok (g1, b1, u1)) (h2 : sideR q d = .ok (g2, b2, u2)) : ∃ g3 b3 u3, sideR (p ++ q) d = .ok (g3, b3, u3) ∧ g3 = (g1 || g2) ∧ b3.cs.length = b1.cs.length + b2.cs.length ∧ u3 = u1 ++ u2 := by
 by_cases hp : p = []
 ·subst hp
  rw [sideR_nil] at h1
  simp only [Except.ok.injEq, Prod.mk.injEq] at h1
  obtain ⟨rfl, rfl, rfl⟩ := h1
  exact ⟨g2, b2, u2, by rw [List.nil_append]; exact h2, (Bool.false_or _).symm, by simp, rfl⟩
 by_cases hq : q = []
 ·subst hq
  rw [sideR_nil] at h2
  simp only [Except.ok.injEq, Prod.mk.injEq] at h2
  obtain ⟨rfl, rfl, rfl⟩ := h2
  exact ⟨g1, b1, u1, by rw [List.append_nil]; exact h1, (Bool.or_false _).symm, by simp, (List.append_nil _).symm⟩
 cases hr1 : bread p.flatten (d - 1) with
 | error c => rw [sideR_no hp hr1] at h1; cases h1
 | ok x =>
  cases hr2 : bread q.flatten (d - 1) with
  | error c => rw [sideR_no hq hr2] at h2; cases h2
  | ok y =>
   rw [sideR_ok hp hr1] at h1
   rw [sideR_ok hq hr2] at h2
   simp only [Except.ok.injEq, Prod.mk.injEq] at h1 h2
   obtain ⟨rfl, rfl⟩ := h1
   obtain ⟨rfl, rfl⟩ := h2
   obtain ⟨z, e1, e2, _⟩ := bread_join hr1 hr2
   refine ⟨true, z, u1 ++ u2, sideR_ok (by simp [hp]) (by rw [List.flatten_append]; exact e1), rfl, by rw [e2, List.length_append], rfl⟩
theorem xp_fin_inv {d : Int} {a0 : Nat} {t0 : Nat} {k0 : Nat} {bp0 : Bool} {vp0 : Nat} {sc0 : Int} {zc0 : Nat} {sp0 : List (List UInt8)} {sn0 : List (List UInt8)} {l0 : List KV} {f0 : Nat} {es0 : List Ex} {bm0 : Bool} {vm0 : Nat} {bg0 : Bool} {vg0 : Nat} {th0 : Nat} {a : Nat} {t : Nat} {k : Nat} {bp : Bool} {vp : Nat} {sc : Int} {zc : Nat} {gp : Bool} {pb : Bk} {pu : List UInt8} {gn : Bool} {nb : Bk} {nu : List UInt8} {l : List KV} {f : Nat} {es : List Ex} {bm : Bool} {vm : Nat} {bg : Bool} {vg : Nat} {th : Nat} (h : xpN.fin d (a0, (t0, (k0, ((bp0, vp0), (sc0, (zc0, (sp0, (sn0, (l0, (f0, (es0, ((bm0, vm0), ((bg0, vg0), th0))))))))))))) = .ok (a, (t, (k, ((bp, vp), (sc, (zc, ((gp, pb, pu), ((gn, nb, nu), (l, (f, (es, ((bm, vm), ((bg, vg), th)))))))))))))) : a0 = a ∧ t0 = t ∧ k0 = k ∧ (bp0, vp0) = (bp, vp) ∧ sc0 = sc ∧ zc0 = zc ∧ sideR sp0 d = .ok (gp, pb, pu) ∧ sideR sn0 d = .ok (gn, nb, nu) ∧ l0 = l ∧ f0 = f ∧ es0 = es ∧ (bm0, vm0) = (bm, vm) ∧ (bg0, vg0) = (bg, vg) ∧ th0 = th := ⟨Except.ok.inj (Fnl.and_inv h).1, Except.ok.inj (Fnl.and_inv (Fnl.and_inv h).2).1, Except.ok.inj (Fnl.and_inv (Fnl.and_inv (Fnl.and_inv h).2).2).1, Except.ok.inj (Fnl.and_inv (Fnl.and_inv (Fnl.and_inv (Fnl.and_inv h).2).2).2).1, Except.ok.inj (Fnl.and_inv (Fnl.and_inv (Fnl.and_inv (Fnl.and_inv (Fnl.and_inv h).2).2).2).2).1, Except.ok.inj (Fnl.and_inv (Fnl.and_inv (Fnl.and_inv (Fnl.and_inv (Fnl.and_inv (Fnl.and_inv h).2).2).2).2).2).1, (Fnl.and_inv (Fnl.and_inv (Fnl.and_inv (Fnl.and_inv (Fnl.and_inv (Fnl.and_inv (Fnl.and_inv h).2).2).2).2).2).2).1, (Fnl.and_inv (Fnl.and_inv (Fnl.and_inv (Fnl.and_inv (Fnl.and_inv (Fnl.and_inv (Fnl.and_inv (Fnl.and_inv h).2).2).2).2).2).2).2).1, Except.ok.inj (Fnl.and_inv (Fnl.and_inv (Fnl.and_inv (Fnl.and_inv (Fnl.and_inv (Fnl.and_inv (Fnl.and_inv (Fnl.and_inv (Fnl.and_inv h).2).2).2).2).2).2).2).2).1, Except.ok.inj (Fnl.and_inv (Fnl.and_inv (Fnl.and_inv (Fnl.and_inv (Fnl.and_inv (Fnl.and_inv (Fnl.and_inv (Fnl.and_inv (Fnl.and_inv (Fnl.and_inv h).2).2).2).2).2).2).2).2).2).1, Except.ok.inj (Fnl.and_inv (Fnl.and_inv (Fnl.and_inv (Fnl.and_inv (Fnl.and_inv (Fnl.and_inv (Fnl.and_inv (Fnl.and_inv (Fnl.and_inv (Fnl.and_inv (Fnl.and_inv h).2).2).2).2).2).2).2).2).2).2).1, Except.ok.inj (Fnl.and_inv (Fnl.and_inv (Fnl.and_inv (Fnl.and_inv (Fnl.and_inv (Fnl.and_inv (Fnl.and_inv (Fnl.and_inv (Fnl.and_inv (Fnl.and_inv (Fnl.and_inv (Fnl.and_inv h).2).2).2).2).2).2).2).2).2).2).2).1, Except.ok.inj (Fnl.and_inv (Fnl.and_inv (Fnl.and_inv (Fnl.and_inv (Fnl.and_inv (Fnl.and_inv (Fnl.and_inv (Fnl.and_inv (Fnl.and_inv (Fnl.and_inv (Fnl.and_inv (Fnl.and_inv (Fnl.and_inv h).2).2).2).2).2).2).2).2).2).2).2).2).1, Except.ok.inj (Fnl.and_inv (Fnl.and_inv (Fnl.and_inv (Fnl.and_inv (Fnl.and_inv (Fnl.and_inv (Fnl.and_inv (Fnl.and_inv (Fnl.and_inv (Fnl.and_inv (Fnl.and_inv (Fnl.and_inv (Fnl.and_inv h).2).2).2).2).2).2).2).2).2).2).2).2).2⟩
theorem xr_ap : (numF 2).Apart ((numF 3).and ((numF 4).and ((optF 5).and ((zigF 6).and ((numF 7).and ((partF 8).and ((partF 9).and ((listF 1 kvS).and ((var32F 10).and ((listF 11 exSb).and ((optF 12).and ((optF 13).and (numF 14))))))))))))) := apart_of fun r h => by
 simp only [numF, decide_eq_true_eq] at h
 simp only [Fld.and, zigF, partF, numF, optF, var32F, listF, listTk, Bool.or_eq_false_iff, decide_eq_false_iff_not]
 omega
theorem xr_ap2 : (numF 3).Apart ((numF 4).and ((optF 5).and ((zigF 6).and ((numF 7).and ((partF 8).and ((partF 9).and ((listF 1 kvS).and ((var32F 10).and ((listF 11 exSb).and ((optF 12).and ((optF 13).and (numF 14)))))))))))) := apart_of fun r h => by
 simp only [numF, decide_eq_true_eq] at h
 simp only [Fld.and, zigF, partF, numF, optF, var32F, listF, listTk, Bool.or_eq_false_iff, decide_eq_false_iff_not]
 omega
theorem xr_ap22 : (numF 4).Apart ((optF 5).and ((zigF 6).and ((numF 7).and ((partF 8).and ((partF 9).and ((listF 1 kvS).and ((var32F 10).and ((listF 11 exSb).and ((optF 12).and ((optF 13).and (numF 14))))))))))) := apart_of fun r h => by
 simp only [numF, decide_eq_true_eq] at h
 simp only [Fld.and, zigF, partF, numF, optF, var32F, listF, listTk, Bool.or_eq_false_iff, decide_eq_false_iff_not]
 omega
theorem xr_ap222 : (optF 5).Apart ((zigF 6).and ((numF 7).and ((partF 8).and ((partF 9).and ((listF 1 kvS).and ((var32F 10).and ((listF 11 exSb).and ((optF 12).and ((optF 13).and (numF 14)))))))))) := apart_of fun r h => by
 simp only [optF, decide_eq_true_eq] at h
 simp only [Fld.and, zigF, partF, numF, optF, var32F, listF, listTk, Bool.or_eq_false_iff, decide_eq_false_iff_not]
 omega
theorem xr_ap2222 : (zigF 6).Apart ((numF 7).and ((partF 8).and ((partF 9).and ((listF 1 kvS).and ((var32F 10).and ((listF 11 exSb).and ((optF 12).and ((optF 13).and (numF 14))))))))) := apart_of fun r h => by
 simp only [zigF, decide_eq_true_eq] at h
 simp only [Fld.and, partF, numF, optF, var32F, listF, listTk, Bool.or_eq_false_iff, decide_eq_false_iff_not]
 omega
theorem xr_ap22222 : (numF 7).Apart ((partF 8).and ((partF 9).and ((listF 1 kvS).and ((var32F 10).and ((listF 11 exSb).and ((optF 12).and ((optF 13).and (numF 14)))))))) := apart_of fun r h => by
 simp only [numF, decide_eq_true_eq] at h
 simp only [Fld.and, partF, numF, optF, var32F, listF, listTk, Bool.or_eq_false_iff, decide_eq_false_iff_not]
 omega
theorem xr_ap222222 : (partF 8).Apart ((partF 9).and ((listF 1 kvS).and ((var32F 10).and ((listF 11 exSb).and ((optF 12).and ((optF 13).and (numF 14))))))) := apart_of fun r h => by
 simp only [partF, decide_eq_true_eq] at h
 simp only [Fld.and, partF, numF, optF, var32F, listF, listTk, Bool.or_eq_false_iff, decide_eq_false_iff_not]
 omega
theorem xr_ap2222222 : (partF 9).Apart ((listF 1 kvS).and ((var32F 10).and ((listF 11 exSb).and ((optF 12).and ((optF 13).and (numF 14)))))) := apart_of fun r h => by
 simp only [partF, decide_eq_true_eq] at h
 simp only [Fld.and, numF, optF, var32F, listF, listTk, Bool.or_eq_false_iff, decide_eq_false_iff_not]
 omega
theorem xr_ap22222222 : (listF 1 kvS).Apart ((var32F 10).and ((listF 11 exSb).and ((optF 12).and ((optF 13).and (numF 14))))) := apart_of fun r h => by
 simp only [listF, listTk, decide_eq_true_eq] at h
 simp only [Fld.and, numF, optF, var32F, listF, listTk, Bool.or_eq_false_iff, decide_eq_false_iff_not]
 omega
theorem xp_join {s t u1 u2 : List UInt8} {a1 : Nat} {t1 : Nat} {k1 : Nat} {bp1 : Bool} {vp1 : Nat} {sc1 : Int} {zc1 : Nat} {gp1 : Bool} {pb1 : Bk} {pu1 : List UInt8} {gn1 : Bool} {nb1 : Bk} {nu1 : List UInt8} {l1 : List KV} {f1 : Nat} {es1 : List Ex} {bm1 : Bool} {vm1 : Nat} {bg1 : Bool} {vg1 : Nat} {th1 : Nat} {a2 : Nat} {t2 : Nat} {k2 : Nat} {bp2 : Bool} {vp2 : Nat} {sc2 : Int} {zc2 : Nat} {gp2 : Bool} {pb2 : Bk} {pu2 : List UInt8} {gn2 : Bool} {nb2 : Bk} {nu2 : List UInt8} {l2 : List KV} {f2 : Nat} {es2 : List Ex} {bm2 : Bool} {vm2 : Nat} {bg2 : Bool} {vg2 : Nat} {th2 : Nat} {d : Int} (h1 : xprd s d = .ok ((a1, (t1, (k1, ((bp1, vp1), (sc1, (zc1, ((gp1, pb1, pu1), ((gn1, nb1, nu1), (l1, (f1, (es1, ((bm1, vm1), ((bg1, vg1), th1))))))))))))), u1)) (h2 : xprd t d = .ok ((a2, (t2, (k2, ((bp2, vp2), (sc2, (zc2, ((gp2, pb2, pu2), ((gn2, nb2, nu2), (l2, (f2, (es2, ((bm2, vm2), ((bg2, vg2), th2))))))))))))), u2)) : ∃ a3 t3 k3 bp3 vp3 sc3 zc3 gp3 pb3 pu3 gn3 nb3 nu3 l3 f3 es3 bm3 vm3 bg3 vg3 th3, xprd (s ++ t) d = .ok ((a3, (t3, (k3, ((bp3, vp3), (sc3, (zc3, ((gp3, pb3, pu3), ((gn3, nb3, nu3), (l3, (f3, (es3, ((bm3, vm3), ((bg3, vg3), th3))))))))))))), u1 ++ u2) ∧ l3.length = l1.length + l2.length ∧ gp3 = (gp1 || gp2) ∧ pb3.cs.length = pb1.cs.length + pb2.cs.length ∧ pu3 = pu1 ++ pu2 ∧ nb3.cs.length = nb1.cs.length + nb2.cs.length := by
 obtain ⟨⟨ax, ⟨tx, ⟨kx, ⟨⟨bpx, vpx⟩, ⟨scx, ⟨zcx, ⟨spx, ⟨snx, ⟨lx, ⟨fx, ⟨esx, ⟨⟨bmx, vmx⟩, ⟨⟨bgx, vgx⟩, thx⟩⟩⟩⟩⟩⟩⟩⟩⟩⟩⟩⟩⟩, ⟨ay, ⟨ty, ⟨ky, ⟨⟨bpy, vpy⟩, ⟨scy, ⟨zcy, ⟨spy, ⟨sny, ⟨ly, ⟨fy, ⟨esy, ⟨⟨bmy, vmy⟩, ⟨⟨bgy, vgy⟩, thy⟩⟩⟩⟩⟩⟩⟩⟩⟩⟩⟩⟩⟩, ⟨az, ⟨tz, ⟨kz, ⟨⟨bpz, vpz⟩, ⟨scz, ⟨zcz, ⟨spz, ⟨snz, ⟨lz, ⟨fz, ⟨esz, ⟨⟨bmz, vmz⟩, ⟨⟨bgz, vgz⟩, thz⟩⟩⟩⟩⟩⟩⟩⟩⟩⟩⟩⟩⟩, rs, ts, h3, h4, h5, h6, h7, h8⟩ := fnl_join xrF_free h1 h2
 obtain ⟨_, _, _, _, _, _, hp1, hn1, hl1, _, _, _, _, _⟩ := xp_fin_inv h7
 obtain ⟨_, _, _, _, _, _, hp2, hn2, hl2, _, _, _, _, _⟩ := xp_fin_inv h8
 have e1l := kv_count _ _ _ (Fld.and_fst xr_ap22222222 (Fld.and_fst xr_ap2222222 (Fld.and_fst xr_ap222222 (Fld.and_fst xr_ap22222 (Fld.and_fst xr_ap2222 (Fld.and_fst xr_ap222 (Fld.and_fst xr_ap22 (Fld.and_fst xr_ap2 (Fld.and_fst xr_ap h4).2).2).2).2).2).2).2).2).1
 have e2l := kv_count _ _ _ (Fld.and_fst xr_ap22222222 (Fld.and_fst xr_ap2222222 (Fld.and_fst xr_ap222222 (Fld.and_fst xr_ap22222 (Fld.and_fst xr_ap2222 (Fld.and_fst xr_ap222 (Fld.and_fst xr_ap22 (Fld.and_fst xr_ap2 (Fld.and_fst xr_ap h5).2).2).2).2).2).2).2).2).1
 have e3l := kv_count _ _ _ (Fld.and_fst xr_ap22222222 (Fld.and_fst xr_ap2222222 (Fld.and_fst xr_ap222222 (Fld.and_fst xr_ap22222 (Fld.and_fst xr_ap2222 (Fld.and_fst xr_ap222 (Fld.and_fst xr_ap22 (Fld.and_fst xr_ap2 (Fld.and_fst xr_ap h6).2).2).2).2).2).2).2).2).1
 rw [List.filter_append, List.length_append] at e3l
 have z1l : ((listF 1 kvS).z : List KV).length = 0 := rfl
 have ejsp := part_join (Fld.and_fst xr_ap222222 (Fld.and_fst xr_ap22222 (Fld.and_fst xr_ap2222 (Fld.and_fst xr_ap222 (Fld.and_fst xr_ap22 (Fld.and_fst xr_ap2 (Fld.and_fst xr_ap h4).2).2).2).2).2).2).1 (Fld.and_fst xr_ap222222 (Fld.and_fst xr_ap22222 (Fld.and_fst xr_ap2222 (Fld.and_fst xr_ap222 (Fld.and_fst xr_ap22 (Fld.and_fst xr_ap2 (Fld.and_fst xr_ap h5).2).2).2).2).2).2).1 (Fld.and_fst xr_ap222222 (Fld.and_fst xr_ap22222 (Fld.and_fst xr_ap2222 (Fld.and_fst xr_ap222 (Fld.and_fst xr_ap22 (Fld.and_fst xr_ap2 (Fld.and_fst xr_ap h6).2).2).2).2).2).2).1
 have ejsn := part_join (Fld.and_fst xr_ap2222222 (Fld.and_fst xr_ap222222 (Fld.and_fst xr_ap22222 (Fld.and_fst xr_ap2222 (Fld.and_fst xr_ap222 (Fld.and_fst xr_ap22 (Fld.and_fst xr_ap2 (Fld.and_fst xr_ap h4).2).2).2).2).2).2).2).1 (Fld.and_fst xr_ap2222222 (Fld.and_fst xr_ap222222 (Fld.and_fst xr_ap22222 (Fld.and_fst xr_ap2222 (Fld.and_fst xr_ap222 (Fld.and_fst xr_ap22 (Fld.and_fst xr_ap2 (Fld.and_fst xr_ap h5).2).2).2).2).2).2).2).1 (Fld.and_fst xr_ap2222222 (Fld.and_fst xr_ap222222 (Fld.and_fst xr_ap22222 (Fld.and_fst xr_ap2222 (Fld.and_fst xr_ap222 (Fld.and_fst xr_ap22 (Fld.and_fst xr_ap2 (Fld.and_fst xr_ap h6).2).2).2).2).2).2).2).1
 obtain ⟨Gp, Bp, Up, i1, i2, i3, i4⟩ := side_join hp1 hp2
 obtain ⟨Gn, Bn, Un, j1, _, j3, _⟩ := side_join hn1 hn2
 subst hl1 hl2 ejsp ejsn
 exact ⟨az, tz, kz, bpz, vpz, scz, zcz, Gp, Bp, Up, Gn, Bn, Un, lz, fz, esz, bmz, vmz, bgz, vgz, thz, Fnl.rd_ok h3 (xp_fin_ok i1 j1), by omega, i2, i3, i4, j3⟩
theorem xprd_unk {s u : List UInt8} {x : xpN.τ} {d : Int} (h : xprd s d = .ok (x, u)) : u.length ≤ s.length := by
 obtain ⟨st, h, _⟩ := Fnl.rd_inv h
 exact mread_unk h
end Go.Proofs.Ytficgfemmijaaaa
