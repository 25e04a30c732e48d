/-
  hygref13.MayHist, Hist; Size.
-/
import Derived.Test.YtjbingoliffjiaaGreatDoorExLOut
import Derived.Test.YtjbingoliffjiaaGreatDoorPutsV
import Derived.Test.YtjbingoliffjiaaGreatDoorPackR
set_option maxRecDepth 1000000
set_option maxHeartbeats 16000000
namespace Go.Proofs.YtjbingoliffjiaaGreatDoor
open Go.RowKit
theorem row15o {w:World} {g:Nat} {c0 c1 c2 c3 c4 c5 c6 c7 c8 c9 c10 c11 c12 c13 c14:Value} {T:TypeId} {fr:Nat × Nat} (h:w.heap[g]? = some (.cells #[c0,c1,c2,c3,c4,c5,c6,c7,c8,c9,c10,c11,c12,c13,c14] T fr)):w.cell? ⟨g,0,none⟩=some c0∧w.cell? ⟨g,1,none⟩=some c1∧w.cell? ⟨g,2,none⟩=some c2∧w.cell? ⟨g,3,none⟩=some c3∧w.cell? ⟨g,4,none⟩=some c4∧w.cell? ⟨g,5,none⟩=some c5∧w.cell? ⟨g,6,none⟩=some c6∧w.cell? ⟨g,7,none⟩=some c7∧w.cell? ⟨g,8,none⟩=some c8∧w.cell? ⟨g,9,none⟩=some c9∧w.cell? ⟨g,10,none⟩=some c10∧w.cell? ⟨g,11,none⟩=some c11∧w.cell? ⟨g,12,none⟩=some c12∧w.cell? ⟨g,13,none⟩=some c13∧w.cell? ⟨g,14,none⟩=some c14:=⟨row_cell h (j:=0) rfl,row_cell h (j:=1) rfl,row_cell h (j:=2) rfl,row_cell h (j:=3) rfl,row_cell h (j:=4) rfl,row_cell h (j:=5) rfl,row_cell h (j:=6) rfl,row_cell h (j:=7) rfl,row_cell h (j:=8) rfl,row_cell h (j:=9) rfl,row_cell h (j:=10) rfl,row_cell h (j:=11) rfl,row_cell h (j:=12) rfl,row_cell h (j:=13) rfl,row_cell h (j:=14) rfl⟩
theorem ex_fit_ofH {t:Nat} {k:Int} {n:Nat} {a:List UInt8} {b:List UInt8} {l:List KV} {u:List UInt8} (h:ex_arg ((t,(((k,n),(a,b)),l)),u)) (hw:ex_wt ((t,(((k,n),(a,b)),l)),u)≤12000):ex_fit ((t,(((k,n),(a,b)),l)),u):=by
  obtain ⟨hnt,hnn,hza,hzb,hfl,hll,hzl,hzu⟩:=h
  have hw:60+(a.length+b.length+ksw l+u.length)≤12000:=hw
  exact ⟨hnt,hnn,hfl,(by omega)⟩
theorem exs_fit_ofH {l:List Ex} (h:∀ x∈l,ex_arg x) (hw:lwt exSb l≤12000):∀ x∈l,ex_fit x:=fun x hx=>by
  have h1:=h x hx
  have h2:=exs_wt_le hx hw
  obtain ⟨⟨t,⟨⟨⟨k,n⟩,⟨a,b⟩⟩,l⟩⟩,u⟩:=x
  exact ex_fit_ofH h1 h2
theorem hi_fit_ofH {a:Nat} {t:Nat} {k:Nat} {ph:Bool} {pn:Nat} {nc:List Nat} {nb:List Nat} {es:List Ex} {l:List KV} {f:Nat} {mh:Bool} {mn:Nat} {gh:Bool} {gn:Nat} {u:List UInt8} (h:hi_arg ((a,(t,(k,((ph,pn),(nc,(nb,(es,(l,(f,((mh,mn),(gh,gn))))))))))),u)) (hw:hi_wt ((a,(t,(k,((ph,pn),(nc,(nb,(es,(l,(f,((mh,mn),(gh,gn))))))))))),u)≤12000):hi_fit ((a,(t,(k,((ph,pn),(nc,(nb,(es,(l,(f,((mh,mn),(gh,gn))))))))))),u):=by
  obtain ⟨hna,hnt,hnk,hnpn,hfnc,hznc,hfnb,hznb,hfes,hzes,hfl,hll,hzl,hnf,hnmn,hngn,hzu⟩:=h
  have hw:60+(8 * nc.length+8 * nb.length+lwt exSb es+ksw l+u.length)≤12000:=hw
  exact ⟨hna,hnt,hnk,hnpn,hfnc,hfnb,(exs_fit_ofH hfes (by omega)),hfl,hnf,hnmn,hngn,(by omega)⟩
theorem hi_fit_ofx {x:Hi} (h:hi_arg x) (hw:hi_wt x≤12000):hi_fit x:=by
  obtain ⟨⟨a,⟨t,⟨k,⟨⟨ph,pn⟩,⟨nc,⟨nb,⟨es,⟨l,⟨f,⟨⟨mh,mn⟩,⟨gh,gn⟩⟩⟩⟩⟩⟩⟩⟩⟩⟩⟩,u⟩:=x
  exact hi_fit_ofH h hw
theorem hi_rmay (x:Hi) (cs:List Value) (Q:Nat→Prop) (d:Int) (w:World) (ha:hi_arg x) (hw:hi_wt x≤12000) (hr:hiCel.R w Q x cs) (hd : -9223372036854775808≤d∧d≤9223372036854775807) :
 Calls Tryz.prog 27 #[.agg cs.toArray,.int .i64 d] w fun e w'=>e = .returned (.bool (hi_may d x))∧Below w.heap.size w w':=by
 have hft:=hi_fit_ofx ha hw
 obtain ⟨⟨a,⟨t,⟨k,⟨⟨ph,pn⟩,⟨nc,⟨nb,⟨es,⟨l,⟨f,⟨⟨mh,mn⟩,⟨gh,gn⟩⟩⟩⟩⟩⟩⟩⟩⟩⟩⟩,u⟩:=x
 obtain ⟨lo,lc,nco,ncc,nbo,nbc,eo,ec,rfl,hrl,hrnc,hrnb,hres⟩:=hr
 have hwt:60+(8 * nc.length+8 * nb.length+lwt exSb es+ksw l+u.length)≤12000:=hw
 clear hw
 obtain ⟨hna,hnt,hnk,hnpn,hfnc,hfnb,hfes,hfl,hnf,hnmn,hngn,hw⟩:=hft
 dsimp only[strV]
 obtain ⟨Xu,hXu⟩:∃ X:ByteArray,(⟨u.toArray⟩:ByteArray)=X:=⟨_,rfl⟩
 have HDu:Hid (Xu.data.toList=u):=Lib.hid (by rw[←hXu])
 have HZu:Hid (Xu.size≤12000):=Lib.hid (by rw[←hXu];simp[ByteArray.size];omega)
 rw[hXu]
 clear hXu
 obtain ⟨mx,hmx⟩:∃ q0,hi_may d ((a,(t,(k,((ph,pn),(nc,(nb,(es,(l,(f,((mh,mn),(gh,gn))))))))))),u)=q0:=⟨_,rfl⟩
 have hm2:(decide (0≤d)&&(((ph||decide (pn=0))&&(lmays exSb es d&&(kmays l d&&((mh||decide (mn=0))&&(gh||decide (gn=0))))))&&munkOk hiF.tk u d))=mx:=hmx
 rw[hmx]
 clear hmx
 have harms:(decide (d ≥ 0)=false∧mx=false)∨(decide (d ≥ 0)=true∧((ph||decide (pn=0))&&((mh||decide (mn=0))&&((gh||decide (gn=0)))))=false∧mx=false)∨(decide (d ≥ 0)=true∧((ph||decide (pn=0))&&((mh||decide (mn=0))&&((gh||decide (gn=0)))))=true∧lmays exSb es d=false∧mx=false)∨(decide (d ≥ 0)=true∧((ph||decide (pn=0))&&((mh||decide (mn=0))&&((gh||decide (gn=0)))))=true∧lmays exSb es d=true∧kmays l d=false∧mx=false)∨(decide (d ≥ 0)=true∧((ph||decide (pn=0))&&((mh||decide (mn=0))&&((gh||decide (gn=0)))))=true∧lmays exSb es d=true∧kmays l d=true∧munkOk hiF.tk u d=false∧mx=false)∨(decide (d ≥ 0)=true∧((ph||decide (pn=0))&&((mh||decide (mn=0))&&((gh||decide (gn=0)))))=true∧lmays exSb es d=true∧kmays l d=true∧munkOk hiF.tk u d=true∧mx=true):=by
  have hm3:(decide (d ≥ 0)&&(((ph||decide (pn=0))&&(lmays exSb es d&&(kmays l d&&((mh||decide (mn=0))&&(gh||decide (gn=0))))))&&munkOk hiF.tk u d))=mx:=hm2
  clear hm2
  revert hm3
  generalize decide (d ≥ 0)=bd
  generalize (ph||decide (pn=0))=bph
  generalize (mh||decide (mn=0))=bmh
  generalize (gh||decide (gn=0))=bgh
  generalize lmays exSb es d=bes
  generalize kmays l d=bl
  generalize munkOk hiF.tk u d=bu
  intro hm3
  subst hm3
  cases bd<;>cases bph<;>cases bmh<;>cases bgh<;>cases bes<;>cases bl<;>cases bu<;>simp
 clear hm2
 obtain ⟨bx,hbx⟩:∃ b,w.heap.size=b:=⟨_,rfl⟩
 obtain ⟨W,hW⟩:∃ W,w.alloc (.cells #[.slice lo l.length lc,.int .u64 (a:Int),.int .u64 (t:Int),.int .u64 (k:Int),.bool ph,.int .u64 (pn:Int),.bool mh,.int .u64 (mn:Int),.bool gh,.int .u64 (gn:Int),.slice nco nc.length ncc,.slice nbo nb.length nbc,.slice eo es.length ec,.int .u32 (f:Int),.string Xu] 50)=W:=⟨_,rfl⟩
 have hb0:Below w.heap.size w W:=by rw[←hW];exact below_new _ _
 have hrow:W.heap[bx]? = some (.cells #[.slice lo l.length lc,.int .u64 (a:Int),.int .u64 (t:Int),.int .u64 (k:Int),.bool ph,.int .u64 (pn:Int),.bool mh,.int .u64 (mn:Int),.bool gh,.int .u64 (gn:Int),.slice nco nc.length ncc,.slice nbo nb.length nbc,.slice eo es.length ec,.int .u32 (f:Int),.string Xu] 50 (0,0)):=by rw[←hW,←hbx];exact new_row _ _ _
 obtain ⟨D,hD⟩:∃ D,W.drew=D:=⟨_,rfl⟩
 have hbd:Below W.heap.size W D:=by rw[←hD];exact (Below.refl _ _).drew
 have HBD:=Lib.hid (below_step hb0 hbd)
 have HROW:=Lib.hid ((hbd.block _ (row_lt hrow)).trans hrow)
 have HKl:Hid (KRels D Q l lo 0):=Lib.hid (hrl.below HBD.out)
 have HFl:=Lib.hid hfl
 have HWTl:Hid (ksw l≤12000):=Lib.hid (by omega)
 have HKnc:Hid (CRels natCel D Q nc nco):=Lib.hid (hrnc.below HBD.out)
 have HFnc:=Lib.hid hfnc
 have HWTnc:Hid (8 * nc.length≤12000):=Lib.hid (by omega)
 have HKnb:Hid (CRels natCel D Q nb nbo):=Lib.hid (hrnb.below HBD.out)
 have HFnb:=Lib.hid hfnb
 have HWTnb:Hid (8 * nb.length≤12000):=Lib.hid (by omega)
 have HKes:Hid (CRels exCel D Q es eo):=Lib.hid (hres.below HBD.out)
 have HFes:=Lib.hid hfes
 have HWTes:Hid (lwt exSb es≤12000):=Lib.hid (by omega)
 have HDD:=Lib.hid hd
 have HW:=Lib.hid hW
 have HBX:=Lib.hid hbx
 have HDN:=Lib.hid hD
 clear hW hbx hrow hD hb0 hbd hna hnt hnk hnpn hfnc hfnb hfes hfl hnf hnmn hngn hw hwt ha hd hrl hrnc hrnb hres
 rcases harms with ⟨d1,rfl⟩|⟨d1,copts,rfl⟩|⟨d1,copts,ces,rfl⟩|⟨d1,copts,ces,cl,rfl⟩|⟨d1,copts,ces,cl,cu,rfl⟩|⟨d1,copts,ces,cl,cu,rfl⟩
 all_goals
  try have q1:IntKind.i64.wrap (d - 1)=d - 1:=IntWalk.i64_in _ (by have:=HDD.out;have:=of_decide_eq_true d1;omega)
  go_enter Tryz.func27,Tryz.ntmps27
  go_wp2_with fail
  rw[HW.out,HBX.out]
  have HB:Hid (Below D.heap.size D D):=Lib.hid (Below.refl _ _)
  have hne:Nonempty {w':World // (fun w'=>w'.heap[bx]? = some (.cells #[.slice lo l.length lc,.int .u64 (a:Int),.int .u64 (t:Int),.int .u64 (k:Int),.bool ph,.int .u64 (pn:Int),.bool mh,.int .u64 (mn:Int),.bool gh,.int .u64 (gn:Int),.slice nco nc.length ncc,.slice nbo nb.length nbc,.slice eo es.length ec,.int .u32 (f:Int),.string Xu] 50 (0,0))) w'}:=⟨⟨_,HROW.out⟩⟩
  refine wp_region_seq (S:=fun w'=>w'.heap[bx]? = some (.cells #[.slice lo l.length lc,.int .u64 (a:Int),.int .u64 (t:Int),.int .u64 (k:Int),.bool ph,.int .u64 (pn:Int),.bool mh,.int .u64 (mn:Int),.bool gh,.int .u64 (gn:Int),.slice nco nc.length ncc,.slice nbo nb.length nbc,.slice eo es.length ec,.int .u32 (f:Int),.string Xu] 50 (0,0))) [(0,true),(1,true),(2,true),(3,true),(4,true),(5,true),(6,true),(7,true),(8,true),(9,false),(10,true),(11,true),(12,true),(13,true),(14,true),(15,true),(16,false),(17,true),(18,true),(19,true),(20,true),(21,true),(22,true),(23,false),(24,true),(25,true),(26,true),(27,true),(28,true),(29,false),(30,false),(31,true),(32,true)] (by kernel_rfl) (by kernel_rfl) (by kernel_rfl) (by kernel_rfl) (by rw[HDN.out];exact HROW.out) ?_
  rw[HDN.out]
  iterate 4 (refine seq_take _ rfl (fun KC hK=>?_);go_simp;(first|refine hK _ ?_|refine ⟨_,fun _ _=>rfl,hK _ ?_⟩|(refine ⟨undef,by rw[if_neg (by simp[undef])],?_⟩;refine hK _ ?_));clear hK KC)
  first|(refine seq_take _ rfl (fun KC hK=>?_);go_simp;refine ⟨.agg #[.bool ph,.int .u64 (pn:Int)],fun wA ha=>by (have e0:wA.cell? ⟨bx,4,none⟩=some (.bool ph):=row_cell ha (j:=4) rfl);(have e1:wA.cell? ⟨bx,5,none⟩=some (.int .u64 (pn:Int)):=row_cell ha (j:=5) rfl);simp only[e0,e1,Result.andThen],hK _ ?_⟩;clear hK KC)|(refine seq_take _ rfl (fun KC hK=>?_);go_simp;(first|refine hK _ ?_|refine ⟨_,fun _ _=>rfl,hK _ ?_⟩|(refine ⟨undef,by rw[if_neg (by simp[undef])],?_⟩;refine hK _ ?_));clear hK KC)
  (refine seq_take _ rfl (fun KC hK=>?_);go_simp;(first|refine hK _ ?_|refine ⟨_,fun _ _=>rfl,hK _ ?_⟩|(refine ⟨undef,by rw[if_neg (by simp[undef])],?_⟩;refine hK _ ?_));clear hK KC)
  first|(refine seq_take _ rfl (fun KC hK=>?_);go_simp;refine ⟨.agg #[.bool mh,.int .u64 (mn:Int)],fun wA ha=>by (have e0:wA.cell? ⟨bx,6,none⟩=some (.bool mh):=row_cell ha (j:=6) rfl);(have e1:wA.cell? ⟨bx,7,none⟩=some (.int .u64 (mn:Int)):=row_cell ha (j:=7) rfl);simp only[e0,e1,Result.andThen],hK _ ?_⟩;clear hK KC)|(refine seq_take _ rfl (fun KC hK=>?_);go_simp;(first|refine hK _ ?_|refine ⟨_,fun _ _=>rfl,hK _ ?_⟩|(refine ⟨undef,by rw[if_neg (by simp[undef])],?_⟩;refine hK _ ?_));clear hK KC)
  (refine seq_take _ rfl (fun KC hK=>?_);go_simp;(first|refine hK _ ?_|refine ⟨_,fun _ _=>rfl,hK _ ?_⟩|(refine ⟨undef,by rw[if_neg (by simp[undef])],?_⟩;refine hK _ ?_));clear hK KC)
  first|(refine seq_take _ rfl (fun KC hK=>?_);go_simp;refine ⟨.agg #[.bool gh,.int .u64 (gn:Int)],fun wA ha=>by (have e0:wA.cell? ⟨bx,8,none⟩=some (.bool gh):=row_cell ha (j:=8) rfl);(have e1:wA.cell? ⟨bx,9,none⟩=some (.int .u64 (gn:Int)):=row_cell ha (j:=9) rfl);simp only[e0,e1,Result.andThen],hK _ ?_⟩;clear hK KC)|(refine seq_take _ rfl (fun KC hK=>?_);go_simp;(first|refine hK _ ?_|refine ⟨_,fun _ _=>rfl,hK _ ?_⟩|(refine ⟨undef,by rw[if_neg (by simp[undef])],?_⟩;refine hK _ ?_));clear hK KC)
  first
  | (refine seq_come _ rfl (fun KC hK=>?_);go_simp
     refine (opts8_any ph pn mh mn gh gn _).mono ?_;rintro e wz ⟨rfl,hb⟩
     rw[copts]
     replace HB:=Lib.hid (below_step HB.out hb)
     clear hb
     go_simp;refine hK.out _ _ ((HB.out.block _ (row_lt HROW.out)).trans HROW.out) ?_;clear hK KC)
  | (refine seq_come _ rfl (fun KC hK=>?_);go_simp;(first|refine hK.out _ _ ((HB.out.block _ (row_lt HROW.out)).trans HROW.out) ?_|(rw[if_neg (by simp[undef])];refine hK.out _ _ ((HB.out.block _ (row_lt HROW.out)).trans HROW.out) ?_));clear hK KC)
  iterate 3 (refine seq_take _ rfl (fun KC hK=>?_);go_simp;(first|refine hK _ ?_|refine ⟨_,fun _ _=>rfl,hK _ ?_⟩|(refine ⟨undef,by rw[if_neg (by simp[undef])],?_⟩;refine hK _ ?_));clear hK KC)
  first|(refine seq_take _ rfl (fun KC hK=>?_);go_simp;refine ⟨.slice eo es.length ec,fun wA ha=>by (have e0:wA.cell? ⟨bx,12,none⟩=some (.slice eo es.length ec):=row_cell ha (j:=12) rfl);simp only[e0,Result.andThen],hK _ ?_⟩;clear hK KC)|(refine seq_take _ rfl (fun KC hK=>?_);go_simp;(first|refine hK _ ?_|refine ⟨_,fun _ _=>rfl,hK _ ?_⟩|(refine ⟨undef,by rw[if_neg (by simp[undef])],?_⟩;refine hK _ ?_));clear hK KC)
  iterate 2 (refine seq_take _ rfl (fun KC hK=>?_);go_simp;(first|refine hK _ ?_|refine ⟨_,fun _ _=>rfl,hK _ ?_⟩|(refine ⟨undef,by rw[if_neg (by simp[undef])],?_⟩;refine hK _ ?_));clear hK KC)
  first
  | (refine seq_come _ rfl (fun KC hK=>?_);go_simp
     refine (mayexs8_any es eo ec Q _ (d - 1) HFes.out HWTes.out (HKes.out.below HB.out) (by have:=HDD.out;have:=of_decide_eq_true d1;omega)).mono ?_;rintro e wz ⟨rfl,hb⟩
     rw[lmays_ex d (of_decide_eq_true d1),ces]
     replace HB:=Lib.hid (below_step HB.out hb)
     clear hb
     go_simp;refine hK.out _ _ ((HB.out.block _ (row_lt HROW.out)).trans HROW.out) ?_;clear hK KC)
  | (refine seq_come _ rfl (fun KC hK=>?_);go_simp;(first|refine hK.out _ _ ((HB.out.block _ (row_lt HROW.out)).trans HROW.out) ?_|(rw[if_neg (by simp[undef])];refine hK.out _ _ ((HB.out.block _ (row_lt HROW.out)).trans HROW.out) ?_));clear hK KC)
  iterate 3 (refine seq_take _ rfl (fun KC hK=>?_);go_simp;(first|refine hK _ ?_|refine ⟨_,fun _ _=>rfl,hK _ ?_⟩|(refine ⟨undef,by rw[if_neg (by simp[undef])],?_⟩;refine hK _ ?_));clear hK KC)
  first|(refine seq_take _ rfl (fun KC hK=>?_);go_simp;refine ⟨.slice lo l.length lc,fun wA ha=>by (have e0:wA.cell? ⟨bx,0,none⟩=some (.slice lo l.length lc):=row_cell ha (j:=0) rfl);simp only[e0,Result.andThen],hK _ ?_⟩;clear hK KC)|(refine seq_take _ rfl (fun KC hK=>?_);go_simp;(first|refine hK _ ?_|refine ⟨_,fun _ _=>rfl,hK _ ?_⟩|(refine ⟨undef,by rw[if_neg (by simp[undef])],?_⟩;refine hK _ ?_));clear hK KC)
  iterate 2 (refine seq_take _ rfl (fun KC hK=>?_);go_simp;(first|refine hK _ ?_|refine ⟨_,fun _ _=>rfl,hK _ ?_⟩|(refine ⟨undef,by rw[if_neg (by simp[undef])],?_⟩;refine hK _ ?_));clear hK KC)
  first
  | (refine seq_come _ rfl (fun KC hK=>?_);go_simp
     refine (mayks_any8 l lo lc Q _ (d - 1) HFl.out (HKl.out.below HB.out) (by have:=HDD.out;have:=of_decide_eq_true d1;omega) (by have:=HWTl.out;omega)).mono ?_;rintro e wz ⟨hb,gg,rfl,rfl⟩
     rw[kmays_ref d (of_decide_eq_true d1),cl]
     replace HB:=Lib.hid (below_step HB.out hb)
     clear hb
     go_simp;refine hK.out _ _ ((HB.out.block _ (row_lt HROW.out)).trans HROW.out) ?_;clear hK KC)
  | (refine seq_come _ rfl (fun KC hK=>?_);go_simp;(first|refine hK.out _ _ ((HB.out.block _ (row_lt HROW.out)).trans HROW.out) ?_|(rw[if_neg (by simp[undef])];refine hK.out _ _ ((HB.out.block _ (row_lt HROW.out)).trans HROW.out) ?_));clear hK KC)
  iterate 3 (refine seq_take _ rfl (fun KC hK=>?_);go_simp;(first|refine hK _ ?_|refine ⟨_,fun _ _=>rfl,hK _ ?_⟩|(refine ⟨undef,by rw[if_neg (by simp[undef])],?_⟩;refine hK _ ?_));clear hK KC)
  first|(refine seq_take _ rfl (fun KC hK=>?_);go_simp;refine ⟨.string Xu,fun wA ha=>by (have e0:wA.cell? ⟨bx,14,none⟩=some (.string Xu):=row_cell ha (j:=14) rfl);simp only[e0,Result.andThen],hK _ ?_⟩;clear hK KC)|(refine seq_take _ rfl (fun KC hK=>?_);go_simp;(first|refine hK _ ?_|refine ⟨_,fun _ _=>rfl,hK _ ?_⟩|(refine ⟨undef,by rw[if_neg (by simp[undef])],?_⟩;refine hK _ ?_));clear hK KC)
  (refine seq_take _ rfl (fun KC hK=>?_);go_simp;(first|refine hK _ ?_|refine ⟨_,fun _ _=>rfl,hK _ ?_⟩|(refine ⟨undef,by rw[if_neg (by simp[undef])],?_⟩;refine hK _ ?_));clear hK KC)
  first
  | (refine seq_come _ rfl (fun KC hK=>?_);go_simp
     refine (hi_tab _).mono ?_;rintro e wz ⟨to,rfl,HNT,hb⟩
     replace HB:=Lib.hid (below_step HB.out hb)
     clear hb
     go_simp;refine hK.out _ _ ((HB.out.block _ (row_lt HROW.out)).trans HROW.out) ?_;clear hK KC)
  | (refine seq_come _ rfl (fun KC hK=>?_);go_simp;(first|refine hK.out _ _ ((HB.out.block _ (row_lt HROW.out)).trans HROW.out) ?_|(rw[if_neg (by simp[undef])];refine hK.out _ _ ((HB.out.block _ (row_lt HROW.out)).trans HROW.out) ?_));clear hK KC)
  first
  | (refine seq_come _ rfl (fun KC hK=>?_);go_simp
     refine (unknown8_any Xu d [17,25,33,41,49,50,57,58,66,74,80,89,97] to 13 _ HNT (by decide) (Lib.hid (by decide)) (by have:=HZu.out;omega) HDD.out.2).mono ?_;rintro e wz ⟨rfl,hb⟩
     rw[HDu.out,←munkOk_rtk hi_rtk,cu,show decide (0≤d)=true from d1]
     replace HB:=Lib.hid (below_step HB.out hb)
     clear hb
     go_simp;refine hK.out _ _ ((HB.out.block _ (row_lt HROW.out)).trans HROW.out) ?_;clear hK KC)
  | (refine seq_come _ rfl (fun KC hK=>?_);go_simp;(first|refine hK.out _ _ ((HB.out.block _ (row_lt HROW.out)).trans HROW.out) ?_|(rw[if_neg (by simp[undef])];refine hK.out _ _ ((HB.out.block _ (row_lt HROW.out)).trans HROW.out) ?_));clear hK KC)
  iterate 2 (refine seq_take _ rfl (fun KC hK=>?_);go_simp;(first|refine hK _ ?_|refine ⟨_,fun _ _=>rfl,hK _ ?_⟩|(refine ⟨undef,by rw[if_neg (by simp[undef])],?_⟩;refine hK _ ?_));clear hK KC)
  refine seq_done ?_
  clear hne
  go_wp2_with fail
  go_ret
  exact ⟨rfl,below_step HBD.out HB.out⟩
theorem hi_rout (x:Hi) (cs:List Value) (Q:Nat→Prop) (d:Int) (w:World) (ha:hi_arg x) (hw:hi_wt x≤12000) (hr:hiCel.R w Q x cs) (hm:hi_may d x=true) :
 Calls Tryz.prog 30 #[.agg cs.toArray] w fun e w'=>e = .returned (.string ⟨(hi_out x).toArray⟩)∧Below w.heap.size w w':=by
 have hft:=hi_fit_ofx ha hw
 obtain ⟨⟨a,⟨t,⟨k,⟨⟨ph,pn⟩,⟨nc,⟨nb,⟨es,⟨l,⟨f,⟨⟨mh,mn⟩,⟨gh,gn⟩⟩⟩⟩⟩⟩⟩⟩⟩⟩⟩,u⟩:=x
 obtain ⟨lo,lc,nco,ncc,nbo,nbc,eo,ec,rfl,hrl,hrnc,hrnb,hres⟩:=hr
 have hwt:60+(8 * nc.length+8 * nb.length+lwt exSb es+ksw l+u.length)≤12000:=hw
 clear hw
 obtain ⟨hna,hnt,hnk,hnpn,hfnc,hfnb,hfes,hfl,hnf,hnmn,hngn,hw⟩:=hft
 dsimp only[strV]
 obtain ⟨Xu,hXu⟩:∃ X:ByteArray,(⟨u.toArray⟩:ByteArray)=X:=⟨_,rfl⟩
 have HDu:Hid (Xu.data.toList=u):=Lib.hid (by rw[←hXu])
 have HZu:Hid (Xu.size≤12000):=Lib.hid (by rw[←hXu];simp[ByteArray.size];omega)
 rw[hXu]
 clear hXu
 have hm2:(decide (0≤d)&&(((ph||decide (pn=0))&&(lmays exSb es d&&(kmays l d&&((mh||decide (mn=0))&&(gh||decide (gn=0))))))&&munkOk hiF.tk u d))=true:=hm
 simp only[Bool.and_eq_true,decide_eq_true_eq] at hm2
 have HMes:=Lib.hid hm2.2.1.2.1
 have HMl:=Lib.hid hm2.2.1.2.2.1
 obtain ⟨ox,hox⟩:∃ q0,hi_out ((a,(t,(k,((ph,pn),(nc,(nb,(es,(l,(f,((mh,mn),(gh,gn))))))))))),u)=q0:=⟨_,rfl⟩
 rw[hox]
 have HOX:=Lib.hid hox
 have HNa:=Lib.hid hna
 have HNt:=Lib.hid hnt
 have HNk:=Lib.hid hnk
 have HNpn:=Lib.hid hnpn
 have HNf:=Lib.hid hnf
 have qwf:=u64_wrap32 HNf.out
 have HNmn:=Lib.hid hnmn
 have HNgn:=Lib.hid hngn
 obtain ⟨bx,hbx⟩:∃ b,w.heap.size=b:=⟨_,rfl⟩
 obtain ⟨W,hW⟩:∃ W,w.alloc (.cells #[.slice lo l.length lc,.int .u64 (a:Int),.int .u64 (t:Int),.int .u64 (k:Int),.bool ph,.int .u64 (pn:Int),.bool mh,.int .u64 (mn:Int),.bool gh,.int .u64 (gn:Int),.slice nco nc.length ncc,.slice nbo nb.length nbc,.slice eo es.length ec,.int .u32 (f:Int),.string Xu] 50)=W:=⟨_,rfl⟩
 have hb0:Below w.heap.size w W:=by rw[←hW];exact below_new _ _
 have hrow:W.heap[bx]? = some (.cells #[.slice lo l.length lc,.int .u64 (a:Int),.int .u64 (t:Int),.int .u64 (k:Int),.bool ph,.int .u64 (pn:Int),.bool mh,.int .u64 (mn:Int),.bool gh,.int .u64 (gn:Int),.slice nco nc.length ncc,.slice nbo nb.length nbc,.slice eo es.length ec,.int .u32 (f:Int),.string Xu] 50 (0,0)):=by rw[←hW,←hbx];exact new_row _ _ _
 obtain ⟨D,hD⟩:∃ D,W.drew=D:=⟨_,rfl⟩
 have hbd:Below W.heap.size W D:=by rw[←hD];exact (Below.refl _ _).drew
 have HBD:=Lib.hid (below_step hb0 hbd)
 have HROW:=Lib.hid ((hbd.block _ (row_lt hrow)).trans hrow)
 have HKl:Hid (KRels D Q l lo 0):=Lib.hid (hrl.below HBD.out)
 have HFl:=Lib.hid hfl
 have HWTl:Hid (ksw l≤12000):=Lib.hid (by omega)
 have HKnc:Hid (CRels natCel D Q nc nco):=Lib.hid (hrnc.below HBD.out)
 have HFnc:=Lib.hid hfnc
 have HWTnc:Hid (8 * nc.length≤12000):=Lib.hid (by omega)
 have HKnb:Hid (CRels natCel D Q nb nbo):=Lib.hid (hrnb.below HBD.out)
 have HFnb:=Lib.hid hfnb
 have HWTnb:Hid (8 * nb.length≤12000):=Lib.hid (by omega)
 have HKes:Hid (CRels exCel D Q es eo):=Lib.hid (hres.below HBD.out)
 have HFes:=Lib.hid hfes
 have HWTes:Hid (lwt exSb es≤12000):=Lib.hid (by omega)
 have HW:=Lib.hid hW
 have HBX:=Lib.hid hbx
 have HDN:=Lib.hid hD
 clear hW hbx hrow hD hb0 hbd hna hnt hnk hnpn hfnc hfnb hfes hfl hnf hnmn hngn hw hwt ha hm hm2 hox hrl hrnc hrnb hres
 go_enter Tryz.func30,Tryz.ntmps30
 go_wp2_with fail
 rw[HW.out,HBX.out]
 have HB:Hid (Below D.heap.size D D):=Lib.hid (Below.refl _ _)
 have hne:Nonempty {w':World // (fun w'=>w'.heap[bx]? = some (.cells #[.slice lo l.length lc,.int .u64 (a:Int),.int .u64 (t:Int),.int .u64 (k:Int),.bool ph,.int .u64 (pn:Int),.bool mh,.int .u64 (mn:Int),.bool gh,.int .u64 (gn:Int),.slice nco nc.length ncc,.slice nbo nb.length nbc,.slice eo es.length ec,.int .u32 (f:Int),.string Xu] 50 (0,0))) w'}:=⟨⟨_,HROW.out⟩⟩
 refine wp_region_seq (S:=fun w'=>w'.heap[bx]? = some (.cells #[.slice lo l.length lc,.int .u64 (a:Int),.int .u64 (t:Int),.int .u64 (k:Int),.bool ph,.int .u64 (pn:Int),.bool mh,.int .u64 (mn:Int),.bool gh,.int .u64 (gn:Int),.slice nco nc.length ncc,.slice nbo nb.length nbc,.slice eo es.length ec,.int .u32 (f:Int),.string Xu] 50 (0,0))) [(0,true),(1,true),(3,true),(4,true),(7,true),(8,true),(11,true),(12,true),(15,true),(16,true),(19,true),(20,true),(23,true),(24,true),(27,true),(28,true),(31,true),(32,true),(33,true),(36,true),(37,true),(40,true),(41,true),(44,true),(45,true),(2,false),(5,false),(6,true),(9,false),(10,true),(13,false),(14,true),(17,false),(18,true),(21,false),(22,true),(25,false),(26,true),(29,false),(30,true),(34,false),(35,true),(38,false),(39,true),(42,false),(43,true),(46,true),(47,true)] (by kernel_rfl) (by kernel_rfl) (by kernel_rfl) (by kernel_rfl) (by rw[HDN.out];exact HROW.out) ?_
 rw[HDN.out]
 (refine seq_take _ rfl (fun KC hK=>?_);go_simp;(first|refine hK _ ?_|refine ⟨_,fun _ _=>rfl,hK _ ?_⟩|(refine ⟨undef,by rw[if_neg (by simp[undef])],?_⟩;refine hK _ ?_));clear hK KC)
 (refine seq_take _ rfl (fun KC hK=>?_);go_simp;refine ⟨.int .u64 (a:Int),fun wA ha=>by (have e0:wA.cell? ⟨bx,1,none⟩=some (.int .u64 (a:Int)):=row_cell ha (j:=1) rfl);simp only[e0,Result.andThen],hK _ ?_⟩;clear hK KC)
 (refine seq_take _ rfl (fun KC hK=>?_);go_simp;(first|refine hK _ ?_|refine ⟨_,fun _ _=>rfl,hK _ ?_⟩|(refine ⟨undef,by rw[if_neg (by simp[undef])],?_⟩;refine hK _ ?_));clear hK KC)
 (refine seq_take _ rfl (fun KC hK=>?_);go_simp;refine ⟨.int .u64 (t:Int),fun wA ha=>by (have e0:wA.cell? ⟨bx,2,none⟩=some (.int .u64 (t:Int)):=row_cell ha (j:=2) rfl);simp only[e0,Result.andThen],hK _ ?_⟩;clear hK KC)
 (refine seq_take _ rfl (fun KC hK=>?_);go_simp;(first|refine hK _ ?_|refine ⟨_,fun _ _=>rfl,hK _ ?_⟩|(refine ⟨undef,by rw[if_neg (by simp[undef])],?_⟩;refine hK _ ?_));clear hK KC)
 (refine seq_take _ rfl (fun KC hK=>?_);go_simp;refine ⟨.int .u64 (k:Int),fun wA ha=>by (have e0:wA.cell? ⟨bx,3,none⟩=some (.int .u64 (k:Int)):=row_cell ha (j:=3) rfl);simp only[e0,Result.andThen],hK _ ?_⟩;clear hK KC)
 (refine seq_take _ rfl (fun KC hK=>?_);go_simp;(first|refine hK _ ?_|refine ⟨_,fun _ _=>rfl,hK _ ?_⟩|(refine ⟨undef,by rw[if_neg (by simp[undef])],?_⟩;refine hK _ ?_));clear hK KC)
 (refine seq_take _ rfl (fun KC hK=>?_);go_simp;refine ⟨.agg #[.bool ph,.int .u64 (pn:Int)],fun wA ha=>by (have e0:wA.cell? ⟨bx,4,none⟩=some (.bool ph):=row_cell ha (j:=4) rfl);(have e1:wA.cell? ⟨bx,5,none⟩=some (.int .u64 (pn:Int)):=row_cell ha (j:=5) rfl);simp only[e0,e1,Result.andThen],hK _ ?_⟩;clear hK KC)
 (refine seq_take _ rfl (fun KC hK=>?_);go_simp;(first|refine hK _ ?_|refine ⟨_,fun _ _=>rfl,hK _ ?_⟩|(refine ⟨undef,by rw[if_neg (by simp[undef])],?_⟩;refine hK _ ?_));clear hK KC)
 (refine seq_take _ rfl (fun KC hK=>?_);go_simp;refine ⟨.slice nco nc.length ncc,fun wA ha=>by (have e0:wA.cell? ⟨bx,10,none⟩=some (.slice nco nc.length ncc):=row_cell ha (j:=10) rfl);simp only[e0,Result.andThen],hK _ ?_⟩;clear hK KC)
 (refine seq_take _ rfl (fun KC hK=>?_);go_simp;(first|refine hK _ ?_|refine ⟨_,fun _ _=>rfl,hK _ ?_⟩|(refine ⟨undef,by rw[if_neg (by simp[undef])],?_⟩;refine hK _ ?_));clear hK KC)
 (refine seq_take _ rfl (fun KC hK=>?_);go_simp;refine ⟨.slice nbo nb.length nbc,fun wA ha=>by (have e0:wA.cell? ⟨bx,11,none⟩=some (.slice nbo nb.length nbc):=row_cell ha (j:=11) rfl);simp only[e0,Result.andThen],hK _ ?_⟩;clear hK KC)
 (refine seq_take _ rfl (fun KC hK=>?_);go_simp;(first|refine hK _ ?_|refine ⟨_,fun _ _=>rfl,hK _ ?_⟩|(refine ⟨undef,by rw[if_neg (by simp[undef])],?_⟩;refine hK _ ?_));clear hK KC)
 (refine seq_take _ rfl (fun KC hK=>?_);go_simp;refine ⟨.slice eo es.length ec,fun wA ha=>by (have e0:wA.cell? ⟨bx,12,none⟩=some (.slice eo es.length ec):=row_cell ha (j:=12) rfl);simp only[e0,Result.andThen],hK _ ?_⟩;clear hK KC)
 (refine seq_take _ rfl (fun KC hK=>?_);go_simp;(first|refine hK _ ?_|refine ⟨_,fun _ _=>rfl,hK _ ?_⟩|(refine ⟨undef,by rw[if_neg (by simp[undef])],?_⟩;refine hK _ ?_));clear hK KC)
 (refine seq_take _ rfl (fun KC hK=>?_);go_simp;refine ⟨.slice lo l.length lc,fun wA ha=>by (have e0:wA.cell? ⟨bx,0,none⟩=some (.slice lo l.length lc):=row_cell ha (j:=0) rfl);simp only[e0,Result.andThen],hK _ ?_⟩;clear hK KC)
 (refine seq_take _ rfl (fun KC hK=>?_);go_simp;(first|refine hK _ ?_|refine ⟨_,fun _ _=>rfl,hK _ ?_⟩|(refine ⟨undef,by rw[if_neg (by simp[undef])],?_⟩;refine hK _ ?_));clear hK KC)
 (refine seq_take _ rfl (fun KC hK=>?_);go_simp;refine ⟨.int .u32 (f:Int),fun wA ha=>by (have e0:wA.cell? ⟨bx,13,none⟩=some (.int .u32 (f:Int)):=row_cell ha (j:=13) rfl);simp only[e0,Result.andThen],hK _ ?_⟩;clear hK KC)
 iterate 2 (refine seq_take _ rfl (fun KC hK=>?_);go_simp;(first|refine hK _ ?_|refine ⟨_,fun _ _=>rfl,hK _ ?_⟩|(refine ⟨undef,by rw[if_neg (by simp[undef])],?_⟩;refine hK _ ?_));clear hK KC)
 (refine seq_take _ rfl (fun KC hK=>?_);go_simp;refine ⟨.agg #[.bool mh,.int .u64 (mn:Int)],fun wA ha=>by (have e0:wA.cell? ⟨bx,6,none⟩=some (.bool mh):=row_cell ha (j:=6) rfl);(have e1:wA.cell? ⟨bx,7,none⟩=some (.int .u64 (mn:Int)):=row_cell ha (j:=7) rfl);simp only[e0,e1,Result.andThen],hK _ ?_⟩;clear hK KC)
 (refine seq_take _ rfl (fun KC hK=>?_);go_simp;(first|refine hK _ ?_|refine ⟨_,fun _ _=>rfl,hK _ ?_⟩|(refine ⟨undef,by rw[if_neg (by simp[undef])],?_⟩;refine hK _ ?_));clear hK KC)
 (refine seq_take _ rfl (fun KC hK=>?_);go_simp;refine ⟨.agg #[.bool gh,.int .u64 (gn:Int)],fun wA ha=>by (have e0:wA.cell? ⟨bx,8,none⟩=some (.bool gh):=row_cell ha (j:=8) rfl);(have e1:wA.cell? ⟨bx,9,none⟩=some (.int .u64 (gn:Int)):=row_cell ha (j:=9) rfl);simp only[e0,e1,Result.andThen],hK _ ?_⟩;clear hK KC)
 (refine seq_take _ rfl (fun KC hK=>?_);go_simp;(first|refine hK _ ?_|refine ⟨_,fun _ _=>rfl,hK _ ?_⟩|(refine ⟨undef,by rw[if_neg (by simp[undef])],?_⟩;refine hK _ ?_));clear hK KC)
 (refine seq_take _ rfl (fun KC hK=>?_);go_simp;refine ⟨.string Xu,fun wA ha=>by (have e0:wA.cell? ⟨bx,14,none⟩=some (.string Xu):=row_cell ha (j:=14) rfl);simp only[e0,Result.andThen],hK _ ?_⟩;clear hK KC)
 refine seq_come _ rfl (fun KC hK=>?_);go_simp
 refine (putnum8_any 2 a _ (by omega) (by omega) HNa.out).mono ?_;rintro e wz ⟨hb,T2,rfl,HDT2⟩
 have HZT2:Hid (T2.size≤13000):=Lib.hid (by have h1:T2.size=(T2.data.toList).length:=(by simp);rw[HDT2.out] at h1;have:=num_seg 2 a;omega)
 replace HB:=Lib.hid (below_step HB.out hb)
 clear hb
 go_simp;refine hK.out _ _ ((HB.out.block _ (row_lt HROW.out)).trans HROW.out) ?_;clear hK KC
 refine seq_come _ rfl (fun KC hK=>?_);go_simp
 refine (putnum8_any 3 t _ (by omega) (by omega) HNt.out).mono ?_;rintro e wz ⟨hb,T3,rfl,HDT3⟩
 have HZT3:Hid (T3.size≤13000):=Lib.hid (by have h1:T3.size=(T3.data.toList).length:=(by simp);rw[HDT3.out] at h1;have:=num_seg 3 t;omega)
 replace HB:=Lib.hid (below_step HB.out hb)
 clear hb
 go_simp;refine hK.out _ _ ((HB.out.block _ (row_lt HROW.out)).trans HROW.out) ?_;clear hK KC
 have hov:¬9223372036854775807<T2.size+T3.size:=by have:=HZT2.out;have:=HZT3.out;omega
 refine seq_take _ rfl (fun KC hK=>?_);go_simp
 (first|refine hK _ ?_|(rw[if_neg hov];refine hK _ ?_)|refine ⟨_,fun _ _=>rfl,hK _ ?_⟩|(refine ⟨_,fun _ _=>by rw[if_neg hov],?_⟩;refine hK _ ?_));clear hK KC hov
 refine seq_come _ rfl (fun KC hK=>?_);go_simp
 refine (putnum8_any 4 k _ (by omega) (by omega) HNk.out).mono ?_;rintro e wz ⟨hb,T4,rfl,HDT4⟩
 have HZT4:Hid (T4.size≤13000):=Lib.hid (by have h1:T4.size=(T4.data.toList).length:=(by simp);rw[HDT4.out] at h1;have:=num_seg 4 k;omega)
 replace HB:=Lib.hid (below_step HB.out hb)
 clear hb
 go_simp;refine hK.out _ _ ((HB.out.block _ (row_lt HROW.out)).trans HROW.out) ?_;clear hK KC
 have hov:¬9223372036854775807<T2.size+T3.size+T4.size:=by have:=HZT2.out;have:=HZT3.out;have:=HZT4.out;omega
 refine seq_take _ rfl (fun KC hK=>?_);go_simp
 (first|refine hK _ ?_|(rw[if_neg hov];refine hK _ ?_)|refine ⟨_,fun _ _=>rfl,hK _ ?_⟩|(refine ⟨_,fun _ _=>by rw[if_neg hov],?_⟩;refine hK _ ?_));clear hK KC hov
 refine seq_come _ rfl (fun KC hK=>?_);go_simp
 refine (putopt8_any 5 ph pn _ (by omega) (by omega) HNpn.out).mono ?_;rintro e wz ⟨hb,T5,rfl,HDT5⟩
 have HZT5:Hid (T5.size≤13000):=Lib.hid (by have h1:T5.size=(T5.data.toList).length:=(by simp);rw[HDT5.out] at h1;have:=opt_seg 5 pn ph;omega)
 replace HB:=Lib.hid (below_step HB.out hb)
 clear hb
 go_simp;refine hK.out _ _ ((HB.out.block _ (row_lt HROW.out)).trans HROW.out) ?_;clear hK KC
 have hov:¬9223372036854775807<T2.size+T3.size+T4.size+T5.size:=by have:=HZT2.out;have:=HZT3.out;have:=HZT4.out;have:=HZT5.out;omega
 refine seq_take _ rfl (fun KC hK=>?_);go_simp
 (first|refine hK _ ?_|(rw[if_neg hov];refine hK _ ?_)|refine ⟨_,fun _ _=>rfl,hK _ ?_⟩|(refine ⟨_,fun _ _=>by rw[if_neg hov],?_⟩;refine hK _ ?_));clear hK KC hov
 refine seq_come _ rfl (fun KC hK=>?_);go_simp
 refine (putfix8_any 6 nc nco ncc _ (by omega) (by omega) (Lib.hid (nats_of_rels (HKnc.out.below HB.out))) HFnc (by have:=HWTnc.out;omega)).mono ?_;rintro e wz ⟨hb,T6,rfl,HDT6⟩
 have HZT6:Hid (T6.size≤13000):=Lib.hid (by have h1:T6.size=(T6.data.toList).length:=(by simp);rw[HDT6.out] at h1;have:=nums_seg 6 nc;have:=HWTnc.out;omega)
 replace HB:=Lib.hid (below_step HB.out hb)
 clear hb
 go_simp;refine hK.out _ _ ((HB.out.block _ (row_lt HROW.out)).trans HROW.out) ?_;clear hK KC
 have hov:¬9223372036854775807<T2.size+T3.size+T4.size+T5.size+T6.size:=by have:=HZT2.out;have:=HZT3.out;have:=HZT4.out;have:=HZT5.out;have:=HZT6.out;omega
 refine seq_take _ rfl (fun KC hK=>?_);go_simp
 (first|refine hK _ ?_|(rw[if_neg hov];refine hK _ ?_)|refine ⟨_,fun _ _=>rfl,hK _ ?_⟩|(refine ⟨_,fun _ _=>by rw[if_neg hov],?_⟩;refine hK _ ?_));clear hK KC hov
 refine seq_come _ rfl (fun KC hK=>?_);go_simp
 refine (putfix8_any 7 nb nbo nbc _ (by omega) (by omega) (Lib.hid (nats_of_rels (HKnb.out.below HB.out))) HFnb (by have:=HWTnb.out;omega)).mono ?_;rintro e wz ⟨hb,T7,rfl,HDT7⟩
 have HZT7:Hid (T7.size≤13000):=Lib.hid (by have h1:T7.size=(T7.data.toList).length:=(by simp);rw[HDT7.out] at h1;have:=nums_seg 7 nb;have:=HWTnb.out;omega)
 replace HB:=Lib.hid (below_step HB.out hb)
 clear hb
 go_simp;refine hK.out _ _ ((HB.out.block _ (row_lt HROW.out)).trans HROW.out) ?_;clear hK KC
 have hov:¬9223372036854775807<T2.size+T3.size+T4.size+T5.size+T6.size+T7.size:=by have:=HZT2.out;have:=HZT3.out;have:=HZT4.out;have:=HZT5.out;have:=HZT6.out;have:=HZT7.out;omega
 refine seq_take _ rfl (fun KC hK=>?_);go_simp
 (first|refine hK _ ?_|(rw[if_neg hov];refine hK _ ?_)|refine ⟨_,fun _ _=>rfl,hK _ ?_⟩|(refine ⟨_,fun _ _=>by rw[if_neg hov],?_⟩;refine hK _ ?_));clear hK KC hov
 refine seq_come _ rfl (fun KC hK=>?_);go_simp
 refine (putexs8_any es 8 eo ec Q _ d (by omega) HFes.out HWTes.out (HKes.out.below HB.out) HMes.out).mono ?_;rintro e wz ⟨hb,T8,rfl,HDT8⟩
 have HZT8:Hid (T8.size≤13000):=Lib.hid (by have h1:T8.size=(T8.data.toList).length:=(by simp);rw[HDT8.out] at h1;have:=exs_olen (num:=8) (by omega) es;have:=HWTes.out;omega)
 replace HB:=Lib.hid (below_step HB.out hb)
 clear hb
 go_simp;refine hK.out _ _ ((HB.out.block _ (row_lt HROW.out)).trans HROW.out) ?_;clear hK KC
 have hov:¬9223372036854775807<T2.size+T3.size+T4.size+T5.size+T6.size+T7.size+T8.size:=by have:=HZT2.out;have:=HZT3.out;have:=HZT4.out;have:=HZT5.out;have:=HZT6.out;have:=HZT7.out;have:=HZT8.out;omega
 refine seq_take _ rfl (fun KC hK=>?_);go_simp
 (first|refine hK _ ?_|(rw[if_neg hov];refine hK _ ?_)|refine ⟨_,fun _ _=>rfl,hK _ ?_⟩|(refine ⟨_,fun _ _=>by rw[if_neg hov],?_⟩;refine hK _ ?_));clear hK KC hov
 refine seq_come _ rfl (fun KC hK=>?_);go_simp
 refine (roks_any l 9 lo lc Q _ d (by omega) HFl.out (HKl.out.below HB.out) (by have:=HWTl.out;omega) HMl.out).mono ?_;rintro e wz ⟨hb,T9,rfl,HDT9⟩
 have HZT9:Hid (T9.size≤13000):=Lib.hid (by have h1:T9.size=(T9.data.toList).length:=(by simp);rw[HDT9.out] at h1;have:=kouts_le 9 (by omega) l;have:=HWTl.out;omega)
 replace HB:=Lib.hid (below_step HB.out hb)
 clear hb
 go_simp;refine hK.out _ _ ((HB.out.block _ (row_lt HROW.out)).trans HROW.out) ?_;clear hK KC
 have hov:¬9223372036854775807<T2.size+T3.size+T4.size+T5.size+T6.size+T7.size+T8.size+T9.size:=by have:=HZT2.out;have:=HZT3.out;have:=HZT4.out;have:=HZT5.out;have:=HZT6.out;have:=HZT7.out;have:=HZT8.out;have:=HZT9.out;omega
 refine seq_take _ rfl (fun KC hK=>?_);go_simp
 (first|refine hK _ ?_|(rw[if_neg hov];refine hK _ ?_)|refine ⟨_,fun _ _=>rfl,hK _ ?_⟩|(refine ⟨_,fun _ _=>by rw[if_neg hov],?_⟩;refine hK _ ?_));clear hK KC hov
 refine seq_come _ rfl (fun KC hK=>?_);go_simp
 refine (putvar8r_any 10 f _ (by omega) (by omega) (by have:=HNf.out;omega)).mono ?_;rintro e wz ⟨hb,T10,rfl,HDT10⟩
 have HZT10:Hid (T10.size≤13000):=Lib.hid (by have h1:T10.size=(T10.data.toList).length:=(by simp);rw[HDT10.out] at h1;have:=var_seg 10 f;omega)
 replace HB:=Lib.hid (below_step HB.out hb)
 clear hb
 go_simp;refine hK.out _ _ ((HB.out.block _ (row_lt HROW.out)).trans HROW.out) ?_;clear hK KC
 have hov:¬9223372036854775807<T2.size+T3.size+T4.size+T5.size+T6.size+T7.size+T8.size+T9.size+T10.size:=by have:=HZT2.out;have:=HZT3.out;have:=HZT4.out;have:=HZT5.out;have:=HZT6.out;have:=HZT7.out;have:=HZT8.out;have:=HZT9.out;have:=HZT10.out;omega
 refine seq_take _ rfl (fun KC hK=>?_);go_simp
 (first|refine hK _ ?_|(rw[if_neg hov];refine hK _ ?_)|refine ⟨_,fun _ _=>rfl,hK _ ?_⟩|(refine ⟨_,fun _ _=>by rw[if_neg hov],?_⟩;refine hK _ ?_));clear hK KC hov
 refine seq_come _ rfl (fun KC hK=>?_);go_simp
 refine (putopt8_any 11 mh mn _ (by omega) (by omega) HNmn.out).mono ?_;rintro e wz ⟨hb,T11,rfl,HDT11⟩
 have HZT11:Hid (T11.size≤13000):=Lib.hid (by have h1:T11.size=(T11.data.toList).length:=(by simp);rw[HDT11.out] at h1;have:=opt_seg 11 mn mh;omega)
 replace HB:=Lib.hid (below_step HB.out hb)
 clear hb
 go_simp;refine hK.out _ _ ((HB.out.block _ (row_lt HROW.out)).trans HROW.out) ?_;clear hK KC
 have hov:¬9223372036854775807<T2.size+T3.size+T4.size+T5.size+T6.size+T7.size+T8.size+T9.size+T10.size+T11.size:=by have:=HZT2.out;have:=HZT3.out;have:=HZT4.out;have:=HZT5.out;have:=HZT6.out;have:=HZT7.out;have:=HZT8.out;have:=HZT9.out;have:=HZT10.out;have:=HZT11.out;omega
 refine seq_take _ rfl (fun KC hK=>?_);go_simp
 (first|refine hK _ ?_|(rw[if_neg hov];refine hK _ ?_)|refine ⟨_,fun _ _=>rfl,hK _ ?_⟩|(refine ⟨_,fun _ _=>by rw[if_neg hov],?_⟩;refine hK _ ?_));clear hK KC hov
 refine seq_come _ rfl (fun KC hK=>?_);go_simp
 refine (putopt8_any 12 gh gn _ (by omega) (by omega) HNgn.out).mono ?_;rintro e wz ⟨hb,T12,rfl,HDT12⟩
 have HZT12:Hid (T12.size≤13000):=Lib.hid (by have h1:T12.size=(T12.data.toList).length:=(by simp);rw[HDT12.out] at h1;have:=opt_seg 12 gn gh;omega)
 replace HB:=Lib.hid (below_step HB.out hb)
 clear hb
 go_simp;refine hK.out _ _ ((HB.out.block _ (row_lt HROW.out)).trans HROW.out) ?_;clear hK KC
 have hov:¬9223372036854775807<T2.size+T3.size+T4.size+T5.size+T6.size+T7.size+T8.size+T9.size+T10.size+T11.size+T12.size:=by have:=HZT2.out;have:=HZT3.out;have:=HZT4.out;have:=HZT5.out;have:=HZT6.out;have:=HZT7.out;have:=HZT8.out;have:=HZT9.out;have:=HZT10.out;have:=HZT11.out;have:=HZT12.out;omega
 refine seq_take _ rfl (fun KC hK=>?_);go_simp
 (first|refine hK _ ?_|(rw[if_neg hov];refine hK _ ?_)|refine ⟨_,fun _ _=>rfl,hK _ ?_⟩|(refine ⟨_,fun _ _=>by rw[if_neg hov],?_⟩;refine hK _ ?_));clear hK KC hov
 have hov:¬9223372036854775807<T2.size+T3.size+T4.size+T5.size+T6.size+T7.size+T8.size+T9.size+T10.size+T11.size+T12.size+Xu.size:=by have:=HZT2.out;have:=HZT3.out;have:=HZT4.out;have:=HZT5.out;have:=HZT6.out;have:=HZT7.out;have:=HZT8.out;have:=HZT9.out;have:=HZT10.out;have:=HZT11.out;have:=HZT12.out;have:=HZu.out;omega
 refine seq_take _ rfl (fun KC hK=>?_);go_simp
 (first|refine hK _ ?_|(rw[if_neg hov];refine hK _ ?_)|refine ⟨_,fun _ _=>rfl,hK _ ?_⟩|(refine ⟨_,fun _ _=>by rw[if_neg hov],?_⟩;refine hK _ ?_));clear hK KC hov
 (refine seq_take _ rfl (fun KC hK=>?_);go_simp;(first|refine hK _ ?_|refine ⟨_,fun _ _=>rfl,hK _ ?_⟩|(refine ⟨undef,by rw[if_neg (by simp[undef])],?_⟩;refine hK _ ?_));clear hK KC)
 refine seq_done ?_
 clear hne
 have hfin:(((((((((((T2++T3)++T4)++T5)++T6)++T7)++T8)++T9)++T10)++T11)++T12)++Xu)=(⟨ox.toArray⟩:ByteArray):=by
  refine ByteArray.ext (Array.ext' ?_)
  simp only[ByteArray.data_append,Array.toList_append]
  rw[HDT2.out,HDT3.out,HDT4.out,HDT5.out,HDT6.out,HDT7.out,HDT8.out,HDT9.out,HDT10.out,HDT11.out,HDT12.out,HDu.out]
  rw[←HOX.out]
  rfl
 have HFIN:=Lib.hid hfin
 clear hfin
 go_wp2_with fail
 rw[HFIN.out]
 go_ret
 exact ⟨rfl,below_step HBD.out HB.out⟩
theorem hi_enm {x:Hi} {d e:Int} (he:200001≤e) (hw:hi_wt x≤12000) (hm:hi_may d x=true):hi_may e x=true:=by
  obtain ⟨⟨a,⟨t,⟨k,⟨⟨ph,pn⟩,⟨nc,⟨nb,⟨es,⟨l,⟨f,⟨⟨mh,mn⟩,⟨gh,gn⟩⟩⟩⟩⟩⟩⟩⟩⟩⟩⟩,u⟩:=x
  have hw:60+(8 * nc.length+8 * nb.length+lwt exSb es+ksw l+u.length)≤12000:=hw
  have h:(decide (0≤d)&&(((ph||decide (pn=0))&&(lmays exSb es d&&(kmays l d&&((mh||decide (mn=0))&&(gh||decide (gn=0))))))&&munkOk hiF.tk u d))=true:=hm
  show (decide (0≤e)&&(((ph||decide (pn=0))&&(lmays exSb es e&&(kmays l e&&((mh||decide (mn=0))&&(gh||decide (gn=0))))))&&munkOk hiF.tk u e))=true
  simp only[Bool.and_eq_true,decide_eq_true_eq] at h ⊢
  exact ⟨by omega,⟨h.2.1.1,⟨exs_enm (by omega) (by omega) h.2.1.2.1,⟨kmays_enm (by omega) (by omega) h.2.1.2.2.1,⟨h.2.1.2.2.2.1,h.2.1.2.2.2.2⟩⟩⟩⟩,munkOk_enough (by omega) h.2.2⟩
theorem hi_enough {x:Hi} {d:Int} (hw:hi_wt x≤12000) (hm:hi_may d x=true):hi_may 262144 x=true:=hi_enm (by omega) hw hm
end Go.Proofs.YtjbingoliffjiaaGreatDoor
