/-
  hygref8.MayExemplar, Exemplar; Size.
-/
import Derived.Test.YtficgfemmijaaaaGreatDoorPackR
import Derived.Test.YtficgfemmijaaaaGreatDoorRowL
import Derived.Test.YtficgfemmijaaaaGreatDoorExRoom
set_option maxRecDepth 1000000
set_option maxHeartbeats 16000000
namespace Go.Proofs.YtficgfemmijaaaaGreatDoor
open Go.RowKit
open Lib (hid)
theorem ex_fit_ofx {x:Ex}(h:ex_arg x)(hw:ex_wt x≤12000):ex_fit x:=by
  obtain ⟨⟨t,⟨⟨⟨k,n⟩,⟨a,b⟩⟩,l⟩⟩,u⟩:=x;exact ex_fit_of h hw
theorem ex_rmay (x:Ex)(cs:List Value)(Q:Nat→Prop)(d:Int)(w:World)(ha:ex_arg x)(hw:ex_wt x≤12000)(hr:exCel.R w Q x cs)(hd:-9223372036854775808≤d∧d≤9223372036854775807) :
 Calls Tryz.prog 99 #[.agg cs.toArray,.int .i64 d] w fun e w'=>e = .returned (.bool (ex_may d x))∧Below w.heap.size w w':=by
 have hft:=ex_fit_ofx ha hw;obtain ⟨⟨t,⟨⟨⟨k,n⟩,⟨a,b⟩⟩,l⟩⟩,u⟩:=x;obtain ⟨lo,lc,rfl,hrl⟩:=hr;have hwt:60+(a.length+b.length+ksw l+u.length)≤12000:=hw;clear hw;obtain ⟨hnt,hnn,hfl,hw⟩:=hft;dsimp only[strV];obtain ⟨Xa,hXa⟩:∃ X:ByteArray,(⟨a.toArray⟩:ByteArray)=X:=⟨_,rfl⟩
 have HDa:Hid (Xa.data.toList=a):=hid (by rw[←hXa]);have HZa:Hid (Xa.size≤12000):=hid (by rw[←hXa];simp[ByteArray.size];omega);obtain ⟨Xb,hXb⟩:∃ X:ByteArray,(⟨b.toArray⟩:ByteArray)=X:=⟨_,rfl⟩
 have HDb:Hid (Xb.data.toList=b):=hid (by rw[←hXb]);have HZb:Hid (Xb.size≤12000):=hid (by rw[←hXb];simp[ByteArray.size];omega);obtain ⟨Xu,hXu⟩:∃ X:ByteArray,(⟨u.toArray⟩:ByteArray)=X:=⟨_,rfl⟩
 have HDu:Hid (Xu.data.toList=u):=hid (by rw[←hXu]);have HZu:Hid (Xu.size≤12000):=hid (by rw[←hXu];simp[ByteArray.size];omega);rw[hXa,hXb,hXu];clear hXa hXb hXu;obtain ⟨mx,hmx⟩:∃ q0,ex_may d ((t,(((k,n),(a,b)),l)),u)=q0:=⟨_,rfl⟩
 have hm2:(decide (0≤d)&&((decide (k=0∧n=0∨k=1∨k=2)&&kmays l d)&&munkOk exF.tk u d))=mx:=hmx;rw[hmx];clear hmx
 have hkq:decide (k=0∧n=0∨k=1∨k=2)=(decide (k ≥ 0)&&(decide (k≤2)&&(decide (k>0)||((n:Int) == 0)))):=by
  rw[Bool.eq_iff_iff]
  simp only[decide_eq_true_eq,Bool.and_eq_true,Bool.or_eq_true,beq_iff_eq]
  omega
 rw[hkq] at hm2;clear hkq
 have harms:(decide (d ≥ 0)=false∧mx=false)∨(decide (d ≥ 0)=true∧decide (k ≥ 0)=false∧mx=false)∨(decide (d ≥ 0)=true∧decide (k ≥ 0)=true∧decide (k≤2)=false∧mx=false)∨(decide (d ≥ 0)=true∧decide (k ≥ 0)=true∧decide (k≤2)=true∧decide (k>0)=false∧((n:Int) == 0)=false∧mx=false)∨(decide (d ≥ 0)=true∧decide (k ≥ 0)=true∧decide (k≤2)=true∧decide (k>0)=true∧kmays l d=false∧mx=false)∨(decide (d ≥ 0)=true∧decide (k ≥ 0)=true∧decide (k≤2)=true∧decide (k>0)=true∧kmays l d=true∧munkOk exF.tk u d=false∧mx=false)∨(decide (d ≥ 0)=true∧decide (k ≥ 0)=true∧decide (k≤2)=true∧decide (k>0)=true∧kmays l d=true∧munkOk exF.tk u d=true∧mx=true)∨(decide (d ≥ 0)=true∧decide (k ≥ 0)=true∧decide (k≤2)=true∧decide (k>0)=false∧((n:Int) == 0)=true∧kmays l d=false∧mx=false)∨(decide (d ≥ 0)=true∧decide (k ≥ 0)=true∧decide (k≤2)=true∧decide (k>0)=false∧((n:Int) == 0)=true∧kmays l d=true∧munkOk exF.tk u d=false∧mx=false)∨(decide (d ≥ 0)=true∧decide (k ≥ 0)=true∧decide (k≤2)=true∧decide (k>0)=false∧((n:Int) == 0)=true∧kmays l d=true∧munkOk exF.tk u d=true∧mx=true):=by
  have hm3:(decide (d ≥ 0)&&(((decide (k ≥ 0)&&(decide (k≤2)&&(decide (k>0)||((n:Int) == 0))))&&kmays l d)&&munkOk exF.tk u d))=mx:=hm2;clear hm2
  revert hm3
  generalize decide (d ≥ 0)=bd
  generalize decide (k ≥ 0)=bk0
  generalize decide (k≤2)=bk2
  generalize decide (k>0)=bkp
  generalize ((n:Int) == 0)=bn0
  generalize kmays l d=bl
  generalize munkOk exF.tk u d=bu
  intro hm3;subst hm3
  cases bd<;>cases bk0<;>cases bk2<;>cases bkp<;>cases bn0<;>cases bl<;>cases bu<;>simp
 clear hm2;obtain ⟨bx,hbx⟩:∃ b,w.heap.size=b:=⟨_,rfl⟩
 obtain ⟨W,hW⟩:∃ W,w.alloc (.cells #[.slice lo l.length lc,.int .u64 t,.int .i64 k,.int .u64 n,.string Xa,.string Xb,.string Xu] 84)=W:=⟨_,rfl⟩
 have hb0:Below w.heap.size w W:=by rw[←hW];exact below_new _ _
 have hrow:W.heap[bx]? = some (.cells #[.slice lo l.length lc,.int .u64 t,.int .i64 k,.int .u64 n,.string Xa,.string Xb,.string Xu] 84 (0,0)):=by rw[←hW,←hbx];exact new_row _ _ _
 obtain ⟨D,hD⟩:∃ D,W.drew=D:=⟨_,rfl⟩
 have hbd:Below W.heap.size W D:=by rw[←hD];exact (Below.refl _ _).drew
 have HBD:=hid (below_step hb0 hbd);have HROW:=hid ((hbd.block _ (row_lt hrow)).trans hrow);have HKl:Hid (KRels D Q l lo 0):=hid (hrl.below HBD.out);have HFl:=hid hfl;have HWTl:Hid (ksw l≤12000):=hid (by omega);have HDD:=hid hd;have HW:=hid hW;have HBX:=hid hbx;have HDN:=hid hD;clear hW hbx hrow hD hb0 hbd hnt hnn hfl hw hwt ha hd hrl
 rcases harms with ⟨d1,rfl⟩|⟨d1,d2,rfl⟩|⟨d1,d2,d3,rfl⟩|⟨d1,d2,d3,d4,d5,rfl⟩|⟨d1,d2,d3,d4,cl,rfl⟩|⟨d1,d2,d3,d4,cl,cu,rfl⟩|⟨d1,d2,d3,d4,cl,cu,rfl⟩|⟨d1,d2,d3,d4,d5,cl,rfl⟩|⟨d1,d2,d3,d4,d5,cl,cu,rfl⟩|⟨d1,d2,d3,d4,d5,cl,cu,rfl⟩
 all_goals
  try have q1:IntKind.i64.wrap (d - 1)=d - 1:=IntWalk.i64_in _ (by have:=HDD.out;have:=of_decide_eq_true d1;omega)
  go_enter Tryz.func99,Tryz.ntmps99;go_wp2_with fail;rw[HW.out,HBX.out];have HB:Hid (Below D.heap.size D D):=hid (Below.refl _ _);have hne:Nonempty {w':World // (fun w'=>w'.heap[bx]? = some (.cells #[.slice lo l.length lc,.int .u64 t,.int .i64 k,.int .u64 n,.string Xa,.string Xb,.string Xu] 84 (0,0))) w'}:=⟨⟨_,HROW.out⟩⟩
  refine wp_region_seq (S:=fun w'=>w'.heap[bx]? = some (.cells #[.slice lo l.length lc,.int .u64 t,.int .i64 k,.int .u64 n,.string Xa,.string Xb,.string Xu] 84 (0,0))) [(0,true),(1,true),(2,true),(3,true),(4,true),(5,true),(6,true),(7,true),(8,true),(9,true),(10,true),(11,true),(12,true),(13,true),(14,true),(15,true),(16,true),(17,true),(18,true),(19,true),(20,true),(21,true),(22,true),(23,true),(24,true),(25,true),(26,true),(27,false),(28,true),(29,true),(30,true),(31,true),(32,true),(33,false),(34,false),(35,true),(36,true)] (by kernel_rfl) (by kernel_rfl) (by kernel_rfl) (by kernel_rfl) (by rw[HDN.out];exact HROW.out) ?_;rw[HDN.out]
  iterate 4 (refine seq_take _ rfl (fun KC hK=>?_);go_simp;(first|refine hK _ ?_|refine ⟨_,fun _ _=>rfl,hK _ ?_⟩|(refine ⟨undef,by rw[if_neg (by simp[undef])],?_⟩;refine hK _ ?_));clear hK KC)
  first|(refine seq_take _ rfl (fun KC hK=>?_);go_simp;refine ⟨.int .i64 k,fun a ha=>by (have e0:a.cell? ⟨bx,2,none⟩=some (.int .i64 k):=row_cell ha (j:=2) rfl);simp only[e0,Result.andThen],hK _ ?_⟩;clear hK KC)|(refine seq_take _ rfl (fun KC hK=>?_);go_simp;(first|refine hK _ ?_|refine ⟨_,fun _ _=>rfl,hK _ ?_⟩|(refine ⟨undef,by rw[if_neg (by simp[undef])],?_⟩;refine hK _ ?_));clear hK KC)
  iterate 4 (refine seq_take _ rfl (fun KC hK=>?_);go_simp;(first|refine hK _ ?_|refine ⟨_,fun _ _=>rfl,hK _ ?_⟩|(refine ⟨undef,by rw[if_neg (by simp[undef])],?_⟩;refine hK _ ?_));clear hK KC)
  first|(refine seq_take _ rfl (fun KC hK=>?_);go_simp;refine ⟨.int .i64 k,fun a ha=>by (have e0:a.cell? ⟨bx,2,none⟩=some (.int .i64 k):=row_cell ha (j:=2) rfl);simp only[e0,Result.andThen],hK _ ?_⟩;clear hK KC)|(refine seq_take _ rfl (fun KC hK=>?_);go_simp;(first|refine hK _ ?_|refine ⟨_,fun _ _=>rfl,hK _ ?_⟩|(refine ⟨undef,by rw[if_neg (by simp[undef])],?_⟩;refine hK _ ?_));clear hK KC)
  iterate 4 (refine seq_take _ rfl (fun KC hK=>?_);go_simp;(first|refine hK _ ?_|refine ⟨_,fun _ _=>rfl,hK _ ?_⟩|(refine ⟨undef,by rw[if_neg (by simp[undef])],?_⟩;refine hK _ ?_));clear hK KC)
  first|(refine seq_take _ rfl (fun KC hK=>?_);go_simp;refine ⟨.int .i64 k,fun a ha=>by (have e0:a.cell? ⟨bx,2,none⟩=some (.int .i64 k):=row_cell ha (j:=2) rfl);simp only[e0,Result.andThen],hK _ ?_⟩;clear hK KC)|(refine seq_take _ rfl (fun KC hK=>?_);go_simp;(first|refine hK _ ?_|refine ⟨_,fun _ _=>rfl,hK _ ?_⟩|(refine ⟨undef,by rw[if_neg (by simp[undef])],?_⟩;refine hK _ ?_));clear hK KC)
  iterate 3 (refine seq_take _ rfl (fun KC hK=>?_);go_simp;(first|refine hK _ ?_|refine ⟨_,fun _ _=>rfl,hK _ ?_⟩|(refine ⟨undef,by rw[if_neg (by simp[undef])],?_⟩;refine hK _ ?_));clear hK KC)
  first|(refine seq_take _ rfl (fun KC hK=>?_);go_simp;refine ⟨.int .u64 n,fun a ha=>by (have e0:a.cell? ⟨bx,3,none⟩=some (.int .u64 n):=row_cell ha (j:=3) rfl);simp only[e0,Result.andThen],hK _ ?_⟩;clear hK KC)|(refine seq_take _ rfl (fun KC hK=>?_);go_simp;(first|refine hK _ ?_|refine ⟨_,fun _ _=>rfl,hK _ ?_⟩|(refine ⟨undef,by rw[if_neg (by simp[undef])],?_⟩;refine hK _ ?_));clear hK KC)
  iterate 5 (refine seq_take _ rfl (fun KC hK=>?_);go_simp;(first|refine hK _ ?_|refine ⟨_,fun _ _=>rfl,hK _ ?_⟩|(refine ⟨undef,by rw[if_neg (by simp[undef])],?_⟩;refine hK _ ?_));clear hK KC)
  first|(refine seq_take _ rfl (fun KC hK=>?_);go_simp;refine ⟨.slice lo l.length lc,fun a ha=>by (have e0:a.cell? ⟨bx,0,none⟩=some (.slice lo l.length lc):=row_cell ha (j:=0) rfl);simp only[e0,Result.andThen],hK _ ?_⟩;clear hK KC)|(refine seq_take _ rfl (fun KC hK=>?_);go_simp;(first|refine hK _ ?_|refine ⟨_,fun _ _=>rfl,hK _ ?_⟩|(refine ⟨undef,by rw[if_neg (by simp[undef])],?_⟩;refine hK _ ?_));clear hK KC)
  iterate 2 (refine seq_take _ rfl (fun KC hK=>?_);go_simp;(first|refine hK _ ?_|refine ⟨_,fun _ _=>rfl,hK _ ?_⟩|(refine ⟨undef,by rw[if_neg (by simp[undef])],?_⟩;refine hK _ ?_));clear hK KC)
  first
  | (refine seq_come _ rfl (fun KC hK=>?_);go_simp
     refine (mayks_any8 l lo lc Q _ (d - 1) HFl.out (HKl.out.below HB.out) (by have:=HDD.out;have:=of_decide_eq_true d1;omega) (by have:=HWTl.out;omega)).mono ?_;rintro e wz ⟨hb,gg,rfl,rfl⟩;rw[kmays_ref d (of_decide_eq_true d1),cl];replace HB:=hid (below_step HB.out hb);clear hb;go_simp;refine hK.out _ _ ((HB.out.block _ (row_lt HROW.out)).trans HROW.out) ?_;clear hK KC)
  | (refine seq_come _ rfl (fun KC hK=>?_);go_simp;(first|refine hK.out _ _ ((HB.out.block _ (row_lt HROW.out)).trans HROW.out) ?_|(rw[if_neg (by simp[undef])];refine hK.out _ _ ((HB.out.block _ (row_lt HROW.out)).trans HROW.out) ?_));clear hK KC)
  iterate 3 (refine seq_take _ rfl (fun KC hK=>?_);go_simp;(first|refine hK _ ?_|refine ⟨_,fun _ _=>rfl,hK _ ?_⟩|(refine ⟨undef,by rw[if_neg (by simp[undef])],?_⟩;refine hK _ ?_));clear hK KC)
  first|(refine seq_take _ rfl (fun KC hK=>?_);go_simp;refine ⟨.string Xu,fun a ha=>by (have e0:a.cell? ⟨bx,6,none⟩=some (.string Xu):=row_cell ha (j:=6) rfl);simp only[e0,Result.andThen],hK _ ?_⟩;clear hK KC)|(refine seq_take _ rfl (fun KC hK=>?_);go_simp;(first|refine hK _ ?_|refine ⟨_,fun _ _=>rfl,hK _ ?_⟩|(refine ⟨undef,by rw[if_neg (by simp[undef])],?_⟩;refine hK _ ?_));clear hK KC)
  (refine seq_take _ rfl (fun KC hK=>?_);go_simp;(first|refine hK _ ?_|refine ⟨_,fun _ _=>rfl,hK _ ?_⟩|(refine ⟨undef,by rw[if_neg (by simp[undef])],?_⟩;refine hK _ ?_));clear hK KC)
  first
  | (refine seq_come _ rfl (fun KC hK=>?_);go_simp
     refine (ex_tab _).mono ?_;rintro e wz ⟨to,rfl,HNT,hb⟩;replace HB:=hid (below_step HB.out hb);clear hb;go_simp;refine hK.out _ _ ((HB.out.block _ (row_lt HROW.out)).trans HROW.out) ?_;clear hK KC)
  | (refine seq_come _ rfl (fun KC hK=>?_);go_simp;(first|refine hK.out _ _ ((HB.out.block _ (row_lt HROW.out)).trans HROW.out) ?_|(rw[if_neg (by simp[undef])];refine hK.out _ _ ((HB.out.block _ (row_lt HROW.out)).trans HROW.out) ?_));clear hK KC)
  first
  | (refine seq_come _ rfl (fun KC hK=>?_);go_simp
     refine (unknown8_any Xu d [17,25,34,42,49,58] to 6 _ HNT (by decide) (hid (by decide)) (by have:=HZu.out;omega) HDD.out.2).mono ?_;rintro e wz ⟨rfl,hb⟩;rw[HDu.out,←munkOk_rtk ex_rtk,cu,show decide (0≤d)=true from d1];replace HB:=hid (below_step HB.out hb);clear hb;go_simp;refine hK.out _ _ ((HB.out.block _ (row_lt HROW.out)).trans HROW.out) ?_;clear hK KC)
  | (refine seq_come _ rfl (fun KC hK=>?_);go_simp;(first|refine hK.out _ _ ((HB.out.block _ (row_lt HROW.out)).trans HROW.out) ?_|(rw[if_neg (by simp[undef])];refine hK.out _ _ ((HB.out.block _ (row_lt HROW.out)).trans HROW.out) ?_));clear hK KC)
  iterate 2 (refine seq_take _ rfl (fun KC hK=>?_);go_simp;(first|refine hK _ ?_|refine ⟨_,fun _ _=>rfl,hK _ ?_⟩|(refine ⟨undef,by rw[if_neg (by simp[undef])],?_⟩;refine hK _ ?_));clear hK KC)
  refine seq_done ?_;clear hne;go_wp2_with fail;go_ret;exact ⟨rfl,below_step HBD.out HB.out⟩
theorem ex_rout (x:Ex)(cs:List Value)(Q:Nat→Prop)(d:Int)(w:World)(ha:ex_arg x)(hw:ex_wt x≤12000)(hr:exCel.R w Q x cs)(hm:ex_may d x=true) :
 Calls Tryz.prog 121 #[.agg cs.toArray] w fun e w'=>e = .returned (.string ⟨(ex_out x).toArray⟩)∧Below w.heap.size w w':=by
 have hft:=ex_fit_ofx ha hw;obtain ⟨⟨t,⟨⟨⟨k,n⟩,⟨a,b⟩⟩,l⟩⟩,u⟩:=x;obtain ⟨lo,lc,rfl,hrl⟩:=hr;have hwt:60+(a.length+b.length+ksw l+u.length)≤12000:=hw;clear hw;obtain ⟨hnt,hnn,hfl,hw⟩:=hft;dsimp only[strV];obtain ⟨Xa,hXa⟩:∃ X:ByteArray,(⟨a.toArray⟩:ByteArray)=X:=⟨_,rfl⟩
 have HDa:Hid (Xa.data.toList=a):=hid (by rw[←hXa]);have HZa:Hid (Xa.size≤12000):=hid (by rw[←hXa];simp[ByteArray.size];omega);obtain ⟨Xb,hXb⟩:∃ X:ByteArray,(⟨b.toArray⟩:ByteArray)=X:=⟨_,rfl⟩
 have HDb:Hid (Xb.data.toList=b):=hid (by rw[←hXb]);have HZb:Hid (Xb.size≤12000):=hid (by rw[←hXb];simp[ByteArray.size];omega);obtain ⟨Xu,hXu⟩:∃ X:ByteArray,(⟨u.toArray⟩:ByteArray)=X:=⟨_,rfl⟩
 have HDu:Hid (Xu.data.toList=u):=hid (by rw[←hXu]);have HZu:Hid (Xu.size≤12000):=hid (by rw[←hXu];simp[ByteArray.size];omega);rw[hXa,hXb,hXu];clear hXa hXb hXu;have hm2:(decide (0≤d)&&((decide (k=0∧n=0∨k=1∨k=2)&&kmays l d)&&munkOk exF.tk u d))=true:=hm
 simp only[Bool.and_eq_true,decide_eq_true_eq] at hm2
 have HMl:=hid hm2.2.1.2;obtain ⟨ox,hox⟩:∃ q0,ex_out ((t,(((k,n),(a,b)),l)),u)=q0:=⟨_,rfl⟩
 rw[hox];have HOX:=hid hox;have HNt:=hid hnt;have HNn:=hid hnn;obtain ⟨bx,hbx⟩:∃ b,w.heap.size=b:=⟨_,rfl⟩
 obtain ⟨W,hW⟩:∃ W,w.alloc (.cells #[.slice lo l.length lc,.int .u64 t,.int .i64 k,.int .u64 n,.string Xa,.string Xb,.string Xu] 84)=W:=⟨_,rfl⟩
 have hb0:Below w.heap.size w W:=by rw[←hW];exact below_new _ _
 have hrow:W.heap[bx]? = some (.cells #[.slice lo l.length lc,.int .u64 t,.int .i64 k,.int .u64 n,.string Xa,.string Xb,.string Xu] 84 (0,0)):=by rw[←hW,←hbx];exact new_row _ _ _
 obtain ⟨D,hD⟩:∃ D,W.drew=D:=⟨_,rfl⟩
 have hbd:Below W.heap.size W D:=by rw[←hD];exact (Below.refl _ _).drew
 have HBD:=hid (below_step hb0 hbd);have HROW:=hid ((hbd.block _ (row_lt hrow)).trans hrow);have HKl:Hid (KRels D Q l lo 0):=hid (hrl.below HBD.out);have HFl:=hid hfl;have HWTl:Hid (ksw l≤12000):=hid (by omega);have HW:=hid hW;have HBX:=hid hbx;have HDN:=hid hD;clear hW hbx hrow hD hb0 hbd hnt hnn hfl hw hwt ha hm hm2 hox hrl;go_enter Tryz.func121,Tryz.ntmps121;go_wp2_with fail;rw[HW.out,HBX.out];have HB:Hid (Below D.heap.size D D):=hid (Below.refl _ _);have hne:Nonempty {w':World // (fun w'=>w'.heap[bx]? = some (.cells #[.slice lo l.length lc,.int .u64 t,.int .i64 k,.int .u64 n,.string Xa,.string Xb,.string Xu] 84 (0,0))) w'}:=⟨⟨_,HROW.out⟩⟩
 refine wp_region_seq (S:=fun w'=>w'.heap[bx]? = some (.cells #[.slice lo l.length lc,.int .u64 t,.int .i64 k,.int .u64 n,.string Xa,.string Xb,.string Xu] 84 (0,0))) [(0,true),(1,true),(3,true),(4,true),(5,true),(6,true),(7,true),(11,true),(12,true),(15,true),(16,true),(19,true),(20,true),(21,true),(22,true),(23,true),(27,true),(28,true),(31,true),(32,true),(2,false),(8,false),(9,false),(10,true),(13,false),(14,true),(17,false),(18,true),(24,false),(25,false),(26,true),(29,false),(30,true),(33,true),(34,true)] (by kernel_rfl) (by kernel_rfl) (by kernel_rfl) (by kernel_rfl) (by rw[HDN.out];exact HROW.out) ?_;rw[HDN.out]
 (refine seq_take _ rfl (fun KC hK=>?_);go_simp;(first|refine hK _ ?_|refine ⟨_,fun _ _=>rfl,hK _ ?_⟩|(refine ⟨undef,by rw[if_neg (by simp[undef])],?_⟩;refine hK _ ?_));clear hK KC)
 (refine seq_take _ rfl (fun KC hK=>?_);go_simp;refine ⟨.int .u64 t,fun a ha=>by (have e0:a.cell? ⟨bx,1,none⟩=some (.int .u64 t):=row_cell ha (j:=1) rfl);simp only[e0,Result.andThen],hK _ ?_⟩;clear hK KC)
 (refine seq_take _ rfl (fun KC hK=>?_);go_simp;(first|refine hK _ ?_|refine ⟨_,fun _ _=>rfl,hK _ ?_⟩|(refine ⟨undef,by rw[if_neg (by simp[undef])],?_⟩;refine hK _ ?_));clear hK KC)
 (refine seq_take _ rfl (fun KC hK=>?_);go_simp;refine ⟨.int .i64 k,fun a ha=>by (have e0:a.cell? ⟨bx,2,none⟩=some (.int .i64 k):=row_cell ha (j:=2) rfl);simp only[e0,Result.andThen],hK _ ?_⟩;clear hK KC)
 iterate 2 (refine seq_take _ rfl (fun KC hK=>?_);go_simp;(first|refine hK _ ?_|refine ⟨_,fun _ _=>rfl,hK _ ?_⟩|(refine ⟨undef,by rw[if_neg (by simp[undef])],?_⟩;refine hK _ ?_));clear hK KC)
 (refine seq_take _ rfl (fun KC hK=>?_);go_simp;refine ⟨.int .u64 n,fun a ha=>by (have e0:a.cell? ⟨bx,3,none⟩=some (.int .u64 n):=row_cell ha (j:=3) rfl);simp only[e0,Result.andThen],hK _ ?_⟩;clear hK KC)
 (refine seq_take _ rfl (fun KC hK=>?_);go_simp;(first|refine hK _ ?_|refine ⟨_,fun _ _=>rfl,hK _ ?_⟩|(refine ⟨undef,by rw[if_neg (by simp[undef])],?_⟩;refine hK _ ?_));clear hK KC)
 (refine seq_take _ rfl (fun KC hK=>?_);go_simp;refine ⟨.string Xa,fun a ha=>by (have e0:a.cell? ⟨bx,4,none⟩=some (.string Xa):=row_cell ha (j:=4) rfl);simp only[e0,Result.andThen],hK _ ?_⟩;clear hK KC)
 (refine seq_take _ rfl (fun KC hK=>?_);go_simp;(first|refine hK _ ?_|refine ⟨_,fun _ _=>rfl,hK _ ?_⟩|(refine ⟨undef,by rw[if_neg (by simp[undef])],?_⟩;refine hK _ ?_));clear hK KC)
 (refine seq_take _ rfl (fun KC hK=>?_);go_simp;refine ⟨.string Xb,fun a ha=>by (have e0:a.cell? ⟨bx,5,none⟩=some (.string Xb):=row_cell ha (j:=5) rfl);simp only[e0,Result.andThen],hK _ ?_⟩;clear hK KC)
 (refine seq_take _ rfl (fun KC hK=>?_);go_simp;(first|refine hK _ ?_|refine ⟨_,fun _ _=>rfl,hK _ ?_⟩|(refine ⟨undef,by rw[if_neg (by simp[undef])],?_⟩;refine hK _ ?_));clear hK KC)
 (refine seq_take _ rfl (fun KC hK=>?_);go_simp;refine ⟨.int .i64 k,fun a ha=>by (have e0:a.cell? ⟨bx,2,none⟩=some (.int .i64 k):=row_cell ha (j:=2) rfl);simp only[e0,Result.andThen],hK _ ?_⟩;clear hK KC)
 iterate 2 (refine seq_take _ rfl (fun KC hK=>?_);go_simp;(first|refine hK _ ?_|refine ⟨_,fun _ _=>rfl,hK _ ?_⟩|(refine ⟨undef,by rw[if_neg (by simp[undef])],?_⟩;refine hK _ ?_));clear hK KC)
 (refine seq_take _ rfl (fun KC hK=>?_);go_simp;refine ⟨.int .u64 n,fun a ha=>by (have e0:a.cell? ⟨bx,3,none⟩=some (.int .u64 n):=row_cell ha (j:=3) rfl);simp only[e0,Result.andThen],hK _ ?_⟩;clear hK KC)
 (refine seq_take _ rfl (fun KC hK=>?_);go_simp;(first|refine hK _ ?_|refine ⟨_,fun _ _=>rfl,hK _ ?_⟩|(refine ⟨undef,by rw[if_neg (by simp[undef])],?_⟩;refine hK _ ?_));clear hK KC)
 (refine seq_take _ rfl (fun KC hK=>?_);go_simp;refine ⟨.slice lo l.length lc,fun a ha=>by (have e0:a.cell? ⟨bx,0,none⟩=some (.slice lo l.length lc):=row_cell ha (j:=0) rfl);simp only[e0,Result.andThen],hK _ ?_⟩;clear hK KC)
 (refine seq_take _ rfl (fun KC hK=>?_);go_simp;(first|refine hK _ ?_|refine ⟨_,fun _ _=>rfl,hK _ ?_⟩|(refine ⟨undef,by rw[if_neg (by simp[undef])],?_⟩;refine hK _ ?_));clear hK KC)
 (refine seq_take _ rfl (fun KC hK=>?_);go_simp;refine ⟨.string Xu,fun a ha=>by (have e0:a.cell? ⟨bx,6,none⟩=some (.string Xu):=row_cell ha (j:=6) rfl);simp only[e0,Result.andThen],hK _ ?_⟩;clear hK KC)
 refine seq_come _ rfl (fun KC hK=>?_);go_simp;refine (putnum8_any 2 t _ (by omega) (by omega) HNt.out).mono ?_;rintro e wz ⟨hb,T2,rfl,HDT2⟩;have HZT2:Hid (T2.size≤13000):=hid (by have h1:T2.size=(T2.data.toList).length:=(by simp);rw[HDT2.out] at h1;have:=num_seg 2 t;omega);replace HB:=hid (below_step HB.out hb);clear hb;go_simp;refine hK.out _ _ ((HB.out.block _ (row_lt HROW.out)).trans HROW.out) ?_;clear hK KC;refine seq_come _ rfl (fun KC hK=>?_);go_simp;refine (fixed8_any 3 n _ (by omega) (by omega) HNn.out).mono ?_;rintro e wz ⟨hb,F3,rfl,HDF3⟩;replace HB:=hid (below_step HB.out hb);clear hb;go_simp;refine hK.out _ _ ((HB.out.block _ (row_lt HROW.out)).trans HROW.out) ?_;clear hK KC;refine seq_come _ rfl (fun KC hK=>?_);go_simp;refine (if18_any (k=1) (k == 1) F3 _ _ (by rw[beq_iff_eq]) HDF3).mono ?_;rintro e wz ⟨hb,T3,rfl,HDT3⟩;have HZT3:Hid (T3.size≤13000):=hid (by have h1:T3.size=(T3.data.toList).length:=(by simp);rw[HDT3.out] at h1;have:=kind_seg 3 n 1 k;omega);replace HB:=hid (below_step HB.out hb);clear hb;go_simp;refine hK.out _ _ ((HB.out.block _ (row_lt HROW.out)).trans HROW.out) ?_;clear hK KC;have hov:¬9223372036854775807<T2.size+T3.size:=by have:=HZT2.out;have:=HZT3.out;omega
 refine seq_take _ rfl (fun KC hK=>?_);go_simp
 (first|refine hK _ ?_|(rw[if_neg hov];refine hK _ ?_)|refine ⟨_,fun _ _=>rfl,hK _ ?_⟩|(refine ⟨_,fun _ _=>by rw[if_neg hov],?_⟩;refine hK _ ?_));clear hK KC hov
 refine seq_come _ rfl (fun KC hK=>?_);go_simp;refine (puttext8r_any 4 Xa a _ (by omega) (by omega) HDa (by have:=HZa.out;have h1:Xa.size=a.length:=(by rw[←HDa.out];simp);omega)).mono ?_;rintro e wz ⟨hb,T4,rfl,HDT4⟩;have HZT4:Hid (T4.size≤13000):=hid (by have h1:T4.size=(T4.data.toList).length:=(by simp);rw[HDT4.out] at h1;have:=bytes_seg 4 a;have:=HZa.out;have h2:Xa.size=a.length:=(by rw[←HDa.out];simp);omega);replace HB:=hid (below_step HB.out hb);clear hb;go_simp;refine hK.out _ _ ((HB.out.block _ (row_lt HROW.out)).trans HROW.out) ?_;clear hK KC;have hov:¬9223372036854775807<T2.size+T3.size+T4.size:=by have:=HZT2.out;have:=HZT3.out;have:=HZT4.out;omega
 refine seq_take _ rfl (fun KC hK=>?_);go_simp
 (first|refine hK _ ?_|(rw[if_neg hov];refine hK _ ?_)|refine ⟨_,fun _ _=>rfl,hK _ ?_⟩|(refine ⟨_,fun _ _=>by rw[if_neg hov],?_⟩;refine hK _ ?_));clear hK KC hov
 refine seq_come _ rfl (fun KC hK=>?_);go_simp;refine (puttext8r_any 5 Xb b _ (by omega) (by omega) HDb (by have:=HZb.out;have h1:Xb.size=b.length:=(by rw[←HDb.out];simp);omega)).mono ?_;rintro e wz ⟨hb,T5,rfl,HDT5⟩;have HZT5:Hid (T5.size≤13000):=hid (by have h1:T5.size=(T5.data.toList).length:=(by simp);rw[HDT5.out] at h1;have:=bytes_seg 5 b;have:=HZb.out;have h2:Xb.size=b.length:=(by rw[←HDb.out];simp);omega);replace HB:=hid (below_step HB.out hb);clear hb;go_simp;refine hK.out _ _ ((HB.out.block _ (row_lt HROW.out)).trans HROW.out) ?_;clear hK KC;have hov:¬9223372036854775807<T2.size+T3.size+T4.size+T5.size:=by have:=HZT2.out;have:=HZT3.out;have:=HZT4.out;have:=HZT5.out;omega
 refine seq_take _ rfl (fun KC hK=>?_);go_simp
 (first|refine hK _ ?_|(rw[if_neg hov];refine hK _ ?_)|refine ⟨_,fun _ _=>rfl,hK _ ?_⟩|(refine ⟨_,fun _ _=>by rw[if_neg hov],?_⟩;refine hK _ ?_));clear hK KC hov
 refine seq_come _ rfl (fun KC hK=>?_);go_simp;refine (fixed8_any 6 n _ (by omega) (by omega) HNn.out).mono ?_;rintro e wz ⟨hb,F6,rfl,HDF6⟩;replace HB:=hid (below_step HB.out hb);clear hb;go_simp;refine hK.out _ _ ((HB.out.block _ (row_lt HROW.out)).trans HROW.out) ?_;clear hK KC;refine seq_come _ rfl (fun KC hK=>?_);go_simp;refine (if18_any (k=2) (k == 2) F6 _ _ (by rw[beq_iff_eq]) HDF6).mono ?_;rintro e wz ⟨hb,T6,rfl,HDT6⟩;have HZT6:Hid (T6.size≤13000):=hid (by have h1:T6.size=(T6.data.toList).length:=(by simp);rw[HDT6.out] at h1;have:=kind_seg 6 n 2 k;omega);replace HB:=hid (below_step HB.out hb);clear hb;go_simp;refine hK.out _ _ ((HB.out.block _ (row_lt HROW.out)).trans HROW.out) ?_;clear hK KC;have hov:¬9223372036854775807<T2.size+T3.size+T4.size+T5.size+T6.size:=by have:=HZT2.out;have:=HZT3.out;have:=HZT4.out;have:=HZT5.out;have:=HZT6.out;omega
 refine seq_take _ rfl (fun KC hK=>?_);go_simp
 (first|refine hK _ ?_|(rw[if_neg hov];refine hK _ ?_)|refine ⟨_,fun _ _=>rfl,hK _ ?_⟩|(refine ⟨_,fun _ _=>by rw[if_neg hov],?_⟩;refine hK _ ?_));clear hK KC hov
 refine seq_come _ rfl (fun KC hK=>?_);go_simp;refine (roks_any l 7 lo lc Q _ d (by omega) HFl.out (HKl.out.below HB.out) (by have:=HWTl.out;omega) HMl.out).mono ?_;rintro e wz ⟨hb,T7,rfl,HDT7⟩;have HZT7:Hid (T7.size≤13000):=hid (by have h1:T7.size=(T7.data.toList).length:=(by simp);rw[HDT7.out] at h1;have:=kouts_le 7 (by omega) l;have:=HWTl.out;omega);replace HB:=hid (below_step HB.out hb);clear hb;go_simp;refine hK.out _ _ ((HB.out.block _ (row_lt HROW.out)).trans HROW.out) ?_;clear hK KC;have hov:¬9223372036854775807<T2.size+T3.size+T4.size+T5.size+T6.size+T7.size:=by have:=HZT2.out;have:=HZT3.out;have:=HZT4.out;have:=HZT5.out;have:=HZT6.out;have:=HZT7.out;omega
 refine seq_take _ rfl (fun KC hK=>?_);go_simp
 (first|refine hK _ ?_|(rw[if_neg hov];refine hK _ ?_)|refine ⟨_,fun _ _=>rfl,hK _ ?_⟩|(refine ⟨_,fun _ _=>by rw[if_neg hov],?_⟩;refine hK _ ?_));clear hK KC hov
 have hov:¬9223372036854775807<T2.size+T3.size+T4.size+T5.size+T6.size+T7.size+Xu.size:=by have:=HZT2.out;have:=HZT3.out;have:=HZT4.out;have:=HZT5.out;have:=HZT6.out;have:=HZT7.out;have:=HZu.out;omega
 refine seq_take _ rfl (fun KC hK=>?_);go_simp
 (first|refine hK _ ?_|(rw[if_neg hov];refine hK _ ?_)|refine ⟨_,fun _ _=>rfl,hK _ ?_⟩|(refine ⟨_,fun _ _=>by rw[if_neg hov],?_⟩;refine hK _ ?_));clear hK KC hov
 (refine seq_take _ rfl (fun KC hK=>?_);go_simp;(first|refine hK _ ?_|refine ⟨_,fun _ _=>rfl,hK _ ?_⟩|(refine ⟨undef,by rw[if_neg (by simp[undef])],?_⟩;refine hK _ ?_));clear hK KC)
 refine seq_done ?_;clear hne
 have hfin:((((((T2++T3)++T4)++T5)++T6)++T7)++Xu)=(⟨ox.toArray⟩:ByteArray):=by
  refine ByteArray.ext (Array.ext' ?_)
  simp only[ByteArray.data_append,Array.toList_append]
  rw[HDT2.out,HDT3.out,HDT4.out,HDT5.out,HDT6.out,HDT7.out,HDu.out];rw[←HOX.out]
  rfl
 have HFIN:=hid hfin;clear hfin;go_wp2_with fail;rw[HFIN.out];go_ret;exact ⟨rfl,below_step HBD.out HB.out⟩
end Go.Proofs.YtficgfemmijaaaaGreatDoor
