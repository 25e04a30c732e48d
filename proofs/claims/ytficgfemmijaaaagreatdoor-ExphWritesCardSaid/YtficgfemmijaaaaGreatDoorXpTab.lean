/-
  XpRoom, XpTab
-/
import Derived.Test.YtficgfemmijaaaaGreatDoorExMar
import Derived.Test.YtficgfemmijaaaaGreatDoorExRoom
import Derived.Test.YtficgfemmijaaaaGreatDoorBukRef
import Derived.Test.YtficgfemmijaaaaGreatDoorRefBuk
import Derived.Test.YtficgfemmijaaaaGreatDoorValMar
import Derived.Test.YtficgfemmijaaaaGreatDoorExPart
import Derived.Test.YtficgfemmijaaaaGreatDoorPackR
import Derived.Test.YtficgfemmijaaaaGreatDoorRefMsg
set_option maxRecDepth 1000000
set_option maxHeartbeats 16000000
namespace Go.Proofs.YtficgfemmijaaaaGreatDoor
open Go.RowKit
open Lib (hid)
theorem roomb_gen (room:Int)(hro:-1≤room∧room≤1000000)(x:Bk)(u:List UInt8)(ao:Option Addr)(cap:Nat)(w:World)(hl:x.cs.length≤9223372036854775807)(hu:u.length≤9223372036854775807) :
    Calls Tryz.prog 39 #[.agg #[.int .i32 x.off,.slice ao x.cs.length cap,.string ⟨u.toArray⟩],.int .i64 room] w fun e w'=>Below w.heap.size w w'∧∃ r:Int,e = .returned (.int .i64 r)∧Hid (RoomOk room (40+(u.length+8 * min x.cs.length 100000)) r):=by
  have HRO:=hid hro;obtain ⟨X,hX⟩:∃ X:ByteArray,(⟨u.toArray⟩:ByteArray)=X:=⟨_,rfl⟩
  have hXs:X.size=u.length:=by rw[←hX];simp[ByteArray.size]
  rw[hX];rw[←hXs] at hu ⊢;clear hX hXs;obtain ⟨n,hn⟩:∃ n,x.cs.length=n:=⟨_,rfl⟩
  rw[hn] at hl ⊢;clear hn;obtain ⟨m,hm⟩:∃ m:Nat,min n 100000=m:=⟨_,rfl⟩
  have hmi:min (n:Int) 100000=(m:Int):=by omega
  have hmb:m≤100000:=by omega
  have HM:=hid hmi;have q1:IntKind.i64.wrap (8 * (m:Int))=((8 * m:Nat):Int):=by rw[IntWalk.i64_in _ (by omega)];omega
  rw[hm];have HMB:=hid hmb;clear hm hmb hmi hro;obtain ⟨W0,hW0⟩:∃ W0,w.alloc (.cells #[.int .i32 x.off,.slice ao n cap,.string X] 29)=W0:=⟨_,rfl⟩
  have HBW0:Hid (Below w.heap.size w W0):=hid (by rw[←hW0];exact below_new _ _);have HR0:Hid (W0.heap[w.heap.size]? = some (.cells #[.int .i32 x.off,.slice ao n cap,.string X] 29 (0,0))):=hid (by rw[←hW0];exact heap_alloc_new w _);have HW0:=hid hW0;clear hW0;obtain ⟨b,hb⟩:∃ b,w.heap.size=b:=⟨_,rfl⟩
  have HBB:=hid hb;go_enter Tryz.func39,Tryz.ntmps39;go_wp2_with fail;rw[HW0.out];obtain ⟨D,hD⟩:∃ D,W0.drew=D:=⟨_,rfl⟩
  have HBD:Hid (Below w.heap.size w D):=hid (by rw[←hD];exact HBW0.out.drew);have HRD:Hid (D.heap[w.heap.size]? = some (.cells #[.int .i32 x.off,.slice ao n cap,.string X] 29 (0,0))):=hid (by rw[←hD];exact HR0.out);have hs0:D.cell? ⟨w.heap.size,2,none⟩=some (.string X)∧D.cell? ⟨w.heap.size,1,none⟩=some (.slice ao n cap):=⟨row_cell HRD.out (j:=2) rfl,row_cell HRD.out (j:=1) rfl⟩
  refine wp_region_seq (S:=fun w'=>w'.cell? ⟨w.heap.size,2,none⟩=some (.string X)∧w'.cell? ⟨w.heap.size,1,none⟩=some (.slice ao n cap)) [(0,true),(1,true),(2,true),(3,true),(5,true),(6,true),(7,true),(8,true),(9,true),(4,false),(10,false),(11,true)] (by kernel_rfl) (by kernel_rfl) (by kernel_rfl) (by kernel_rfl) (by rw[hD];exact hs0) ?_;rw[hD]
  iterate 7 (refine seq_take _ rfl (fun K hK=>?_);go_simp;(first|refine hK _ ?_|refine ⟨_,fun _ _ _=>rfl,hK _ ?_⟩|refine ⟨.string X,fun a ha _=>by rw[ha];rfl,hK _ ?_⟩|refine ⟨.slice ao n cap,fun a _ ha=>by rw[ha];rfl,hK _ ?_⟩);clear hK K)
  refine seq_take _ rfl (fun K hK=>?_);go_simp;refine ⟨.int .i64 m,fun a _ _=>by rw[HM.out],hK _ ?_⟩;clear hK K;refine seq_take _ rfl (fun K hK=>?_);go_simp;(first|refine hK _ ?_|refine ⟨_,fun _ _ _=>rfl,hK _ ?_⟩);clear hK K;refine seq_come _ rfl (fun K hK=>?_);go_simp;refine (roomtake_any room X.size D HRO.out hu).mono ?_;rintro e w1 ⟨rfl,r1,rfl,HR1⟩;have HB1:=hid (HR1.out.le HRO.out);have HC2:=hid (roomtake_any r1 (8 * m) D HB1.out (by have:=HMB.out;omega));go_simp;refine hK.out _ _ hs0 ?_;clear hK K;refine seq_come _ rfl (fun K hK=>?_);go_simp;refine HC2.out.mono ?_;rintro e w1 ⟨rfl,r2,rfl,HR2⟩;have HR3:=hid (HR1.out.then HR2.out);go_simp;refine hK.out _ _ hs0 ?_;clear hK K;refine seq_take _ rfl (fun K hK=>?_);go_simp;(first|refine hK _ ?_|refine ⟨_,fun _ _ _=>rfl,hK _ ?_⟩);clear hK K;refine seq_done ?_;go_wp2_with fail;go_ret;exact ⟨HBD.out,r2,rfl,hid (by have h:=HR3.out;unfold RoomOk at h ⊢;omega)⟩
theorem exsw_lwt:∀ l:List Ex,exsw l=lwt exSb l
  | []=>by rw[exsw];rfl
  | x::l=>by rw[exsw,lwt_cons,exsw_lwt l];rfl
def xp_rw:Xp→Nat
  | ((l,(_,(_,(_,((_,_),(_,(_,((_,pb,pu),((_,nb,nu),(_,(es,((_,_),((_,_),_))))))))))))),u)=>100+(8 * min pb.cs.length 100000+pu.length+(8 * min nb.cs.length 100000+nu.length)+ksw l+lwt exSb es+u.length)
theorem xp_fit_rw {x:Xp}(ha:xp_arg x)(h:xp_rw x≤12000):xp_fit x:=by
  obtain ⟨⟨l,⟨a,⟨t,⟨k,⟨⟨bp,vp⟩,⟨sc,⟨zc,⟨⟨gp,pb,pu⟩,⟨⟨gn,nb,nu⟩,⟨f,⟨es,⟨⟨bm,vm⟩,⟨⟨bg,vg⟩,th⟩⟩⟩⟩⟩⟩⟩⟩⟩⟩⟩⟩⟩,u⟩:=x;obtain ⟨hfl,hll,hzl,hna,hnt,hnk,hnvp,hnsc,hnzc,hfpu,hypu,hzpu,hfnu,hynu,hznu,hnf,hfes,hzes,hnvm,hnvg,hnth,hzu⟩:=ha;have h:100+(8 * min pb.cs.length 100000+pu.length+(8 * min nb.cs.length 100000+nu.length)+ksw l+lwt exSb es+u.length)≤12000:=h;exact ⟨hfl,hna,hnt,hnk,hnvp,hnsc,hnzc,hfpu,hfnu,hnf,(exs_fit_of hfes (by omega)),hnvm,hnvg,hnth,(by omega)⟩
def RowXp (w':World)(g:Nat)(c:List Value):Prop:=w'.heap[g]? = some (.cells c.toArray 33 (0,0))
theorem xp_room (x:Xp)(cs:List Value)(P:Nat→Prop)(w:World)(room:Int)(harg:xp_arg x)(hr:xpCel.R w P x cs)(hro:-1≤room∧room≤700000) :
 Calls Tryz.prog 11 #[.agg cs.toArray,.int .i64 room] w (RmPost room (xp_rw x) w):=by
 have HRO:Hid (-1≤room∧room≤1000000):=hid (by omega);obtain ⟨⟨l,⟨a,⟨t,⟨k,⟨⟨bp,vp⟩,⟨sc,⟨zc,⟨⟨gp,pb,pu⟩,⟨⟨gn,nb,nu⟩,⟨f,⟨es,⟨⟨bm,vm⟩,⟨⟨bg,vg⟩,th⟩⟩⟩⟩⟩⟩⟩⟩⟩⟩⟩⟩⟩,u⟩:=x;obtain ⟨lo,lc,po,pc,no,nc,eo,ec,rfl,hk,_,_,he⟩:=hr;obtain ⟨hfl,hll,hzl,_,_,_,_,_,_,_,hypu,hzpu,_,hynu,hznu,_,hfes,hzes,_,_,_,hzu⟩:=harg;have HK:=hid hk;have HE:=hid he;have HFE:=hid hfes;have HZE:=hid hzes;have HFL:=hid hfl;have HLL:=hid hll;have HZL:=hid hzl;have HZP:=hid (And.intro hypu hzpu);have HZN:=hid (And.intro hynu hznu);have HWX:Hid (xp_rw ((l,(a,(t,(k,((bp,vp),(sc,(zc,((gp,pb,pu),((gn,nb,nu),(f,(es,((bm,vm),((bg,vg),th))))))))))))),u)=100+(8 * min pb.cs.length 100000+pu.length+(8 * min nb.cs.length 100000+nu.length)+ksw l+lwt exSb es+u.length)):=hid rfl;dsimp only[strV];obtain ⟨Xpu,hXpu⟩:∃ X:ByteArray,(⟨pu.toArray⟩:ByteArray)=X:=⟨_,rfl⟩
 obtain ⟨Xnu,hXnu⟩:∃ X:ByteArray,(⟨nu.toArray⟩:ByteArray)=X:=⟨_,rfl⟩
 obtain ⟨Xu,hXu⟩:∃ X:ByteArray,(⟨u.toArray⟩:ByteArray)=X:=⟨_,rfl⟩
 have HZU:Hid (Xu.size=u.length):=hid (by rw[←hXu];simp[ByteArray.size]);have HBU:Hid (Xu.size≤9223372036854775807):=hid (by rw[HZU.out];exact hzu);have HRN:=hid (fun r w' (hq : -1≤r∧r≤1000000)=>roomb_gen r hq nb nu no nc w' HZN.out.1 HZN.out.2);have HRP:=hid (fun r w' (hq : -1≤r∧r≤1000000)=>roomb_gen r hq pb pu po pc w' HZP.out.1 HZP.out.2);rw[hXpu] at HRP;rw[hXnu] at HRN;rw[hXpu,hXnu,hXu];clear hro hk he hfes hzes hfl hll hzl hypu hzpu hynu hznu hzu hXpu hXnu hXu;obtain ⟨W,hW⟩:∃ W,w.alloc (.cells #[.slice lo l.length lc,.int .u64 a,.int .u64 t,.int .u64 k,.bool bp,.int .u64 vp,.bool bm,.int .u64 vm,.bool bg,.int .u64 vg,.int .i32 sc,.int .u64 zc,.bool gp,.int .i32 pb.off,.slice po pb.cs.length pc,.string Xpu,.bool gn,.int .i32 nb.off,.slice no nb.cs.length nc,.string Xnu,.slice eo es.length ec,.int .u32 f,.int .u64 th,.string Xu] 33)=W:=⟨_,rfl⟩
 obtain ⟨bx,hbx⟩:∃ bx,w.heap.size=bx:=⟨_,rfl⟩
 have HB0:Hid (Below w.heap.size w W):=hid (by rw[←hW];exact below_new _ _);have hrow:RowXp W bx [.slice lo l.length lc,.int .u64 a,.int .u64 t,.int .u64 k,.bool bp,.int .u64 vp,.bool bm,.int .u64 vm,.bool bg,.int .u64 vg,.int .i32 sc,.int .u64 zc,.bool gp,.int .i32 pb.off,.slice po pb.cs.length pc,.string Xpu,.bool gn,.int .i32 nb.off,.slice no nb.cs.length nc,.string Xnu,.slice eo es.length ec,.int .u32 f,.int .u64 th,.string Xu]:=by rw[←hW,←hbx];exact heap_alloc_new _ _
 have HROW:=hid hrow;have HW:=hid hW;have HBX:=hid hbx;clear hW hbx hrow;go_enter Tryz.func11,Tryz.ntmps11;go_upto_region 1 with fail
 rw[HW.out,HBX.out];obtain ⟨D,hD⟩:∃ D,W.drew=D:=⟨_,rfl⟩
 have HBD:Hid (Below W.heap.size W D):=hid (by rw[←hD];exact (Below.refl _ _).drew);have hS:RowXp D bx [.slice lo l.length lc,.int .u64 a,.int .u64 t,.int .u64 k,.bool bp,.int .u64 vp,.bool bm,.int .u64 vm,.bool bg,.int .u64 vg,.int .i32 sc,.int .u64 zc,.bool gp,.int .i32 pb.off,.slice po pb.cs.length pc,.string Xpu,.bool gn,.int .i32 nb.off,.slice no nb.cs.length nc,.string Xnu,.slice eo es.length ec,.int .u32 f,.int .u64 th,.string Xu]:=(HBD.out.block _ (row_lt HROW.out)).trans HROW.out;have hne:Nonempty {w':World // RowXp w' bx [.slice lo l.length lc,.int .u64 a,.int .u64 t,.int .u64 k,.bool bp,.int .u64 vp,.bool bm,.int .u64 vm,.bool bg,.int .u64 vg,.int .i32 sc,.int .u64 zc,.bool gp,.int .i32 pb.off,.slice po pb.cs.length pc,.string Xpu,.bool gn,.int .i32 nb.off,.slice no nb.cs.length nc,.string Xnu,.slice eo es.length ec,.int .u32 f,.int .u64 th,.string Xu]}:=⟨⟨_,hS⟩⟩
 have HBW:=hid (below_step HB0.out HBD.out);refine wp_region_seq (S:=fun w'=>RowXp w' bx [.slice lo l.length lc,.int .u64 a,.int .u64 t,.int .u64 k,.bool bp,.int .u64 vp,.bool bm,.int .u64 vm,.bool bg,.int .u64 vg,.int .i32 sc,.int .u64 zc,.bool gp,.int .i32 pb.off,.slice po pb.cs.length pc,.string Xpu,.bool gn,.int .i32 nb.off,.slice no nb.cs.length nc,.string Xnu,.slice eo es.length ec,.int .u32 f,.int .u64 th,.string Xu]) [(0,true),(1,true),(2,true),(3,true),(4,true),(5,true),(6,true),(7,true),(8,false),(9,false),(10,false),(11,true)] (by kernel_rfl) (by kernel_rfl) (by kernel_rfl) (by kernel_rfl) (by rw[hD];exact hS) ?_;rw[hD];clear hD
 (refine seq_take _ rfl (fun K2 hK=>?_);go_simp;(first|refine hK _ ?_|refine ⟨_,fun _ _=>rfl,hK _ ?_⟩);clear hK K2)
 refine seq_take _ rfl (fun K2 hK=>?_);go_simp;refine ⟨.agg #[.int .i32 pb.off,.slice po pb.cs.length pc,.string Xpu],fun a ha=>by (have e0:a.cell? ⟨bx,13,none⟩=some (.int .i32 pb.off):=row_cell ha (j:=13) rfl;have e1:a.cell? ⟨bx,14,none⟩=some (.slice po pb.cs.length pc):=row_cell ha (j:=14) rfl;have e2:a.cell? ⟨bx,15,none⟩=some (.string Xpu):=row_cell ha (j:=15) rfl);simp only[e0,e1,e2,Result.andThen],hK _ ?_⟩;clear hK K2
 (refine seq_take _ rfl (fun K2 hK=>?_);go_simp;(first|refine hK _ ?_|refine ⟨_,fun _ _=>rfl,hK _ ?_⟩);clear hK K2)
 refine seq_take _ rfl (fun K2 hK=>?_);go_simp;refine ⟨.agg #[.int .i32 nb.off,.slice no nb.cs.length nc,.string Xnu],fun a ha=>by (have e0:a.cell? ⟨bx,17,none⟩=some (.int .i32 nb.off):=row_cell ha (j:=17) rfl;have e1:a.cell? ⟨bx,18,none⟩=some (.slice no nb.cs.length nc):=row_cell ha (j:=18) rfl;have e2:a.cell? ⟨bx,19,none⟩=some (.string Xnu):=row_cell ha (j:=19) rfl);simp only[e0,e1,e2,Result.andThen],hK _ ?_⟩;clear hK K2
 iterate 2 (refine seq_take _ rfl (fun K2 hK=>?_);go_simp;(first|refine hK _ ?_|refine ⟨_,fun _ _=>rfl,hK _ ?_⟩);clear hK K2)
 refine seq_take _ rfl (fun K2 hK=>?_);go_simp;refine ⟨.string Xu,fun a ha=>by (have e:a.cell? ⟨bx,23,none⟩=some (.string Xu):=row_cell ha (j:=23) rfl);rw[e];rfl,hK _ ?_⟩;clear hK K2
 (refine seq_take _ rfl (fun K2 hK=>?_);go_simp;(first|refine hK _ ?_|refine ⟨_,fun _ _=>rfl,hK _ ?_⟩);clear hK K2)
 refine seq_come _ rfl (fun K2 hK=>?_);go_simp;refine (roomtake_any room Xu.size D HRO.out HBU.out).mono ?_;rintro e w4 ⟨rfl,r1,rfl,HR1⟩;have HB1:=hid (HR1.out.le HRO.out);go_simp;refine hK.out _ _ hS ?_;clear hK K2;refine seq_come _ rfl (fun K2 hK=>?_);go_simp;refine (HRN.out r1 D HB1.out).mono ?_;rintro e w4 ⟨hb4,r2,rfl,HR2⟩;have HB2:=hid (HR2.out.le HB1.out);have hS4:RowXp w4 bx [.slice lo l.length lc,.int .u64 a,.int .u64 t,.int .u64 k,.bool bp,.int .u64 vp,.bool bm,.int .u64 vm,.bool bg,.int .u64 vg,.int .i32 sc,.int .u64 zc,.bool gp,.int .i32 pb.off,.slice po pb.cs.length pc,.string Xpu,.bool gn,.int .i32 nb.off,.slice no nb.cs.length nc,.string Xnu,.slice eo es.length ec,.int .u32 f,.int .u64 th,.string Xu]:=(hb4.block _ (row_lt hS)).trans hS;have HBW4:=hid (below_step HBW.out hb4);go_simp;refine hK.out _ _ hS4 ?_;clear hK K2 hb4;refine seq_come _ rfl (fun K2 hK=>?_);go_simp;refine (HRP.out r2 w4 HB2.out).mono ?_;rintro e w5 ⟨hb5,r3,rfl,HR3⟩;have HB3:=hid (HR3.out.le HB2.out);have hS5:RowXp w5 bx [.slice lo l.length lc,.int .u64 a,.int .u64 t,.int .u64 k,.bool bp,.int .u64 vp,.bool bm,.int .u64 vm,.bool bg,.int .u64 vg,.int .i32 sc,.int .u64 zc,.bool gp,.int .i32 pb.off,.slice po pb.cs.length pc,.string Xpu,.bool gn,.int .i32 nb.off,.slice no nb.cs.length nc,.string Xnu,.slice eo es.length ec,.int .u32 f,.int .u64 th,.string Xu]:=(hb5.block _ (row_lt hS4)).trans hS4;have HBW5:=hid (below_step HBW4.out hb5);go_simp;refine hK.out _ _ hS5 ?_;clear hK K2 hb5
 (refine seq_take _ rfl (fun K2 hK=>?_);go_simp;(first|refine hK _ ?_|refine ⟨_,fun _ _=>rfl,hK _ ?_⟩);clear hK K2)
 refine seq_done ?_;clear hne;go_upto_region 2 with fail
 obtain ⟨D2,hD2⟩:∃ D2,w5.drew=D2:=⟨_,rfl⟩
 have HBD2:Hid (Below w5.heap.size w5 D2):=hid (by rw[←hD2];exact (Below.refl _ _).drew);have hS2:RowXp D2 bx [.slice lo l.length lc,.int .u64 a,.int .u64 t,.int .u64 k,.bool bp,.int .u64 vp,.bool bm,.int .u64 vm,.bool bg,.int .u64 vg,.int .i32 sc,.int .u64 zc,.bool gp,.int .i32 pb.off,.slice po pb.cs.length pc,.string Xpu,.bool gn,.int .i32 nb.off,.slice no nb.cs.length nc,.string Xnu,.slice eo es.length ec,.int .u32 f,.int .u64 th,.string Xu]:=(HBD2.out.block _ (row_lt hS5)).trans hS5;have hne:Nonempty {w':World // RowXp w' bx [.slice lo l.length lc,.int .u64 a,.int .u64 t,.int .u64 k,.bool bp,.int .u64 vp,.bool bm,.int .u64 vm,.bool bg,.int .u64 vg,.int .i32 sc,.int .u64 zc,.bool gp,.int .i32 pb.off,.slice po pb.cs.length pc,.string Xpu,.bool gn,.int .i32 nb.off,.slice no nb.cs.length nc,.string Xnu,.slice eo es.length ec,.int .u32 f,.int .u64 th,.string Xu]}:=⟨⟨_,hS2⟩⟩
 have HBW2:=hid (below_step HBW5.out HBD2.out);refine wp_region_seq (S:=fun w'=>RowXp w' bx [.slice lo l.length lc,.int .u64 a,.int .u64 t,.int .u64 k,.bool bp,.int .u64 vp,.bool bm,.int .u64 vm,.bool bg,.int .u64 vg,.int .i32 sc,.int .u64 zc,.bool gp,.int .i32 pb.off,.slice po pb.cs.length pc,.string Xpu,.bool gn,.int .i32 nb.off,.slice no nb.cs.length nc,.string Xnu,.slice eo es.length ec,.int .u32 f,.int .u64 th,.string Xu]) [(0,true),(1,true),(2,true),(3,true),(4,true),(5,false),(6,false),(7,true)] (by kernel_rfl) (by kernel_rfl) (by kernel_rfl) (by kernel_rfl) (by rw[hD2];exact hS2) ?_;rw[hD2];clear hD2
 (refine seq_take _ rfl (fun K2 hK=>?_);go_simp;(first|refine hK _ ?_|refine ⟨_,fun _ _=>rfl,hK _ ?_⟩);clear hK K2)
 refine seq_take _ rfl (fun K2 hK=>?_);go_simp;refine ⟨.slice eo es.length ec,fun a ha=>by (have e:a.cell? ⟨bx,20,none⟩=some (.slice eo es.length ec):=row_cell ha (j:=20) rfl);rw[e];rfl,hK _ ?_⟩;clear hK K2
 (refine seq_take _ rfl (fun K2 hK=>?_);go_simp;(first|refine hK _ ?_|refine ⟨_,fun _ _=>rfl,hK _ ?_⟩);clear hK K2)
 refine seq_take _ rfl (fun K2 hK=>?_);go_simp;refine ⟨.slice lo l.length lc,fun a ha=>by (have e:a.cell? ⟨bx,0,none⟩=some (.slice lo l.length lc):=row_cell ha (j:=0) rfl);rw[e];rfl,hK _ ?_⟩;clear hK K2
 (refine seq_take _ rfl (fun K2 hK=>?_);go_simp;(first|refine hK _ ?_|refine ⟨_,fun _ _=>rfl,hK _ ?_⟩);clear hK K2)
 refine seq_come _ rfl (fun K2 hK=>?_);go_simp;refine (roomks_any l lo lc P D2 40 r3 HZL.out HLL.out HFL.out (HK.out.below HBW2.out) (by omega) HB3.out).mono ?_;rintro e w6 ⟨hb6,r4,rfl,HR4⟩;have HB4:=hid (HR4.out.le HB3.out);have hS6:RowXp w6 bx [.slice lo l.length lc,.int .u64 a,.int .u64 t,.int .u64 k,.bool bp,.int .u64 vp,.bool bm,.int .u64 vm,.bool bg,.int .u64 vg,.int .i32 sc,.int .u64 zc,.bool gp,.int .i32 pb.off,.slice po pb.cs.length pc,.string Xpu,.bool gn,.int .i32 nb.off,.slice no nb.cs.length nc,.string Xnu,.slice eo es.length ec,.int .u32 f,.int .u64 th,.string Xu]:=(hb6.block _ (row_lt hS2)).trans hS2;have HBV:=hid (below_step HBW2.out hb6);go_simp;refine hK.out _ _ hS6 ?_;clear hK K2 hb6;refine seq_come _ rfl (fun K2 hK=>?_);go_simp;refine (exrooms_any es eo ec P w6 r4 HZE.out HFE.out (HE.out.below HBV.out) HB4.out).mono ?_;rintro e w7 ⟨hb7,r5,rfl,HR5⟩;have hS7:RowXp w7 bx [.slice lo l.length lc,.int .u64 a,.int .u64 t,.int .u64 k,.bool bp,.int .u64 vp,.bool bm,.int .u64 vm,.bool bg,.int .u64 vg,.int .i32 sc,.int .u64 zc,.bool gp,.int .i32 pb.off,.slice po pb.cs.length pc,.string Xpu,.bool gn,.int .i32 nb.off,.slice no nb.cs.length nc,.string Xnu,.slice eo es.length ec,.int .u32 f,.int .u64 th,.string Xu]:=(hb7.block _ (row_lt hS6)).trans hS6;have HBZ:=hid (below_step HBV.out hb7);go_simp;refine hK.out _ _ hS7 ?_;clear hK K2 hb7
 (refine seq_take _ rfl (fun K2 hK=>?_);go_simp;(first|refine hK _ ?_|refine ⟨_,fun _ _=>rfl,hK _ ?_⟩);clear hK K2)
 refine seq_done ?_;clear hS hS2 hS4 hS5 hS6 hS7 hne;go_wp2_with fail;go_ret
 exact ⟨HBZ.out,r5,rfl,hid (by
  have h1:=(((HR1.out.then HR2.out).then HR3.out).then HR4.out).then HR5.out;rw[exsw_lwt] at h1;have h2:=HWX.out;have h3:=HZU.out;unfold RoomOk at h1 ⊢
  omega)⟩
open Go.RowKit
theorem may13_any (x:Bk)(u:List UInt8)(ao:Option Addr)(cap:Nat)(S:ByteArray)(d:Int)(w:World)(hS:Hid (S.data.toList=u))(hu:u.length≤1000000)(hd:d≤9223372036854775807) :
    Calls Tryz.prog 44 #[.agg #[.int .i32 x.off,.slice ao x.cs.length cap,.string S],.int .i64 d] w fun e w'=>e = .returned (.bool (bmay u d))∧Below w.heap.size w w':=by
  have hSz:S.size≤1000000:=by have:S.size=u.length:=(by rw[←hS.out];simp);omega
  have HUN:=hid (fun to w' hn=>unknown8_any S d [8,16,18] to 3 w' hn (by decide) (hid (by decide)) hSz hd);obtain ⟨bx,hbx⟩:∃ bx,w.heap.size=bx:=⟨_,rfl⟩
  obtain ⟨W0,hW0⟩:∃ W,w.alloc (.cells #[.int .i32 x.off,.slice ao x.cs.length cap,.string S] 29)=W:=⟨_,rfl⟩
  have HB0:Hid (Below w.heap.size w W0):=hid (by rw[←hW0];exact below_new _ _);have HX0:Hid (W0.heap[bx]? = some (.cells #[.int .i32 x.off,.slice ao x.cs.length cap,.string S] 29 (0,0))):=hid (by rw[←hW0,←hbx];exact heap_alloc_new _ _);have HW0:=hid hW0;have HBX:=hid hbx;clear hW0 hbx hSz hu
  by_cases h:0≤d
  · have d1:decide (d ≥ 0)=true:=decide_eq_true h
    have d2:decide (0≤d)=true:=decide_eq_true h;have HM:Hid (bmay u d=(decide (0≤d)&&munkOk (rtk [8,16,18]) S.data.toList d)):=hid (by unfold bmay;rw[hS.out,munkOk_rtk btk_rtk]);clear h hd;go_enter Tryz.func44,Tryz.ntmps44;go_wp2_with fail;rw[HW0.out,HBX.out];obtain ⟨D,hD⟩:∃ D,W0.drew=D:=⟨_,rfl⟩
    have HBD:Hid (Below w.heap.size w D):=hid (by rw[←hD];exact HB0.out.drew);have HXD:Hid (D.heap[bx]? = some (.cells #[.int .i32 x.off,.slice ao x.cs.length cap,.string S] 29 (0,0))):=hid (by rw[←hD];exact HX0.out);have hne:Nonempty {w':World // w'.heap[bx]? = some (.cells #[.int .i32 x.off,.slice ao x.cs.length cap,.string S] 29 (0,0))}:=⟨⟨_,HXD.out⟩⟩
    refine wp_region_seq (S:=fun w'=>w'.heap[bx]? = some (.cells #[.int .i32 x.off,.slice ao x.cs.length cap,.string S] 29 (0,0))) [(0,true),(1,true),(2,true),(3,true),(4,true),(5,true),(6,false),(7,false),(8,true),(9,true)] (by kernel_rfl) (by kernel_rfl) (by kernel_rfl) (by kernel_rfl) (by rw[hD];exact HXD.out) ?_;rw[hD];clear hD
    iterate 4 (refine seq_take _ rfl (fun K hK=>?_);go_simp;(first|refine hK _ ?_|refine ⟨_,fun _ _=>rfl,hK _ ?_⟩|(refine ⟨undef,by rw[if_neg (by simp[undef])],?_⟩;refine hK _ ?_));clear hK K)
    iterate 1 (refine seq_take _ rfl (fun K hK=>?_);go_simp;(refine ⟨.string S,fun a ha=>by (have e0:a.cell? ⟨bx,2,none⟩=some (.string S):=row_cell ha (j:=2) rfl);simp only[e0,Result.andThen],hK _ ?_⟩);clear hK K)
    iterate 1 (refine seq_take _ rfl (fun K hK=>?_);go_simp;(first|refine hK _ ?_|refine ⟨_,fun _ _=>rfl,hK _ ?_⟩|(refine ⟨undef,by rw[if_neg (by simp[undef])],?_⟩;refine hK _ ?_));clear hK K)
    refine seq_come _ rfl (fun K hK=>?_);go_simp;refine (tab14_any D).mono ?_;rintro e w4 ⟨to,rfl,HNT,hb4⟩;have HB4:=hid (below_step HBD.out hb4);have HX4:Hid (w4.heap[bx]? = some (.cells #[.int .i32 x.off,.slice ao x.cs.length cap,.string S] 29 (0,0))):=hid ((hb4.block _ (row_lt HXD.out)).trans HXD.out);go_simp;refine hK.out _ _ HX4.out ?_;clear hK K hb4;refine seq_come _ rfl (fun K hK=>?_);go_simp;refine (HUN.out to w4 HNT).mono ?_;rintro e w5 ⟨rfl,hb5⟩;rw[←HM.out];have HB5:=hid (below_step HB4.out hb5);have HX5:Hid (w5.heap[bx]? = some (.cells #[.int .i32 x.off,.slice ao x.cs.length cap,.string S] 29 (0,0))):=hid ((hb5.block _ (row_lt HX4.out)).trans HX4.out);go_simp;refine hK.out _ _ HX5.out ?_;clear hK K hb5
    iterate 2 (refine seq_take _ rfl (fun K hK=>?_);go_simp;(first|refine hK _ ?_|refine ⟨_,fun _ _=>rfl,hK _ ?_⟩|(refine ⟨undef,by rw[if_neg (by simp[undef])],?_⟩;refine hK _ ?_));clear hK K)
    refine seq_done ?_;go_wp2_with fail;go_ret;exact ⟨rfl,HB5.out⟩
  · have d1:decide (d ≥ 0)=false:=decide_eq_false h
    have d2:decide (0≤d)=false:=decide_eq_false h;have HM:Hid (bmay u d=false):=hid (by unfold bmay;rw[d2];rfl);clear h hd;go_enter Tryz.func44,Tryz.ntmps44;go_wp2_with fail;rw[HW0.out,HBX.out];obtain ⟨D,hD⟩:∃ D,W0.drew=D:=⟨_,rfl⟩
    have HBD:Hid (Below w.heap.size w D):=hid (by rw[←hD];exact HB0.out.drew);have HXD:Hid (D.heap[bx]? = some (.cells #[.int .i32 x.off,.slice ao x.cs.length cap,.string S] 29 (0,0))):=hid (by rw[←hD];exact HX0.out);have hne:Nonempty {w':World // w'.heap[bx]? = some (.cells #[.int .i32 x.off,.slice ao x.cs.length cap,.string S] 29 (0,0))}:=⟨⟨_,HXD.out⟩⟩
    refine wp_region_seq (S:=fun w'=>w'.heap[bx]? = some (.cells #[.int .i32 x.off,.slice ao x.cs.length cap,.string S] 29 (0,0))) [(0,true),(1,true),(2,true),(3,true),(4,true),(5,true),(6,false),(7,false),(8,true),(9,true)] (by kernel_rfl) (by kernel_rfl) (by kernel_rfl) (by kernel_rfl) (by rw[hD];exact HXD.out) ?_;rw[hD];clear hD
    iterate 6 (refine seq_take _ rfl (fun K hK=>?_);go_simp;(first|refine hK _ ?_|refine ⟨_,fun _ _=>rfl,hK _ ?_⟩|(refine ⟨undef,by rw[if_neg (by simp[undef])],?_⟩;refine hK _ ?_));clear hK K)
    refine seq_come _ rfl (fun K hK=>?_);go_simp
    (first|refine hK.out _ _ HXD.out ?_|(rw[if_neg (by simp[undef])];refine hK.out _ _ HXD.out ?_));clear hK K
    refine seq_come _ rfl (fun K hK=>?_);go_simp
    (first|refine hK.out _ _ HXD.out ?_|(rw[if_neg (by simp[undef])];refine hK.out _ _ HXD.out ?_));clear hK K
    iterate 2 (refine seq_take _ rfl (fun K hK=>?_);go_simp;(first|refine hK _ ?_|refine ⟨_,fun _ _=>rfl,hK _ ?_⟩|(refine ⟨undef,by rw[if_neg (by simp[undef])],?_⟩;refine hK _ ?_));clear hK K)
    refine seq_done ?_;go_wp2_with fail;go_ret;exact ⟨by rw[HM.out];rfl,HBD.out⟩
theorem put13_any (x:Bk)(u:List UInt8)(ao:Option Addr)(cap:Nat)(S:ByteArray)(w:World)(hx:Hid (BkOk x))(hN:Hid (Nats .u64 w ao x.cs))(hl:x.cs.length≤100000)(hS:Hid (S.data.toList=u))(hu:u.length≤1000000) :
    Calls Tryz.prog 120 #[.agg #[.int .i32 x.off,.slice ao x.cs.length cap,.string S]] w fun e w'=>e = .returned (.string ⟨(bput x u).toArray⟩)∧Below w.heap.size w w':=by
  have hlo:=hx.out.lo;have hhi:=hx.out.hi;have hzz:=zig_nat hlo hhi;obtain ⟨z,hz⟩:∃ z,(zig x.off).toNat=z:=⟨_,rfl⟩
  rw[hz] at hzz;have HZ:Hid (zig x.off=(z:Int)):=hid hzz.1;have HPV:=hid (fun w'=>putvar8_any 1 z w' (by omega) (by omega));have HPN:=hid (fun w' hn=>putvars8_any 2 ao cap x.cs w' hn (hid hx.out.each) (by omega) hl);have HZ32:=hid (fun w'=>refzig32_any x.off w' hlo hhi);obtain ⟨P1,hP1⟩:∃ P:ByteArray,(⟨(wvarP 1 z).flatten.toArray⟩:ByteArray)=P:=⟨_,rfl⟩
  obtain ⟨P2,hP2⟩:∃ P:ByteArray,(⟨(wbytesP 2 (vputs x.cs)).flatten.toArray⟩:ByteArray)=P:=⟨_,rfl⟩
  rw[hP1] at HPV;rw[hP2] at HPN
  have HFIN:Hid (P1++P2++S=⟨(bput x u).toArray⟩):=hid (by
    refine ByteArray.ext (Array.ext' ?_);rw[←hP1,←hP2,ByteArray.data_append,ByteArray.data_append,Array.toList_append,Array.toList_append,hS.out];unfold bput bparts;rw[hz,List.flatten_append,List.flatten_append]
    simp[vputs])
  have hlen:P1.size+P2.size+S.size=(bput x u).length:=by
    have:=congrArg ByteArray.size HFIN.out;rw[ByteArray.size_append,ByteArray.size_append] at this;rw[this]
    simp[ByteArray.size]
  have hbl:=bput_len x u;have s1:¬9223372036854775807<P1.size+P2.size:=by omega
  have s2:¬9223372036854775807<(P1++P2).size+S.size:=by rw[ByteArray.size_append];omega
  obtain ⟨P3,hP3⟩:∃ P:ByteArray,P1++P2=P:=⟨_,rfl⟩
  rw[hP3] at HFIN s2;have HP3:=hid hP3;obtain ⟨bx,hbx⟩:∃ bx,w.heap.size=bx:=⟨_,rfl⟩
  obtain ⟨W0,hW0⟩:∃ W,w.alloc (.cells #[.int .i32 x.off,.slice ao x.cs.length cap,.string S] 29)=W:=⟨_,rfl⟩
  have HB0:Hid (Below w.heap.size w W0):=hid (by rw[←hW0];exact below_new _ _);have HX0:Hid (W0.heap[bx]? = some (.cells #[.int .i32 x.off,.slice ao x.cs.length cap,.string S] 29 (0,0))):=hid (by rw[←hW0,←hbx];exact heap_alloc_new _ _);have HW0:=hid hW0;have HBX:=hid hbx;clear hW0 hbx hlo hhi hzz hz hP1 hP2 hP3 hlen hbl hl hu;go_enter Tryz.func120,Tryz.ntmps120;go_wp2_with fail;rw[HW0.out,HBX.out];obtain ⟨D,hD⟩:∃ D,W0.drew=D:=⟨_,rfl⟩
  have HBD:Hid (Below w.heap.size w D):=hid (by rw[←hD];exact HB0.out.drew);have HXD:Hid (D.heap[bx]? = some (.cells #[.int .i32 x.off,.slice ao x.cs.length cap,.string S] 29 (0,0))):=hid (by rw[←hD];exact HX0.out);have hne:Nonempty {w':World // w'.heap[bx]? = some (.cells #[.int .i32 x.off,.slice ao x.cs.length cap,.string S] 29 (0,0))}:=⟨⟨_,HXD.out⟩⟩
  refine wp_region_seq (S:=fun w'=>w'.heap[bx]? = some (.cells #[.int .i32 x.off,.slice ao x.cs.length cap,.string S] 29 (0,0))) [(0,true),(1,true),(4,true),(5,true),(8,true),(9,true),(2,false),(3,false),(6,false),(7,true),(10,true),(11,true)] (by kernel_rfl) (by kernel_rfl) (by kernel_rfl) (by kernel_rfl) (by rw[hD];exact HXD.out) ?_;rw[hD];clear hD
  iterate 1 (refine seq_take _ rfl (fun K hK=>?_);go_simp;(first|refine hK _ ?_|refine ⟨_,fun _ _=>rfl,hK _ ?_⟩|(refine ⟨undef,by rw[if_neg (by simp[undef])],?_⟩;refine hK _ ?_));clear hK K)
  iterate 1 (refine seq_take _ rfl (fun K hK=>?_);go_simp;(refine ⟨.int .i32 x.off,fun a ha=>by (have e0:a.cell? ⟨bx,0,none⟩=some (.int .i32 x.off):=row_cell ha (j:=0) rfl);simp only[e0,Result.andThen],hK _ ?_⟩);clear hK K)
  iterate 1 (refine seq_take _ rfl (fun K hK=>?_);go_simp;(first|refine hK _ ?_|refine ⟨_,fun _ _=>rfl,hK _ ?_⟩|(refine ⟨undef,by rw[if_neg (by simp[undef])],?_⟩;refine hK _ ?_));clear hK K)
  iterate 1 (refine seq_take _ rfl (fun K hK=>?_);go_simp;(refine ⟨.slice ao x.cs.length cap,fun a ha=>by (have e0:a.cell? ⟨bx,1,none⟩=some (.slice ao x.cs.length cap):=row_cell ha (j:=1) rfl);simp only[e0,Result.andThen],hK _ ?_⟩);clear hK K)
  iterate 1 (refine seq_take _ rfl (fun K hK=>?_);go_simp;(first|refine hK _ ?_|refine ⟨_,fun _ _=>rfl,hK _ ?_⟩|(refine ⟨undef,by rw[if_neg (by simp[undef])],?_⟩;refine hK _ ?_));clear hK K)
  iterate 1 (refine seq_take _ rfl (fun K hK=>?_);go_simp;(refine ⟨.string S,fun a ha=>by (have e0:a.cell? ⟨bx,2,none⟩=some (.string S):=row_cell ha (j:=2) rfl);simp only[e0,Result.andThen],hK _ ?_⟩);clear hK K)
  refine seq_come _ rfl (fun K hK=>?_);go_simp;refine (HZ32.out D).mono ?_;rintro e w4 ⟨rfl,rfl⟩;rw[HZ.out];go_simp;refine hK.out _ _ HXD.out ?_;clear hK K;refine seq_come _ rfl (fun K hK=>?_);go_simp;refine (HPV.out D).mono ?_;rintro e w5 ⟨rfl,hb5⟩;have HB5:=hid (below_step HBD.out hb5);have HX5:Hid (w5.heap[bx]? = some (.cells #[.int .i32 x.off,.slice ao x.cs.length cap,.string S] 29 (0,0))):=hid ((hb5.block _ (row_lt HXD.out)).trans HXD.out);go_simp;refine hK.out _ _ HX5.out ?_;clear hK K hb5;refine seq_come _ rfl (fun K hK=>?_);go_simp;refine (HPN.out w5 (hid (hN.out.below HB5.out))).mono ?_;rintro e w6 ⟨rfl,hb6⟩;have HB6:=hid (below_step HB5.out hb6);have HX6:Hid (w6.heap[bx]? = some (.cells #[.int .i32 x.off,.slice ao x.cs.length cap,.string S] 29 (0,0))):=hid ((hb6.block _ (row_lt HX5.out)).trans HX5.out);go_simp;refine hK.out _ _ HX6.out ?_;clear hK K hb6
  iterate 1 (refine seq_take _ rfl (fun K hK=>?_);go_simp;(first|refine hK _ ?_|refine ⟨_,fun _ _=>rfl,hK _ ?_⟩|(refine ⟨undef,by rw[if_neg (by simp[undef])],?_⟩;refine hK _ ?_));clear hK K)
  rw[HP3.out]
  iterate 2 (refine seq_take _ rfl (fun K hK=>?_);go_simp;(first|refine hK _ ?_|refine ⟨_,fun _ _=>rfl,hK _ ?_⟩|(refine ⟨undef,by rw[if_neg (by simp[undef])],?_⟩;refine hK _ ?_));clear hK K)
  refine seq_done ?_;go_wp2_with fail;go_ret;exact ⟨by rw[←HFIN.out];rfl,HB6.out⟩
open Go.RowKit
theorem nats_tab14 (w:World)(a0 a1 a2 a3 a4 a5 a6 a7 a8 a9 a10 a11 a12 a13:Nat):Nats .i64 (w.alloc (.cells #[.int .i64 a0,.int .i64 a1,.int .i64 a2,.int .i64 a3,.int .i64 a4,.int .i64 a5,.int .i64 a6,.int .i64 a7,.int .i64 a8,.int .i64 a9,.int .i64 a10,.int .i64 a11,.int .i64 a12,.int .i64 a13] 3)) (some ⟨w.heap.size,0,none⟩) [a0,a1,a2,a3,a4,a5,a6,a7,a8,a9,a10,a11,a12,a13]:=by
  intro _;refine ⟨w.heap.size,0,rfl,by simp,fun j hj=>?_⟩;have:j=0∨j=1∨j=2∨j=3∨j=4∨j=5∨j=6∨j=7∨j=8∨j=9∨j=10∨j=11∨j=12∨j=13:=by simp at hj;omega
  rcases this with rfl|rfl|rfl|rfl|rfl|rfl|rfl|rfl|rfl|rfl|rfl|rfl|rfl|rfl
  · exact row_cell (heap_alloc_new w _) (j:=0) rfl
  · exact row_cell (heap_alloc_new w _) (j:=1) rfl
  · exact row_cell (heap_alloc_new w _) (j:=2) rfl
  · exact row_cell (heap_alloc_new w _) (j:=3) rfl
  · exact row_cell (heap_alloc_new w _) (j:=4) rfl
  · exact row_cell (heap_alloc_new w _) (j:=5) rfl
  · exact row_cell (heap_alloc_new w _) (j:=6) rfl
  · exact row_cell (heap_alloc_new w _) (j:=7) rfl
  · exact row_cell (heap_alloc_new w _) (j:=8) rfl
  · exact row_cell (heap_alloc_new w _) (j:=9) rfl
  · exact row_cell (heap_alloc_new w _) (j:=10) rfl
  · exact row_cell (heap_alloc_new w _) (j:=11) rfl
  · exact row_cell (heap_alloc_new w _) (j:=12) rfl
  · exact row_cell (heap_alloc_new w _) (j:=13) rfl
theorem xp_tab (w:World):Calls Tryz.prog 29 #[] w fun e w'=>∃ ao,e = .returned (.slice ao 14 14)∧Hid (Nats .i64 w' ao [10,17,25,33,41,48,57,66,74,80,90,97,105,113])∧Below w.heap.size w w':=by
  have HN:=hid (nats_tab14 w 10 17 25 33 41 48 57 66 74 80 90 97 105 113);go_enter Tryz.func29,Tryz.ntmps29;go_wp2_with fail;go_ret;exact ⟨_,rfl,HN,below_new _ _⟩
theorem xp_rtk (r:Rec):xrF.tk r=rtk [10,17,25,33,41,48,57,66,74,80,90,97,105,113] r:=by
  rw[xrF_tk];unfold rtk
  simp only[List.any_cons,List.any_nil,Bool.or_false,Nat.reduceDiv,Nat.reduceMod]
  rw[Bool.eq_iff_iff]
  simp only[decide_eq_true_eq,Bool.or_eq_true]
  constructor
  · rintro (⟨h1,h2⟩|⟨h1,h2⟩|⟨h1,h2⟩|⟨h1,h2⟩|⟨h1,h2⟩|⟨h1,h2⟩|⟨h1,h2⟩|⟨h1,h2⟩|⟨h1,h2⟩|⟨h1,h2⟩|⟨h1,h2⟩|⟨h1,h2⟩|⟨h1,h2⟩|⟨h1,h2⟩)
    all_goals simp[h1,h2]
  · rintro (⟨h1,h2⟩|⟨h1,h2⟩|⟨h1,h2⟩|⟨h1,h2⟩|⟨h1,h2⟩|⟨h1,h2⟩|⟨h1,h2⟩|⟨h1,h2⟩|⟨h1,h2⟩|⟨h1,h2⟩|⟨h1,h2⟩|⟨h1,h2⟩|⟨h1,h2⟩|⟨h1,h2⟩)
    all_goals simp[←h1,←h2]
theorem row3t {w:World}{g:Nat}{c0 c1 c2:Value}{T:TypeId}{fr:Nat × Nat}(h:w.heap[g]? = some (.cells #[c0,c1,c2] T fr)):w.cell? ⟨g,0,none⟩=some c0∧w.cell? ⟨g,1,none⟩=some c1∧w.cell? ⟨g,2,none⟩=some c2:=⟨row_cell h (j:=0) rfl,row_cell h (j:=1) rfl,row_cell h (j:=2) rfl⟩
theorem bare_any (x:Bk)(u:List UInt8)(ao:Option Addr)(cap:Nat)(S:ByteArray)(w:World)(hS:Hid (S.data.toList=u)) :
    Calls Tryz.prog 45 #[.agg #[.int .i32 x.off,.slice ao x.cs.length cap,.string S]] w fun e w'=>e = .returned (.bool (bkz (x,u)))∧Below w.heap.size w w':=by
  obtain ⟨bx,hbx⟩:∃ bx,w.heap.size=bx:=⟨_,rfl⟩
  obtain ⟨W0,hW0⟩:∃ W,w.alloc (.cells #[.int .i32 x.off,.slice ao x.cs.length cap,.string S] 29)=W:=⟨_,rfl⟩
  have HB0:Hid (Below w.heap.size w W0):=hid (by rw[←hW0];exact below_new _ _);have HX0:Hid (W0.heap[bx]? = some (.cells #[.int .i32 x.off,.slice ao x.cs.length cap,.string S] 29 (0,0))):=hid (by rw[←hW0,←hbx];exact heap_alloc_new _ _);have HW0:=hid hW0;have HBX:=hid hbx;clear hW0 hbx;obtain ⟨p0,p1,p2⟩:=row3t HX0.out
  by_cases h1:x.off=0
  case neg =>
    have hq:bkz (x,u)=false:=by unfold bkz;rw[decide_eq_false h1];rfl
    have d1:(x.off == 0)=false:=by rw[beq_eq_false_iff_ne];exact h1
    rw[hq];clear h1 hq;go_enter Tryz.func45,Tryz.ntmps45;go_wp2_with fail;rw[HW0.out,HBX.out];go_wp2_with fail;go_ret;exact ⟨rfl,by have h:=HB0.out;rwa [HBX.out] at h⟩
  case pos =>
  have d1:(x.off == 0)=true:=by rw[beq_iff_eq];exact h1
  by_cases h2:x.cs=[]
  case neg =>
    have hn:x.cs.isEmpty=false:=by rw[←Bool.not_eq_true,List.isEmpty_iff];exact h2
    have hq:bkz (x,u)=false:=by unfold bkz;rw[decide_eq_true h1,hn];rfl
    have hl:x.cs.length≠0:=fun h=>h2 (List.length_eq_zero_iff.1 h)
    have d2:((x.cs.length:Int) == 0)=false:=by rw[beq_eq_false_iff_ne];omega
    rw[hq];clear h1 h2 hn hq hl;go_enter Tryz.func45,Tryz.ntmps45;go_wp2_with fail;rw[HW0.out,HBX.out];go_wp2_with fail;go_ret;exact ⟨rfl,by have h:=HB0.out;rwa [HBX.out] at h⟩
  case pos =>
  have d2:((x.cs.length:Int) == 0)=true:=by rw[h2];rfl
  have hn:x.cs.isEmpty=true:=by rw[h2];rfl
  by_cases h3:u=[]
  case neg =>
    have hu:u.isEmpty=false:=by rw[←Bool.not_eq_true,List.isEmpty_iff];exact h3
    have hq:bkz (x,u)=false:=by unfold bkz;rw[decide_eq_true h1,hn,hu];rfl
    have hs:¬S.data.toList=[]:=by rw[hS.out];exact h3
    obtain ⟨t1,t2,t3,t4⟩:=text_not hs;rw[hq];clear h1 h2 h3 hn hu hq hs;go_enter Tryz.func45,Tryz.ntmps45;go_wp2_with fail;rw[HW0.out,HBX.out];go_wp2_with fail;go_ret;exact ⟨rfl,by have h:=HB0.out;rwa [HBX.out] at h⟩
  case pos =>
  have hq:bkz (x,u)=true:=by unfold bkz;rw[decide_eq_true h1,hn,h3];rfl
  have hs:S=⟨#[]⟩:=ByteArray.ext (Array.ext' (by rw[hS.out,h3]));rw[hq];subst hs;clear h1 h2 h3 hn hq;go_enter Tryz.func45,Tryz.ntmps45;go_wp2_with fail;rw[HW0.out,HBX.out];go_wp2_with fail;go_ret;exact ⟨rfl,by have h:=HB0.out;rwa [HBX.out] at h⟩
theorem side13_any (num:Nat)(g:Bool)(x:Bk)(u:List UInt8)(ao:Option Addr)(cap:Nat)(S:ByteArray)(w:World)(h1:1≤num)(h2:num≤536870911)(hx:Hid (BkOk x))(hN:Hid (Nats .u64 w ao x.cs))(hl:x.cs.length≤10000)(hS:Hid (S.data.toList=u))(hu:u.length≤20000) :
    Calls Tryz.prog 66 #[.int .i64 num,.bool g,.agg #[.int .i32 x.off,.slice ao x.cs.length cap,.string S]] w (RoPost (if g=true then (rB num (bput x u)).raw else []) w):=by
  obtain ⟨bx,hbx⟩:∃ bx,w.heap.size=bx:=⟨_,rfl⟩
  obtain ⟨W0,hW0⟩:∃ W,w.alloc (.cells #[.int .i32 x.off,.slice ao x.cs.length cap,.string S] 29)=W:=⟨_,rfl⟩
  have HB0:Hid (Below w.heap.size w W0):=hid (by rw[←hW0];exact below_new _ _);have HX0:Hid (W0.heap[bx]? = some (.cells #[.int .i32 x.off,.slice ao x.cs.length cap,.string S] 29 (0,0))):=hid (by rw[←hW0,←hbx];exact heap_alloc_new _ _);have HW0:=hid hW0;have HBX:=hid hbx;have HP:=hid (fun w' (hb:Below w.heap.size w w')=>put13_any x u ao cap S w' hx (hid (hN.out.below hb)) (by omega) hS (by omega));have HBL:Hid ((bput x u).length≤1000000):=hid (by have:=bput_len x u;omega);have H12:=hid (And.intro h1 h2);clear hW0 hbx hl hu h1 h2;obtain ⟨p0,p1,p2⟩:=row3t HX0.out
  cases g with
  | false =>
    go_enter Tryz.func66,Tryz.ntmps66;go_wp2_with fail;rw[HW0.out];go_ret;exact ⟨HB0.out,_,rfl,hid rfl⟩
  | true =>
    rw[if_pos rfl];go_enter Tryz.func66,Tryz.ntmps66;go_wp2_with fail;rw[HW0.out,HBX.out];go_wp2_with fail;refine (HP.out W0 HB0.out).mono ?_;rintro e w1 ⟨rfl,hb⟩;obtain ⟨T,hT⟩:∃ T:ByteArray,(⟨(bput x u).toArray⟩:ByteArray)=T:=⟨_,rfl⟩
    have HT:Hid (T.data.toList=bput x u):=hid (by rw[←hT]);rw[hT];have HB1:=hid (below_step HB0.out hb);clear hT hb;go_wp2_with fail;refine (rbytes_raw num T (bput x u) w1 H12.out.1 H12.out.2 HT.out HBL.out).mono ?_;rintro e w2 ⟨hb,R,rfl,HR⟩;have HB2:=hid (below_step HB1.out hb);clear hb;go_wp2_with fail;go_ret;exact ⟨HB2.out,R,rfl,HR⟩
theorem bmay_enm {u:List UInt8}{d e:Int}(he:(u.length:Int)≤e)(h:bmay u d=true):bmay u e=true:=by
  unfold bmay at h ⊢
  rw[Bool.and_eq_true] at h ⊢;exact ⟨decide_eq_true (by omega),munkOk_enough he h.2⟩
theorem xp_enm {x:Xp}{d e:Int}(he:200001≤e)(hw:xp_rw x≤12000)(hm:xp_may d x=true):xp_may e x=true:=by
  obtain ⟨⟨l,⟨a,⟨t,⟨k,⟨⟨bp,vp⟩,⟨sc,⟨zc,⟨⟨gp,pb,pu⟩,⟨⟨gn,nb,nu⟩,⟨f,⟨es,⟨⟨bm,vm⟩,⟨⟨bg,vg⟩,th⟩⟩⟩⟩⟩⟩⟩⟩⟩⟩⟩⟩⟩,u⟩:=x;have hw:100+(8 * min pb.cs.length 100000+pu.length+(8 * min nb.cs.length 100000+nu.length)+ksw l+lwt exSb es+u.length)≤12000:=hw;have h:(decide (0≤d)&&((kmays l d&&((bp||decide (vp=0))&&((if gp=true then decide (1≤d)&&bmay pu (d - 1) else bkz (pb,pu))&&((if gn=true then decide (1≤d)&&bmay nu (d - 1) else bkz (nb,nu))&&(lmays exSb es d&&((bm||decide (vm=0))&&(bg||decide (vg=0))))))))&&munkOk xrF.tk u d))=true:=hm
  show (decide (0≤e)&&((kmays l e&&((bp||decide (vp=0))&&((if gp=true then decide (1≤e)&&bmay pu (e - 1) else bkz (pb,pu))&&((if gn=true then decide (1≤e)&&bmay nu (e - 1) else bkz (nb,nu))&&(lmays exSb es e&&((bm||decide (vm=0))&&(bg||decide (vg=0))))))))&&munkOk xrF.tk u e))=true
  simp only[Bool.and_eq_true,decide_eq_true_eq] at h ⊢
  obtain ⟨h0,⟨hl,ho,hp,hn,hes,hm1,hm2⟩,hu⟩:=h;refine ⟨by omega,⟨kmays_enm (by omega) (by omega) hl,ho,?_,?_,exs_enm (by omega) (by omega) hes,hm1,hm2⟩,munkOk_enough (by omega) hu⟩
  · split at hp
    · rename_i hg
      rw[if_pos hg,Bool.and_eq_true] at *;exact ⟨decide_eq_true (by omega),bmay_enm (by omega) hp.2⟩
    · rename_i hg
      rw[if_neg hg];exact hp
  · split at hn
    · rename_i hg
      rw[if_pos hg,Bool.and_eq_true] at *;exact ⟨decide_eq_true (by omega),bmay_enm (by omega) hn.2⟩
    · rename_i hg
      rw[if_neg hg];exact hn
theorem xp_enough {x:Xp}{d:Int}(hw:xp_rw x≤12000)(hm:xp_may d x=true):xp_may 262144 x=true:=xp_enm (by omega) hw hm
end Go.Proofs.YtficgfemmijaaaaGreatDoor
