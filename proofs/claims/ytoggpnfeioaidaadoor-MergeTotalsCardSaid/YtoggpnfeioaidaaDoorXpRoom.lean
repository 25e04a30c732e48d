/-
  hygref.RoomExp of any point.
-/
import Derived.Test.YtoggpnfeioaidaaDoorHiRoom
import Derived.Test.YtoggpnfeioaidaaDoorXpOpen
import Derived.Test.YtoggpnfeioaidaaDoorValTake
import Derived.Test.YtoggpnfeioaidaaDoorBukWrite
import Derived.Test.YtoggpnfeioaidaaDoorErrNew
import Derived.Deep.Cut
import Derived.Deep.MidRow
import Derived.Laws.Tables
import Derived.Laws.CopyOwn
import Derived.Deep.WholeRow
import Derived.Test.YtoggpnfeioaidaaDoorMsgMath
import Derived.Test.YtoggpnfeioaidaaDoorMsgWrite
import Derived.Deep.Strs
import Derived.IntWalk
import Derived.Test.YtoggpnfeioaidaaDoorOrd
set_option maxRecDepth 1000000
set_option maxHeartbeats 16000000
namespace Go.Proofs.YtoggpnfeioaidaaDoor
open Go.RowKit
theorem roomb_gen (room:Int) (hro : -1≤room∧room≤1000000) (x:Bk) (u:List UInt8) (ao:Option Addr) (cap:Nat) (w:World) (hl:x.cs.length≤9223372036854775807) (hu:u.length≤9223372036854775807) :
    Calls Tryd.prog 35 #[.agg #[.int .i32 x.off,.slice ao x.cs.length cap,.string ⟨u.toArray⟩],.int .i64 room] w fun e w'=>Below w.heap.size w w'∧∃ r:Int,e = .returned (.int .i64 r)∧Hid (RoomOk room (40+(u.length+8 * min x.cs.length 100000)) r):=by
  have HRO:=Lib.hid hro
  obtain ⟨X,hX⟩:∃ X:ByteArray,(⟨u.toArray⟩:ByteArray)=X:=⟨_,rfl⟩
  have hXs:X.size=u.length:=by rw[←hX];simp[ByteArray.size]
  rw[hX]
  rw[←hXs] at hu ⊢
  clear hX hXs
  obtain ⟨n,hn⟩:∃ n,x.cs.length=n:=⟨_,rfl⟩
  rw[hn] at hl ⊢
  clear hn
  obtain ⟨m,hm⟩:∃ m:Nat,min n 100000=m:=⟨_,rfl⟩
  have hmi:min (n:Int) 100000=(m:Int):=by omega
  have hmb:m≤100000:=by omega
  have HM:=Lib.hid hmi
  have q1:IntKind.i64.wrap (8 * (m:Int))=((8 * m:Nat):Int):=by rw[IntWalk.i64_in _ (by omega)];omega
  rw[hm]
  have HMB:=Lib.hid hmb
  clear hm hmb hmi hro
  obtain ⟨W0,hW0⟩:∃ W0,w.alloc (.cells #[.int .i32 x.off,.slice ao n cap,.string X] 28)=W0:=⟨_,rfl⟩
  have HBW0:Hid (Below w.heap.size w W0):=Lib.hid (by rw[←hW0];exact below_new _ _)
  have HR0:Hid (W0.heap[w.heap.size]? = some (.cells #[.int .i32 x.off,.slice ao n cap,.string X] 28 (0,0))):=Lib.hid (by rw[←hW0];exact heap_alloc_new w _)
  have HW0:=Lib.hid hW0
  clear hW0
  obtain ⟨b,hb⟩:∃ b,w.heap.size=b:=⟨_,rfl⟩
  have HBB:=Lib.hid hb
  go_enter Tryd.func35,Tryd.ntmps35
  go_wp2_with fail
  rw[HW0.out]
  obtain ⟨D,hD⟩:∃ D,W0.drew=D:=⟨_,rfl⟩
  have HBD:Hid (Below w.heap.size w D):=Lib.hid (by rw[←hD];exact HBW0.out.drew)
  have HRD:Hid (D.heap[w.heap.size]? = some (.cells #[.int .i32 x.off,.slice ao n cap,.string X] 28 (0,0))):=Lib.hid (by rw[←hD];exact HR0.out)
  have hs0:D.cell? ⟨w.heap.size,2,none⟩=some (.string X)∧D.cell? ⟨w.heap.size,1,none⟩=some (.slice ao n cap):=⟨row_cell HRD.out (j:=2) rfl,row_cell HRD.out (j:=1) rfl⟩
  refine wp_region_seq (S:=fun w'=>w'.cell? ⟨w.heap.size,2,none⟩=some (.string X)∧w'.cell? ⟨w.heap.size,1,none⟩=some (.slice ao n cap)) [(0,true),(1,true),(2,true),(3,true),(5,true),(6,true),(7,true),(8,true),(9,true),(4,false),(10,false),(11,true)] (by kernel_rfl) (by kernel_rfl) (by kernel_rfl) (by kernel_rfl) (by rw[hD];exact hs0) ?_
  rw[hD]
  iterate 7 (refine seq_take _ rfl (fun K hK=>?_);go_simp;(first|refine hK _ ?_|refine ⟨_,fun _ _ _=>rfl,hK _ ?_⟩|refine ⟨.string X,fun a ha _=>by rw[ha];rfl,hK _ ?_⟩|refine ⟨.slice ao n cap,fun a _ ha=>by rw[ha];rfl,hK _ ?_⟩);clear hK K)
  refine seq_take _ rfl (fun K hK=>?_);go_simp;refine ⟨.int .i64 (m:Int),fun a _ _=>by rw[HM.out],hK _ ?_⟩;clear hK K
  refine seq_take _ rfl (fun K hK=>?_);go_simp;(first|refine hK _ ?_|refine ⟨_,fun _ _ _=>rfl,hK _ ?_⟩);clear hK K
  refine seq_come _ rfl (fun K hK=>?_);go_simp
  refine (roomtake_any room X.size D HRO.out hu).mono ?_;rintro e w1 ⟨rfl,r1,rfl,HR1⟩
  have HB1:=Lib.hid (HR1.out.le HRO.out)
  have HC2:=Lib.hid (roomtake_any r1 (8 * m) D HB1.out (by have:=HMB.out;omega))
  go_simp;refine hK.out _ _ hs0 ?_;clear hK K
  refine seq_come _ rfl (fun K hK=>?_);go_simp
  refine HC2.out.mono ?_;rintro e w1 ⟨rfl,r2,rfl,HR2⟩
  have HR3:=Lib.hid (HR1.out.then HR2.out)
  go_simp;refine hK.out _ _ hs0 ?_;clear hK K
  refine seq_take _ rfl (fun K hK=>?_);go_simp;(first|refine hK _ ?_|refine ⟨_,fun _ _ _=>rfl,hK _ ?_⟩);clear hK K
  refine seq_done ?_
  go_wp2_with fail
  go_ret
  exact ⟨HBD.out,r2,rfl,Lib.hid (by have h:=HR3.out;unfold RoomOk at h ⊢;omega)⟩
def xp_rw:Xp→Nat
  | ((l,(_,(_,(_,((_,_),(_,(_,((_,pb,pu),((_,nb,nu),(_,(es,((_,_),((_,_),_))))))))))))),u)=>100+(8 * min pb.cs.length 100000+pu.length+(8 * min nb.cs.length 100000+nu.length)+ksw l+lwt exSb es+u.length)
theorem xp_wt_rw {x:Xp} (h:xp_rw x≤12000):xp_wt x≤16000:=by
  obtain ⟨⟨l,⟨a,⟨t,⟨k,⟨⟨bp,vp⟩,⟨sc,⟨zc,⟨⟨gp,pb,pu⟩,⟨⟨gn,nb,nu⟩,⟨f,⟨es,⟨⟨bm,vm⟩,⟨⟨bg,vg⟩,th⟩⟩⟩⟩⟩⟩⟩⟩⟩⟩⟩⟩⟩,u⟩:=x
  have h:100+(8 * min pb.cs.length 100000+pu.length+(8 * min nb.cs.length 100000+nu.length)+ksw l+lwt exSb es+u.length)≤12000:=h
  show 100+(ksw l+10 * pb.cs.length+pu.length+10 * nb.cs.length+nu.length+lwt exSb es+u.length)≤_
  omega
def RowXp (w':World) (g:Nat) (c:List Value):Prop:=w'.heap[g]? = some (.cells c.toArray 32 (0,0))
theorem xp_room (x:Xp) (cs:List Value) (P:Nat→Prop) (w:World) (room:Int) (harg:xp_arg x) (hr:xpCel.R w P x cs) (hro : -1≤room∧room≤700000) :
 Calls Tryd.prog 17 #[.agg cs.toArray,.int .i64 room] w (RmPost room (xp_rw x) w):=by
 have HRO:Hid (-1≤room∧room≤1000000):=Lib.hid (by omega)
 obtain ⟨⟨l,⟨a,⟨t,⟨k,⟨⟨bp,vp⟩,⟨sc,⟨zc,⟨⟨gp,pb,pu⟩,⟨⟨gn,nb,nu⟩,⟨f,⟨es,⟨⟨bm,vm⟩,⟨⟨bg,vg⟩,th⟩⟩⟩⟩⟩⟩⟩⟩⟩⟩⟩⟩⟩,u⟩:=x
 obtain ⟨lo,lc,po,pc,no,nc,eo,ec,rfl,hk,_,_,he⟩:=hr
 obtain ⟨hfl,hll,hzl,_,_,_,_,_,_,_,hypu,hzpu,_,hynu,hznu,_,hfes,hzes,_,_,_,hzu⟩:=harg
 have HK:=Lib.hid hk
 have HE:=Lib.hid he
 have HFE:=Lib.hid hfes
 have HZE:=Lib.hid hzes
 have HFL:=Lib.hid hfl
 have HLL:=Lib.hid hll
 have HZL:=Lib.hid hzl
 have HZP:=Lib.hid (And.intro hypu hzpu)
 have HZN:=Lib.hid (And.intro hynu hznu)
 have HWX:Hid (xp_rw ((l,(a,(t,(k,((bp,vp),(sc,(zc,((gp,pb,pu),((gn,nb,nu),(f,(es,((bm,vm),((bg,vg),th))))))))))))),u)=100+(8 * min pb.cs.length 100000+pu.length+(8 * min nb.cs.length 100000+nu.length)+ksw l+lwt exSb es+u.length)):=Lib.hid rfl
 dsimp only[strV]
 obtain ⟨Xpu,hXpu⟩:∃ X:ByteArray,(⟨pu.toArray⟩:ByteArray)=X:=⟨_,rfl⟩
 obtain ⟨Xnu,hXnu⟩:∃ X:ByteArray,(⟨nu.toArray⟩:ByteArray)=X:=⟨_,rfl⟩
 obtain ⟨Xu,hXu⟩:∃ X:ByteArray,(⟨u.toArray⟩:ByteArray)=X:=⟨_,rfl⟩
 have HZU:Hid (Xu.size=u.length):=Lib.hid (by rw[←hXu];simp[ByteArray.size])
 have HBU:Hid (Xu.size≤9223372036854775807):=Lib.hid (by rw[HZU.out];exact hzu)
 have HRN:=Lib.hid (fun r w' (hq : -1≤r∧r≤1000000)=>roomb_gen r hq nb nu no nc w' HZN.out.1 HZN.out.2)
 have HRP:=Lib.hid (fun r w' (hq : -1≤r∧r≤1000000)=>roomb_gen r hq pb pu po pc w' HZP.out.1 HZP.out.2)
 rw[hXpu] at HRP
 rw[hXnu] at HRN
 rw[hXpu,hXnu,hXu]
 clear hro hk he hfes hzes hfl hll hzl hypu hzpu hynu hznu hzu hXpu hXnu hXu
 obtain ⟨W,hW⟩:∃ W,w.alloc (.cells #[.slice lo l.length lc,.int .u64 (a:Int),.int .u64 (t:Int),.int .u64 (k:Int),.bool bp,.int .u64 (vp:Int),.bool bm,.int .u64 (vm:Int),.bool bg,.int .u64 (vg:Int),.int .i32 sc,.int .u64 (zc:Int),.bool gp,.int .i32 pb.off,.slice po pb.cs.length pc,.string Xpu,.bool gn,.int .i32 nb.off,.slice no nb.cs.length nc,.string Xnu,.slice eo es.length ec,.int .u32 (f:Int),.int .u64 (th:Int),.string Xu] 32)=W:=⟨_,rfl⟩
 obtain ⟨bx,hbx⟩:∃ bx,w.heap.size=bx:=⟨_,rfl⟩
 have HB0:Hid (Below w.heap.size w W):=Lib.hid (by rw[←hW];exact below_new _ _)
 have hrow:RowXp W bx [.slice lo l.length lc,.int .u64 (a:Int),.int .u64 (t:Int),.int .u64 (k:Int),.bool bp,.int .u64 (vp:Int),.bool bm,.int .u64 (vm:Int),.bool bg,.int .u64 (vg:Int),.int .i32 sc,.int .u64 (zc:Int),.bool gp,.int .i32 pb.off,.slice po pb.cs.length pc,.string Xpu,.bool gn,.int .i32 nb.off,.slice no nb.cs.length nc,.string Xnu,.slice eo es.length ec,.int .u32 (f:Int),.int .u64 (th:Int),.string Xu]:=by rw[←hW,←hbx];exact heap_alloc_new _ _
 have HROW:=Lib.hid hrow
 have HW:=Lib.hid hW
 have HBX:=Lib.hid hbx
 clear hW hbx hrow
 go_enter Tryd.func17,Tryd.ntmps17
 go_upto_region 1 with fail
 rw[HW.out,HBX.out]
 obtain ⟨D,hD⟩:∃ D,W.drew=D:=⟨_,rfl⟩
 have HBD:Hid (Below W.heap.size W D):=Lib.hid (by rw[←hD];exact (Below.refl _ _).drew)
 have hS:RowXp D bx [.slice lo l.length lc,.int .u64 (a:Int),.int .u64 (t:Int),.int .u64 (k:Int),.bool bp,.int .u64 (vp:Int),.bool bm,.int .u64 (vm:Int),.bool bg,.int .u64 (vg:Int),.int .i32 sc,.int .u64 (zc:Int),.bool gp,.int .i32 pb.off,.slice po pb.cs.length pc,.string Xpu,.bool gn,.int .i32 nb.off,.slice no nb.cs.length nc,.string Xnu,.slice eo es.length ec,.int .u32 (f:Int),.int .u64 (th:Int),.string Xu]:=(HBD.out.block _ (row_lt HROW.out)).trans HROW.out
 have hne:Nonempty {w':World // RowXp w' bx [.slice lo l.length lc,.int .u64 (a:Int),.int .u64 (t:Int),.int .u64 (k:Int),.bool bp,.int .u64 (vp:Int),.bool bm,.int .u64 (vm:Int),.bool bg,.int .u64 (vg:Int),.int .i32 sc,.int .u64 (zc:Int),.bool gp,.int .i32 pb.off,.slice po pb.cs.length pc,.string Xpu,.bool gn,.int .i32 nb.off,.slice no nb.cs.length nc,.string Xnu,.slice eo es.length ec,.int .u32 (f:Int),.int .u64 (th:Int),.string Xu]}:=⟨⟨_,hS⟩⟩
 have HBW:=Lib.hid (below_step HB0.out HBD.out)
 refine wp_region_seq (S:=fun w'=>RowXp w' bx [.slice lo l.length lc,.int .u64 (a:Int),.int .u64 (t:Int),.int .u64 (k:Int),.bool bp,.int .u64 (vp:Int),.bool bm,.int .u64 (vm:Int),.bool bg,.int .u64 (vg:Int),.int .i32 sc,.int .u64 (zc:Int),.bool gp,.int .i32 pb.off,.slice po pb.cs.length pc,.string Xpu,.bool gn,.int .i32 nb.off,.slice no nb.cs.length nc,.string Xnu,.slice eo es.length ec,.int .u32 (f:Int),.int .u64 (th:Int),.string Xu]) [(0,true),(1,true),(2,true),(3,true),(4,true),(5,true),(6,true),(7,true),(8,false),(9,false),(10,false),(11,true)] (by kernel_rfl) (by kernel_rfl) (by kernel_rfl) (by kernel_rfl) (by rw[hD];exact hS) ?_
 rw[hD]
 clear hD
 (refine seq_take _ rfl (fun K2 hK=>?_);go_simp;(first|refine hK _ ?_|refine ⟨_,fun _ _=>rfl,hK _ ?_⟩);clear hK K2)
 refine seq_take _ rfl (fun K2 hK=>?_);go_simp
 refine ⟨.agg #[.int .i32 pb.off,.slice po pb.cs.length pc,.string Xpu],fun a ha=>by (have e0:a.cell? ⟨bx,13,none⟩=some (.int .i32 pb.off):=row_cell ha (j:=13) rfl;have e1:a.cell? ⟨bx,14,none⟩=some (.slice po pb.cs.length pc):=row_cell ha (j:=14) rfl;have e2:a.cell? ⟨bx,15,none⟩=some (.string Xpu):=row_cell ha (j:=15) rfl);simp only[e0,e1,e2,Result.andThen],hK _ ?_⟩;clear hK K2
 (refine seq_take _ rfl (fun K2 hK=>?_);go_simp;(first|refine hK _ ?_|refine ⟨_,fun _ _=>rfl,hK _ ?_⟩);clear hK K2)
 refine seq_take _ rfl (fun K2 hK=>?_);go_simp
 refine ⟨.agg #[.int .i32 nb.off,.slice no nb.cs.length nc,.string Xnu],fun a ha=>by (have e0:a.cell? ⟨bx,17,none⟩=some (.int .i32 nb.off):=row_cell ha (j:=17) rfl;have e1:a.cell? ⟨bx,18,none⟩=some (.slice no nb.cs.length nc):=row_cell ha (j:=18) rfl;have e2:a.cell? ⟨bx,19,none⟩=some (.string Xnu):=row_cell ha (j:=19) rfl);simp only[e0,e1,e2,Result.andThen],hK _ ?_⟩;clear hK K2
 iterate 2 (refine seq_take _ rfl (fun K2 hK=>?_);go_simp;(first|refine hK _ ?_|refine ⟨_,fun _ _=>rfl,hK _ ?_⟩);clear hK K2)
 refine seq_take _ rfl (fun K2 hK=>?_);go_simp
 refine ⟨.string Xu,fun a ha=>by (have e:a.cell? ⟨bx,23,none⟩=some (.string Xu):=row_cell ha (j:=23) rfl);rw[e];rfl,hK _ ?_⟩;clear hK K2
 (refine seq_take _ rfl (fun K2 hK=>?_);go_simp;(first|refine hK _ ?_|refine ⟨_,fun _ _=>rfl,hK _ ?_⟩);clear hK K2)
 refine seq_come _ rfl (fun K2 hK=>?_);go_simp
 refine (roomtake_any room Xu.size D HRO.out HBU.out).mono ?_;rintro e w4 ⟨rfl,r1,rfl,HR1⟩
 have HB1:=Lib.hid (HR1.out.le HRO.out)
 go_simp;refine hK.out _ _ hS ?_;clear hK K2
 refine seq_come _ rfl (fun K2 hK=>?_);go_simp
 refine (HRN.out r1 D HB1.out).mono ?_;rintro e w4 ⟨hb4,r2,rfl,HR2⟩
 have HB2:=Lib.hid (HR2.out.le HB1.out)
 have hS4:RowXp w4 bx [.slice lo l.length lc,.int .u64 (a:Int),.int .u64 (t:Int),.int .u64 (k:Int),.bool bp,.int .u64 (vp:Int),.bool bm,.int .u64 (vm:Int),.bool bg,.int .u64 (vg:Int),.int .i32 sc,.int .u64 (zc:Int),.bool gp,.int .i32 pb.off,.slice po pb.cs.length pc,.string Xpu,.bool gn,.int .i32 nb.off,.slice no nb.cs.length nc,.string Xnu,.slice eo es.length ec,.int .u32 (f:Int),.int .u64 (th:Int),.string Xu]:=(hb4.block _ (row_lt hS)).trans hS
 have HBW4:=Lib.hid (below_step HBW.out hb4)
 go_simp;refine hK.out _ _ hS4 ?_;clear hK K2 hb4
 refine seq_come _ rfl (fun K2 hK=>?_);go_simp
 refine (HRP.out r2 w4 HB2.out).mono ?_;rintro e w5 ⟨hb5,r3,rfl,HR3⟩
 have HB3:=Lib.hid (HR3.out.le HB2.out)
 have hS5:RowXp w5 bx [.slice lo l.length lc,.int .u64 (a:Int),.int .u64 (t:Int),.int .u64 (k:Int),.bool bp,.int .u64 (vp:Int),.bool bm,.int .u64 (vm:Int),.bool bg,.int .u64 (vg:Int),.int .i32 sc,.int .u64 (zc:Int),.bool gp,.int .i32 pb.off,.slice po pb.cs.length pc,.string Xpu,.bool gn,.int .i32 nb.off,.slice no nb.cs.length nc,.string Xnu,.slice eo es.length ec,.int .u32 (f:Int),.int .u64 (th:Int),.string Xu]:=(hb5.block _ (row_lt hS4)).trans hS4
 have HBW5:=Lib.hid (below_step HBW4.out hb5)
 go_simp;refine hK.out _ _ hS5 ?_;clear hK K2 hb5
 (refine seq_take _ rfl (fun K2 hK=>?_);go_simp;(first|refine hK _ ?_|refine ⟨_,fun _ _=>rfl,hK _ ?_⟩);clear hK K2)
 refine seq_done ?_
 clear hne
 go_upto_region 2 with fail
 obtain ⟨D2,hD2⟩:∃ D2,w5.drew=D2:=⟨_,rfl⟩
 have HBD2:Hid (Below w5.heap.size w5 D2):=Lib.hid (by rw[←hD2];exact (Below.refl _ _).drew)
 have hS2:RowXp D2 bx [.slice lo l.length lc,.int .u64 (a:Int),.int .u64 (t:Int),.int .u64 (k:Int),.bool bp,.int .u64 (vp:Int),.bool bm,.int .u64 (vm:Int),.bool bg,.int .u64 (vg:Int),.int .i32 sc,.int .u64 (zc:Int),.bool gp,.int .i32 pb.off,.slice po pb.cs.length pc,.string Xpu,.bool gn,.int .i32 nb.off,.slice no nb.cs.length nc,.string Xnu,.slice eo es.length ec,.int .u32 (f:Int),.int .u64 (th:Int),.string Xu]:=(HBD2.out.block _ (row_lt hS5)).trans hS5
 have hne:Nonempty {w':World // RowXp w' bx [.slice lo l.length lc,.int .u64 (a:Int),.int .u64 (t:Int),.int .u64 (k:Int),.bool bp,.int .u64 (vp:Int),.bool bm,.int .u64 (vm:Int),.bool bg,.int .u64 (vg:Int),.int .i32 sc,.int .u64 (zc:Int),.bool gp,.int .i32 pb.off,.slice po pb.cs.length pc,.string Xpu,.bool gn,.int .i32 nb.off,.slice no nb.cs.length nc,.string Xnu,.slice eo es.length ec,.int .u32 (f:Int),.int .u64 (th:Int),.string Xu]}:=⟨⟨_,hS2⟩⟩
 have HBW2:=Lib.hid (below_step HBW5.out HBD2.out)
 refine wp_region_seq (S:=fun w'=>RowXp w' bx [.slice lo l.length lc,.int .u64 (a:Int),.int .u64 (t:Int),.int .u64 (k:Int),.bool bp,.int .u64 (vp:Int),.bool bm,.int .u64 (vm:Int),.bool bg,.int .u64 (vg:Int),.int .i32 sc,.int .u64 (zc:Int),.bool gp,.int .i32 pb.off,.slice po pb.cs.length pc,.string Xpu,.bool gn,.int .i32 nb.off,.slice no nb.cs.length nc,.string Xnu,.slice eo es.length ec,.int .u32 (f:Int),.int .u64 (th:Int),.string Xu]) [(0,true),(1,true),(2,true),(3,true),(4,true),(5,false),(6,false),(7,true)] (by kernel_rfl) (by kernel_rfl) (by kernel_rfl) (by kernel_rfl) (by rw[hD2];exact hS2) ?_
 rw[hD2]
 clear hD2
 (refine seq_take _ rfl (fun K2 hK=>?_);go_simp;(first|refine hK _ ?_|refine ⟨_,fun _ _=>rfl,hK _ ?_⟩);clear hK K2)
 refine seq_take _ rfl (fun K2 hK=>?_);go_simp
 refine ⟨.slice eo es.length ec,fun a ha=>by (have e:a.cell? ⟨bx,20,none⟩=some (.slice eo es.length ec):=row_cell ha (j:=20) rfl);rw[e];rfl,hK _ ?_⟩;clear hK K2
 (refine seq_take _ rfl (fun K2 hK=>?_);go_simp;(first|refine hK _ ?_|refine ⟨_,fun _ _=>rfl,hK _ ?_⟩);clear hK K2)
 refine seq_take _ rfl (fun K2 hK=>?_);go_simp
 refine ⟨.slice lo l.length lc,fun a ha=>by (have e:a.cell? ⟨bx,0,none⟩=some (.slice lo l.length lc):=row_cell ha (j:=0) rfl);rw[e];rfl,hK _ ?_⟩;clear hK K2
 (refine seq_take _ rfl (fun K2 hK=>?_);go_simp;(first|refine hK _ ?_|refine ⟨_,fun _ _=>rfl,hK _ ?_⟩);clear hK K2)
 refine seq_come _ rfl (fun K2 hK=>?_);go_simp
 refine (roomks_any l lo lc P D2 40 r3 HZL.out HLL.out HFL.out (HK.out.below HBW2.out) (by omega) HB3.out).mono ?_;rintro e w6 ⟨hb6,r4,rfl,HR4⟩
 have HB4:=Lib.hid (HR4.out.le HB3.out)
 have hS6:RowXp w6 bx [.slice lo l.length lc,.int .u64 (a:Int),.int .u64 (t:Int),.int .u64 (k:Int),.bool bp,.int .u64 (vp:Int),.bool bm,.int .u64 (vm:Int),.bool bg,.int .u64 (vg:Int),.int .i32 sc,.int .u64 (zc:Int),.bool gp,.int .i32 pb.off,.slice po pb.cs.length pc,.string Xpu,.bool gn,.int .i32 nb.off,.slice no nb.cs.length nc,.string Xnu,.slice eo es.length ec,.int .u32 (f:Int),.int .u64 (th:Int),.string Xu]:=(hb6.block _ (row_lt hS2)).trans hS2
 have HBV:=Lib.hid (below_step HBW2.out hb6)
 go_simp;refine hK.out _ _ hS6 ?_;clear hK K2 hb6
 refine seq_come _ rfl (fun K2 hK=>?_);go_simp
 refine (exrooms_any es eo ec P w6 r4 HZE.out HFE.out (HE.out.below HBV.out) HB4.out).mono ?_;rintro e w7 ⟨hb7,r5,rfl,HR5⟩
 have hS7:RowXp w7 bx [.slice lo l.length lc,.int .u64 (a:Int),.int .u64 (t:Int),.int .u64 (k:Int),.bool bp,.int .u64 (vp:Int),.bool bm,.int .u64 (vm:Int),.bool bg,.int .u64 (vg:Int),.int .i32 sc,.int .u64 (zc:Int),.bool gp,.int .i32 pb.off,.slice po pb.cs.length pc,.string Xpu,.bool gn,.int .i32 nb.off,.slice no nb.cs.length nc,.string Xnu,.slice eo es.length ec,.int .u32 (f:Int),.int .u64 (th:Int),.string Xu]:=(hb7.block _ (row_lt hS6)).trans hS6
 have HBZ:=Lib.hid (below_step HBV.out hb7)
 go_simp;refine hK.out _ _ hS7 ?_;clear hK K2 hb7
 (refine seq_take _ rfl (fun K2 hK=>?_);go_simp;(first|refine hK _ ?_|refine ⟨_,fun _ _=>rfl,hK _ ?_⟩);clear hK K2)
 refine seq_done ?_
 clear hS hS2 hS4 hS5 hS6 hS7 hne
 go_wp2_with fail
 go_ret
 exact ⟨HBZ.out,r5,rfl,Lib.hid (by
  have h1:=(((HR1.out.then HR2.out).then HR3.out).then HR4.out).then HR5.out
  rw[exsw_lwt] at h1
  have h2:=HWX.out
  have h3:=HZU.out
  unfold RoomOk at h1 ⊢
  omega)⟩
end Go.Proofs.YtoggpnfeioaidaaDoor
