/-
  XpRoom, FrV
-/
import Derived.Test.YtoggpnfeioaidaaDoorHiRoom
import Derived.Test.YtoggpnfeioaidaaDoorXpOpen
import Derived.Test.YtoggpnfeioaidaaDoorBukRef
import Derived.Laws.CopyOwn
import Derived.Deep.MidRow
import Derived.Test.YtoggpnfeioaidaaDoorAlikeB
import Derived.Test.YtoggpnfeioaidaaDoorValOut
import Derived.Test.YtoggpnfeioaidaaDoorErrNew
set_option maxRecDepth 1000000
set_option maxHeartbeats 16000000
namespace Go.Proofs.YtoggpnfeioaidaaDoor
open Go.RowKit
theorem roomb_gen (room:Int) (hro : -1≤room∧room≤1000000) (x:Bk) (u:List UInt8) (ao:Option Addr) (cap:Nat) (w:World) (hl:x.cs.length≤9223372036854775807) (hu:u.length≤9223372036854775807) :
    Calls Tryd.prog 35 #[.agg #[.int .i32 x.off,.slice ao x.cs.length cap,.string ⟨u.toArray⟩],.int .i64 room] w fun e w'=>Below w.heap.size w w'∧∃ r:Int,e = .returned (.int .i64 r)∧Hid (RoomOk room (40+(u.length+8 * min x.cs.length 100000)) r):=by
  have HRO:=Lib.hid hro
  obtain ⟨X,hX⟩:∃ X:ByteArray,(⟨u.toArray⟩:ByteArray)=X:=⟨_,rfl⟩
  have hXs:X.size=u.length:=by rw[←hX];simp[ByteArray.size]
  rw[hX]
  rw[←hXs] at hu ⊢
  clear hX hXs
  obtain ⟨n,hn⟩:∃ n,x.cs.length=n:=⟨_,rfl⟩
  rw[hn] at hl ⊢
  clear hn
  obtain ⟨m,hm⟩:∃ m:Nat,min n 100000=m:=⟨_,rfl⟩
  have hmi:min (n:Int) 100000=(m:Int):=by omega
  have hmb:m≤100000:=by omega
  have HM:=Lib.hid hmi
  have q1:IntKind.i64.wrap (8 * (m:Int))=((8 * m:Nat):Int):=by rw[IntWalk.i64_in _ (by omega)];omega
  rw[hm]
  have HMB:=Lib.hid hmb
  clear hm hmb hmi hro
  obtain ⟨W0,hW0⟩:∃ W0,w.alloc (.cells #[.int .i32 x.off,.slice ao n cap,.string X] 28)=W0:=⟨_,rfl⟩
  have HBW0:Hid (Below w.heap.size w W0):=Lib.hid (by rw[←hW0];exact below_new _ _)
  have HR0:Hid (W0.heap[w.heap.size]? = some (.cells #[.int .i32 x.off,.slice ao n cap,.string X] 28 (0,0))):=Lib.hid (by rw[←hW0];exact heap_alloc_new w _)
  have HW0:=Lib.hid hW0
  clear hW0
  obtain ⟨b,hb⟩:∃ b,w.heap.size=b:=⟨_,rfl⟩
  have HBB:=Lib.hid hb
  go_enter Tryd.func35,Tryd.ntmps35
  go_wp2_with fail
  rw[HW0.out]
  obtain ⟨D,hD⟩:∃ D,W0.drew=D:=⟨_,rfl⟩
  have HBD:Hid (Below w.heap.size w D):=Lib.hid (by rw[←hD];exact HBW0.out.drew)
  have HRD:Hid (D.heap[w.heap.size]? = some (.cells #[.int .i32 x.off,.slice ao n cap,.string X] 28 (0,0))):=Lib.hid (by rw[←hD];exact HR0.out)
  have hs0:D.cell? ⟨w.heap.size,2,none⟩=some (.string X)∧D.cell? ⟨w.heap.size,1,none⟩=some (.slice ao n cap):=⟨row_cell HRD.out (j:=2) rfl,row_cell HRD.out (j:=1) rfl⟩
  refine wp_region_seq (S:=fun w'=>w'.cell? ⟨w.heap.size,2,none⟩=some (.string X)∧w'.cell? ⟨w.heap.size,1,none⟩=some (.slice ao n cap)) [(0,true),(1,true),(2,true),(3,true),(5,true),(6,true),(7,true),(8,true),(9,true),(4,false),(10,false),(11,true)] (by kernel_rfl) (by kernel_rfl) (by kernel_rfl) (by kernel_rfl) (by rw[hD];exact hs0) ?_
  rw[hD]
  iterate 7 (refine seq_take _ rfl (fun K hK=>?_);go_simp;(first|refine hK _ ?_|refine ⟨_,fun _ _ _=>rfl,hK _ ?_⟩|refine ⟨.string X,fun a ha _=>by rw[ha];rfl,hK _ ?_⟩|refine ⟨.slice ao n cap,fun a _ ha=>by rw[ha];rfl,hK _ ?_⟩);clear hK K)
  refine seq_take _ rfl (fun K hK=>?_);go_simp;refine ⟨.int .i64 (m:Int),fun a _ _=>by rw[HM.out],hK _ ?_⟩;clear hK K
  refine seq_take _ rfl (fun K hK=>?_);go_simp;(first|refine hK _ ?_|refine ⟨_,fun _ _ _=>rfl,hK _ ?_⟩);clear hK K
  refine seq_come _ rfl (fun K hK=>?_);go_simp
  refine (roomtake_any room X.size D HRO.out hu).mono ?_;rintro e w1 ⟨rfl,r1,rfl,HR1⟩
  have HB1:=Lib.hid (HR1.out.le HRO.out)
  have HC2:=Lib.hid (roomtake_any r1 (8 * m) D HB1.out (by have:=HMB.out;omega))
  go_simp;refine hK.out _ _ hs0 ?_;clear hK K
  refine seq_come _ rfl (fun K hK=>?_);go_simp
  refine HC2.out.mono ?_;rintro e w1 ⟨rfl,r2,rfl,HR2⟩
  have HR3:=Lib.hid (HR1.out.then HR2.out)
  go_simp;refine hK.out _ _ hs0 ?_;clear hK K
  refine seq_take _ rfl (fun K hK=>?_);go_simp;(first|refine hK _ ?_|refine ⟨_,fun _ _ _=>rfl,hK _ ?_⟩);clear hK K
  refine seq_done ?_
  go_wp2_with fail
  go_ret
  exact ⟨HBD.out,r2,rfl,Lib.hid (by have h:=HR3.out;unfold RoomOk at h ⊢;omega)⟩
def xp_rw:Xp→Nat
  | ((l,(_,(_,(_,((_,_),(_,(_,((_,pb,pu),((_,nb,nu),(_,(es,((_,_),((_,_),_))))))))))))),u)=>100+(8 * min pb.cs.length 100000+pu.length+(8 * min nb.cs.length 100000+nu.length)+ksw l+lwt exSb es+u.length)
theorem xp_wt_rw {x:Xp} (h:xp_rw x≤12000):xp_wt x≤16000:=by
  obtain ⟨⟨l,⟨a,⟨t,⟨k,⟨⟨bp,vp⟩,⟨sc,⟨zc,⟨⟨gp,pb,pu⟩,⟨⟨gn,nb,nu⟩,⟨f,⟨es,⟨⟨bm,vm⟩,⟨⟨bg,vg⟩,th⟩⟩⟩⟩⟩⟩⟩⟩⟩⟩⟩⟩⟩,u⟩:=x
  have h:100+(8 * min pb.cs.length 100000+pu.length+(8 * min nb.cs.length 100000+nu.length)+ksw l+lwt exSb es+u.length)≤12000:=h
  show 100+(ksw l+10 * pb.cs.length+pu.length+10 * nb.cs.length+nu.length+lwt exSb es+u.length)≤_
  omega
def RowXp (w':World) (g:Nat) (c:List Value):Prop:=w'.heap[g]? = some (.cells c.toArray 32 (0,0))
theorem xp_room (x:Xp) (cs:List Value) (P:Nat→Prop) (w:World) (room:Int) (harg:xp_arg x) (hr:xpCel.R w P x cs) (hro : -1≤room∧room≤700000) :
 Calls Tryd.prog 17 #[.agg cs.toArray,.int .i64 room] w (RmPost room (xp_rw x) w):=by
 have HRO:Hid (-1≤room∧room≤1000000):=Lib.hid (by omega)
 obtain ⟨⟨l,⟨a,⟨t,⟨k,⟨⟨bp,vp⟩,⟨sc,⟨zc,⟨⟨gp,pb,pu⟩,⟨⟨gn,nb,nu⟩,⟨f,⟨es,⟨⟨bm,vm⟩,⟨⟨bg,vg⟩,th⟩⟩⟩⟩⟩⟩⟩⟩⟩⟩⟩⟩⟩,u⟩:=x
 obtain ⟨lo,lc,po,pc,no,nc,eo,ec,rfl,hk,_,_,he⟩:=hr
 obtain ⟨hfl,hll,hzl,_,_,_,_,_,_,_,hypu,hzpu,_,hynu,hznu,_,hfes,hzes,_,_,_,hzu⟩:=harg
 have HK:=Lib.hid hk
 have HE:=Lib.hid he
 have HFE:=Lib.hid hfes
 have HZE:=Lib.hid hzes
 have HFL:=Lib.hid hfl
 have HLL:=Lib.hid hll
 have HZL:=Lib.hid hzl
 have HZP:=Lib.hid (And.intro hypu hzpu)
 have HZN:=Lib.hid (And.intro hynu hznu)
 have HWX:Hid (xp_rw ((l,(a,(t,(k,((bp,vp),(sc,(zc,((gp,pb,pu),((gn,nb,nu),(f,(es,((bm,vm),((bg,vg),th))))))))))))),u)=100+(8 * min pb.cs.length 100000+pu.length+(8 * min nb.cs.length 100000+nu.length)+ksw l+lwt exSb es+u.length)):=Lib.hid rfl
 dsimp only[strV]
 obtain ⟨Xpu,hXpu⟩:∃ X:ByteArray,(⟨pu.toArray⟩:ByteArray)=X:=⟨_,rfl⟩
 obtain ⟨Xnu,hXnu⟩:∃ X:ByteArray,(⟨nu.toArray⟩:ByteArray)=X:=⟨_,rfl⟩
 obtain ⟨Xu,hXu⟩:∃ X:ByteArray,(⟨u.toArray⟩:ByteArray)=X:=⟨_,rfl⟩
 have HZU:Hid (Xu.size=u.length):=Lib.hid (by rw[←hXu];simp[ByteArray.size])
 have HBU:Hid (Xu.size≤9223372036854775807):=Lib.hid (by rw[HZU.out];exact hzu)
 have HRN:=Lib.hid (fun r w' (hq : -1≤r∧r≤1000000)=>roomb_gen r hq nb nu no nc w' HZN.out.1 HZN.out.2)
 have HRP:=Lib.hid (fun r w' (hq : -1≤r∧r≤1000000)=>roomb_gen r hq pb pu po pc w' HZP.out.1 HZP.out.2)
 rw[hXpu] at HRP
 rw[hXnu] at HRN
 rw[hXpu,hXnu,hXu]
 clear hro hk he hfes hzes hfl hll hzl hypu hzpu hynu hznu hzu hXpu hXnu hXu
 obtain ⟨W,hW⟩:∃ W,w.alloc (.cells #[.slice lo l.length lc,.int .u64 (a:Int),.int .u64 (t:Int),.int .u64 (k:Int),.bool bp,.int .u64 (vp:Int),.bool bm,.int .u64 (vm:Int),.bool bg,.int .u64 (vg:Int),.int .i32 sc,.int .u64 (zc:Int),.bool gp,.int .i32 pb.off,.slice po pb.cs.length pc,.string Xpu,.bool gn,.int .i32 nb.off,.slice no nb.cs.length nc,.string Xnu,.slice eo es.length ec,.int .u32 (f:Int),.int .u64 (th:Int),.string Xu] 32)=W:=⟨_,rfl⟩
 obtain ⟨bx,hbx⟩:∃ bx,w.heap.size=bx:=⟨_,rfl⟩
 have HB0:Hid (Below w.heap.size w W):=Lib.hid (by rw[←hW];exact below_new _ _)
 have hrow:RowXp W bx [.slice lo l.length lc,.int .u64 (a:Int),.int .u64 (t:Int),.int .u64 (k:Int),.bool bp,.int .u64 (vp:Int),.bool bm,.int .u64 (vm:Int),.bool bg,.int .u64 (vg:Int),.int .i32 sc,.int .u64 (zc:Int),.bool gp,.int .i32 pb.off,.slice po pb.cs.length pc,.string Xpu,.bool gn,.int .i32 nb.off,.slice no nb.cs.length nc,.string Xnu,.slice eo es.length ec,.int .u32 (f:Int),.int .u64 (th:Int),.string Xu]:=by rw[←hW,←hbx];exact heap_alloc_new _ _
 have HROW:=Lib.hid hrow
 have HW:=Lib.hid hW
 have HBX:=Lib.hid hbx
 clear hW hbx hrow
 go_enter Tryd.func17,Tryd.ntmps17
 go_upto_region 1 with fail
 rw[HW.out,HBX.out]
 obtain ⟨D,hD⟩:∃ D,W.drew=D:=⟨_,rfl⟩
 have HBD:Hid (Below W.heap.size W D):=Lib.hid (by rw[←hD];exact (Below.refl _ _).drew)
 have hS:RowXp D bx [.slice lo l.length lc,.int .u64 (a:Int),.int .u64 (t:Int),.int .u64 (k:Int),.bool bp,.int .u64 (vp:Int),.bool bm,.int .u64 (vm:Int),.bool bg,.int .u64 (vg:Int),.int .i32 sc,.int .u64 (zc:Int),.bool gp,.int .i32 pb.off,.slice po pb.cs.length pc,.string Xpu,.bool gn,.int .i32 nb.off,.slice no nb.cs.length nc,.string Xnu,.slice eo es.length ec,.int .u32 (f:Int),.int .u64 (th:Int),.string Xu]:=(HBD.out.block _ (row_lt HROW.out)).trans HROW.out
 have hne:Nonempty {w':World // RowXp w' bx [.slice lo l.length lc,.int .u64 (a:Int),.int .u64 (t:Int),.int .u64 (k:Int),.bool bp,.int .u64 (vp:Int),.bool bm,.int .u64 (vm:Int),.bool bg,.int .u64 (vg:Int),.int .i32 sc,.int .u64 (zc:Int),.bool gp,.int .i32 pb.off,.slice po pb.cs.length pc,.string Xpu,.bool gn,.int .i32 nb.off,.slice no nb.cs.length nc,.string Xnu,.slice eo es.length ec,.int .u32 (f:Int),.int .u64 (th:Int),.string Xu]}:=⟨⟨_,hS⟩⟩
 have HBW:=Lib.hid (below_step HB0.out HBD.out)
 refine wp_region_seq (S:=fun w'=>RowXp w' bx [.slice lo l.length lc,.int .u64 (a:Int),.int .u64 (t:Int),.int .u64 (k:Int),.bool bp,.int .u64 (vp:Int),.bool bm,.int .u64 (vm:Int),.bool bg,.int .u64 (vg:Int),.int .i32 sc,.int .u64 (zc:Int),.bool gp,.int .i32 pb.off,.slice po pb.cs.length pc,.string Xpu,.bool gn,.int .i32 nb.off,.slice no nb.cs.length nc,.string Xnu,.slice eo es.length ec,.int .u32 (f:Int),.int .u64 (th:Int),.string Xu]) [(0,true),(1,true),(2,true),(3,true),(4,true),(5,true),(6,true),(7,true),(8,false),(9,false),(10,false),(11,true)] (by kernel_rfl) (by kernel_rfl) (by kernel_rfl) (by kernel_rfl) (by rw[hD];exact hS) ?_
 rw[hD]
 clear hD
 (refine seq_take _ rfl (fun K2 hK=>?_);go_simp;(first|refine hK _ ?_|refine ⟨_,fun _ _=>rfl,hK _ ?_⟩);clear hK K2)
 refine seq_take _ rfl (fun K2 hK=>?_);go_simp
 refine ⟨.agg #[.int .i32 pb.off,.slice po pb.cs.length pc,.string Xpu],fun a ha=>by (have e0:a.cell? ⟨bx,13,none⟩=some (.int .i32 pb.off):=row_cell ha (j:=13) rfl;have e1:a.cell? ⟨bx,14,none⟩=some (.slice po pb.cs.length pc):=row_cell ha (j:=14) rfl;have e2:a.cell? ⟨bx,15,none⟩=some (.string Xpu):=row_cell ha (j:=15) rfl);simp only[e0,e1,e2,Result.andThen],hK _ ?_⟩;clear hK K2
 (refine seq_take _ rfl (fun K2 hK=>?_);go_simp;(first|refine hK _ ?_|refine ⟨_,fun _ _=>rfl,hK _ ?_⟩);clear hK K2)
 refine seq_take _ rfl (fun K2 hK=>?_);go_simp
 refine ⟨.agg #[.int .i32 nb.off,.slice no nb.cs.length nc,.string Xnu],fun a ha=>by (have e0:a.cell? ⟨bx,17,none⟩=some (.int .i32 nb.off):=row_cell ha (j:=17) rfl;have e1:a.cell? ⟨bx,18,none⟩=some (.slice no nb.cs.length nc):=row_cell ha (j:=18) rfl;have e2:a.cell? ⟨bx,19,none⟩=some (.string Xnu):=row_cell ha (j:=19) rfl);simp only[e0,e1,e2,Result.andThen],hK _ ?_⟩;clear hK K2
 iterate 2 (refine seq_take _ rfl (fun K2 hK=>?_);go_simp;(first|refine hK _ ?_|refine ⟨_,fun _ _=>rfl,hK _ ?_⟩);clear hK K2)
 refine seq_take _ rfl (fun K2 hK=>?_);go_simp
 refine ⟨.string Xu,fun a ha=>by (have e:a.cell? ⟨bx,23,none⟩=some (.string Xu):=row_cell ha (j:=23) rfl);rw[e];rfl,hK _ ?_⟩;clear hK K2
 (refine seq_take _ rfl (fun K2 hK=>?_);go_simp;(first|refine hK _ ?_|refine ⟨_,fun _ _=>rfl,hK _ ?_⟩);clear hK K2)
 refine seq_come _ rfl (fun K2 hK=>?_);go_simp
 refine (roomtake_any room Xu.size D HRO.out HBU.out).mono ?_;rintro e w4 ⟨rfl,r1,rfl,HR1⟩
 have HB1:=Lib.hid (HR1.out.le HRO.out)
 go_simp;refine hK.out _ _ hS ?_;clear hK K2
 refine seq_come _ rfl (fun K2 hK=>?_);go_simp
 refine (HRN.out r1 D HB1.out).mono ?_;rintro e w4 ⟨hb4,r2,rfl,HR2⟩
 have HB2:=Lib.hid (HR2.out.le HB1.out)
 have hS4:RowXp w4 bx [.slice lo l.length lc,.int .u64 (a:Int),.int .u64 (t:Int),.int .u64 (k:Int),.bool bp,.int .u64 (vp:Int),.bool bm,.int .u64 (vm:Int),.bool bg,.int .u64 (vg:Int),.int .i32 sc,.int .u64 (zc:Int),.bool gp,.int .i32 pb.off,.slice po pb.cs.length pc,.string Xpu,.bool gn,.int .i32 nb.off,.slice no nb.cs.length nc,.string Xnu,.slice eo es.length ec,.int .u32 (f:Int),.int .u64 (th:Int),.string Xu]:=(hb4.block _ (row_lt hS)).trans hS
 have HBW4:=Lib.hid (below_step HBW.out hb4)
 go_simp;refine hK.out _ _ hS4 ?_;clear hK K2 hb4
 refine seq_come _ rfl (fun K2 hK=>?_);go_simp
 refine (HRP.out r2 w4 HB2.out).mono ?_;rintro e w5 ⟨hb5,r3,rfl,HR3⟩
 have HB3:=Lib.hid (HR3.out.le HB2.out)
 have hS5:RowXp w5 bx [.slice lo l.length lc,.int .u64 (a:Int),.int .u64 (t:Int),.int .u64 (k:Int),.bool bp,.int .u64 (vp:Int),.bool bm,.int .u64 (vm:Int),.bool bg,.int .u64 (vg:Int),.int .i32 sc,.int .u64 (zc:Int),.bool gp,.int .i32 pb.off,.slice po pb.cs.length pc,.string Xpu,.bool gn,.int .i32 nb.off,.slice no nb.cs.length nc,.string Xnu,.slice eo es.length ec,.int .u32 (f:Int),.int .u64 (th:Int),.string Xu]:=(hb5.block _ (row_lt hS4)).trans hS4
 have HBW5:=Lib.hid (below_step HBW4.out hb5)
 go_simp;refine hK.out _ _ hS5 ?_;clear hK K2 hb5
 (refine seq_take _ rfl (fun K2 hK=>?_);go_simp;(first|refine hK _ ?_|refine ⟨_,fun _ _=>rfl,hK _ ?_⟩);clear hK K2)
 refine seq_done ?_
 clear hne
 go_upto_region 2 with fail
 obtain ⟨D2,hD2⟩:∃ D2,w5.drew=D2:=⟨_,rfl⟩
 have HBD2:Hid (Below w5.heap.size w5 D2):=Lib.hid (by rw[←hD2];exact (Below.refl _ _).drew)
 have hS2:RowXp D2 bx [.slice lo l.length lc,.int .u64 (a:Int),.int .u64 (t:Int),.int .u64 (k:Int),.bool bp,.int .u64 (vp:Int),.bool bm,.int .u64 (vm:Int),.bool bg,.int .u64 (vg:Int),.int .i32 sc,.int .u64 (zc:Int),.bool gp,.int .i32 pb.off,.slice po pb.cs.length pc,.string Xpu,.bool gn,.int .i32 nb.off,.slice no nb.cs.length nc,.string Xnu,.slice eo es.length ec,.int .u32 (f:Int),.int .u64 (th:Int),.string Xu]:=(HBD2.out.block _ (row_lt hS5)).trans hS5
 have hne:Nonempty {w':World // RowXp w' bx [.slice lo l.length lc,.int .u64 (a:Int),.int .u64 (t:Int),.int .u64 (k:Int),.bool bp,.int .u64 (vp:Int),.bool bm,.int .u64 (vm:Int),.bool bg,.int .u64 (vg:Int),.int .i32 sc,.int .u64 (zc:Int),.bool gp,.int .i32 pb.off,.slice po pb.cs.length pc,.string Xpu,.bool gn,.int .i32 nb.off,.slice no nb.cs.length nc,.string Xnu,.slice eo es.length ec,.int .u32 (f:Int),.int .u64 (th:Int),.string Xu]}:=⟨⟨_,hS2⟩⟩
 have HBW2:=Lib.hid (below_step HBW5.out HBD2.out)
 refine wp_region_seq (S:=fun w'=>RowXp w' bx [.slice lo l.length lc,.int .u64 (a:Int),.int .u64 (t:Int),.int .u64 (k:Int),.bool bp,.int .u64 (vp:Int),.bool bm,.int .u64 (vm:Int),.bool bg,.int .u64 (vg:Int),.int .i32 sc,.int .u64 (zc:Int),.bool gp,.int .i32 pb.off,.slice po pb.cs.length pc,.string Xpu,.bool gn,.int .i32 nb.off,.slice no nb.cs.length nc,.string Xnu,.slice eo es.length ec,.int .u32 (f:Int),.int .u64 (th:Int),.string Xu]) [(0,true),(1,true),(2,true),(3,true),(4,true),(5,false),(6,false),(7,true)] (by kernel_rfl) (by kernel_rfl) (by kernel_rfl) (by kernel_rfl) (by rw[hD2];exact hS2) ?_
 rw[hD2]
 clear hD2
 (refine seq_take _ rfl (fun K2 hK=>?_);go_simp;(first|refine hK _ ?_|refine ⟨_,fun _ _=>rfl,hK _ ?_⟩);clear hK K2)
 refine seq_take _ rfl (fun K2 hK=>?_);go_simp
 refine ⟨.slice eo es.length ec,fun a ha=>by (have e:a.cell? ⟨bx,20,none⟩=some (.slice eo es.length ec):=row_cell ha (j:=20) rfl);rw[e];rfl,hK _ ?_⟩;clear hK K2
 (refine seq_take _ rfl (fun K2 hK=>?_);go_simp;(first|refine hK _ ?_|refine ⟨_,fun _ _=>rfl,hK _ ?_⟩);clear hK K2)
 refine seq_take _ rfl (fun K2 hK=>?_);go_simp
 refine ⟨.slice lo l.length lc,fun a ha=>by (have e:a.cell? ⟨bx,0,none⟩=some (.slice lo l.length lc):=row_cell ha (j:=0) rfl);rw[e];rfl,hK _ ?_⟩;clear hK K2
 (refine seq_take _ rfl (fun K2 hK=>?_);go_simp;(first|refine hK _ ?_|refine ⟨_,fun _ _=>rfl,hK _ ?_⟩);clear hK K2)
 refine seq_come _ rfl (fun K2 hK=>?_);go_simp
 refine (roomks_any l lo lc P D2 40 r3 HZL.out HLL.out HFL.out (HK.out.below HBW2.out) (by omega) HB3.out).mono ?_;rintro e w6 ⟨hb6,r4,rfl,HR4⟩
 have HB4:=Lib.hid (HR4.out.le HB3.out)
 have hS6:RowXp w6 bx [.slice lo l.length lc,.int .u64 (a:Int),.int .u64 (t:Int),.int .u64 (k:Int),.bool bp,.int .u64 (vp:Int),.bool bm,.int .u64 (vm:Int),.bool bg,.int .u64 (vg:Int),.int .i32 sc,.int .u64 (zc:Int),.bool gp,.int .i32 pb.off,.slice po pb.cs.length pc,.string Xpu,.bool gn,.int .i32 nb.off,.slice no nb.cs.length nc,.string Xnu,.slice eo es.length ec,.int .u32 (f:Int),.int .u64 (th:Int),.string Xu]:=(hb6.block _ (row_lt hS2)).trans hS2
 have HBV:=Lib.hid (below_step HBW2.out hb6)
 go_simp;refine hK.out _ _ hS6 ?_;clear hK K2 hb6
 refine seq_come _ rfl (fun K2 hK=>?_);go_simp
 refine (exrooms_any es eo ec P w6 r4 HZE.out HFE.out (HE.out.below HBV.out) HB4.out).mono ?_;rintro e w7 ⟨hb7,r5,rfl,HR5⟩
 have hS7:RowXp w7 bx [.slice lo l.length lc,.int .u64 (a:Int),.int .u64 (t:Int),.int .u64 (k:Int),.bool bp,.int .u64 (vp:Int),.bool bm,.int .u64 (vm:Int),.bool bg,.int .u64 (vg:Int),.int .i32 sc,.int .u64 (zc:Int),.bool gp,.int .i32 pb.off,.slice po pb.cs.length pc,.string Xpu,.bool gn,.int .i32 nb.off,.slice no nb.cs.length nc,.string Xnu,.slice eo es.length ec,.int .u32 (f:Int),.int .u64 (th:Int),.string Xu]:=(hb7.block _ (row_lt hS6)).trans hS6
 have HBZ:=Lib.hid (below_step HBV.out hb7)
 go_simp;refine hK.out _ _ hS7 ?_;clear hK K2 hb7
 (refine seq_take _ rfl (fun K2 hK=>?_);go_simp;(first|refine hK _ ?_|refine ⟨_,fun _ _=>rfl,hK _ ?_⟩);clear hK K2)
 refine seq_done ?_
 clear hS hS2 hS4 hS5 hS6 hS7 hne
 go_wp2_with fail
 go_ret
 exact ⟨HBZ.out,r5,rfl,Lib.hid (by
  have h1:=(((HR1.out.then HR2.out).then HR3.out).then HR4.out).then HR5.out
  rw[exsw_lwt] at h1
  have h2:=HWX.out
  have h3:=HZU.out
  unfold RoomOk at h1 ⊢
  omega)⟩
open Go.RowKit
theorem upd_setCells (g:Nat):∀ (vs:List Value) (o:Nat) (w:World),Upd (fun k=>k=g) w (w.setCells g o vs)
  | [],_,w=>Upd.refl _ w
  | v::r,o,w=>(Upd.set w ⟨g,o,none⟩ v).trans (upd_setCells g r (o+1) _)
theorem range_cells {w:World} {g o:Nat} {cs:List Value} (h:Cells w g o cs):w.rangeAt g o cs:=fun j v hj=>by
  obtain ⟨hl,rfl⟩:=List.getElem?_eq_some_iff.1 hj
  exact h j hl
theorem range_rowf {w:World} {g:Nat} {cs:List Value} {T:TypeId} {fr:Nat × Nat} (h:w.heap[g]? = some (.cells cs.toArray T fr)):w.rangeAt g 0 cs:=fun j v hj=>by
  have:=row_cell h (j:=j) (u:=v) (by simpa using hj)
  simpa using this
theorem there_own {w:World} {base g n size cap:Nat} {T:TypeId} {A:List Value} (h:w.ownsRow base T size (.slice (some ⟨g,0,none⟩) n cap) n A):w.there g 0 (n * size)∧g<w.heap.size∧base≤g∨n=0:=by
  rcases h.2 with ⟨h,_⟩|⟨g',cap',cur,e,hb,hh,hn,_,hsz,_⟩
  · simp at h
  · simp only[Value.slice.injEq,Option.some.injEq,Addr.mk.injEq] at e
    obtain ⟨⟨rfl,_⟩,_⟩:=e
    refine .inl ⟨fun j hj=>?_,row_lt hh,hb⟩
    have hj2:j<cur.size:=by rw[hsz];exact Nat.lt_of_lt_of_le hj (Nat.mul_le_mul_right _ hn)
    rw[Nat.zero_add]
    refine ⟨?_,row_thaw hh j⟩
    rw[cell_of_row w g j _ _ _ hh,Array.getElem?_eq_getElem hj2]
    rfl
def FrS {α:Type} (C:Cel α) (l:List α) (g B:Nat) (wr:World) (j:Nat):Prop :=
  g<wr.heap.size∧B≤g∧wr.there g 0 (l.length * C.size)∧∀ i (hi:i<l.length),i<j→∃ cs,Cells wr g (C.size * i) cs∧C.R wr (fun k=>B≤k∧k<wr.heap.size∧k≠g) l[i] cs
theorem there_upd {S:Nat→Prop} {w w':World} {g o n:Nat} (h:w.there g o n) (hu:Upd S w w') (hg:g<w.heap.size) (hs:¬S g):w'.there g o n:=fun j hj=>by
  have hb:=hu.block g hg hs
  obtain ⟨h1,h2⟩:=h j hj
  refine ⟨by rw[hu.cell (a:=⟨g,o+j,none⟩) hg hs];exact h1,?_⟩
  unfold World.frozen? at h2 ⊢
  simp only at h2 ⊢
  rw[hb];exact h2
theorem FrS.below {α:Type} {C:Cel α} {l:List α} {g B j:Nat} {w w':World} (h:FrS C l g B w j) (hb:Below w.heap.size w w'):FrS C l g B w' j:=by
  obtain ⟨h1,h2,h3,h4⟩:=h
  have hu:Upd (fun _=>False) w w':=Upd.of_new hb
  refine ⟨Nat.lt_of_lt_of_le h1 hu.size,h2,there_upd h3 hu h1 (fun h=>h),fun i hi hj=>?_⟩
  obtain ⟨cs,h5,h6⟩:=h4 i hi hj
  exact ⟨cs,h5.upd hu h1 (fun h=>h),C.upd hu (fun _ _ h=>h) (fun k hk=>⟨hk.1,Nat.lt_of_lt_of_le hk.2.1 hu.size,hk.2.2⟩) h6⟩
theorem there_part {w:World} {g n s j:Nat} (h:w.there g 0 (n * s)) (hj:j<n):w.there g (s * j) s:=fun i hi=>by
  have h1:=h (s * j+i) (by
    have:s * j+s≤s * n:=by rw[←Nat.mul_succ];exact Nat.mul_le_mul_left _ hj
    rw[Nat.mul_comm n s];omega)
  rwa [Nat.zero_add] at h1
theorem FrS.store {α:Type} {C:Cel α} {l:List α} {g B j:Nat} {w:World} (h:FrS C l g B w j) (hj:j<l.length) {cs:List Value} (hc:C.R w (fun k=>B≤k∧k<w.heap.size∧k≠g) l[j] cs):FrS C l g B (w.setCells g (C.size * j) cs) (j+1):=by
  obtain ⟨h1,h2,h3,h4⟩:=h
  have hu:=upd_setCells g cs (C.size * j) w
  have hlen:=C.len hc
  have ht:=there_part h3 hj
  refine ⟨Nat.lt_of_lt_of_le h1 hu.size,h2,World.there_setCells h3 _ _ _,fun i hi hij=>?_⟩
  have hup:∀ {x:α} {c:List Value},C.R w (fun k=>B≤k∧k<w.heap.size∧k≠g) x c→C.R (w.setCells g (C.size * j) cs) (fun k=>B≤k∧k<(w.setCells g (C.size * j) cs).heap.size∧k≠g) x c:=fun h=>C.upd hu (fun k hk h=>hk.2.2 h) (fun k hk=>⟨hk.1,Nat.lt_of_lt_of_le hk.2.1 hu.size,hk.2.2⟩) h
  by_cases he:i=j
  · subst he
    refine ⟨cs,fun k hk=>?_,hup hc⟩
    exact World.cell?_setCells_in g cs (C.size * i) w (fun j hj=>(ht j (by rw[←hlen];exact hj)).1) k hk
  · obtain ⟨c,h5,h6⟩:=h4 i hi (by omega)
    refine ⟨c,fun k hk=>?_,hup h6⟩
    have hl:=C.len h6
    have hm:C.size * i+C.size≤C.size * j:=by rw[←Nat.mul_succ];exact Nat.mul_le_mul_left _ (by omega)
    rw[World.cell?_setCells_out g cs (C.size * j) w ⟨g,C.size * i+k,none⟩ (fun _ _ => .inl (by show C.size * i+k<C.size * j;omega))]
    exact h5 k hk
theorem FrS.done {α:Type} {C:Cel α} {l:List α} {g B:Nat} {w:World} (h:FrS C l g B w l.length):CRels C w (fun k=>B≤k∧k<w.heap.size) l (some ⟨g,0,none⟩):=fun j hj=>by
  obtain ⟨h1,h2,h3,h4⟩:=h
  obtain ⟨cs,h5,h6⟩:=h4 j hj hj
  exact ⟨g,0,cs,rfl,⟨h2,h1⟩,h1,by rw[Nat.zero_add];exact h5,C.upd (Upd.refl (fun _=>False) w) (fun _ _ h=>h) (fun k hk=>⟨hk.1,hk.2.1⟩) h6⟩
def CpPost {α:Type} (C:Cel α) (x:α) (w:World) (e:Ending) (w':World):Prop:=Below w.heap.size w w'∧∃ cs,e = .returned (.agg cs.toArray)∧C.R w' (fun k=>w.heap.size≤k∧k<w'.heap.size) x cs
def CpOne {α:Type} (C:Cel α) (F:Nat) (x:α):Prop:=∀ (cs:List Value) (P:Nat→Prop) (w:World),C.R w P x cs→Calls Tryd.prog F #[.agg cs.toArray] w (CpPost C x w)
def CpsPost {α:Type} (C:Cel α) (l:List α) (w:World) (e:Ending) (w':World):Prop:=Below w.heap.size w w'∧∃ lo cap,e = .returned (.slice lo l.length cap)∧CRels C w' (fun k=>w.heap.size≤k∧k<w'.heap.size) l lo
open Go.RowKit
def xsum (l:List Xp):Nat:=(l.map xp_rw).sum
theorem xsum_take {l:List Xp} {j:Nat} (h:j<l.length):xsum (l.take (j+1))=xsum (l.take j)+xp_rw l[j]:=by
  unfold xsum
  rw[List.take_succ_eq_append_getElem h,List.map_append,List.sum_append]
  simp
theorem xsum_at:∀ {l:List Xp} {x:Xp},x∈l→xp_rw x≤xsum l
  | [],_,h=>by cases h
  | y::l,x,h=>by
    unfold xsum
    rw[List.map_cons,List.sum_cons]
    rcases List.mem_cons.1 h with rfl|h
    · omega
    · have:=xsum_at h;unfold xsum at this;omega
theorem few_any (l:List Xp) (lo:Option Addr) (cap:Nat) (P:Nat→Prop) (w:World) (hl:l.length≤5) (h:Hid (CRels xpCel w P l lo)) (ha:Hid (∀ x∈l,xp_arg x)) :
    Calls Tryd.prog 6 #[.slice lo l.length cap] w fun E w'=>Below w.heap.size w w'∧∃ r,E = .returned (.bool r)∧(r=true→∀ x∈l,xp_rw x≤12000):=by
  go_enter Tryd.func6,Tryd.ntmps6
  go_wp2_with fail
  go_loopg [4,3] l.length (fun k i rm wr=>∃ (j:Nat) (r:Int),i = .int .i64 (j:Int)∧rm = .int .i64 r∧j+k=l.length∧Hid (Below w.heap.size w wr)∧(-1≤r∧r≤700000)∧Hid (RoomOk 12000 (xsum (l.take j)) r))
  case atStart=>exact ⟨0,12000,rfl,rfl,by omega,Lib.hid (Below.refl _ _),by omega,Lib.hid (.inr (by simp[xsum]))⟩
  case round =>
    obtain ⟨j,r,rfl,rfl,hj,HB,hr,HR⟩:=hrel
    have HJ:=Lib.hid hj
    have HRR:=Lib.hid hr
    clear hj hr
    by_cases hlt:j<l.length
    · obtain ⟨g,off,cs,rfl,_,hg,hc,hrl⟩:=(h.out.below HB.out) j hlt
      have HC:=Lib.hid hc
      have HREL:=Lib.hid hrl
      have HL:=Lib.hid (xpCel.len hrl)
      clear hc hrl hg
      go_upto_region 5 with fail
      refine wp_region_lit ?_
      iterate 2 (refine wpList_plain rfl (fun K hK=>?_);go_simp;refine hK _ _ ?_;clear hK K)
      refine wpList_plain rfl (fun K hK=>?_);go_simp;refine hK _ _ ?_;clear hK K
      refine wpList_load_mid rfl 32 (.tmp 13) rfl g (off+j * 24) rfl cs _ (range_cells (by have h:=HC.out;rw[show off+xpCel.size * j=off+j * 24 from by show off+24 * j=_;omega] at h;exact h)) Tryd.underlying32 rfl (by rw[HL.out];kernel_rfl) ?_
      refine wpList_plain rfl (fun K hK=>?_);go_simp;refine hK _ _ ?_;clear hK K
      refine wpList_plain rfl (fun K hK=>?_);go_simp
      refine (xp_room l[j] cs P wr r (ha.out _ (List.getElem_mem hlt)) HREL.out HRR.out).mono ?_
      rintro E w1 ⟨hb,r2,rfl,hr2⟩
      go_simp
      refine hK _ _ ?_;clear hK K
      have HB1:=Lib.hid (below_step HB.out hb)
      have HR2:Hid (RoomOk 12000 (xsum (l.take (j+1))) r2):=Lib.hid (by rw[xsum_take hlt];exact HR.out.then hr2)
      have hrr : -1≤r2∧r2≤700000:=by
        have h:=HR2.out
        unfold RoomOk at h
        omega
      clear hb hr2
      go_wp2_with fail
      have hj:=HJ.out
      go_roundg (gk - 1)
      case measure=>omega
      case rel=>exact ⟨j+1,r2,by simp,rfl,by omega,HB1,hrr,HR2⟩
    · have hje:j=l.length:=by have:=HJ.out;omega
      subst hje
      have HRE:Hid (RoomOk 12000 (xsum l) r):=Lib.hid (by have h:=HR.out;rwa [List.take_length] at h)
      go_wp2_with fail
      go_ret
      refine ⟨HB.out,_,rfl,fun hd x hx=>?_⟩
      have h1:0≤r:=by simpa using hd
      have h2:=HRE.out
      have h3:=xsum_at hx
      unfold RoomOk at h2
      omega
open Go.RowKit
def hsum (l:List Hi):Nat:=(l.map hi_wt).sum
theorem hsum_take {l:List Hi} {j:Nat} (h:j<l.length):hsum (l.take (j+1))=hsum (l.take j)+hi_wt l[j]:=by
  unfold hsum
  rw[List.take_succ_eq_append_getElem h,List.map_append,List.sum_append]
  simp
theorem hsum_at:∀ {l:List Hi} {x:Hi},x∈l→hi_wt x≤hsum l
  | [],_,h=>by cases h
  | y::l,x,h=>by
    unfold hsum
    rw[List.map_cons,List.sum_cons]
    rcases List.mem_cons.1 h with rfl|h
    · omega
    · have:=hsum_at h;unfold hsum at this;omega
theorem fewh_any (l:List Hi) (lo:Option Addr) (cap:Nat) (P:Nat→Prop) (w:World) (hl:l.length≤5) (h:Hid (CRels hiCel w P l lo)) (ha:Hid (∀ x∈l,hi_arg x)) :
    Calls Tryd.prog 12 #[.slice lo l.length cap] w fun E w'=>Below w.heap.size w w'∧∃ r,E = .returned (.bool r)∧(r=true→∀ x∈l,hi_wt x≤12000):=by
  go_enter Tryd.func12,Tryd.ntmps12
  go_wp2_with fail
  go_loopg [4,3] l.length (fun k i rm wr=>∃ (j:Nat) (r:Int),i = .int .i64 (j:Int)∧rm = .int .i64 r∧j+k=l.length∧Hid (Below w.heap.size w wr)∧(-1≤r∧r≤700000)∧Hid (RoomOk 12000 (hsum (l.take j)) r))
  case atStart=>exact ⟨0,12000,rfl,rfl,by omega,Lib.hid (Below.refl _ _),by omega,Lib.hid (.inr (by simp[hsum]))⟩
  case round =>
    obtain ⟨j,r,rfl,rfl,hj,HB,hr,HR⟩:=hrel
    have HJ:=Lib.hid hj
    have HRR:=Lib.hid hr
    clear hj hr
    by_cases hlt:j<l.length
    · obtain ⟨g,off,cs,rfl,_,hg,hc,hrl⟩:=(h.out.below HB.out) j hlt
      have HC:=Lib.hid hc
      have HREL:=Lib.hid hrl
      have HL:=Lib.hid (hiCel.len hrl)
      clear hc hrl hg
      go_upto_region 5 with fail
      refine wp_region_lit ?_
      iterate 2 (refine wpList_plain rfl (fun K hK=>?_);go_simp;refine hK _ _ ?_;clear hK K)
      refine wpList_plain rfl (fun K hK=>?_);go_simp;refine hK _ _ ?_;clear hK K
      refine wpList_load_mid rfl 48 (.tmp 13) rfl g (off+j * 15) rfl cs _ (range_cells (by have h:=HC.out;rw[show off+hiCel.size * j=off+j * 15 from by show off+15 * j=_;omega] at h;exact h)) Tryd.underlying48 rfl (by rw[HL.out];kernel_rfl) ?_
      refine wpList_plain rfl (fun K hK=>?_);go_simp;refine hK _ _ ?_;clear hK K
      refine wpList_plain rfl (fun K hK=>?_);go_simp
      refine (hi_room l[j] cs P wr r (ha.out _ (List.getElem_mem hlt)) HREL.out HRR.out).mono ?_
      rintro E w1 ⟨hb,r2,rfl,hr2⟩
      go_simp
      refine hK _ _ ?_;clear hK K
      have HB1:=Lib.hid (below_step HB.out hb)
      have HR2:Hid (RoomOk 12000 (hsum (l.take (j+1))) r2):=Lib.hid (by rw[hsum_take hlt];exact HR.out.then hr2)
      have hrr : -1≤r2∧r2≤700000:=by
        have h:=HR2.out
        unfold RoomOk at h
        omega
      clear hb hr2
      go_wp2_with fail
      have hj:=HJ.out
      go_roundg (gk - 1)
      case measure=>omega
      case rel=>exact ⟨j+1,r2,by simp,rfl,by omega,HB1,hrr,HR2⟩
    · have hje:j=l.length:=by have:=HJ.out;omega
      subst hje
      have HRE:Hid (RoomOk 12000 (hsum l) r):=Lib.hid (by have h:=HR.out;rwa [List.take_length] at h)
      go_wp2_with fail
      go_ret
      refine ⟨HB.out,_,rfl,fun hd x hx=>?_⟩
      have h1:0≤r:=by simpa using hd
      have h2:=HRE.out
      have h3:=hsum_at hx
      unfold RoomOk at h2
      omega
open Go.RowKit
theorem vone {w:World} {P:Nat→Prop} {x:Val} {c:List Value} (h:vcel.R w P x c):c.toArray.all (·.oneCell')=true:=by
  have h:VRel w P x c:=h
  obtain ⟨_,_,_,_,_,_,_,_,_,_,_,_,rfl⟩:=h.form
  simp[Value.oneCell']
theorem frV_any (l:List Val) (hone:Hid (∀ x∈l,CpOne vcel 74 x)) (lo:Option Addr) (cap:Nat) (P:Nat→Prop) (w:World) (hl:l.length≤1000000) (h:Hid (CRels vcel w P l lo)) :
    Calls Tryd.prog 75 #[.slice lo l.length cap,.func (.func 74) #[] #[]] w (CpsPost vcel l w):=by
  by_cases h0:l.length=0
  · obtain rfl:l=[]:=List.length_eq_zero_iff.1 h0
    have d1:(((([]:List Val).length:Nat):Int) == 0)=true:=rfl
    go_enter Tryd.func75,Tryd.ntmps75
    go_wp2_with fail
    go_ret
    exact ⟨Below.refl _ _,none,0,rfl,CRels.nil _ _ _ _⟩
  · have d1:((l.length:Int) == 0)=false:=by rw[beq_eq_false_iff_ne];omega
    have hpos:0<l.length:=by omega
    clear h0
    obtain ⟨i0,hi,hz0,hz1,hz2⟩:=info_parts Tryd.elVL.2.1
    go_enter Tryd.func75,Tryd.ntmps75
    go_wp2_with (at_make;refine wpList_make_full _ rfl _ _ 127 rfl w.heap.size 129 i0 _ 8 Tryd.underlying127 hi hz0 hz1 _ _ _ _ l.length rfl rfl rfl rfl (by rw[hz2];omega) (by unfold maxLen;omega) (Nat.le_refl _) ?_;intro w1 hown hgrow)
    have hb1:Below w.heap.size w w1:=(Upd.of_grown hgrow).below (Nat.le_refl _) (fun k _ hk=>by cases hk)
    have hs1:FrS vcel l w.heap.size w.heap.size w1 0:=by
      rcases there_own hown with ⟨h1,h2,h3⟩|h
      · exact ⟨h2,Nat.le_refl _,h1,fun i _ h=>absurd h (by omega)⟩
      · omega
    obtain ⟨g,HG⟩:∃ g,Hid (w.heap.size=g):=⟨_,Lib.hid rfl⟩
    rw[HG.out] at hs1 ⊢
    have HB1:=Lib.hid hb1
    have HS1:=Lib.hid hs1
    clear hown hgrow hb1 hs1
    go_loopg [16] l.length (fun k i wr=>∃ j:Nat,i = .int .i64 (j:Int)∧j+k=l.length∧Hid (Below g w wr)∧Hid (FrS vcel l g g wr j))
    case atStart=>exact ⟨0,rfl,by omega,Lib.hid (by rw[←HG.out];exact HB1.out),HS1⟩
    case round =>
      obtain ⟨j,rfl,hj,HB,HS⟩:=hrel
      have HJ:=Lib.hid hj
      clear hj
      by_cases hlt:j<l.length
      · have hblw:Below w.heap.size w wr:=by rw[HG.out];exact HB.out
        obtain ⟨ga,oa,cs,rfl,_,hga,hca,hra⟩:=(h.out.below hblw) j hlt
        have HCA:=Lib.hid hca
        have HRA:=Lib.hid hra
        have HGA:=Lib.hid hga
        have HLEN:=Lib.hid (vcel.len hra)
        have HONE:=Lib.hid (vone hra)
        clear hca hra hga hblw
        go_upto_region 6 with fail
        refine wp_region_lit ?_
        refine wpList_plain rfl (fun K hK=>?_);go_simp;refine hK _ _ ?_;clear hK K
        refine wpList_plain rfl (fun K hK=>?_);go_simp;refine hK _ _ ?_;clear hK K
        refine wpList_load_mid rfl 129 (.tmp 19) rfl ga (oa+j * 8) rfl cs _ (range_cells (by have h:=HCA.out;rw[show oa+vcel.size * j=oa+j * 8 from by show oa+8 * j=_;omega] at h;exact h)) Tryd.underlying129 rfl (by rw[HLEN.out];kernel_rfl) ?_
        refine wpList_plain rfl (fun K hK=>?_);go_simp;refine hK _ _ ?_;clear hK K
        refine wpList_plain rfl (fun K hK=>?_);go_simp;refine hK _ _ ?_;clear hK K
        have HZ:=heap_alloc_new wr (.cells #[.int .i64 0,.string ⟨#[]⟩,.bool false,.int .u64 0,.slice none 0 0,.slice none 0 0,.string ⟨#[]⟩,.string ⟨#[]⟩] 129)
        refine wpList_store_row rfl 129 (.tmp 7) (.tmp 20) rfl wr.heap.size cs.toArray rfl rfl 129 _ HZ (by rw[List.size_toArray,HLEN.out];kernel_rfl) (by show 8=cs.toArray.size;rw[List.size_toArray,HLEN.out];rfl) HONE.out ?_
        obtain ⟨bx,HBX⟩:∃ x,Hid (wr.heap.size=x):=⟨_,Lib.hid rfl⟩
        obtain ⟨w2,hw⟩:∃ X,(wr.alloc (.cells #[.int .i64 0,.string ⟨#[]⟩,.bool false,.int .u64 0,.slice none 0 0,.slice none 0 0,.string ⟨#[]⟩,.string ⟨#[]⟩] 129)).setRow wr.heap.size cs.toArray=X:=⟨_,rfl⟩
        have hr:w2.heap[bx]? = some (.cells cs.toArray 129 (0,0)):=by rw[←hw,←HBX.out];exact setRow_heap _ _ _ _ _ _ HZ
        have hb:Below wr.heap.size wr w2:=by rw[←hw];exact below_setRow (below_new _ _) (Nat.le_refl _) _
        rw[hw,HBX.out]
        have HR2:=Lib.hid hr
        have HB2:=Lib.hid hb
        clear hr hb hw HZ
        have HS2:=Lib.hid (HS.out.below HB2.out)
        have HRA2:=Lib.hid (vcel.upd (Upd.of_new (S:=fun _=>False) HB2.out) (fun _ _ h=>h) (fun _ h=>h) HRA.out)
        go_upto_region 7 with fail
        refine wp_region_lit ?_
        iterate 3 (refine wpList_plain rfl (fun K hK=>?_);go_simp;refine hK _ _ ?_;clear hK K)
        refine wpList_load_mid rfl 129 (.tmp 7) rfl bx 0 rfl cs _ (range_rowf HR2.out) Tryd.underlying129 rfl (by rw[HLEN.out];kernel_rfl) ?_
        refine wpList_plain rfl (fun K hK=>?_);go_simp
        refine ((hone.out l[j] (List.getElem_mem hlt)) cs P w2 HRA2.out).mono ?_
        rintro E w3 ⟨hb3,cs3,rfl,hr3⟩
        go_simp
        refine hK _ _ ?_;clear hK K
        have HB3:=Lib.hid hb3
        have HS3:=Lib.hid (HS2.out.below hb3)
        have HR3:=Lib.hid hr3
        have HL3:=Lib.hid (vcel.len hr3)
        have HONE3:=Lib.hid (vone hr3)
        clear hb3 hr3
        refine wpList_plain rfl (fun K hK=>?_);go_simp;refine hK _ _ ?_;clear hK K
        refine wpList_store_mid rfl 129 (.tmp 26) (.tmp 25) rfl g (j * 8) cs3.toArray rfl rfl (by
          rw[List.size_toArray,HL3.out,show j * 8=vcel.size * j from by show _=8 * j;omega]
          exact there_part HS3.out.2.2.1 hlt) (by rw[List.size_toArray,HL3.out];kernel_rfl) HONE3.out ?_
        have HE3:Hid (Below wr.heap.size wr w3):=Lib.hid (below_step HB2.out HB3.out)
        obtain ⟨w4,HW4⟩:∃ W,Hid (w3.setCells g (j * 8) cs3.toArray.toList=W):=⟨_,Lib.hid rfl⟩
        have HS4:Hid (FrS vcel l g g w4 (j+1)):=Lib.hid (by
          have h:=HS3.out.store hlt (cs:=cs3) (vcel.upd (Upd.refl (fun _=>False) w3) (fun _ _ h=>h) (fun k hk=>⟨by have:=HS2.out.1;omega,hk.2,by have:=HS2.out.1;omega⟩) HR3.out)
          rw[←HW4.out,show j * 8=vcel.size * j from by show _=8 * j;omega]
          simpa using h)
        have HB4:Hid (Below g w w4):=Lib.hid (by
          have h:=HB.out.trans ((Upd.of_new (S:=fun _=>False) HE3.out).below (by have:=HS.out.1;omega) (fun _ _ h=>h.elim))
          have hu:=upd_setCells g cs3.toArray.toList (j * 8) w3
          rw[HW4.out] at hu
          exact h.trans (hu.below (by have:=HS3.out.1;omega) (fun k _ hk=>by have hk:k=g:=hk;omega)))
        rw[HW4.out]
        clear HS3 HS2 HE3 HW4
        go_wp2_with fail
        have hj:=HJ.out
        go_roundg (gk - 1)
        case measure=>omega
        case rel=>exact ⟨j+1,by simp,by omega,HB4,HS4⟩
      · have hje:j=l.length:=by have:=HJ.out;omega
        subst hje
        go_wp2_with fail
        go_ret
        refine ⟨by rw[HG.out];exact HB.out,_,_,rfl,?_⟩
        rw[HG.out]
        exact HS.out.done
end Go.Proofs.YtoggpnfeioaidaaDoor
