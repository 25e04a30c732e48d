/-
  message.Whole of a side of an exponential histogram: any parts; parts as a list of texts.
-/
import Derived.Test.YtmlghmjjlpioeaaGreatDoorValKey
import Derived.Test.YtmlghmjjlpioeaaGreatDoorBukWrite
set_option maxRecDepth 1000000
set_option maxHeartbeats 16000000
namespace Go.Proofs.YtmlghmjjlpioeaaGreatDoor
open Go.RowKit
open Lib (hid)
theorem z82 (ao:Option Addr)(cap:Nat)(num d:Int)(w:World):Calls Tryz.prog 20 #[.agg #[.slice ao 0 cap],.int .i64 num,.int .i64 d,.func (.func 21) #[] #[]] w fun e w'=>e=.returned (.tuple #[bukV ⟨0,[]⟩ (.slice none 0 0) [],.bool false,.nilIface])/\Below w.heap.size w w':=by
 obtain⟨g,hg⟩:=nmd (w.heap.size)
 obtain⟨W0,hW0⟩:=nmd (((w.alloc (.cells #[.slice ao 0 cap] 72)).alloc (.cells #[.int .i32 0,.slice none 0 0,.string ⟨#[]⟩] 29)).alloc (.cells #[.int .i32 0,.slice none 0 0,.string ⟨#[]⟩] 29))
 have HB0:Hid (Below w.heap.size w W0):=hid (by rw[<-hW0];exact zb (zb (zd _ _) (zd _ _)) (zd _ _));have HP:Hid (W0.heap[g]?=some (.cells #[.slice ao 0 cap] 72 (0,0))):=hid (by rw[<-hW0,<-hg];exact(Below.heap_alloc _ _ _ (by simp;omega)).trans ((Below.heap_alloc _ _ _ (by simp)).trans (heap_alloc_new w _)));have HA:Hid (W0.heap[g+1]?=some (.cells #[.int .i32 0,.slice none 0 0,.string ⟨#[]⟩] 29 (0,0))):=hid (by rw[<-hW0,<-hg];exact(Below.heap_alloc _ _ _ (by simp)).trans (Yb _ _ _))
 have HC:Hid (W0.heap[g+2]?=some (.cells #[.int .i32 0,.slice none 0 0,.string ⟨#[]⟩] 29 (0,0))):=hid (by
  rw[<-hW0,<-hg];have:=heap_alloc_new ((w.alloc (.cells #[.slice ao 0 cap] 72)).alloc (.cells #[.int .i32 0,.slice none 0 0,.string ⟨#[]⟩] 29)) (.cells #[.int .i32 0,.slice none 0 0,.string ⟨#[]⟩] 29)
  rwa [show((w.alloc (.cells #[.slice ao 0 cap] 72)).alloc (.cells #[.int .i32 0,.slice none 0 0,.string ⟨#[]⟩] 29)).heap.size=w.heap.size+2 by simp]at this)
 have HW0:=hid hW0;have HG:=hid hg;clear hW0;go_enter Tryz.func20,Tryz.ntmps20;go_wp2_with fail;rw[HW0.out];refine(Y3 (cs:=#[.slice ao 0 cap]) (T:=72) g 0 ao 0 cap W0 HP rfl).mono ?_;rintro e w' ⟨rfl,rfl⟩;have hc0:=rc0 HC.out;have hc1:=rc1 HC.out;have hc2:=rc2 HC.out;have ha0:=rc0 HA.out;have ha1:=rc1 HA.out;have ha2:=rc2 HA.out;have hf0:=z7 HA.out 0;have hf1:=z7 HA.out 1;have hf2:=z7 HA.out 2;have d0:decide ((0:Nat)<0)=false:=rfl;go_wp2_with fail;have hu3:=km W0 (g+1) (.int .i32 0) (.slice none 0 0) (.string ⟨#[]⟩);refine zv rfl rfl (jj (j2 HA.out _ _ _) rfl) rfl ?_;exact⟨rfl,HB0.out.trans (hu3.below (by have:=HB0.out.size;omega) (fun k _ h=>by have:=HG.out;omega))⟩
theorem zd0 (num d:Int)(v:Value)(ps:List (List UInt8))(B:Nat)(x:Bk)(u:List UInt8)(w:World)(hown:Hid (w.ownsRow B 9 1 v ps.length (ps.map strV)))(h0:0<ps.length)(hl:ps.length<=1000000)(hf:ps.flatten.length<=1000000)(hbr:Hid (yx ps.flatten d=.ok (x,u))) :
  Calls Tryz.prog 20 #[.agg #[v],.int .i64 num,.int .i64 d,.func (.func 21) #[] #[]] w fun e w'=>∃vs,e=.returned (.tuple #[bukV x vs u,.bool true,.nilIface])/\Below w.heap.size w w'/\w'.ownsRow w.heap.size 24 1 vs x.cs.length (y9 x.cs):=by
 obtain⟨ao,cap,rfl⟩:=zh hown.out;obtain⟨g,hg⟩:=nmd (w.heap.size)
 obtain⟨W0,hW0⟩:=nmd (((w.alloc (.cells #[.slice ao ps.length cap] 72)).alloc (.cells #[.int .i32 0,.slice none 0 0,.string ⟨#[]⟩] 29)).alloc (.cells #[.int .i32 0,.slice none 0 0,.string ⟨#[]⟩] 29))
 have HB0:Hid (Below w.heap.size w W0):=hid (by rw[<-hW0];exact zb (zb (zd _ _) (zd _ _)) (zd _ _));have HP:Hid (W0.heap[g]?=some (.cells #[.slice ao ps.length cap] 72 (0,0))):=hid (by rw[<-hW0,<-hg];exact(Below.heap_alloc _ _ _ (by simp;omega)).trans ((Below.heap_alloc _ _ _ (by simp)).trans (heap_alloc_new w _)));have HA:Hid (W0.heap[g+1]?=some (.cells #[.int .i32 0,.slice none 0 0,.string ⟨#[]⟩] 29 (0,0))):=hid (by rw[<-hW0,<-hg];exact(Below.heap_alloc _ _ _ (by simp)).trans (Yb _ _ _));have HO0:Hid (W0.ownsRow B 9 1 (.slice ao ps.length cap) ps.length (ps.map strV)):=hid (y6 hown.out HB0.out);have HW0:=hid hW0;have HG:=hid hg;clear hW0;have d0:decide (0<ps.length)=true:=decide_eq_true h0;go_enter Tryz.func20,Tryz.ntmps20;go_wp2_with fail;rw[HW0.out];refine(Y3 (cs:=#[.slice ao ps.length cap]) (T:=72) g 0 ao ps.length cap W0 HP rfl).mono ?_;rintro e w' ⟨rfl,rfl⟩;rw[d0];go_wp2_with fail;refine(Zj (cs:=#[.slice ao ps.length cap]) (T:=72) g 0 _ ps B W0 HP rfl HO0 (by omega) (by omega)).mono ?_;rintro e w1 ⟨rfl,hb1⟩;have HB1:=hid (HB0.out.trans (hb1.mono HB0.out.size));have HA1:Hid (w1.heap[g+1]?=some (.cells #[.int .i32 0,.slice none 0 0,.string ⟨#[]⟩] 29 (0,0))):=hid ((hb1.block _ (z8 HA.out)).trans HA.out);obtain⟨X,hX⟩:∃X:ByteArray,(⟨ps.flatten.toArray⟩:ByteArray)=X:=⟨_,rfl⟩
 have hXs:X.size=ps.flatten.length:=by rw[<-hX];simp[ByteArray.size]
 have HXD:Hid (X.data.toList=ps.flatten):=hid (by rw[<-hX]);rw[hX];clear hb1 hX;go_wp2_with fail;refine(z5w X d w1 (by omega)).mono ?_;intro e w2 hpost;obtain⟨hb2,hcase⟩:=hpost;rw[HXD.out,hbr.out]at hcase;obtain⟨vs,rfl,hown2⟩:=hcase;obtain⟨vo,vc,rfl⟩:=zh hown2;have HB2:=hid (HB1.out.trans (hb2.mono HB1.out.size));have HA2:Hid (w2.heap[g+1]?=some (.cells #[.int .i32 0,.slice none 0 0,.string ⟨#[]⟩] 29 (0,0))):=hid ((hb2.block _ (z8 HA1.out)).trans HA1.out);have HO2:=hid (Xm hown2 HB1.out.size);have hs12:=HB1.out.size;have ha1w:=z8 HA1.out;have HLO:Hid (∀k,(Value.slice vo x.cs.length vc).ownBlock=some k->g+1<k/\k<w2.heap.size):=hid (fun k hk=>by have:=hown2.lt k hk;omega);clear hb2 hown2;unfold bukV;obtain⟨W3,hW3⟩:=nmd (w2.alloc (.cells #[.int .i32 x.off,.slice vo x.cs.length vc,.string ⟨u.toArray⟩] 29))
 have HB3:Hid (Below w2.heap.size w2 W3):=hid (by rw[<-hW3];exact zd _ _);have HX3:Hid (W3.heap[w2.heap.size]?=some (.cells #[.int .i32 x.off,.slice vo x.cs.length vc,.string ⟨u.toArray⟩] 29 (0,0))):=hid (by rw[<-hW3];exact heap_alloc_new w2 _);have HA3:Hid (W3.heap[g+1]?=some (.cells #[.int .i32 0,.slice none 0 0,.string ⟨#[]⟩] 29 (0,0))):=hid ((HB3.out.block _ (z8 HA2.out)).trans HA2.out);have HW3:=hid hW3;have hf0:=z7 HA2.out 0;have hf1:=z7 HA2.out 1;have hf2:=z7 HA2.out 2;have hc0:=rc0 HA2.out;have hc1:=rc1 HA2.out;have hc2:=rc2 HA2.out;have hgw:g+1<w2.heap.size:=z8 HA2.out;have hfz0:(w2.alloc (.cells #[.int .i32 x.off,.slice vo x.cs.length vc,.string ⟨u.toArray⟩] 29)).frozen? ⟨g+1,0,none⟩=false:=by rw[hW3];exact z7 HA3.out 0
 have hfz1:(w2.alloc (.cells #[.int .i32 x.off,.slice vo x.cs.length vc,.string ⟨u.toArray⟩] 29)).frozen? ⟨g+1,1,none⟩=false:=by rw[hW3];exact z7 HA3.out 1
 have hfz2:(w2.alloc (.cells #[.int .i32 x.off,.slice vo x.cs.length vc,.string ⟨u.toArray⟩] 29)).frozen? ⟨g+1,2,none⟩=false:=by rw[hW3];exact z7 HA3.out 2
 clear hW3;go_wp2_with fail;have hu3:=km w2 (g+1) (.int .i32 x.off) (.slice vo x.cs.length vc) (.string ⟨u.toArray⟩);have h3:=j2 HA2.out (.int .i32 x.off) (.slice vo x.cs.length vc) (.string ⟨u.toArray⟩);refine zv rfl rfl (jj ((Below.heap_alloc _ _ _ (z8 h3)).trans h3) rfl) rfl ?_;have hu4:=hu3.trans (Upd.alloc _ _ (.cells #[.int .i32 x.off,.slice vo x.cs.length vc,.string ⟨u.toArray⟩] 29));refine⟨_,rfl,HB2.out.trans (hu4.below (by have:=HB2.out.size;omega) (fun k _ h=>by have:=HG.out;omega)),?_⟩;exact hu4.own HO2.out (fun k hk h=>by have:=(HLO.out k hk).1;omega)
theorem zcj (num d:Int)(v:Value)(ps:List (List UInt8))(B c:Nat)(w:World)(hown:Hid (w.ownsRow B 9 1 v ps.length (ps.map strV)))(h0:0<ps.length)(hl:ps.length<=1000000)(hf:ps.flatten.length<=1000000)(hbr:Hid (yx ps.flatten d=.error c)) :
  Calls Tryz.prog 20 #[.agg #[v],.int .i64 num,.int .i64 d,.func (.func 21) #[] #[]] w fun e w'=>∃y,e=.returned (.tuple #[bukV ⟨0,[]⟩ (.slice none 0 0) [],.bool false,y])/\Below w.heap.size w w'/\EW w' y 0 c:=by
 obtain⟨ao,cap,rfl⟩:=zh hown.out;obtain⟨g,hg⟩:=nmd (w.heap.size)
 obtain⟨W0,hW0⟩:=nmd (((w.alloc (.cells #[.slice ao ps.length cap] 72)).alloc (.cells #[.int .i32 0,.slice none 0 0,.string ⟨#[]⟩] 29)).alloc (.cells #[.int .i32 0,.slice none 0 0,.string ⟨#[]⟩] 29))
 have HB0:Hid (Below w.heap.size w W0):=hid (by rw[<-hW0];exact zb (zb (zd _ _) (zd _ _)) (zd _ _));have hthree:W0.heap[g]?=some (.cells #[.slice ao ps.length cap] 72 (0,0))/\W0.heap[g+1]?=some (.cells #[.int .i32 0,.slice none 0 0,.string ⟨#[]⟩] 29 (0,0))/\W0.heap[g+2]?=some (.cells #[.int .i32 0,.slice none 0 0,.string ⟨#[]⟩] 29 (0,0)):=by rw[<-hW0];exact Zw hg _ _ _
 have HP:=hid hthree.1;have HA:=hid hthree.2.1;have HC:=hid hthree.2.2;have HO0:Hid (W0.ownsRow B 9 1 (.slice ao ps.length cap) ps.length (ps.map strV)):=hid (y6 hown.out HB0.out);have HW0:=hid hW0;have HG:=hid hg;clear hW0 hthree;have d0:decide (0<ps.length)=true:=decide_eq_true h0;go_enter Tryz.func20,Tryz.ntmps20;go_wp2_with fail;rw[HW0.out];refine(Y3 (cs:=#[.slice ao ps.length cap]) (T:=72) g 0 ao ps.length cap W0 HP rfl).mono ?_;rintro e w' ⟨rfl,rfl⟩;rw[d0];go_wp2_with fail;refine(Zj (cs:=#[.slice ao ps.length cap]) (T:=72) g 0 _ ps B W0 HP rfl HO0 (by omega) (by omega)).mono ?_;rintro e w1 ⟨rfl,hb1⟩;have HB1:=hid (HB0.out.trans (hb1.mono HB0.out.size));have HA1:Hid (w1.heap[g+1]?=some (.cells #[.int .i32 0,.slice none 0 0,.string ⟨#[]⟩] 29 (0,0))):=hid ((hb1.block _ (z8 HA.out)).trans HA.out);have HC1:Hid (w1.heap[g+2]?=some (.cells #[.int .i32 0,.slice none 0 0,.string ⟨#[]⟩] 29 (0,0))):=hid ((hb1.block _ (z8 HC.out)).trans HC.out);obtain⟨X,hX⟩:∃X:ByteArray,(⟨ps.flatten.toArray⟩:ByteArray)=X:=⟨_,rfl⟩
 have hXs:X.size=ps.flatten.length:=by rw[<-hX];simp[ByteArray.size]
 have HXD:Hid (X.data.toList=ps.flatten):=hid (by rw[<-hX]);rw[hX];clear hb1 hX;go_wp2_with fail;refine(z5w X d w1 (by omega)).mono ?_;intro e w2 hpost;obtain⟨hb2,hcase⟩:=hpost;rw[HXD.out,hbr.out]at hcase;obtain⟨v',q,rfl,hq,hew⟩:=hcase;have HB2:=hid (HB1.out.trans (hb2.mono HB1.out.size));have HA2:Hid (w2.heap[g+1]?=some (.cells #[.int .i32 0,.slice none 0 0,.string ⟨#[]⟩] 29 (0,0))):=hid ((hb2.block _ (z8 HA1.out)).trans HA1.out);have HC2:Hid (w2.heap[g+2]?=some (.cells #[.int .i32 0,.slice none 0 0,.string ⟨#[]⟩] 29 (0,0))):=hid ((hb2.block _ (z8 HC1.out)).trans HC1.out);obtain⟨T',y,rfl⟩:=hew.iface;have HEC:=hid hew.ec;clear hew hq hb2;unfold bukV;go_wp2_with fail;obtain⟨W3,hW3⟩:∃W,w2.alloc (.cells #[.int .i32 0,.slice none 0 0,.string ⟨#[]⟩] 29)=W:=⟨_,rfl⟩
 have HB3:Hid (Below w2.heap.size w2 W3):=hid (by rw[<-hW3];exact zd _ _);rw[hW3];clear hW3;obtain⟨D,hD⟩:=nmd (W3.drew)
 have HBD:Hid (Below w2.heap.size w2 D):=hid (by rw[<-hD];exact HB3.out.drew);have HCD:Hid (D.heap[g+2]?=some (.cells #[.int .i32 0,.slice none 0 0,.string ⟨#[]⟩] 29 (0,0))):=hid ((HBD.out.block _ (z8 HC2.out)).trans HC2.out);have HAD:Hid (D.heap[g+1]?=some (.cells #[.int .i32 0,.slice none 0 0,.string ⟨#[]⟩] 29 (0,0))):=hid ((HBD.out.block _ (z8 HA2.out)).trans HA2.out);have hne:Nonempty {w':World // w'.heap[g+2]?=some (.cells #[.int .i32 0,.slice none 0 0,.string ⟨#[]⟩] 29 (0,0))}:=⟨⟨_,HCD.out⟩⟩
 refine zj (S:=fun w'=>w'.heap[g+2]?=some (.cells #[.int .i32 0,.slice none 0 0,.string ⟨#[]⟩] 29 (0,0))) [(0,true),(1,true),(2,true),(3,false),(4,false),(5,false),(6,true),(7,true)] (by kernel_rfl) (by kernel_rfl) (by kernel_rfl) (by kernel_rfl) (by rw[hD];exact HCD.out) ?_;rw[hD];clear hD
 iterate 1 (refine zf _ rfl (fun K hK=>?_);go_simp;(refine⟨.agg #[.int .i32 0,.slice none 0 0,.string ⟨#[]⟩],fun a ha=>by(have e0:=rc0 ha);(have e1:=rc1 ha);(have e2:=rc2 ha);simp only[e0,e1,e2,Result.andThen],hK _ ?_⟩);clear hK K)
 iterate 2 (refine zf _ rfl (fun K hK=>?_);go_simp;(first|refine hK _ ?_|refine⟨_,fun _ _=>rfl,hK _ ?_⟩);clear hK K)
 refine zo _ rfl (fun K hK=>?_);go_simp;refine(Zs _ _ _ _).mono ?_;rintro e w' ⟨rfl,rfl⟩;have HEC4:=hid (kt (n:=num) (HEC.out.below HBD.out));obtain⟨W4,hW4⟩:∃W,D.alloc (.cells #[.int .i64 num,.iface T' y] 141)=W:=⟨_,rfl⟩
 obtain⟨v4,hv4⟩:∃v,(Value.pointer (some ⟨D.heap.size,0,none⟩))=v:=⟨_,rfl⟩
 have HB4:Hid (Below D.heap.size D W4):=hid (by rw[<-hW4];exact zd _ _);rw[hW4,hv4]at HEC4;rw[hW4,hv4];clear hW4 hv4;have HC4:Hid (W4.heap[g+2]?=some (.cells #[.int .i32 0,.slice none 0 0,.string ⟨#[]⟩] 29 (0,0))):=hid ((HB4.out.block _ (z8 HCD.out)).trans HCD.out);have HA4:Hid (W4.heap[g+1]?=some (.cells #[.int .i32 0,.slice none 0 0,.string ⟨#[]⟩] 29 (0,0))):=hid ((HB4.out.block _ (z8 HAD.out)).trans HAD.out);go_simp;refine hK.out _ _ HC4.out ?_;clear hK K;refine zo _ rfl (fun K hK=>?_);go_simp;refine(qe _ _ _ _).mono ?_;rintro e w' ⟨rfl,rfl⟩;have HEW5:=hid (z7f (q:=0) HEC4.out);obtain⟨W5,hW5⟩:∃W,W4.alloc (.cells #[.int .i64 0,.iface 139 v4] 166)=W:=⟨_,rfl⟩
 have HEW6:Hid (EW W5 (.iface 162 (.pointer (some ⟨W4.heap.size,0,none⟩))) 0 c):=hid (by rw[<-hW5];exact HEW5.out);have HB5:Hid (Below W4.heap.size W4 W5):=hid (by rw[<-hW5];exact zd _ _);obtain⟨v5,hv5⟩:∃v,(Value.pointer (some ⟨W4.heap.size,0,none⟩))=v:=⟨_,rfl⟩
 rw[hv5]at HEW6;rw[hW5,hv5];clear hW5 hv5 HEW5;have HC5:Hid (W5.heap[g+2]?=some (.cells #[.int .i32 0,.slice none 0 0,.string ⟨#[]⟩] 29 (0,0))):=hid ((HB5.out.block _ (z8 HC4.out)).trans HC4.out);have HA5:Hid (W5.heap[g+1]?=some (.cells #[.int .i32 0,.slice none 0 0,.string ⟨#[]⟩] 29 (0,0))):=hid ((HB5.out.block _ (z8 HA4.out)).trans HA4.out);have HBW5:Hid (Below w.heap.size w W5):=hid (zb (zb (zb HB2.out HBD.out) HB4.out) HB5.out);go_simp;refine hK.out _ _ HC5.out ?_;clear hK K;have ha0:=rc0 HA5.out;have fa0:=z7 HA5.out 0;have ha1:=rc1 HA5.out;have fa1:=z7 HA5.out 1;have ha2:=rc2 HA5.out;have fa2:=z7 HA5.out 2;refine zo _ rfl (fun K hK=>?_);go_simp;have hua:=km W5 (g+1) (.int .i32 0) (.slice none 0 0) (.string ⟨#[]⟩);have hrow:=j2 HA5.out (.int .i32 0) (.slice none 0 0) (.string ⟨#[]⟩);have HC6:=hid ((hua.block (g+2) (z8 HC5.out) (fun e=>by have e:g+2=g+1:=e;omega)).trans HC5.out);refine hK.out _ _ HC6.out ?_;clear hK K
 iterate 2 (refine zf _ rfl (fun K hK=>?_);go_simp;(first|refine hK _ ?_|refine⟨_,fun _ _=>rfl,hK _ ?_⟩);clear hK K)
 refine zw ?_;clear ha0 fa0 ha1 fa1 ha2 fa2;go_wp2_with fail;refine zv rfl rfl (jj hrow rfl) rfl ?_;refine⟨_,rfl,HBW5.out.trans (hua.below (by have:=HBW5.out.size;omega) (fun k _ h=>by have h:k=g+1:=h;have:=HG.out;omega)),?_⟩;obtain⟨ws,he⟩:=HEW6.out;exact⟨ws,x8 hua (fun k hk b m e h=>by have hk:k=g+1:=hk;subst hk;rw[HA5.out]at h;simp at h) he⟩
def BWh (ps:List (List UInt8))(d:Int)(w:World)(e:Ending)(w':World):Prop:=Below w.heap.size w w'/\match (if ps=[]then Except.ok (false,((⟨0,[]⟩:Bk),([]:List UInt8)))else match yx ps.flatten d with
  | .error c => .error c
  | .ok x => .ok (true,x))with
 | .error c=>∃y,e=.returned (.tuple #[bukV ⟨0,[]⟩ (.slice none 0 0) [],.bool false,y])/\EW w' y 0 c
 | .ok (b,x,u)=>∃vs,e=.returned (.tuple #[bukV x vs u,.bool b,.nilIface])/\w'.ownsRow w.heap.size 24 1 vs x.cs.length (y9 x.cs)
theorem z3b (num d:Int)(v:Value)(ps:List (List UInt8))(B:Nat)(w:World)(hown:Hid (w.ownsRow B 9 1 v ps.length (ps.map strV)))(hl:ps.length<=1000000)(hf:ps.flatten.length<=1000000) :
  Calls Tryz.prog 20 #[.agg #[v],.int .i64 num,.int .i64 d,.func (.func 21) #[] #[]] w (BWh ps d w):=by
 by_cases h0:ps=[]
 ·subst h0
  have h1:=hown.out;obtain⟨ao,cap,rfl⟩:=zh h1;refine(z82 ao cap num d w).mono ?_;rintro e w' ⟨rfl,hb⟩;exact⟨hb,_,rfl,World.ownsRow_nil _ _ _ _⟩
 ·have hp:0<ps.length:=List.length_pos_iff.2 h0
  cases hbr:yx ps.flatten d with
  | error c =>
   refine(zcj num d v ps B c w hown hp hl hf (hid hbr)).mono ?_;rintro e w' ⟨y,rfl,hb,he⟩;refine⟨hb,?_⟩;rw[if_neg h0,hbr];exact⟨y,rfl,he⟩
  | ok p =>
   obtain⟨x,u⟩:=p;refine(zd0 num d v ps B x u w hown hp hl hf (hid hbr)).mono ?_;rintro e w' ⟨vs,rfl,hb,ho⟩;refine⟨hb,?_⟩;rw[if_neg h0,hbr];exact⟨vs,rfl,ho⟩
def Zu:Cel (List UInt8) where
 R _ _ t cs:=cs=[strV t]
 size:=1
 len:=by intro w P n cs h;rw[h];rfl
 upd:=by intro w w' S P Q n cs hu hs hq h;exact h
 lt:=fun h=>h
theorem z0r:∀xs:List (List UInt8),(xs.map fun t=>[strV t]).flatten=xs.map strV
 | []=>rfl
 | x::xs=>by
  rw[List.map_cons,List.flatten_cons,z0r xs]
  rfl
theorem z41 {base:Nat}{v:Value}{xs:List (List UInt8)}{P:Nat->Prop}{w:World}(h:LsAt Zu 9 base v xs P w):w.ownsRow base 9 1 v xs.length (xs.map strV)/\∀k,v.ownBlock=some k->P k:=by
 obtain⟨css,Q,h1,h2,h3,_,rfl⟩:=h
 have e:css=xs.map fun t=>[strV t]:=by
  refine List.ext_getElem (by rw[h2,List.length_map]) fun j a b=>?_
  rw[List.getElem_map];exact h3 j (by omega) a
 have e2:css.flatten=xs.map strV:=by
  rw[e];exact z0r xs
 rw[e2]at h1;exact⟨h1,fun k hk => .inl hk⟩
theorem strs_ls {base:Nat}{v:Value}{xs:List (List UInt8)}{w:World}(h:w.ownsRow base 9 1 v xs.length (xs.map strV)):LsAt Zu 9 base v xs (fun k=>v.ownBlock=some k∨False) w:=by
 refine⟨xs.map fun t=>[strV t],fun _=>False,?_,by rw[List.length_map],fun j a b=>?_,fun _ h=>h.elim,rfl⟩
 ·rw[z0r];exact h
 ·show _=_
  rw[List.getElem_map]
theorem z3y {cs:Array Value}{T:TypeId}(b o:Nat)(v:Value)(ps:List (List UInt8))(B:Nat)(P:Nat->Prop)(t:List UInt8)(w:World)(hrow:Hid (w.heap[b]?=some (.cells cs T (0,0))))(hcs:cs[o]?=some v)(h:Hid (LsAt Zu 9 B v ps P w))(hbB:b<B)(hB:B<=w.heap.size)(hl:ps.length<=1000000) :
  Calls Tryz.prog 59 #[.pointer (some ⟨b,o,none⟩),strV t] w fun e w'=>e=.returned (.tuple #[])/\Yw Zu 9 T b o B cs ps P (.ok t) w (.returned .nilIface) w':=by
 obtain⟨h1,h2⟩:=z41 h.out;refine(Qn b o v ps B t w hrow hcs (hid h1) hbB hB hl).mono ?_;rintro e w' ⟨rfl,hu,v',g1,g2,g3⟩
 exact ⟨rfl,hu.mono fun k _ h=>h.imp id (h2 k),rfl,v',_,g1,strs_ls g2,fun k hk=>by
  rcases hk with hk|hk
  ·exact(g3 k hk).imp (h2 k) id
  ·exact hk.elim⟩
end Go.Proofs.YtmlghmjjlpioeaaGreatDoor
