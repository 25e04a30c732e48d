/-
  exph.Unmarshal of one side that is empty.
-/
import Derived.Test.YtmlghmjjlpioeaaGreatDoorValTake
import Derived.Test.YtmlghmjjlpioeaaGreatDoorBukWrite
import Derived.Deep.Cut
import Derived.Deep.MidRow
import Derived.Laws.Tables
import Derived.Laws.CopyOwn
import Derived.Deep.WholeRow
set_option maxRecDepth 1000000
set_option maxHeartbeats 16000000
namespace Go.Proofs.YtmlghmjjlpioeaaGreatDoor
open Go.RowKit
open Lib (hid)
def rec8:Rec:=⟨8,2,0,[],[66,0]⟩
theorem wall8:wall (⟨#[66,0]⟩:ByteArray).data.toList 1=.ok [rec8]:=by rfl
def ju (v:Value):Array Value:=#[.slice none 0 0,.int .u64 0,.int .u64 0,.int .u64 0,.bool false,.int .u64 0,.bool false,.int .u64 0,.bool false,.int .u64 0,.int .i32 0,.int .u64 0,.bool false,.int .i32 0,.slice none 0 0,.string ⟨#[]⟩,.bool false,.int .i32 0,.slice none 0 0,.string ⟨#[]⟩,.slice none 0 0,.int .u32 0,.int .u64 0,.string ⟨#[]⟩,v,.slice none 0 0]
def ExpS (b bd n:Nat)(P:Nat->Prop)(w:World):Prop:=b≠bd/\w.heap[bd]?=some (.cells #[.int .i64 1] 3 (0,0))/\∃v,w.heap[b]?=some (.cells (ju v) 74 (0,0))/\w.ownsRow (b+1) 9 1 v n ((List.replicate n []).map strV)/\P=fun k=>k=b∨k=bd∨v.ownBlock=some k
def Qm (b bd:Nat):j5 Nat where
 rel:=ExpS b bd
 lt:=by
  rintro n P w ⟨_,h0,v,h1,h2,rfl⟩ k (rfl|rfl|hk)
  ·exact z8 h1
  ·exact z8 h0
  ·exact(h2.lt k hk).2
 kept:=by
  rintro n P w w' ⟨hb,h0,v,h1,h2,rfl⟩ hu;exact⟨hb,(hu.block bd (z8 h0) (fun h=>h (.inr (.inl rfl)))).trans h0,v,(hu.block b (z8 h1) (fun h=>h (.inl rfl))).trans h1,hu.own h2 (fun k hk h=>h (.inr (.inr hk))),rfl⟩
def z3x (n:Nat)(_:Rec):Except Nat Nat := .ok (n+1)
theorem zd6 (b:Nat)(v:Value)(n:Nat)(d:Int)(w:World)(hrow:Hid (w.heap[b]?=some (.cells (ju v) 74 (0,0))))(hown:Hid (w.ownsRow (b+1) 9 1 v n ((List.replicate n []).map strV)))(hB:b+1<=w.heap.size)(hl:n<=1000000) :
  Calls Tryz.prog 19 #[.pointer (some ⟨b,0,none⟩),recV rec8,.int .i64 d] w fun e w'=>e=.returned .nilIface/\Upd (fun k=>k=b∨v.ownBlock=some k) w w'/\∃v',w'.heap[b]?=some (.cells (ju v') 74 (0,0))/\w'.ownsRow (b+1) 9 1 v' (n+1) ((List.replicate (n+1) []).map strV)/\∀k,v'.ownBlock=some k->v.ownBlock=some k∨w.heap.size<=k:=by
 have HU0:Hid (Upd (fun _=>False) w (w.alloc (.cells #[.int .i64 8,.int .i64 2,.int .u64 0,.string ⟨#[]⟩,.string ⟨#[66,0]⟩] 78))):=hid (Upd.alloc _ _ _);unfold recV rec8;go_enter Tryz.func19,Tryz.ntmps19;go_wp2_with fail;obtain⟨W0,hW0⟩:=nmd (w.alloc (.cells #[.int .i64 8,.int .i64 2,.int .u64 0,.string ⟨#[]⟩,.string ⟨#[66,0]⟩] 78))
 have HU0:Hid (Upd (fun _=>False) w W0):=hid (by rw[<-hW0];exact Upd.alloc _ _ _);have HX0:Hid (W0.heap[w.heap.size]?=some (.cells #[.int .i64 8,.int .i64 2,.int .u64 0,.string ⟨#[]⟩,.string ⟨#[66,0]⟩] 78 (0,0))):=hid (by rw[<-hW0];exact heap_alloc_new w _);have HR0:Hid (W0.heap[b]?=some (.cells (ju v) 74 (0,0))):=hid ((HU0.out.block b (z8 hrow.out) (fun h=>h)).trans hrow.out);have HO0:Hid (W0.ownsRow (b+1) 9 1 v (List.replicate n ([]:List UInt8)).length ((List.replicate n ([]:List UInt8)).map strV)):=hid (by rw[List.length_replicate];exact HU0.out.own hown.out (fun _ _ h=>h));have hs0:=HU0.out.size;rw[hW0];clear hW0;have hS:W0.drew.cell? ⟨w.heap.size,3,none⟩=some (.string ⟨#[]⟩):=za HX0.out (j:=3) rfl;have hne:Nonempty { w':World // w'.cell? ⟨w.heap.size,3,none⟩=some (.string ⟨#[]⟩) }:=⟨⟨_,hS⟩⟩
 have hx:∀t:{ w':World // w'.cell? ⟨w.heap.size,3,none⟩=some (.string ⟨#[]⟩) },t.1.cell? ⟨w.heap.size,3,none⟩=some (.string ⟨#[]⟩):=fun t=>t.2
 refine Zl (fun w'=>w'.cell? ⟨w.heap.size,3,none⟩=some (.string ⟨#[]⟩)) [] [(0,true),(1,true),(2,true),(3,true),(4,true),(5,false)] (by kernel_rfl) (by kernel_rfl) (by kernel_rfl) (by kernel_rfl) ?_
 iterate 5 (refine X7 _ rfl hS (fun K hK=>?_);go_simp;refine hK _ ?_;clear hK K)
 refine Yc _ rfl (fun K hK=>?_);go_simp;refine(Qn (cs:=ju v) (T:=74) b 24 v (List.replicate n []) (b+1) [] W0.drew HR0 rfl HO0 (by omega) (by show b+1<=W0.heap.size;omega) (by simp;omega)).mono ?_;rintro e w1 ⟨rfl,hu,v',h1,h2,h3⟩
 have hS1:w1.cell? ⟨w.heap.size,3,none⟩=some (.string ⟨#[]⟩):=(hu.cell (a:=⟨w.heap.size,3,none⟩) (z8 HX0.out) (fun h=>by
  have hb9:=z8 hrow.out
  rcases h with h|h
  ·have h:w.heap.size=b:=h;omega
  ·have:=(hown.out.lt _ h).2;have h7:w.heap.size<w.heap.size:=this;omega)).trans hS
 go_simp;refine hK.out _ _ (fun _=>hS1) ?_;clear hK K;refine Qv ?_;have HU:Hid (Upd (fun k=>k=b∨v.ownBlock=some k) w w1):=hid (((HU0.out.mono fun _ _ h=>h.elim).trans (Upd.drew _ _)).trans hu);have H1:Hid (w1.heap[b]?=some (.cells (ju v') 74 (0,0))):=hid h1
 have H2:Hid (w1.ownsRow (b+1) 9 1 v' (n+1) ((List.replicate (n+1) []).map strV)):=hid (by
  have e:List.replicate (n+1) ([]:List UInt8)=List.replicate n []++[[]]:=List.replicate_succ';rw[e,<-show(List.replicate n ([]:List UInt8)++[[]]).length=n+1 by simp];exact h2)
 have H3:=hid h3;clear hx hne hS hu h1 h2 h3;go_wp2_with fail;go_ret
 exact ⟨rfl,HU.out,v',H1.out,H2.out,fun k hk=>by
  rcases H3.out k hk with h|h
  ·exact .inl h
  ·exact .inr (Nat.le_trans hs0 h)⟩
def EloS (rb bd:Nat)(w':World):Prop:=w'.heap[rb]?=some (.cells #[.int .i64 8,.int .i64 2,.int .u64 0,.string ⟨#[]⟩,.string ⟨#[66,0]⟩] 78 (0,0))/\w'.heap[bd]?=some (.cells #[.int .i64 1] 3 (0,0))
theorem zeb (b bd n:Nat)(P:Nat->Prop)(w:World)(h:Hid (ExpS b bd n P w))(hl:n<=1000000) :
  Calls Tryz.prog 17 #[recV rec8,.pointer (some ⟨b,0,none⟩),.pointer (some ⟨bd,0,none⟩)] w (xx (Qm b bd) z3x n P rec8 w):=by
 obtain⟨hne,h0,v,h1,h2,rfl⟩:=h.out;have hbw:=z8 h1;have hdw:=z8 h0;have H0:=hid h0;have H1:=hid h1;have H2:=hid h2;have HV:Hid (Value.agg #[.int .i64 ((8:Nat):Int),.int .i64 ((2:Nat):Int),.int .u64 ((0:Nat):Int),.string ⟨#[]⟩,.string ⟨#[66,0]⟩]=recV rec8):=hid rfl;clear h0 h1 h2;unfold recV rec8;obtain⟨W0,hW0⟩:=nmd (w.alloc (.cells #[.int .i64 8,.int .i64 2,.int .u64 0,.string ⟨#[]⟩,.string ⟨#[66,0]⟩] 78))
 have HU0:Hid (Upd (fun _=>False) w W0):=hid (by rw[<-hW0];exact Upd.alloc _ _ _);have HX0:Hid (W0.heap[w.heap.size]?=some (.cells #[.int .i64 8,.int .i64 2,.int .u64 0,.string ⟨#[]⟩,.string ⟨#[66,0]⟩] 78 (0,0))):=hid (by rw[<-hW0];exact heap_alloc_new w _);have HW0:=hid hW0;clear hW0;go_enter Tryz.func17,Tryz.ntmps17;go_wp2_with fail;rw[HW0.out];have HR0:Hid (W0.heap[b]?=some (.cells (ju v) 74 (0,0))):=hid ((HU0.out.block b hbw (fun h=>h)).trans H1.out);have HD0:Hid (W0.heap[bd]?=some (.cells #[.int .i64 1] 3 (0,0))):=hid ((HU0.out.block bd hdw (fun h=>h)).trans H0.out);have HO0:Hid (W0.ownsRow (b+1) 9 1 v n ((List.replicate n []).map strV)):=hid (HU0.out.own H2.out (fun _ _ h=>h));have hs0:=HU0.out.size;have hS:EloS w.heap.size bd W0.drew:=⟨HX0.out,HD0.out⟩
 have hne2:Nonempty { w':World // EloS w.heap.size bd w' }:=⟨⟨_,hS⟩⟩
 have hx0:∀t:{ w':World // EloS w.heap.size bd w' },t.1.cell? ⟨w.heap.size,0,none⟩=some (.int .i64 8):=fun t=>za t.2.1 (j:=0) rfl
 have hx1:∀t:{ w':World // EloS w.heap.size bd w' },t.1.cell? ⟨w.heap.size,1,none⟩=some (.int .i64 2):=fun t=>za t.2.1 (j:=1) rfl
 have hx2:∀t:{ w':World // EloS w.heap.size bd w' },t.1.cell? ⟨w.heap.size,2,none⟩=some (.int .u64 0):=fun t=>za t.2.1 (j:=2) rfl
 have hx3:∀t:{ w':World // EloS w.heap.size bd w' },t.1.cell? ⟨w.heap.size,3,none⟩=some (.string ⟨#[]⟩):=fun t=>za t.2.1 (j:=3) rfl
 have hx4:∀t:{ w':World // EloS w.heap.size bd w' },t.1.cell? ⟨w.heap.size,4,none⟩=some (.string ⟨#[66,0]⟩):=fun t=>za t.2.1 (j:=4) rfl
 have hxd:∀t:{ w':World // EloS w.heap.size bd w' },t.1.cell? ⟨bd,0,none⟩=some (.int .i64 1):=fun t=>za t.2.2 (j:=0) rfl
 refine zj (S:=EloS w.heap.size bd) [(0,true),(1,true),(2,true),(3,true),(4,true),(5,false),(6,false),(7,true)] (by kernel_rfl) (by kernel_rfl) (by kernel_rfl) (by kernel_rfl) hS ?_
 iterate 5 (refine zf _ rfl (fun K hK=>?_);go_simp;refine hK _ ?_;clear hK K)
 refine zo _ rfl (fun K hK=>?_);go_simp;refine(zd6 b v n 0 W0.drew HR0 HO0 (by show b+1<=W0.heap.size;omega) hl).mono ?_;rintro e w1 ⟨rfl,hu,v',h1,h2,h3⟩
 have hS1:EloS w.heap.size bd w1:=by
  refine⟨(hu.block _ (z8 HX0.out) (fun h=>?_)).trans HX0.out,(hu.block _ (z8 HD0.out) (fun h=>?_)).trans HD0.out⟩
  ·rcases h with h|h
   ·omega
   ·have h7:w.heap.size<w.heap.size:=(H2.out.lt _ h).2;omega
  ·rcases h with h|h
   ·exact hne h.symm
   ·obtain⟨cur,hc⟩:=z7k H2.out h
    rw[H0.out]at hc
    simp at hc
 go_simp;refine hK.out _ _ hS1 ?_;clear hK K;refine zo _ rfl (fun K hK=>?_);go_simp;refine(Xe _ _).mono ?_;rintro e w' ⟨rfl,rfl⟩;go_simp;refine hK.out _ _ hS1 ?_;clear hK K
 iterate 1 (refine zf _ rfl (fun K hK=>?_);go_simp;refine hK _ ?_;clear hK K)
 refine zw ?_;have HU:Hid (Upd (fun k=>k=b∨v.ownBlock=some k) w w1):=hid (((HU0.out.mono fun _ _ h=>h.elim).trans (Upd.drew _ _)).trans hu);have HS1:=hid hS1;have H1':=hid h1;have H2':=hid h2;have H3':=hid h3;clear hx0 hx1 hx2 hx3 hx4 hxd hne2 hS hS1 hu h1 h2 h3;go_wp2_with fail;go_ret;refine⟨HU.out.mono (fun k _ h=>?_),rfl,_,⟨hne,HS1.out.2,v',H1'.out,H2'.out,rfl⟩,fun k hk=>?_⟩
 ·rcases h with h|h
  ·exact .inl h
  ·exact .inr (.inr h)
 ·rcases hk with h|h|h
  ·exact .inl (.inl h)
  ·exact .inl (.inr (.inl h))
  ·rcases H3'.out k h with h|h
   ·exact .inl (.inr (.inr h))
   ·exact .inr (Nat.le_trans hs0 h)
theorem etakes8 (w:World):Calls Tryz.prog 16 #[.int .i64 8,.int .i64 2] w fun e w'=>e=.returned (.bool true)/\w=w':=by
 go_enter Tryz.func16,Tryz.ntmps16;go_wp2_with fail;go_ret;exact⟨rfl,rfl⟩
theorem zb7 (num d:Int)(w:World):Calls Tryz.prog 20 #[.agg #[.slice none 0 0],.int .i64 num,.int .i64 d,.func (.func 21) #[] #[]] w fun e w'=>e=.returned (.tuple #[bukV ⟨0,[]⟩ (.slice none 0 0) [],.bool false,.nilIface])/\Below w.heap.size w w':=by
 obtain⟨g,hg⟩:=nmd (w.heap.size)
 obtain⟨W0,hW0⟩:=nmd (((w.alloc (.cells #[.slice none 0 0] 72)).alloc (.cells #[.int .i32 0,.slice none 0 0,.string ⟨#[]⟩] 29)).alloc (.cells #[.int .i32 0,.slice none 0 0,.string ⟨#[]⟩] 29))
 have HB0:Hid (Below w.heap.size w W0):=hid (by rw[<-hW0];exact zb (zb (zd _ _) (zd _ _)) (zd _ _));have HP:Hid (W0.heap[g]?=some (.cells #[.slice none 0 0] 72 (0,0))):=hid (by rw[<-hW0,<-hg];exact(Below.heap_alloc _ _ _ (by simp;omega)).trans ((Below.heap_alloc _ _ _ (by simp)).trans (heap_alloc_new w _)));have HA:Hid (W0.heap[g+1]?=some (.cells #[.int .i32 0,.slice none 0 0,.string ⟨#[]⟩] 29 (0,0))):=hid (by rw[<-hW0,<-hg];exact(Below.heap_alloc _ _ _ (by simp)).trans (Yb _ _ _))
 have HC:Hid (W0.heap[g+2]?=some (.cells #[.int .i32 0,.slice none 0 0,.string ⟨#[]⟩] 29 (0,0))):=hid (by
  rw[<-hW0,<-hg];have:=heap_alloc_new ((w.alloc (.cells #[.slice none 0 0] 72)).alloc (.cells #[.int .i32 0,.slice none 0 0,.string ⟨#[]⟩] 29)) (.cells #[.int .i32 0,.slice none 0 0,.string ⟨#[]⟩] 29)
  rwa [show((w.alloc (.cells #[.slice none 0 0] 72)).alloc (.cells #[.int .i32 0,.slice none 0 0,.string ⟨#[]⟩] 29)).heap.size=w.heap.size+2 by simp]at this)
 have HW0:=hid hW0;have HG:=hid hg;clear hW0;go_enter Tryz.func20,Tryz.ntmps20;go_wp2_with fail;rw[HW0.out];refine(Y3 (cs:=#[.slice none 0 0]) (T:=72) g 0 none 0 0 W0 HP rfl).mono ?_;rintro e w' ⟨rfl,rfl⟩;have hc0:=rc0 HC.out;have hc1:=rc1 HC.out;have hc2:=rc2 HC.out;have ha0:=rc0 HA.out;have ha1:=rc1 HA.out;have ha2:=rc2 HA.out;have hf0:=z7 HA.out 0;have hf1:=z7 HA.out 1;have hf2:=z7 HA.out 2;have d0:decide ((0:Nat)<0)=false:=rfl;go_wp2_with fail;have hu3:=km W0 (g+1) (.int .i32 0) (.slice none 0 0) (.string ⟨#[]⟩);refine zv rfl rfl (jj (j2 HA.out _ _ _) rfl) rfl ?_;exact⟨rfl,HB0.out.trans (hu3.below (by have:=HB0.out.size;omega) (fun k _ h=>by have:=HG.out;omega))⟩
theorem zfl (num d:Int)(v:Value)(ps:List (List UInt8))(B:Nat)(x:Bk)(u:List UInt8)(w:World)(hown:Hid (w.ownsRow B 9 1 v ps.length (ps.map strV)))(h0:0<ps.length)(hl:ps.length<=1000)(hf:ps.flatten.length<=100000)(hbr:Hid (yx ps.flatten d=.ok (x,u))) :
  Calls Tryz.prog 20 #[.agg #[v],.int .i64 num,.int .i64 d,.func (.func 21) #[] #[]] w fun e w'=>∃vs,e=.returned (.tuple #[bukV x vs u,.bool true,.nilIface])/\Below w.heap.size w w'/\w'.ownsRow w.heap.size 24 1 vs x.cs.length (y9 x.cs):=by
 obtain⟨ao,cap,rfl⟩:=zh hown.out;obtain⟨g,hg⟩:=nmd (w.heap.size)
 obtain⟨W0,hW0⟩:=nmd (((w.alloc (.cells #[.slice ao ps.length cap] 72)).alloc (.cells #[.int .i32 0,.slice none 0 0,.string ⟨#[]⟩] 29)).alloc (.cells #[.int .i32 0,.slice none 0 0,.string ⟨#[]⟩] 29))
 have HB0:Hid (Below w.heap.size w W0):=hid (by rw[<-hW0];exact zb (zb (zd _ _) (zd _ _)) (zd _ _));have HP:Hid (W0.heap[g]?=some (.cells #[.slice ao ps.length cap] 72 (0,0))):=hid (by rw[<-hW0,<-hg];exact(Below.heap_alloc _ _ _ (by simp;omega)).trans ((Below.heap_alloc _ _ _ (by simp)).trans (heap_alloc_new w _)));have HA:Hid (W0.heap[g+1]?=some (.cells #[.int .i32 0,.slice none 0 0,.string ⟨#[]⟩] 29 (0,0))):=hid (by rw[<-hW0,<-hg];exact(Below.heap_alloc _ _ _ (by simp)).trans (Yb _ _ _));have HO0:Hid (W0.ownsRow B 9 1 (.slice ao ps.length cap) ps.length (ps.map strV)):=hid (y6 hown.out HB0.out);have HW0:=hid hW0;have HG:=hid hg;clear hW0;have d0:decide (0<ps.length)=true:=decide_eq_true h0;go_enter Tryz.func20,Tryz.ntmps20;go_wp2_with fail;rw[HW0.out];refine(Y3 (cs:=#[.slice ao ps.length cap]) (T:=72) g 0 ao ps.length cap W0 HP rfl).mono ?_;rintro e w' ⟨rfl,rfl⟩;rw[d0];go_wp2_with fail;refine(Zj (cs:=#[.slice ao ps.length cap]) (T:=72) g 0 _ ps B W0 HP rfl HO0 (by omega) (by omega)).mono ?_;rintro e w1 ⟨rfl,hb1⟩;have HB1:=hid (HB0.out.trans (hb1.mono HB0.out.size));have HA1:Hid (w1.heap[g+1]?=some (.cells #[.int .i32 0,.slice none 0 0,.string ⟨#[]⟩] 29 (0,0))):=hid ((hb1.block _ (z8 HA.out)).trans HA.out);obtain⟨X,hX⟩:∃X:ByteArray,(⟨ps.flatten.toArray⟩:ByteArray)=X:=⟨_,rfl⟩
 have hXs:X.size=ps.flatten.length:=by rw[<-hX];simp[ByteArray.size]
 have HXD:Hid (X.data.toList=ps.flatten):=hid (by rw[<-hX]);rw[hX];clear hb1 hX;go_wp2_with fail;refine(z5w X d w1 (by omega)).mono ?_;intro e w2 hpost;obtain⟨hb2,hcase⟩:=hpost;rw[HXD.out,hbr.out]at hcase;obtain⟨vs,rfl,hown2⟩:=hcase;obtain⟨vo,vc,rfl⟩:=zh hown2;have HB2:=hid (HB1.out.trans (hb2.mono HB1.out.size));have HA2:Hid (w2.heap[g+1]?=some (.cells #[.int .i32 0,.slice none 0 0,.string ⟨#[]⟩] 29 (0,0))):=hid ((hb2.block _ (z8 HA1.out)).trans HA1.out);have HO2:=hid (Xm hown2 HB1.out.size);have hs12:=HB1.out.size;have ha1w:=z8 HA1.out;have HLO:Hid (∀k,(Value.slice vo x.cs.length vc).ownBlock=some k->g+1<k/\k<w2.heap.size):=hid (fun k hk=>by have:=hown2.lt k hk;omega);clear hb2 hown2;unfold bukV;obtain⟨W3,hW3⟩:=nmd (w2.alloc (.cells #[.int .i32 x.off,.slice vo x.cs.length vc,.string ⟨u.toArray⟩] 29))
 have HB3:Hid (Below w2.heap.size w2 W3):=hid (by rw[<-hW3];exact zd _ _);have HX3:Hid (W3.heap[w2.heap.size]?=some (.cells #[.int .i32 x.off,.slice vo x.cs.length vc,.string ⟨u.toArray⟩] 29 (0,0))):=hid (by rw[<-hW3];exact heap_alloc_new w2 _);have HA3:Hid (W3.heap[g+1]?=some (.cells #[.int .i32 0,.slice none 0 0,.string ⟨#[]⟩] 29 (0,0))):=hid ((HB3.out.block _ (z8 HA2.out)).trans HA2.out);have HW3:=hid hW3;have hf0:=z7 HA2.out 0;have hf1:=z7 HA2.out 1;have hf2:=z7 HA2.out 2;have hc0:=rc0 HA2.out;have hc1:=rc1 HA2.out;have hc2:=rc2 HA2.out;have hgw:g+1<w2.heap.size:=z8 HA2.out;have hfz0:(w2.alloc (.cells #[.int .i32 x.off,.slice vo x.cs.length vc,.string ⟨u.toArray⟩] 29)).frozen? ⟨g+1,0,none⟩=false:=by rw[hW3];exact z7 HA3.out 0
 have hfz1:(w2.alloc (.cells #[.int .i32 x.off,.slice vo x.cs.length vc,.string ⟨u.toArray⟩] 29)).frozen? ⟨g+1,1,none⟩=false:=by rw[hW3];exact z7 HA3.out 1
 have hfz2:(w2.alloc (.cells #[.int .i32 x.off,.slice vo x.cs.length vc,.string ⟨u.toArray⟩] 29)).frozen? ⟨g+1,2,none⟩=false:=by rw[hW3];exact z7 HA3.out 2
 clear hW3;go_wp2_with fail;have hu3:=km w2 (g+1) (.int .i32 x.off) (.slice vo x.cs.length vc) (.string ⟨u.toArray⟩);have h3:=j2 HA2.out (.int .i32 x.off) (.slice vo x.cs.length vc) (.string ⟨u.toArray⟩);refine zv rfl rfl (jj ((Below.heap_alloc _ _ _ (z8 h3)).trans h3) rfl) rfl ?_;have hu4:=hu3.trans (Upd.alloc _ _ (.cells #[.int .i32 x.off,.slice vo x.cs.length vc,.string ⟨u.toArray⟩] 29));refine⟨_,rfl,HB2.out.trans (hu4.below (by have:=HB2.out.size;omega) (fun k _ h=>by have:=HG.out;omega)),?_⟩;exact hu4.own HO2.out (fun k hk h=>by have:=(HLO.out k hk).1;omega)
theorem zei (w:World)(a b:Nat):Nats .u64 (w.alloc (.cells #[.int .u64 a,.int .u64 b] 24)) (some ⟨w.heap.size,0,none⟩) [a,b]:=fun _=>by
 refine⟨w.heap.size,0,rfl,by simp,fun j hj=>?_⟩;have:j=0∨j=1:=by simp at hj;omega
 rcases this with rfl|rfl
 ·exact za (heap_alloc_new w _) (j:=0) rfl
 ·exact za (heap_alloc_new w _) (j:=1) rfl
def exp8 (vs:Value):Array Value:=#[.slice none 0 0,.int .u64 0,.int .u64 0,.int .u64 0,.bool false,.int .u64 0,.bool false,.int .u64 0,.bool false,.int .u64 0,.int .i32 0,.int .u64 0,.bool true,.int .i32 0,vs,.string ⟨#[]⟩,.bool false,.int .i32 0,.slice none 0 0,.string ⟨#[]⟩,.slice none 0 0,.int .u32 0,.int .u64 0,.string ⟨#[]⟩]
theorem eu_any (w:World):Calls Tryz.prog 6 #[.string ⟨#[66,0]⟩,.int .i64 1] w fun e w'=>Below w.heap.size w w'/\∃E so sc,E=.agg (exp8 (.slice so 0 sc))/\e=.returned (.tuple #[E,.nilIface]):=by
 obtain⟨g,hg⟩:=nmd (w.heap.size)
 have HG:=hid hg;obtain⟨W0,hW0⟩:=nmd (((w.alloc (.cells #[.int .i64 1] 3)).alloc (.cells #[.slice none 0 0,.int .u64 0,.int .u64 0,.int .u64 0,.bool false,.int .u64 0,.bool false,.int .u64 0,.bool false,.int .u64 0,.int .i32 0,.int .u64 0,.bool false,.int .i32 0,.slice none 0 0,.string ⟨#[]⟩,.bool false,.int .i32 0,.slice none 0 0,.string ⟨#[]⟩,.slice none 0 0,.int .u32 0,.int .u64 0,.string ⟨#[]⟩] 33)).alloc (.cells (ju (.slice none 0 0)) 74))
 have HB0:Hid (Below w.heap.size w W0):=hid (by rw[<-hW0];exact zb (zb (zd _ _) (zd _ _)) (zd _ _));have HD0:Hid (W0.heap[g]?=some (.cells #[.int .i64 1] 3 (0,0))):=hid (by rw[<-hW0,<-hg];exact(Below.heap_alloc _ _ _ (by simp;omega)).trans ((Below.heap_alloc _ _ _ (by simp)).trans (heap_alloc_new w _)));have HR0:Hid (W0.heap[g+1]?=some (.cells #[.slice none 0 0,.int .u64 0,.int .u64 0,.int .u64 0,.bool false,.int .u64 0,.bool false,.int .u64 0,.bool false,.int .u64 0,.int .i32 0,.int .u64 0,.bool false,.int .i32 0,.slice none 0 0,.string ⟨#[]⟩,.bool false,.int .i32 0,.slice none 0 0,.string ⟨#[]⟩,.slice none 0 0,.int .u32 0,.int .u64 0,.string ⟨#[]⟩] 33 (0,0))):=hid (by rw[<-hW0,<-hg];exact(Below.heap_alloc _ _ _ (by simp)).trans (Yb _ _ _))
 have HX0:Hid (W0.heap[g+2]?=some (.cells (ju (.slice none 0 0)) 74 (0,0))):=hid (by
  rw[<-hW0,<-hg];have:=heap_alloc_new ((w.alloc (.cells #[.int .i64 1] 3)).alloc (.cells #[.slice none 0 0,.int .u64 0,.int .u64 0,.int .u64 0,.bool false,.int .u64 0,.bool false,.int .u64 0,.bool false,.int .u64 0,.int .i32 0,.int .u64 0,.bool false,.int .i32 0,.slice none 0 0,.string ⟨#[]⟩,.bool false,.int .i32 0,.slice none 0 0,.string ⟨#[]⟩,.slice none 0 0,.int .u32 0,.int .u64 0,.string ⟨#[]⟩] 33)) (.cells (ju (.slice none 0 0)) 74)
  rwa [show((w.alloc (.cells #[.int .i64 1] 3)).alloc (.cells #[.slice none 0 0,.int .u64 0,.int .u64 0,.int .u64 0,.bool false,.int .u64 0,.bool false,.int .u64 0,.bool false,.int .u64 0,.int .i32 0,.int .u64 0,.bool false,.int .i32 0,.slice none 0 0,.string ⟨#[]⟩,.bool false,.int .i32 0,.slice none 0 0,.string ⟨#[]⟩,.slice none 0 0,.int .u32 0,.int .u64 0,.string ⟨#[]⟩] 33)).heap.size=w.heap.size+2 by simp]at this)
 have HW0:=hid (by have h:=hW0;unfold ju at h;exact h);have HTK:Hid ((Qm (g+2) g).rel 0 (fun k=>k=g+2∨k=g∨(Value.slice none 0 0).ownBlock=some k) W0):=hid ⟨by omega,HD0.out,_,HX0.out,World.ownsRow_nil _ _ _ _,rfl⟩;have HE1:=hid (enters_of Tryz.func16 (by kernel_rfl) rfl);have HE2:=hid (enters_of Tryz.func17 (by kernel_rfl) rfl);have HMR:Hid (zq (fun r=>r.num == 8) z3x 0 (⟨#[66,0]⟩:ByteArray).data.toList 1=.ok (1,[])):=hid (by rfl)
 have HTT:Hid (∀(r:Rec) (w:World),(∀rs,wall (⟨#[66,0]⟩:ByteArray).data.toList 1=.ok rs->r∈rs)->Calls Tryz.prog 16 #[.int .i64 r.num,.int .i64 r.ty] w fun e w'=>e=.returned (.bool (r.num == 8))/\w=w'):=hid (fun r w hm=>by
  have hr:=List.mem_singleton.1 (hm _ wall8);subst hr;exact etakes8 w)
 have HKK:Hid (∀(r:Rec) (st:Nat) (P:Nat->Prop) (w:World),(r.num == 8)=true->zt 1 r->r.raw.length<=(⟨#[66,0]⟩:ByteArray).size->(∀rs,wall (⟨#[66,0]⟩:ByteArray).data.toList 1=.ok rs->r∈rs)->(∃pre:List Rec,(∀x∈pre,zt 1 x)/\zg (fun r=>r.num == 8) z3x 0 pre=.ok st/\(pre.flatMap Rec.raw).length+r.raw.length<=(⟨#[66,0]⟩:ByteArray).size)->(Qm (g+2) g).rel st P w->Calls Tryz.prog 17 (#[recV r]++#[.pointer (some ⟨g+2,0,none⟩),.pointer (some ⟨g,0,none⟩)]) w (xx (Qm (g+2) g) z3x st P r w)):=hid (fun r st P w _ hir _ hm hpre h=>by
  have hr:=List.mem_singleton.1 (hm _ wall8);subst hr;refine zeb (g+2) g st P w (hid h) ?_;obtain⟨pre,h1,h2,h3⟩:=hpre
  have h4:pre=[]:=by
   cases pre with
   | nil=>rfl
   | cons a pre =>
    exfalso
    have:=(qj (h1 a (List.mem_cons_self ..))).2.2.1;have h9:(rec8.raw).length=2:=rfl;have h8:(⟨#[66,0]⟩:ByteArray).size=2:=rfl;rw[List.flatMap_cons,List.length_append]at h3;omega
  subst h4
  simp only[zg,Except.ok.injEq]at h2
  omega)
 clear hW0;go_enter Tryz.func6,Tryz.ntmps6;go_wp2_with fail;rw[HW0.out];refine(kn (Qm (g+2) g) (fun r=>r.num == 8) z3x 16 17 #[.pointer (some ⟨g+2,0,none⟩),.pointer (some ⟨g,0,none⟩)] 0 ⟨#[66,0]⟩ 1 W0 (by decide) HE1.out HE2.out HTT.out HKK.out _ HTK.out).mono ?_;intro e w1 hpost;obtain⟨hu,hcase⟩:=hpost;rw[HMR.out]at hcase;obtain⟨rfl,P',⟨_,hd1,v,hx1,ho1,rfl⟩,hp⟩:=hcase;obtain⟨vo,vc,rfl⟩:=zh ho1
 have hu1:Upd (fun k=>k=g+2∨k=g) W0 w1:=hu.mono (fun k _ h=>by
  rcases h with h|h|h
  ·exact .inl h
  ·exact .inr h
  ·simp[Value.ownBlock]at h)
 have HR1:Hid (w1.heap[g+1]?=some (.cells #[.slice none 0 0,.int .u64 0,.int .u64 0,.int .u64 0,.bool false,.int .u64 0,.bool false,.int .u64 0,.bool false,.int .u64 0,.int .i32 0,.int .u64 0,.bool false,.int .i32 0,.slice none 0 0,.string ⟨#[]⟩,.bool false,.int .i32 0,.slice none 0 0,.string ⟨#[]⟩,.slice none 0 0,.int .u32 0,.int .u64 0,.string ⟨#[]⟩] 33 (0,0))):=hid ((hu1.block (g+1) (z8 HR0.out) (by omega)).trans HR0.out);have HD1:=hid hd1;have HX1:=hid hx1;have HO1:=hid ho1;have HB1:Hid (Below w.heap.size w w1):=hid (HB0.out.trans (hu1.below (by have:=HB0.out.size;omega) (fun k _ h=>by have:=HG.out;omega)));have hdc:=rc0 hd1;have hpc:w1.cell? ⟨g+2,24,none⟩=some (.slice vo 1 vc):=za hx1 (j:=24) rfl;have hpc':w1.cell? ⟨g+1+1,24,none⟩=some (.slice vo 1 vc):=za hx1 (j:=24) rfl;clear hu hu1 hd1 hx1 ho1 hp;go_wp2_with fail;have HBR:Hid (yx ([[]]:List (List UInt8)).flatten 0=.ok (⟨0,[]⟩,[])):=hid (by rfl);refine(zfl 8 0 (.slice vo 1 vc) [[]] (g+3) ⟨0,[]⟩ [] w1 HO1 (by decide) (by decide) (by decide) HBR).mono ?_;rintro e w2 ⟨vs,rfl,hb2,ho2⟩;obtain⟨so,sc,rfl⟩:=zh ho2;have HB2:=hid (HB1.out.trans (hb2.mono HB1.out.size));have HR2:Hid (w2.heap[g+1]?=some (.cells #[.slice none 0 0,.int .u64 0,.int .u64 0,.int .u64 0,.bool false,.int .u64 0,.bool false,.int .u64 0,.bool false,.int .u64 0,.int .i32 0,.int .u64 0,.bool false,.int .i32 0,.slice none 0 0,.string ⟨#[]⟩,.bool false,.int .i32 0,.slice none 0 0,.string ⟨#[]⟩,.slice none 0 0,.int .u32 0,.int .u64 0,.string ⟨#[]⟩] 33 (0,0))):=hid ((hb2.block _ (z8 HR1.out)).trans HR1.out);have HD2:Hid (w2.heap[g]?=some (.cells #[.int .i64 1] 3 (0,0))):=hid ((hb2.block _ (z8 HD1.out)).trans HD1.out);have HX2:Hid (w2.heap[g+1+1]?=some (.cells (ju (.slice vo 1 vc)) 74 (0,0))):=hid ((hb2.block _ (z8 HX1.out)).trans HX1.out);clear hb2 ho2 hdc hpc hpc';have hdc:=rc0 HD2.out;have hp25:w2.cell? ⟨g+1+1,25,none⟩=some (.slice none 0 0):=za HX2.out (j:=25) rfl;have hc12:w2.cell? ⟨g+1+1,12,none⟩=some (.bool false):=za HX2.out (j:=12) rfl;have hf12:=z7 HX2.out 12;have hc13:w2.cell? ⟨g+1+1,13,none⟩=some (.int .i32 0):=za HX2.out (j:=13) rfl;have hf13:=z7 HX2.out 13;have hc14:w2.cell? ⟨g+1+1,14,none⟩=some (.slice none 0 0):=za HX2.out (j:=14) rfl;have hf14:=z7 HX2.out 14;have hc15:w2.cell? ⟨g+1+1,15,none⟩=some (.string ⟨#[]⟩):=za HX2.out (j:=15) rfl;have hf15:=z7 HX2.out 15;unfold bukV;go_wp2_with fail;obtain⟨W3,hW3⟩:=nmd (((((w2.setCell ⟨g+1+1,13,none⟩ (.int .i32 0)).setCell ⟨g+1+1,14,none⟩ (.slice so 0 sc)).setCell ⟨g+1+1,15,none⟩ (.string ⟨#[]⟩)).setCell ⟨g+1+1,12,none⟩ (.bool true)))
 have hu3:Upd (fun k=>k=g+1+1) w2 W3:=by
  rw[<-hW3];exact(((Upd.set w2 ⟨g+1+1,13,none⟩ _).trans (Upd.set _ ⟨g+1+1,14,none⟩ _)).trans (Upd.set _ ⟨g+1+1,15,none⟩ _)).trans (Upd.set _ ⟨g+1+1,12,none⟩ _)
 have HX3:Hid (W3.heap[g+1+1]?=some (.cells #[.slice none 0 0,.int .u64 0,.int .u64 0,.int .u64 0,.bool false,.int .u64 0,.bool false,.int .u64 0,.bool false,.int .u64 0,.int .i32 0,.int .u64 0,.bool true,.int .i32 0,.slice so 0 sc,.string ⟨#[]⟩,.bool false,.int .i32 0,.slice none 0 0,.string ⟨#[]⟩,.slice none 0 0,.int .u32 0,.int .u64 0,.string ⟨#[]⟩,.slice vo 1 vc,.slice none 0 0] 74 (0,0))):=hid (by
  rw[<-hW3];exact ze (ze (ze (ze HX2.out 13 _) 14 _) 15 _) 12 _)
 have HR3:Hid (W3.heap[g+1]?=some (.cells #[.slice none 0 0,.int .u64 0,.int .u64 0,.int .u64 0,.bool false,.int .u64 0,.bool false,.int .u64 0,.bool false,.int .u64 0,.int .i32 0,.int .u64 0,.bool false,.int .i32 0,.slice none 0 0,.string ⟨#[]⟩,.bool false,.int .i32 0,.slice none 0 0,.string ⟨#[]⟩,.slice none 0 0,.int .u32 0,.int .u64 0,.string ⟨#[]⟩] 33 (0,0))):=hid ((hu3.block _ (z8 HR2.out) (by omega)).trans HR2.out);have HB3:Hid (Below w.heap.size w W3):=hid (HB2.out.trans (hu3.below HB2.out.size (fun k _ h=>by have:=HG.out;omega)));rw[hW3];clear hW3 hu3 hdc hp25 hc12 hc13 hc14 hc15 hf12 hf13 hf14 hf15;refine(zb7 9 0 W3).mono ?_;rintro e w4 ⟨rfl,hb4⟩;have HB4:=hid (HB3.out.trans (hb4.mono HB3.out.size));have HR4:Hid (w4.heap[g+1]?=some (.cells #[.slice none 0 0,.int .u64 0,.int .u64 0,.int .u64 0,.bool false,.int .u64 0,.bool false,.int .u64 0,.bool false,.int .u64 0,.int .i32 0,.int .u64 0,.bool false,.int .i32 0,.slice none 0 0,.string ⟨#[]⟩,.bool false,.int .i32 0,.slice none 0 0,.string ⟨#[]⟩,.slice none 0 0,.int .u32 0,.int .u64 0,.string ⟨#[]⟩] 33 (0,0))):=hid ((hb4.block _ (z8 HR3.out)).trans HR3.out);have HX4:Hid (w4.heap[g+1+1]?=some (.cells #[.slice none 0 0,.int .u64 0,.int .u64 0,.int .u64 0,.bool false,.int .u64 0,.bool false,.int .u64 0,.bool false,.int .u64 0,.int .i32 0,.int .u64 0,.bool true,.int .i32 0,.slice so 0 sc,.string ⟨#[]⟩,.bool false,.int .i32 0,.slice none 0 0,.string ⟨#[]⟩,.slice none 0 0,.int .u32 0,.int .u64 0,.string ⟨#[]⟩,.slice vo 1 vc,.slice none 0 0] 74 (0,0))):=hid ((hb4.block _ (z8 HX3.out)).trans HX3.out);clear hb4;have hf16:=z7 HX4.out 16;have hf17:=z7 HX4.out 17;have hf18:=z7 HX4.out 18;have hf19:=z7 HX4.out 19;have hf23:=z7 HX4.out 23;have hc16:=rc16 HX4.out;have hc17:=rc17 HX4.out;have hc18:=rc18 HX4.out;have hc19:=rc19 HX4.out;have hc23:=rc23 HX4.out;unfold bukV;go_upto_region 10 with fail
 obtain⟨W5,hW5⟩:=nmd ((((((w4.setCell ⟨g+1+1,17,none⟩ (.int .i32 0)).setCell ⟨g+1+1,18,none⟩ (.slice none 0 0)).setCell ⟨g+1+1,19,none⟩ (.string ⟨#[]⟩)).setCell ⟨g+1+1,16,none⟩ (.bool false)).setCell ⟨g+1+1,23,none⟩ (.string ⟨#[]⟩)))
 have hu5:Upd (fun k=>k=g+1+1) w4 W5:=by
  rw[<-hW5];exact((((Upd.set w4 ⟨g+1+1,17,none⟩ _).trans (Upd.set _ ⟨g+1+1,18,none⟩ _)).trans (Upd.set _ ⟨g+1+1,19,none⟩ _)).trans (Upd.set _ ⟨g+1+1,16,none⟩ _)).trans (Upd.set _ ⟨g+1+1,23,none⟩ _)
 have HX5:Hid (W5.heap[g+1+1]?=some (.cells #[.slice none 0 0,.int .u64 0,.int .u64 0,.int .u64 0,.bool false,.int .u64 0,.bool false,.int .u64 0,.bool false,.int .u64 0,.int .i32 0,.int .u64 0,.bool true,.int .i32 0,.slice so 0 sc,.string ⟨#[]⟩,.bool false,.int .i32 0,.slice none 0 0,.string ⟨#[]⟩,.slice none 0 0,.int .u32 0,.int .u64 0,.string ⟨#[]⟩,.slice vo 1 vc,.slice none 0 0] 74 (0,0))):=hid (by
  rw[<-hW5];exact ze (ze (ze (ze (ze HX4.out 17 _) 18 _) 19 _) 16 _) 23 _)
 have HR5:Hid (W5.heap[g+1]?=some (.cells #[.slice none 0 0,.int .u64 0,.int .u64 0,.int .u64 0,.bool false,.int .u64 0,.bool false,.int .u64 0,.bool false,.int .u64 0,.int .i32 0,.int .u64 0,.bool false,.int .i32 0,.slice none 0 0,.string ⟨#[]⟩,.bool false,.int .i32 0,.slice none 0 0,.string ⟨#[]⟩,.slice none 0 0,.int .u32 0,.int .u64 0,.string ⟨#[]⟩] 33 (0,0))):=hid ((hu5.block _ (z8 HR4.out) (by omega)).trans HR4.out);have HB5:Hid (Below w.heap.size w W5):=hid (HB4.out.trans (hu5.below HB4.out.size (fun k _ h=>by have:=HG.out;omega)));rw[hW5];clear hW5 hu5 hf16 hf17 hf18 hf19 hf23 hc16 hc17 hc18 hc19 hc23;refine wp_region_lit ?_;refine wpList_plain rfl (fun K hK=>?_);go_simp;refine hK _ _ ?_;clear hK K;refine wpList_load_mid rfl 33 (.tmp 53) rfl (g+1+1) 0 rfl [.slice none 0 0,.int .u64 0,.int .u64 0,.int .u64 0,.bool false,.int .u64 0,.bool false,.int .u64 0,.bool false,.int .u64 0,.int .i32 0,.int .u64 0,.bool true,.int .i32 0,.slice so 0 sc,.string ⟨#[]⟩,.bool false,.int .i32 0,.slice none 0 0,.string ⟨#[]⟩,.slice none 0 0,.int .u32 0,.int .u64 0,.string ⟨#[]⟩] _ (fun j u hj=>?_) Tryz.underlying33 rfl (by kernel_rfl) ?_
 ·rw[Nat.zero_add,za HX5.out (j:=j) (u:=u)]
  have hj24:j<24:=(List.getElem?_eq_some_iff.1 hj).1;rw[<-hj]
  match j,hj24 with
  | 0,_=>rfl
  | 1,_=>rfl
  | 2,_=>rfl
  | 3,_=>rfl
  | 4,_=>rfl
  | 5,_=>rfl
  | 6,_=>rfl
  | 7,_=>rfl
  | 8,_=>rfl
  | 9,_=>rfl
  | 10,_=>rfl
  | 11,_=>rfl
  | 12,_=>rfl
  | 13,_=>rfl
  | 14,_=>rfl
  | 15,_=>rfl
  | 16,_=>rfl
  | 17,_=>rfl
  | 18,_=>rfl
  | 19,_=>rfl
  | 20,_=>rfl
  | 21,_=>rfl
  | 22,_=>rfl
  | 23,_=>rfl
 refine wpList_store_row rfl 33 (.tmp 4) (.tmp 54) rfl (g+1) #[.slice none 0 0,.int .u64 0,.int .u64 0,.int .u64 0,.bool false,.int .u64 0,.bool false,.int .u64 0,.bool false,.int .u64 0,.int .i32 0,.int .u64 0,.bool true,.int .i32 0,.slice so 0 sc,.string ⟨#[]⟩,.bool false,.int .i32 0,.slice none 0 0,.string ⟨#[]⟩,.slice none 0 0,.int .u32 0,.int .u64 0,.string ⟨#[]⟩] rfl rfl 33 #[.slice none 0 0,.int .u64 0,.int .u64 0,.int .u64 0,.bool false,.int .u64 0,.bool false,.int .u64 0,.bool false,.int .u64 0,.int .i32 0,.int .u64 0,.bool false,.int .i32 0,.slice none 0 0,.string ⟨#[]⟩,.bool false,.int .i32 0,.slice none 0 0,.string ⟨#[]⟩,.slice none 0 0,.int .u32 0,.int .u64 0,.string ⟨#[]⟩] HR5.out (by kernel_rfl) rfl (by simp[Value.oneCell']) ?_;have HS:Hid ((W5.setRow (g+1) #[.slice none 0 0,.int .u64 0,.int .u64 0,.int .u64 0,.bool false,.int .u64 0,.bool false,.int .u64 0,.bool false,.int .u64 0,.int .i32 0,.int .u64 0,.bool true,.int .i32 0,.slice so 0 sc,.string ⟨#[]⟩,.bool false,.int .i32 0,.slice none 0 0,.string ⟨#[]⟩,.slice none 0 0,.int .u32 0,.int .u64 0,.string ⟨#[]⟩]).heap[g+1]?=some (.cells #[.slice none 0 0,.int .u64 0,.int .u64 0,.int .u64 0,.bool false,.int .u64 0,.bool false,.int .u64 0,.bool false,.int .u64 0,.int .i32 0,.int .u64 0,.bool true,.int .i32 0,.slice so 0 sc,.string ⟨#[]⟩,.bool false,.int .i32 0,.slice none 0 0,.string ⟨#[]⟩,.slice none 0 0,.int .u32 0,.int .u64 0,.string ⟨#[]⟩] 33 (0,0))):=hid (setRow_heap _ _ _ _ _ _ HR5.out);have HBS:Hid (Below w.heap.size w (W5.setRow (g+1) #[.slice none 0 0,.int .u64 0,.int .u64 0,.int .u64 0,.bool false,.int .u64 0,.bool false,.int .u64 0,.bool false,.int .u64 0,.int .i32 0,.int .u64 0,.bool true,.int .i32 0,.slice so 0 sc,.string ⟨#[]⟩,.bool false,.int .i32 0,.slice none 0 0,.string ⟨#[]⟩,.slice none 0 0,.int .u32 0,.int .u64 0,.string ⟨#[]⟩])):=hid (below_setRow HB5.out (by have:=HG.out;omega) _);obtain⟨W6,hW6⟩:=nmd (W5.setRow (g+1) #[.slice none 0 0,.int .u64 0,.int .u64 0,.int .u64 0,.bool false,.int .u64 0,.bool false,.int .u64 0,.bool false,.int .u64 0,.int .i32 0,.int .u64 0,.bool true,.int .i32 0,.slice so 0 sc,.string ⟨#[]⟩,.bool false,.int .i32 0,.slice none 0 0,.string ⟨#[]⟩,.slice none 0 0,.int .u32 0,.int .u64 0,.string ⟨#[]⟩])
 rw[hW6]at HS HBS ⊢;clear hW6;go_wp2_with fail;refine kv rfl rfl (run_loadVar_row W6 (g+1) 33 33 _ (0,0) _ HS.out Tryz.underlying33 rfl (by kernel_rfl)) rfl ?_;exact⟨HBS.out,_,so,sc,rfl,rfl⟩
theorem Xz (w:World):Calls Tryz.prog 5 #[] w fun e w'=>e=.returned (.bool true)/\Below w.heap.size w w':=by
 have HN:Hid (Nats .u64 (w.alloc (.cells #[.int .u64 1,.int .u64 300] 24)) (some ⟨w.heap.size,0,none⟩) [1,300]):=hid (zei w 1 300);have HK:Hid (BkOk ⟨-1,[1,300]⟩):=hid ⟨by decide,by decide,by decide⟩;have HP:Hid (bput ⟨-1,[1,300]⟩ []=[8,1,18,3,1,172,2]):=hid (by decide +kernel);have HM:Hid (bmay [] 0=true):=hid (by rfl);go_enter Tryz.func5,Tryz.ntmps5;go_wp2_with fail;refine(mb_any ⟨-1,[1,300]⟩ [] (some ⟨w.heap.size,0,none⟩) 2 ⟨#[]⟩ 0 _ HK HN (by decide) (by decide) (hid rfl)).mono ?_;rintro e w1 ⟨hb1,⟨_,rfl⟩|⟨hf,_⟩⟩
 case inr=>rw[HM.out]at hf;cases hf
 rw[HP.out];have HB1:=hid (zb (zd w _) hb1);clear hb1;go_upto_region 2 with fail
 refine wp_region_lit ?_;refine wpList_plain rfl (fun K hK=>?_);go_simp;refine(eu_any w1).mono ?_;rintro e w2 ⟨hb2,E,so,sc,hE,rfl⟩;have HB2:=hid (zb HB1.out hb2);have HE:=hid hE;clear hb2 hE;refine hK _ _ ?_;clear hK K;refine wpList_plain rfl (fun K hK=>?_);go_simp;refine hK _ _ ?_;clear hK K;refine wpList_plain rfl (fun K hK=>?_);go_simp;refine hK _ _ ?_;clear hK K;refine wpList_plain rfl (fun K hK=>?_);go_simp;refine hK _ _ ?_;clear hK K;refine wpList_plain rfl (fun K hK=>?_);go_simp;refine hK _ _ ?_;clear hK K;have HZ:=heap_alloc_new w2 (.cells #[.slice none 0 0,.int .u64 0,.int .u64 0,.int .u64 0,.bool false,.int .u64 0,.bool false,.int .u64 0,.bool false,.int .u64 0,.int .i32 0,.int .u64 0,.bool false,.int .i32 0,.slice none 0 0,.string ⟨#[]⟩,.bool false,.int .i32 0,.slice none 0 0,.string ⟨#[]⟩,.slice none 0 0,.int .u32 0,.int .u64 0,.string ⟨#[]⟩] 33);refine wpList_store_row rfl 33 (.tmp 3) (.tmp 13) rfl w2.heap.size (exp8 (.slice so 0 sc)) rfl (by show E=_;exact HE.out) 33 _ HZ (by kernel_rfl) rfl (by simp[exp8,Value.oneCell']) ?_;have HX3:Hid (((w2.alloc (.cells #[.slice none 0 0,.int .u64 0,.int .u64 0,.int .u64 0,.bool false,.int .u64 0,.bool false,.int .u64 0,.bool false,.int .u64 0,.int .i32 0,.int .u64 0,.bool false,.int .i32 0,.slice none 0 0,.string ⟨#[]⟩,.bool false,.int .i32 0,.slice none 0 0,.string ⟨#[]⟩,.slice none 0 0,.int .u32 0,.int .u64 0,.string ⟨#[]⟩] 33)).setRow w2.heap.size (exp8 (.slice so 0 sc))).heap[w2.heap.size]?=some (.cells (exp8 (.slice so 0 sc)) 33 (0,0))):=hid (setRow_heap _ _ _ _ _ _ HZ);have HB3:Hid (Below w.heap.size w ((w2.alloc (.cells #[.slice none 0 0,.int .u64 0,.int .u64 0,.int .u64 0,.bool false,.int .u64 0,.bool false,.int .u64 0,.bool false,.int .u64 0,.int .i32 0,.int .u64 0,.bool false,.int .i32 0,.slice none 0 0,.string ⟨#[]⟩,.bool false,.int .i32 0,.slice none 0 0,.string ⟨#[]⟩,.slice none 0 0,.int .u32 0,.int .u64 0,.string ⟨#[]⟩] 33)).setRow w2.heap.size (exp8 (.slice so 0 sc)))):=hid (below_setRow (zb HB2.out (zd _ _)) HB2.out.size _);obtain⟨W3,hW3⟩:=nmd ((w2.alloc (.cells #[.slice none 0 0,.int .u64 0,.int .u64 0,.int .u64 0,.bool false,.int .u64 0,.bool false,.int .u64 0,.bool false,.int .u64 0,.int .i32 0,.int .u64 0,.bool false,.int .i32 0,.slice none 0 0,.string ⟨#[]⟩,.bool false,.int .i32 0,.slice none 0 0,.string ⟨#[]⟩,.slice none 0 0,.int .u32 0,.int .u64 0,.string ⟨#[]⟩] 33)).setRow w2.heap.size (exp8 (.slice so 0 sc)))
 rw[hW3]at HX3 HB3 ⊢;have h12:=rc12 HX3.out;have h16:=rc16 HX3.out;clear hW3 HZ HE;go_wp2_with fail;go_ret;exact⟨rfl,HB3.out⟩
end Go.Proofs.YtmlghmjjlpioeaaGreatDoor
