/-
  NumsK, XpRel
-/
import Derived.Test.YtmlghmjjlpioeaaGreatDoorValKey
import Derived.Test.YtmlghmjjlpioeaaGreatDoorExRead
import Derived.Test.YtmlghmjjlpioeaaGreatDoorUtfRefW
set_option maxRecDepth 1000000
set_option maxHeartbeats 16000000
namespace Go.Proofs.YtmlghmjjlpioeaaGreatDoor
open Go.RowKit
open Lib (hid)
def Zt:Cel Nat where
  R _ _ n cs:=cs=[.int .u64 n]
  size:=1
  len:=by intro w P n cs h;rw[h];rfl
  upd:=by intro w w' S P Q n cs hu hs hq h;exact h
  lt:=fun h=>h
theorem z5b:∀xs:List Nat,(xs.map fun n:Nat=>[Value.int .u64 n]).flatten=y9 xs
  | []=>rfl
  | x::xs=>by
    rw[List.map_cons,List.flatten_cons,z5b xs]
    rfl
theorem J6 {base:Nat}{v:Value}{xs:List Nat}{w:World}(h:w.ownsRow base 24 1 v xs.length (y9 xs)):LsAt Zt 24 base v xs (fun k=>v.ownBlock=some k∨False) w:=by
  refine⟨xs.map fun n:Nat=>[Value.int .u64 n],fun _=>False,?_,by rw[List.length_map],fun j a b=>?_,fun _ h=>h.elim,rfl⟩
  · rw[z5b];exact h
  · show _=_
    rw[List.getElem_map]
theorem z0p {w:World}{P:Nat->Prop}{l:List Nat}{ao:Option Addr}(h:y2 Zt w P l ao):Nats .u64 w ao l:=fun hn=>by
  have hl:0<l.length:=List.length_pos_iff.2 hn;obtain⟨g,off,cs,rfl,hP,hg,_,_⟩:=h 0 hl;refine⟨g,off,rfl,hg,fun j hj=>?_⟩;obtain⟨g',off',cs',he,_,_,hc,hr⟩:=h j hj
  simp only[Option.some.injEq,Addr.mk.injEq]at he
  obtain⟨rfl,rfl,_⟩:=he;have hr:cs'=[.int .u64 (l[j]:Int)]:=hr;subst hr;have:=hc 0 (by simp);rw[show off+Zt.size*j+0=off+j from by show off+1*j+0=_;omega]at this
  simpa using this
theorem zdc (w:World)(a0 a1 a2 a3 a4 a5:Nat):Nats .i64 (w.alloc (.cells #[.int .i64 a0,.int .i64 a1,.int .i64 a2,.int .i64 a3,.int .i64 a4,.int .i64 a5] 3)) (some ⟨w.heap.size,0,none⟩) [a0,a1,a2,a3,a4,a5]:=by
 intro _;refine⟨w.heap.size,0,rfl,by simp,fun j hj=>?_⟩;have:j=0∨j=1∨j=2∨j=3∨j=4∨j=5:=by simp at hj;omega
 rcases this with rfl|rfl|rfl|rfl|rfl|rfl
 ·exact za (heap_alloc_new w _) (j:=0) rfl
 ·exact za (heap_alloc_new w _) (j:=1) rfl
 ·exact za (heap_alloc_new w _) (j:=2) rfl
 ·exact za (heap_alloc_new w _) (j:=3) rfl
 ·exact za (heap_alloc_new w _) (j:=4) rfl
 ·exact za (heap_alloc_new w _) (j:=5) rfl
theorem ex_tab (w:World):Calls Tryz.prog 72 #[] w fun e w'=>∃ao,e=.returned (.slice ao 6 6)/\Hid (Nats .i64 w' ao [17,25,34,42,49,58])/\Below w.heap.size w w':=by
 have HN:=hid (zdc w 17 25 34 42 49 58);go_enter Tryz.func72,Tryz.ntmps72;go_wp2_with fail;go_ret;exact⟨_,rfl,HN,zd _ _⟩
theorem ex_rtk (r:Rec):exF.tk r=rtk [17,25,34,42,49,58] r:=by
 rw[z3l];unfold rtk;rw[Bool.eq_iff_iff]
 simp
 omega
theorem ex_un (X:ByteArray)(d:Int)(w:World)(hX:X.size<=500000)(hd:-9223372036854775808<=d/\d<=9223372036854775807) :
    Calls Tryz.prog 61 #[.string X,.int .i64 d] w (Z9 qg Q3 (exrd X.data.toList d) X.size w):=unex_if X d (hid (fun _ _ _=>z7c)) w hX hd
theorem z28 (w:World)(l:List Nat)(T:TypeId):Nats .i64 (w.alloc (.cells (l.map fun n:Nat=>Value.int .i64 n).toArray T)) (some ⟨w.heap.size,0,none⟩) l:=fun _ =>
  ⟨w.heap.size,0,rfl,by simp,fun j hj=>za (heap_alloc_new w _) (by rw[Nat.zero_add];simp[List.getElem?_eq_getElem hj])⟩
theorem zg7 (w:World):Calls Tryz.prog 110 #[] w fun e w'=>∃ao,e=.returned (.slice ao 7 7)/\Hid (Nats .i64 w' ao [10,16,24,33,42,50,58])/\Below w.heap.size w w':=by
  have HN:=hid (z28 w [10,16,24,33,42,50,58] 3);go_enter Tryz.func110,Tryz.ntmps110;go_wp2_with fail;go_ret;exact⟨_,rfl,HN,zd _ _⟩
theorem zfx (w:World):Calls Tryz.prog 68 #[] w fun e w'=>∃ao,e=.returned (.slice ao 2 2)/\Hid (Nats .i64 w' ao [10,18])/\Below w.heap.size w w':=by
  have HN:=hid (z28 w [10,18] 3);go_enter Tryz.func68,Tryz.ntmps68;go_wp2_with fail;go_ret;exact⟨_,rfl,HN,zd _ _⟩
theorem z5v (w:World):Calls Tryz.prog 144 #[] w fun e w'=>∃ao,e=.returned (.slice ao 1 1)/\Hid (Nats .i64 w' ao [10])/\Below w.heap.size w w':=by
  have HN:=hid (z28 w [10] 3);go_enter Tryz.func144,Tryz.ntmps144;go_wp2_with fail;go_ret;exact⟨_,rfl,HN,zd _ _⟩
theorem vtk_rtk (r:Rec):vtk r=rtk [10,16,24,33,42,50,58] r:=by
  unfold vtk rtk;rw[Bool.eq_iff_iff]
  simp
  omega
theorem ktk_rtk (r:Rec):ktk r=rtk [10,18] r:=by
  unfold ktk rtk;rw[Bool.eq_iff_iff]
  simp
  omega
theorem z9h (r:Rec):itk r=rtk [10] r:=by
  unfold itk rtk;rw[Bool.eq_iff_iff]
  simp
  omega
theorem J8 (X:ByteArray):(⟨X.data.toList.toArray⟩:ByteArray)=X:=ByteArray.ext (by simp)
theorem z0g (X:ByteArray)(w:World)(hX:X.size<=1000000):Calls Tryz.prog 69 #[.string X] w fun e w'=>e=.returned (.bool (xb X.data.toList))/\w=w':=by
  have HB:=hid (zf8 X w hX);go_enter Tryz.func69,Tryz.ntmps69;go_wp2_with fail;refine HB.out.mono ?_;rintro e w' ⟨rfl,rfl⟩;go_wp2_with fail;go_ret;exact⟨rfl,rfl⟩
def XpRel (w:World)(P:Nat->Prop):Xp->List Value->Prop
  | ((l,(a,(t,(k,((bp,vp),(sc,(zc,((gp,pb,pu),((gn,nb,nu),(f,(es,((bm,vm),((bg,vg),th))))))))))))),u),cs=>∃(lo:Option Addr) (lc:Nat) (po:Option Addr) (pc:Nat) (no:Option Addr) (nc:Nat) (eo:Option Addr) (ec:Nat),cs=[.slice lo l.length lc,.int .u64 a,.int .u64 t,.int .u64 k,.bool bp,.int .u64 vp,.bool bm,.int .u64 vm,.bool bg,.int .u64 vg,.int .i32 sc,.int .u64 zc,.bool gp,.int .i32 pb.off,.slice po pb.cs.length pc,strV pu,.bool gn,.int .i32 nb.off,.slice no nb.cs.length nc,strV nu,.slice eo es.length ec,.int .u32 f,.int .u64 th,strV u]/\y7 w P l lo 0/\y2 Zt w P pb.cs po/\y2 Zt w P nb.cs no/\y2 qg w P es eo
def z1a:Cel Xp where
  R:=XpRel
  size:=24
  len:=by rintro w P ⟨⟨l,⟨a,⟨t,⟨k,⟨⟨bp,vp⟩,⟨sc,⟨zc,⟨⟨gp,pb,pu⟩,⟨⟨gn,nb,nu⟩,⟨f,⟨es,⟨⟨bm,vm⟩,⟨⟨bg,vg⟩,th⟩⟩⟩⟩⟩⟩⟩⟩⟩⟩⟩⟩⟩,u⟩ cs ⟨lo,lc,po,pc,no,nc,eo,ec,rfl,_,_,_,_⟩;rfl
  upd:=by rintro w w' S P Q ⟨⟨l,⟨a,⟨t,⟨k,⟨⟨bp,vp⟩,⟨sc,⟨zc,⟨⟨gp,pb,pu⟩,⟨⟨gn,nb,nu⟩,⟨f,⟨es,⟨⟨bm,vm⟩,⟨⟨bg,vg⟩,th⟩⟩⟩⟩⟩⟩⟩⟩⟩⟩⟩⟩⟩,u⟩ cs hu hs hq ⟨lo,lc,po,pc,no,nc,eo,ec,h,h0,h1,h2,h3⟩;exact⟨lo,lc,po,pc,no,nc,eo,ec,h,y7.upd hu hs hq _ _ _ h0,y2.upd hu hs hq h1,y2.upd hu hs hq h2,y2.upd hu hs hq h3⟩
  lt:=by rintro w P ⟨⟨l,⟨a,⟨t,⟨k,⟨⟨bp,vp⟩,⟨sc,⟨zc,⟨⟨gp,pb,pu⟩,⟨⟨gn,nb,nu⟩,⟨f,⟨es,⟨⟨bm,vm⟩,⟨⟨bg,vg⟩,th⟩⟩⟩⟩⟩⟩⟩⟩⟩⟩⟩⟩⟩,u⟩ cs ⟨lo,lc,po,pc,no,nc,eo,ec,h,h0,h1,h2,h3⟩;exact⟨lo,lc,po,pc,no,nc,eo,ec,h,y7.lt _ _ _ h0,y2.lt h1,y2.lt h2,y2.lt h3⟩
def z04:Array Value:=#[.slice none 0 0,.int .u64 0,.int .u64 0,.int .u64 0,.bool false,.int .u64 0,.bool false,.int .u64 0,.bool false,.int .u64 0,.int .i32 0,.int .u64 0,.bool false,.int .i32 0,.slice none 0 0,.string ⟨#[]⟩,.bool false,.int .i32 0,.slice none 0 0,.string ⟨#[]⟩,.slice none 0 0,.int .u32 0,.int .u64 0,.string ⟨#[]⟩]
theorem z9r (w:World)(P:Nat->Prop):z1a.R w P (([],0,0,0,(false,0),0,0,(false,⟨0,[]⟩,[]),(false,⟨0,[]⟩,[]),0,[],(false,0),(false,0),0),[]) [.slice none 0 0,.int .u64 0,.int .u64 0,.int .u64 0,.bool false,.int .u64 0,.bool false,.int .u64 0,.bool false,.int .u64 0,.int .i32 0,.int .u64 0,.bool false,.int .i32 0,.slice none 0 0,.string ⟨#[]⟩,.bool false,.int .i32 0,.slice none 0 0,.string ⟨#[]⟩,.slice none 0 0,.int .u32 0,.int .u64 0,.string ⟨#[]⟩]:=⟨none,0,none,0,none,0,none,0,rfl,(by rw[y7];trivial),y2.nil _ _ _ _,y2.nil _ _ _ _,y2.nil _ _ _ _⟩
theorem xp_zarg:z6a (([],0,0,0,(false,0),0,0,(false,⟨0,[]⟩,[]),(false,⟨0,[]⟩,[]),0,[],(false,0),(false,0),0),[]):=⟨(by rw[qs];trivial),(by rw[Yi];trivial),(by simp),(by omega),(by omega),(by omega),(by omega),(by omega),(by omega),z12,(by simp),(by simp),z12,(by simp),(by simp),(by omega),(fun x hx=>by cases hx),(by simp),(by omega),(by omega),(by omega),(by simp)⟩
end Go.Proofs.YtmlghmjjlpioeaaGreatDoor
