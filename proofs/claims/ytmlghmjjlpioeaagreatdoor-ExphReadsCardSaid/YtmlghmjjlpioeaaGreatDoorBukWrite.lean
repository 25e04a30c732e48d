/-
  exph.UnmarshalBuckets.
-/
import Derived.Test.YtmlghmjjlpioeaaGreatDoorMsgPack
set_option maxRecDepth 1000000
set_option maxHeartbeats 16000000
namespace Go.Proofs.YtmlghmjjlpioeaaGreatDoor
open Go.RowKit
open Lib (hid)
theorem ec_in {w:World}{n:Int}{v:Value}{c:Nat}(h:EC w v c):EC (w.alloc (.cells #[.int .i64 n,v] 141)) (.iface 139 (.pointer (some ⟨w.heap.size,0,none⟩))) c:=by
 obtain⟨ws,h⟩:=h;exact⟨(false,n)::ws,w.heap.size,v,rfl,by simp,heap_alloc_new w _,jf ((Below.refl _ _).alloc (Nat.le_refl _) _) h⟩
structure Bk where
 off:Int
 cs:List Nat
def btk (r:Rec):Bool:=decide (r.num=2/\(r.ty=2∨r.ty=0)∨r.num=1/\r.ty=0)
def x9 (x:Bk)(r:Rec):Except Nat Bk:=if r.num=1 then .ok ⟨zag (r.n%2^32),x.cs⟩else match qz x.cs r with
 | .error c => .error c
 | .ok ys => .ok ⟨x.off,ys⟩
def yx (l:List UInt8)(d:Int):Except Nat (Bk × List UInt8):=zq btk x9 ⟨0,[]⟩ l d
theorem z2p (r:Rec)(w:World):Calls Tryz.prog 51 #[.int .i64 r.num,.int .i64 r.ty] w fun e w'=>e=.returned (.bool (btk r))/\w=w':=by
 obtain⟨g,hg⟩:=nmd (btk r)
 have HG:=hid hg;unfold btk at hg
 rw[hg.symm]at HG
 by_cases h2:r.num=2
 ·have d1:((r.num:Int) == 2)=true:=by rw[beq_iff_eq];omega
  by_cases t2:r.ty=2
  ·have d2:((r.ty:Int) == 2)=true:=by rw[beq_iff_eq];omega
   have hb:Hid (btk r=true):=hid (by unfold btk;simp[h2,t2]);clear hg HG h2 t2;go_enter Tryz.func51,Tryz.ntmps51;go_wp2_with fail;go_ret;exact⟨by rw[hb.out];rfl,rfl⟩
  ·have d2:((r.ty:Int) == 2)=false:=ibf (by omega)
   have hb:Hid (btk r=((r.ty:Int) == 0)):=hid (by
    unfold btk
    by_cases t0:r.ty=0
    ·simp[h2,t0]
    ·have:((r.ty:Int) == 0)=false:=ibf (by omega)
     simp[h2,t2,t0])
   clear hg HG h2 t2;go_enter Tryz.func51,Tryz.ntmps51;go_wp2_with fail;go_ret;exact⟨by rw[hb.out];rfl,rfl⟩
 ·have d1:((r.num:Int) == 2)=false:=ibf (by omega)
  by_cases h1:r.num=1
  ·have d2:((r.num:Int) == 1)=true:=by rw[beq_iff_eq];omega
   have hb:Hid (btk r=((r.ty:Int) == 0)):=hid (by
    unfold btk
    by_cases t0:r.ty=0
    ·simp[h1,t0]
    ·have:((r.ty:Int) == 0)=false:=ibf (by omega)
     simp[h1,t0])
   clear hg HG h2 h1;go_enter Tryz.func51,Tryz.ntmps51;go_wp2_with fail;go_ret;exact⟨by rw[hb.out];rfl,rfl⟩
  ·have d2:((r.num:Int) == 1)=false:=ibf (by omega)
   have hb:Hid (btk r=false):=hid (by unfold btk;simp[h1,h2]);clear hg HG h2 h1;go_enter Tryz.func51,Tryz.ntmps51;go_wp2_with fail;go_ret;exact⟨by rw[hb.out];rfl,rfl⟩
def BukAt (b:Nat)(x:Bk)(P:Nat->Prop)(w:World):Prop:=∃v,w.heap[b]?=some (.cells #[.int .i32 x.off,v,.string ⟨#[]⟩] 29 (0,0))/\w.ownsRow (b+1) 24 1 v x.cs.length (y9 x.cs)/\P=fun k=>k=b∨v.ownBlock=some k
def Kg (b:Nat):j5 Bk where
 rel:=BukAt b
 lt:=by
  rintro x P w ⟨v,h1,h2,rfl⟩ k (rfl|hk)
  ·exact z8 h1
  ·exact(h2.lt k hk).2
 kept:=by
  rintro x P w w' ⟨v,h1,h2,rfl⟩ hu;exact⟨v,(hu.block b (z8 h1) (fun h=>h (.inl rfl))).trans h1,hu.own h2 (fun k hk h=>h (.inr hk)),rfl⟩
theorem z8m {cs:Array Value}{T:TypeId}(b o:Nat)(v:Value)(xs:List Nat)(B:Nat)(r:Rec)(w:World)(hrow:Hid (w.heap[b]?=some (.cells cs T (0,0))))(hcs:cs[o]?=some v)(hown:w.ownsRow B 24 1 v xs.length (y9 xs))(hbB:b<B)(hB:B<=w.heap.size)(hx:xs.length<=1000000)(hs:r.s.length<=1000000) :
  Calls Tryz.prog 66 #[.pointer (some ⟨b,o,none⟩),recV r] w (Qd cs T b o v B xs r w):=by
 have HO:=hid hown;have HC:=hid hcs;have hU:Upd (fun _=>False) w (w.alloc (.cells #[.int .i64 r.num,.int .i64 r.ty,.int .u64 r.n,.string ⟨r.s.toArray⟩,.string ⟨r.raw.toArray⟩] 78)):=Upd.alloc _ _ _;have HU:=hid hU;clear hown hcs hU
 have HF:∀w0,Upd (fun _=>False) w w0->Calls Tryz.prog 106 #[.pointer (some ⟨b,o,none⟩),recV r,.func (.func 107) #[] #[]] w0 (Qd cs T b o v B xs r w0):=by
  intro w0 hu0;have h1:Hid (w0.heap[b]?=some (.cells cs T (0,0))):=hid ((hu0.block b (z8 hrow.out) (fun h=>h)).trans hrow.out);have h2:=hu0.own HO.out (fun _ _ h=>h);have h3:=hu0.size
  by_cases hty:r.ty=2
  ·exact zdx b o v xs B r w0 h1 HC.out h2 hbB (by omega) hx hty hs
  ·exact zfn b o v xs B r _ w0 h1 HC.out h2 hbB (by omega) hx hty
 have HFF:=hid HF;clear HF;unfold recV;go_enter Tryz.func66,Tryz.ntmps66;go_wp2_with fail;refine(HFF.out _ HU.out).mono ?_;intro e w1 hpost;obtain⟨hu,hcase⟩:=hpost;have HUU:=hid ((HU.out.mono fun _ _ h=>h.elim).trans hu);have HS:=hid HU.out.size
 cases hp:qz xs r with
 | error c =>
  rw[hp]at hcase;obtain⟨x,rfl,hec⟩:=hcase;obtain⟨T',y,rfl⟩:=hec.iface;have HEC:=hid hec;have HP:=hid hp;clear hec hp hu;go_wp2_with fail;go_ret;refine⟨HUU.out,?_⟩;rw[HP.out];exact⟨_,rfl,HEC.out⟩
 | ok ys =>
  rw[hp]at hcase;obtain⟨rfl,v',h1,h2,h3⟩:=hcase;have H1:=hid h1;have H2:=hid h2;have H3:=hid h3;have HP:=hid hp;clear h1 h2 h3 hp hu;go_wp2_with fail;go_ret;refine⟨HUU.out,?_⟩;rw[HP.out];refine⟨rfl,v',H1.out,H2.out,fun k hk=>?_⟩
  rcases H3.out k hk with h|h
  ·exact .inl h
  ·exact .inr (Nat.le_trans HS.out h)
theorem z4r:∀(n:Nat) {l:List UInt8} {ns:List Nat},l.length<=n->xj l=.ok ns->ns.length<=l.length/\∀x∈ns,x<2^64
 | 0,l,ns,hn,h=>by
  have:l=[]:=List.length_eq_zero_iff.1 (by omega);subst this;rw[z0m]at h
  simp only[Except.ok.injEq]at h
  subst h
  simp
 | n + 1,l,ns,hn,h=>by
  by_cases h0:l=[]
  ·subst h0
   rw[z0m]at h
   simp only[Except.ok.injEq]at h
   subst h
   simp
  ·cases hv:wv l with
   | error c=>rw[z7h h0 hv]at h;cases h
   | ok x =>
    obtain⟨m,j⟩:=x;have hb:=yi hv;rw[Kj hv]at h
    cases hw:xj (l.drop j)with
    | error c=>rw[hw]at h;cases h
    | ok ms =>
     rw[hw]at h
     simp only[Except.ok.injEq]at h
     subst h;have ih:=z4r n (by simp;omega) hw;rw[List.length_drop]at ih;refine⟨by rw[List.length_cons];omega,fun x hx=>?_⟩
     rcases List.mem_cons.1 hx with rfl|hx
     ·exact hb.2.2.2
     ·exact ih.2 x hx
theorem zbq {d:Int}{xs ys:List Nat}{r:Rec}(hr:zt d r)(h:qz xs r=.ok ys):ys.length<=xs.length+r.raw.length/\((∀x∈xs,x<2^64)->∀y∈ys,y<2^64):=by
 have hf:=qj hr;unfold qz at h
 split at h
 ·simp only[Except.ok.injEq]at h
  subst h;refine⟨by simp;omega,fun hx y hy=>?_⟩
  rcases List.mem_append.1 hy with hy|hy
  ·exact hx y hy
  ·rw[List.mem_singleton]at hy;rw[hy];exact hf.1
 ·cases hw:xj r.s with
  | error c=>rw[hw]at h;cases h
  | ok ns =>
   rw[hw]at h
   simp only[Except.ok.injEq]at h
   subst h;have:=z4r _ (Nat.le_refl _) hw;refine⟨by rw[List.length_append];omega,fun hx y hy=>?_⟩
   rcases List.mem_append.1 hy with hy|hy
   ·exact hx y hy
   ·exact this.2 y hy
structure BkOk (x:Bk):Prop where
 lo : -2147483648<=x.off
 hi:x.off<=2147483647
 each:∀n∈x.cs,n<2^64
theorem z4n {n:Nat}(h:n<4294967296) : -2147483648<=zag n/\zag n<=2147483647:=by
 unfold zag
 split<;>omega
theorem Xd {d:Int}:∀(rs:List Rec) {x y:Bk},(∀r∈rs,zt d r)->zg btk x9 x rs=.ok y->y.cs.length<=x.cs.length+(rs.flatMap Rec.raw).length/\(BkOk x->BkOk y)
 | [],x,y,_,h=>by
  simp only[zg,Except.ok.injEq]at h
  subst h;exact⟨by simp,id⟩
 | r :: rs,x,y,hr,h=>by
  rw[zg]at h;rw[List.flatMap_cons,List.length_append];have hr0:=hr r (List.mem_cons_self ..);have hrs:=fun z hz=>hr z (List.mem_cons_of_mem _ hz)
  split at h
  ·cases hs:x9 x r with
   | error c=>rw[hs]at h;cases h
   | ok z =>
    rw[hs]at h;have ih:=Xd rs hrs h;unfold x9 at hs
    split at hs
    ·simp only[Except.ok.injEq]at hs
     subst hs;refine⟨by have:=ih.1;dsimp only at this;omega,fun hx=>ih.2 ⟨?_,?_,hx.each⟩⟩
     ·exact(z4n (Nat.mod_lt _ (by decide))).1
     ·exact(z4n (Nat.mod_lt _ (by decide))).2
    ·cases hp:qz x.cs r with
     | error c=>rw[hp]at hs;cases hs
     | ok ys =>
      rw[hp]at hs
      simp only[Except.ok.injEq]at hs
      subst hs;have hpl:=zbq hr0 hp;refine⟨by have:=ih.1;dsimp only at this;omega,fun hx=>ih.2 ⟨hx.lo,hx.hi,hpl.2 hx.each⟩⟩
  ·have ih:=Xd rs hrs h
   exact⟨by omega,ih.2⟩
theorem zd4 (b:Nat)(r:Rec)(x:Bk)(P:Nat->Prop)(w:World)(d:Int)(hr:zt d r)(hlen:x.cs.length+r.raw.length<=1000000)(h:Hid (BukAt b x P w)) :
  Calls Tryz.prog 65 #[recV r,.pointer (some ⟨b,0,none⟩)] w (xx (Kg b) x9 x P r w):=by
 obtain⟨v,h1,h2,rfl⟩:=h.out;obtain⟨ao,cap,rfl⟩:=zh h2;have H1:=hid h1;have H2:=hid h2;have hbw:=z8 h1;have hrf:=qj hr;clear h1 h2;obtain⟨W0,hW0⟩:=nmd (w.alloc (.cells #[.int .i64 r.num,.int .i64 r.ty,.int .u64 r.n,.string ⟨r.s.toArray⟩,.string ⟨r.raw.toArray⟩] 78))
 have HU0:Hid (Upd (fun _=>False) w W0):=hid (by rw[<-hW0];exact Upd.alloc _ _ _);have HW0:=hid hW0;have H10:Hid (W0.heap[b]?=some (.cells #[.int .i32 x.off,.slice ao x.cs.length cap,.string ⟨#[]⟩] 29 (0,0))):=hid ((HU0.out.block b hbw (fun h=>h)).trans H1.out);have H20:Hid (W0.ownsRow (b+1) 24 1 (.slice ao x.cs.length cap) x.cs.length (y9 x.cs)):=hid (HU0.out.own H2.out (fun _ _ h=>h))
 by_cases hn:r.num=1
 ·have d1:((r.num:Int) == 1)=true:=by rw[beq_iff_eq];omega
  have HB:Hid (x9 x r=.ok ⟨zag (r.n%2^32),x.cs⟩):=hid (if_pos hn);have HN:=hid hrf.1;obtain⟨z,hz⟩:=nmd (zag (r.n%2^32))
  rw[hz]at HB;have HZ:=hid hz;clear hW0 hn hrf hz;unfold recV;go_enter Tryz.func65,Tryz.ntmps65;go_wp2_with fail;rw[HW0.out];refine(z5h r.n _ HN).mono ?_;rintro e w' ⟨rfl,rfl⟩;rw[HZ.out];have hc0:=rc0 H10.out;have hfz:=z7 H10.out 0;go_wp2_with fail;go_ret;have hus:=Upd.set W0 ⟨b,0,none⟩ (.int .i32 z);refine⟨(HU0.out.mono fun _ _ h=>h.elim).trans (hus.mono fun k _ h => .inl h),?_⟩;rw[HB.out];refine⟨rfl,_,⟨.slice ao x.cs.length cap,ze H10.out 0 _,hus.own H20.out (fun k hk e=>by have e:k=b:=e;have:=(H20.out.lt k hk).1;omega),rfl⟩,fun k hk => .inl hk⟩
 ·have d1:((r.num:Int) == 1)=false:=ibf (by omega)
  have HB:Hid (x9 x r=match qz x.cs r with | .error c => .error c | .ok ys => .ok ⟨x.off,ys⟩):=hid (if_neg hn);have hr0:W0.cell? ⟨w.heap.size,0,none⟩=some (.int .i64 r.num):=by rw[<-hW0];exact za (heap_alloc_new w _) (j:=0) rfl
  have hr1:W0.cell? ⟨w.heap.size,1,none⟩=some (.int .i64 r.ty):=by rw[<-hW0];exact za (heap_alloc_new w _) (j:=1) rfl
  have hr2:W0.cell? ⟨w.heap.size,2,none⟩=some (.int .u64 r.n):=by rw[<-hW0];exact za (heap_alloc_new w _) (j:=2) rfl
  have hr3:W0.cell? ⟨w.heap.size,3,none⟩=some (.string ⟨r.s.toArray⟩):=by rw[<-hW0];exact za (heap_alloc_new w _) (j:=3) rfl
  have hr4:W0.cell? ⟨w.heap.size,4,none⟩=some (.string ⟨r.raw.toArray⟩):=by rw[<-hW0];exact za (heap_alloc_new w _) (j:=4) rfl
  have HP:=hid (z8m (cs:=#[.int .i32 x.off,.slice ao x.cs.length cap,.string ⟨#[]⟩]) (T:=29) b 1 (.slice ao x.cs.length cap) x.cs (b+1) r W0 H10 rfl H20.out (by omega) (by have:=HU0.out.size;omega) (by omega) (by omega));clear hW0 hn hrf;unfold recV at HP ⊢
  go_enter Tryz.func65,Tryz.ntmps65;go_wp2_with fail;rw[HW0.out];go_wp2_with fail;refine HP.out.mono ?_;intro e w1 hpost;obtain⟨hu,hcase⟩:=hpost;have HUU:=hid ((HU0.out.mono fun _ _ h=>h.elim).trans hu);have HS0:=hid HU0.out.size
  cases hp:qz x.cs r with
  | error c =>
   rw[hp]at hcase;obtain⟨y,rfl,hec⟩:=hcase;obtain⟨T',y,rfl⟩:=hec.iface;have HEC:=hid hec;have HB2:Hid (x9 x r=.error c):=hid (by rw[HB.out,hp]);clear hec hp hu;go_wp2_with fail;refine(Zs _ _ _ _).mono ?_;rintro e w' ⟨rfl,rfl⟩;go_wp2_with fail;go_ret;refine⟨HUU.out.trans (Upd.alloc _ _ _),?_⟩;rw[HB2.out];exact⟨_,rfl,ec_in HEC.out⟩
  | ok ys =>
   rw[hp]at hcase;obtain⟨rfl,v',h1,h2,h3⟩:=hcase;have H1':=hid h1;have H2':=hid h2;have H3:=hid h3;have HB2:Hid (x9 x r=.ok ⟨x.off,ys⟩):=hid (by rw[HB.out,hp]);clear h1 h2 h3 hp hu;go_wp2_with fail;refine(Xe _ _).mono ?_;rintro e w' ⟨rfl,rfl⟩;go_wp2_with fail;go_ret;refine⟨HUU.out,?_⟩;rw[HB2.out];refine⟨rfl,_,⟨v',H1'.out,H2'.out,rfl⟩,fun k hk=>?_⟩
   rcases hk with hk|hk
   ·exact .inl (.inl hk)
   ·rcases H3.out k hk with h|h
    ·exact .inl (.inr h)
    ·exact .inr (Nat.le_trans HS0.out h)
theorem Xm {w:World}{base b':Nat}{e:TypeId}{size:Nat}{v:Value}{n:Nat}{xs:List Value}(h:w.ownsRow base e size v n xs)(hb:b'<=base):w.ownsRow b' e size v n xs:=by
 obtain⟨h1,h2⟩:=h;refine⟨h1,h2.imp id ?_⟩;rintro⟨g,cap,cur,a,b,c⟩;exact⟨g,cap,cur,a,Nat.le_trans hb b,c⟩
theorem j2 {w:World}{g:Nat}{a b c:Value}{T:TypeId}(h:w.heap[g]?=some (.cells #[a,b,c] T (0,0)))(x y z:Value):(((w.setCell ⟨g,0,none⟩ x).setCell ⟨g,1,none⟩ y).setCell ⟨g,2,none⟩ z).heap[g]?=some (.cells #[x,y,z] T (0,0)) :=
 ze (ze (ze h 0 x) 1 y) 2 z
theorem km (w:World)(g:Nat)(x y z:Value):Upd (fun k=>k=g) w (((w.setCell ⟨g,0,none⟩ x).setCell ⟨g,1,none⟩ y).setCell ⟨g,2,none⟩ z) :=
 ((Upd.set w ⟨g,0,none⟩ x).trans (Upd.set _ ⟨g,1,none⟩ y)).trans (Upd.set _ ⟨g,2,none⟩ z)
theorem Yb (w:World)(a b:Obj):((w.alloc a).alloc b).heap[w.heap.size+1]?=some b:=by
 have:=heap_alloc_new (w.alloc a) b
 rwa [show(w.alloc a).heap.size=w.heap.size+1 by simp]at this
theorem kv {P:Program} {fn:Func} {R:Ending->World->Prop} {a:Act} {w:World} {p u:Tmp} {ty:TypeId} {g:Nat} {cs:Array Value}
  (h:fn.results=#[.cell p ty,.tmp u]) (hp:a.tmps.getD p undef=.pointer (some ⟨g,0,none⟩)) (hl:(loadVar ty ⟨g,0,none⟩).run P w=.ok (.agg cs) w) (hdf:a.defers=[])
  (hR:R (.returned (.tuple #[.agg cs,a.tmps.getD u undef])) w):bodyPost P fn R .ret a w:=by
 refine bodyPost_ret ?_ hdf hR;have hp':a.tmps[p]?.getD undef=.pointer (some ⟨g,0,none⟩):=by simpa using hp
 have hr:(asAddr (a.tmps[p]?.getD undef)).run P w=.ok ⟨g,0,none⟩ w:=by rw[hp'];rfl
 simp[results,h,Sem.run_bind,Result.andThen,hr,hl]
theorem jj {w:World}{g:Nat}{cs:Array Value}(hg:w.heap[g]?=some (.cells cs 29 (0,0)))(hc:cs.size=3):(loadVar 29 ⟨g,0,none⟩).run Tryz.prog w=.ok (.agg cs) w :=
 run_loadVar_row w g 29 29 cs (0,0) _ hg Tryz.underlying29 rfl (by rw[hc];kernel_rfl)
def bukV (x:Bk)(v:Value)(u:List UInt8):Value := .agg #[.int .i32 x.off,v,.string ⟨u.toArray⟩]
def UBPost (s:ByteArray)(d:Int)(w:World)(e:Ending)(w':World):Prop :=
 Below w.heap.size w w'/\match yx s.data.toList d with
  | .error c=>∃v q,e=.returned (.tuple #[bukV ⟨0,[]⟩ (.slice none 0 0) [],v])/\q<=s.size/\EW w' v q c
  | .ok (x,u)=>∃v,e=.returned (.tuple #[bukV x v u,.nilIface])/\w'.ownsRow w.heap.size 24 1 v x.cs.length (y9 x.cs)
theorem z5w (s:ByteArray)(d:Int)(w:World)(hs:s.size<=1000000) :
  Calls Tryz.prog 21 #[.string s,.int .i64 d] w (UBPost s d w):=by
 have HK:=hid (fun (b:Nat) (r:Rec) (st:Bk) (P:Nat->Prop) (w:World) (_:btk r=true) (hr:zt d r) (_:r.raw.length<=s.size) (_:∀rs,wall s.data.toList d=.ok rs->r∈rs) (hpre:∃pre:List Rec,(∀x∈pre,zt d x)/\zg btk x9 ⟨0,[]⟩ pre=.ok st/\(pre.flatMap Rec.raw).length+r.raw.length<=s.size) (h:(Kg b).rel st P w)=>zd4 b r st P w d hr (by
  obtain⟨pre,h1,h2,h3⟩:=hpre;have:=(Xd pre h1 h2).1;dsimp only[List.length_nil]at this;omega) (hid h))
 have HET:∀args w,(callFunc 51 args).run Tryz.prog w=.ok (.enter 51 args) w:=enters_of Tryz.func51 (by kernel_rfl) rfl;have HEK:∀args w,(callFunc 65 args).run Tryz.prog w=.ok (.enter 65 args) w:=enters_of Tryz.func65 (by kernel_rfl) rfl;have HE1:=hid HET;have HE2:=hid HEK;clear HET HEK;obtain⟨g,hg⟩:=nmd (w.heap.size)
 obtain⟨W0,hW0⟩:=nmd ((w.alloc (.cells #[.int .i32 0,.slice none 0 0,.string ⟨#[]⟩] 29)).alloc (.cells #[.int .i32 0,.slice none 0 0,.string ⟨#[]⟩] 29))
 have HB0:Hid (Below w.heap.size w W0):=hid (by rw[<-hW0];exact zb (zd _ _) (zd _ _));have HR0:Hid (W0.heap[g]?=some (.cells #[.int .i32 0,.slice none 0 0,.string ⟨#[]⟩] 29 (0,0))):=hid (by rw[<-hW0,<-hg];exact(Below.heap_alloc _ _ _ (by simp)).trans (heap_alloc_new w _));have HX0:Hid (W0.heap[g+1]?=some (.cells #[.int .i32 0,.slice none 0 0,.string ⟨#[]⟩] 29 (0,0))):=hid (by rw[<-hW0,<-hg];exact Yb _ _ _);have HTK:Hid ((Kg (g+1)).rel ⟨0,[]⟩ (fun k=>k=g+1∨(Value.slice none 0 0).ownBlock=some k) W0):=hid ⟨_,HX0.out,World.ownsRow_nil _ _ _ _,rfl⟩;have HW0:=hid hW0;have HGG:=hid hg;clear hW0;go_enter Tryz.func21,Tryz.ntmps21;go_wp2_with fail;rw[HW0.out];refine(kn (Kg (g+1)) btk x9 51 65 #[.pointer (some ⟨g+1,0,none⟩)] ⟨0,[]⟩ s d W0 hs HE1.out HE2.out (fun r w _=>z2p r w) (HK.out (g+1)) _ HTK.out).mono ?_;intro e w1 hpost;obtain⟨hu,hcase⟩:=hpost
 have hu1:Upd (fun k=>k=g+1) W0 w1:=hu.mono (fun k _ h=>by
  rcases h with h|h
  ·exact h
  ·simp[Value.ownBlock]at h)
 have HR1:Hid (w1.heap[g]?=some (.cells #[.int .i32 0,.slice none 0 0,.string ⟨#[]⟩] 29 (0,0))):=hid ((hu1.block g (z8 HR0.out) (by omega)).trans HR0.out);have hfz:=z7 HR1.out 0;have hfz1:=z7 HR1.out 1;have hfz2:=z7 HR1.out 2;have hc0:=rc0 HR1.out;have hc1:=rc1 HR1.out;have hc2:=rc2 HR1.out;have HB1:Hid (Below g w w1):=hid ((HGG.out ▸ HB0.out).trans (hu1.below (by have:=HB0.out.size;omega) (fun k _ h=>by omega)))
 cases hb:zq btk x9 ⟨0,[]⟩ s.data.toList d with
 | error c =>
  rw[hb]at hcase;obtain⟨v,q,rfl,hq,hew⟩:=hcase;obtain⟨T',y,rfl⟩:=hew.iface;have HBR:Hid (yx s.data.toList d=.error c):=hid hb;have HEW:=hid hew;clear hb hew hu hu1;go_wp2_with fail;have hu3:=km w1 g (.int .i32 0) (.slice none 0 0) (.string ⟨#[]⟩);refine kv rfl rfl (jj (j2 HR1.out _ _ _) rfl) rfl ?_;refine⟨HGG.out ▸ HB1.out.trans (hu3.below (by have:=z8 HR1.out;omega) (fun k _ h=>by omega)),?_⟩;rw[HBR.out];obtain⟨ws,he⟩:=HEW.out;exact⟨_,q,rfl,hq,ws,x8 hu3 (fun k hk b n e h=>by subst hk;rw[HR1.out]at h;simp at h) he⟩
 | ok xu =>
  obtain⟨x,u⟩:=xu;rw[hb]at hcase;obtain⟨rfl,P',⟨v,h1,h2,rfl⟩,hp⟩:=hcase;have HBR:Hid (yx s.data.toList d=.ok (x,u)):=hid hb;have HX1:=hid h1;have HO1:=hid h2;have hx0:=rc0 h1;have hx1:=rc1 h1;have hx2:=rc2 h1;have hxf:=z7 h1 2;obtain⟨vo,vc,rfl⟩:=zh h2;clear hb h1 h2 hp hu hu1;go_wp2_with fail;have hu0:=Upd.set w1 ⟨g+1,2,none⟩ (.string ⟨u.toArray⟩);have hr0:(w1.setCell ⟨g+1,2,none⟩ (.string ⟨u.toArray⟩)).heap[g]?=some (.cells #[.int .i32 0,.slice none 0 0,.string ⟨#[]⟩] 29 (0,0)):=(hu0.block g (z8 HR1.out) (fun e=>by have e:g=g+1:=e;omega)).trans HR1.out;have hu3:=km (w1.setCell ⟨g+1,2,none⟩ (.string ⟨u.toArray⟩)) g (.int .i32 x.off) (.slice vo x.cs.length vc) (.string ⟨u.toArray⟩);refine kv rfl rfl (jj (j2 hr0 _ _ _) rfl) rfl ?_;refine⟨HGG.out ▸ (HB1.out.trans (hu0.below (by have:=z8 HR1.out;omega) (fun k _ h=>by have h:k=g+1:=h;omega))).trans (hu3.below (by have:=z8 hr0;omega) (fun k _ h=>by omega)),?_⟩;rw[HBR.out];have h9:=hu3.own (hu0.own HO1.out (fun k hk e=>by have e:k=g+1:=e;have:=(HO1.out.lt k hk).1;omega)) (fun k hk e=>by have:=(HO1.out.lt k hk).1;omega);exact⟨_,rfl,Xm h9 (by rw[HGG.out];omega)⟩
def bmay (u:List UInt8)(d:Int):Bool:=decide (0<=d)&&zp btk u d
def z3j (x:Bk):List (List UInt8):=Qu 1 (zig x.off).toNat++Z5 2 (x.cs.flatMap vput)
def bput (x:Bk)(u:List UInt8):List UInt8:=(z3j x++[u]).flatten
def MBPost (x:Bk)(u:List UInt8)(d:Int)(w:World)(e:Ending)(w':World):Prop :=
 Below w.heap.size w w'/\((bmay u d=true/\e=.returned (.tuple #[.string ⟨(bput x u).toArray⟩,.nilIface]))∨(bmay u d=false/\∃v,e=.returned (.tuple #[.string ⟨#[]⟩,v])/\EC w' v 8))
theorem za0 {n:Int}(h1:-2147483648<=n)(h2:n<=2147483647):zig n=((zig n).toNat:Int)/\(zig n).toNat<4294967296:=by
 unfold zig
 split<;>omega
theorem mb_any (x:Bk)(u:List UInt8)(ao:Option Addr)(cap:Nat)(X:ByteArray)(d:Int)(w:World)(hx:Hid (BkOk x))(hN:Hid (Nats .u64 w ao x.cs))(hl:x.cs.length<=100000)(hu:u.length<=1000000)(hX:Hid (X=⟨u.toArray⟩)) :
  Calls Tryz.prog 14 #[.agg #[.int .i32 x.off,.slice ao x.cs.length cap,.string X],.int .i64 d] w (MBPost x u d w):=by
 have hlo:=hx.out.lo;have hhi:=hx.out.hi;have HET:=hid (enters_of Tryz.func51 (by kernel_rfl) rfl);obtain⟨z,hz⟩:=nmd ((zig x.off).toNat)
 have hzz:=za0 hlo hhi;rw[hz]at hzz;have HZ:Hid (zig x.off=(z:Int)):=hid hzz.1;have hz9:z<18446744073709551616:=by have:=hzz.2;omega
 have HZN:=hid hz;obtain⟨T,hT⟩:=nmd (x.cs.flatMap vput)
 have hTl:T.length<=1000000:=by rw[<-hT];have:=z21 x.cs;omega
 have HT:=hid hT;have hvz:=(zu z).2;have htz:=Y5 ((1:Nat):Int) 0;have htz1:=Y5 1 0
 have hp1:(Qu 1 z).length<=1/\(Qu 1 z).flatten.length<=20:=by
  by_cases h:z=0
  ·rw[h,z92];simp
  ·rw[z8r h];refine⟨by simp,?_⟩
   simp only[List.flatten_cons,List.flatten_nil,List.append_nil]
   unfold wrec;split<;>simp<;>omega
 have htb:=Y5 ((2:Nat):Int) 2;have htb1:=Y5 2 2
 have hp2:(Z5 2 T).length<=1/\(Z5 2 T).flatten.length<=1000020:=by
  unfold Z5
  split
  ·simp
  ·refine⟨by simp,?_⟩
   have:=(zu T.length).2
   simp only[List.flatten_cons,List.flatten_nil,List.append_nil]
   unfold wrec;split<;>simp<;>omega
 have HP1:=hid hp1;have HP2:=hid hp2;obtain⟨g,hgg⟩:=nmd (zp btk u d)
 have HG:=hid hgg;clear hz hzz hT hvz htz htb htz1 htb1 hp1 hp2 hgg;obtain⟨W0,hW0⟩:=nmd (w.alloc (.cells #[.int .i32 x.off,.slice ao x.cs.length cap,.string X] 29))
 have HBW0:Hid (Below w.heap.size w W0):=hid (by rw[<-hW0];exact zd _ _);have HRX:Hid (W0.heap[w.heap.size]?=some (.cells #[.int .i32 x.off,.slice ao x.cs.length cap,.string X] 29 (0,0))):=hid (by rw[<-hW0];exact heap_alloc_new w _);have HW0:=hid hW0;clear hW0;go_enter Tryz.func14,Tryz.ntmps14;go_wp2_with fail;rw[HW0.out];refine(zco d W0).mono ?_;rintro e w1 ⟨rfl,hb1,P1,hw1,hp1⟩;obtain⟨p,hp⟩:=nmd (W0.heap.size)
 have hpp:w.heap.size<p:=by rw[<-hp];exact z8 HRX.out
 rw[hp]at hw1 hb1 ⊢;have HPE:=hid hp;have HB1:Hid (Below p W0 w1):=hid hb1;have HR1:Hid (w1.heap[w.heap.size]?=some (.cells #[.int .i32 x.off,.slice ao x.cs.length cap,.string X] 29 (0,0))):=hid ((hb1.block _ hpp).trans HRX.out);have HW1:=hid hw1;have HL1:Hid (∀k,P1 k->p<=k):=hid (fun k hk=>by have:=hp1 k hk;omega);have hx0:=rc0 HR1.out;clear hb1 hw1 hp1 hp;obtain⟨b0,hb0⟩:=nmd (decide (d<0))
 rw[hb0]at HW1;have HB0:=hid hb0;clear hb0;go_wp2_with fail;refine(zbx x.off _ hlo hhi).mono ?_;rintro e w' ⟨rfl,rfl⟩;rw[HZ.out];go_wp2_with fail;refine(zf7 p d (.slice none 0 0) [] b0 P1 1 z _ HW1 hz9 (by omega) (by omega) (by simp) (by simp)).mono ?_;intro e w2 hpost;obtain⟨rfl,hu2,P2,hw2,hp2⟩:=hpost;have HW2:=hid hw2
 have HL2:Hid (∀k,P2 k->p<=k):=hid (fun k hk=>by
  rcases hp2 k hk with h|h
  ·exact HL1.out k h
  ·have:=(z32 HW1.out p (by obtain⟨_,_,_,_,_,rfl⟩:=HW1.out;exact .inl rfl)).2;omega)
 have HBB2:Hid (Below p W0 w2):=hid (HB1.out.trans (hu2.below (by have:=(z32 HW1.out p (by obtain⟨_,_,_,_,_,rfl⟩:=HW1.out;exact .inl rfl)).2;omega) (fun k _ h=>HL1.out k h)));have HR2:Hid (w2.heap[w.heap.size]?=some (.cells #[.int .i32 x.off,.slice ao x.cs.length cap,.string X] 29 (0,0))):=hid ((HBB2.out.block _ hpp).trans HRX.out);have hx1:=rc1 HR2.out;have HN2:Hid (Nats .u64 w2 ao x.cs):=hid (hN.out.below (HBW0.out.trans (HBB2.out.mono (Nat.le_of_lt hpp))));obtain⟨q2,hq2⟩:=nmd (wps b0 [] (Qu 1 z))
 have hq2l:q2.length<=1/\q2.flatten.length<=20:=by
  rw[<-hq2]
  cases b0 with
  | true=>simp[wps]
  | false=>simpa [wps] using HP1.out
 have HQ2:=hid hq2;rw[hq2]at HW2;have hq2a:=hq2l.1;have hq2b:=hq2l.2;clear hu2 hw2 hp2 hx0 hq2 hq2l;go_wp2_with fail;refine(zcp p d (.slice none 0 0) q2 b0 P2 2 ao cap x.cs _ HW2 HN2 (hid hx.out.each) (by omega) hl (by omega) (by omega) HT).mono ?_;intro e w3 hpost;obtain⟨rfl,hu3,P3,hw3,hp3⟩:=hpost;have hpw2:p<w2.heap.size:=(z32 HW2.out p (by obtain⟨_,_,_,_,_,rfl⟩:=HW2.out;exact .inl rfl)).2;have HW3:=hid hw3
 have HL3:Hid (∀k,P3 k->p<=k):=hid (fun k hk=>by
  rcases hp3 k hk with h|h
  ·exact HL2.out k h
  ·omega)
 have HBB3:Hid (Below p W0 w3):=hid (HBB2.out.trans (hu3.below (by omega) (fun k _ h=>HL2.out k h)));have HR3:Hid (w3.heap[w.heap.size]?=some (.cells #[.int .i32 x.off,.slice ao x.cs.length cap,.string X] 29 (0,0))):=hid ((HBB3.out.block _ hpp).trans HRX.out);have hx2:=rc2 HR3.out;obtain⟨q3,hq3⟩:=nmd (wps b0 q2 (Z5 2 T))
 have hq3l:q3.length<=2/\q3.flatten.length<=1000040:=by
  rw[<-hq3];have h8:=HP2.out
  cases b0 with
  | true=>simp only[wps];omega
  | false=>simp only[wps,List.length_append,List.flatten_append];omega
 have HQ3:=hid hq3;rw[hq3]at HW3;have hq3a:=hq3l.1;have hq3b:=hq3l.2;clear hu3 hw3 hp3 hx1 hq3 hq3l hpw2;go_wp2_with fail;refine(zdr p d (.slice none 0 0) q3 b0 P3 X u btk 51 _ HW3 hX hu (by omega) (by omega) HET.out z2p HG).mono ?_;intro e w4 hpost;obtain⟨rfl,hu4,P4,hw4,hp4⟩:=hpost;have hpw3:p<w3.heap.size:=(z32 HW3.out p (by obtain⟨_,_,_,_,_,rfl⟩:=HW3.out;exact .inl rfl)).2;have HW4:=hid hw4;have HBB4:Hid (Below p W0 w4):=hid (HBB3.out.trans (hu4.below (by omega) (fun k _ h=>HL3.out k h)));obtain⟨b4,hb4⟩:=nmd ((b0||!g))
 rw[hb4]at HW4;obtain⟨q4,hq4⟩:=nmd (wps b4 q3 [u])
 have hq4l:q4.length<=3/\q4.flatten.length<=2000040:=by
  rw[<-hq4]
  cases b4 with
  | true=>simp only[wps];omega
  | false=>simp only[wps,List.length_append,List.flatten_append,List.flatten_cons,List.flatten_nil,List.length_cons,List.length_nil];omega
 have HQ4:=hid hq4;rw[hq4]at HW4;have HB4:=hid hb4;have hq4a:=hq4l.1;have hq4b:=hq4l.2;clear hu4 hw4 hp4 hx2 hb4 hq4 hq4l hpw3;go_wp2_with fail;refine(zeu p d (.slice none 0 0) q4 b4 P4 _ HW4 (by omega) (by omega)).mono ?_;rintro e w5 ⟨hb5,hcase⟩;have hpw4:p<w4.heap.size:=(z32 HW4.out p (by obtain⟨_,_,_,_,_,rfl⟩:=HW4.out;exact .inl rfl)).2;have HB5:Hid (Below w.heap.size w w5):=hid ((HBW0.out.trans (HBB4.out.mono (Nat.le_of_lt hpp))).trans (hb5.mono (by omega)))
 have HMAY:Hid (bmay u d=!b4):=hid (by
  unfold bmay;rw[HG.out,<-HB4.out,<-HB0.out]
  by_cases hd:d<0
  ·rw[decide_eq_true hd,decide_eq_false (by omega)];rfl
  ·rw[decide_eq_false hd,decide_eq_true (by omega)];cases g<;>rfl)
 cases b4 with
 | true =>
  obtain⟨v,rfl,hec⟩:∃v,e=.returned (.tuple #[.string ⟨#[]⟩,v])/\EC w5 v 8:=hcase;obtain⟨T',y,rfl⟩:=hec.iface;have HEC:=hid hec;clear hec hb5 hpw4;go_wp2_with fail
  go_ret2
  exact⟨HB5.out,.inr ⟨by rw[HMAY.out];rfl,_,rfl,HEC.out⟩⟩
 | false =>
  obtain rfl:e=.returned (.tuple #[.string ⟨q4.flatten.toArray⟩,.nilIface]):=hcase
  have hbg:b0=false/\g=true:=by
   have:=HB4.out
   cases b0<;>cases g<;>simp at this ⊢
  have HBP:Hid (q4.flatten=bput x u):=hid (by
   unfold bput z3j;rw[<-HQ4.out,<-HQ3.out,<-HQ2.out,hbg.1,HZN.out,HT.out]
   simp[wps])
  clear hb5 hpw4 hbg;go_wp2_with fail
  go_ret2
  exact⟨HB5.out,.inl ⟨by rw[HMAY.out];rfl,by rw[HBP.out];rfl⟩⟩
end Go.Proofs.YtmlghmjjlpioeaaGreatDoor
