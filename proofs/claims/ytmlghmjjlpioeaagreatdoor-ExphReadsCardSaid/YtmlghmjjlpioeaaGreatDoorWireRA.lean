/-
  hygref2.GetVarint, with every answer that it can give.
-/
import Derived.Test.YtmlghmjjlpioeaaGreatDoorMsgMath
set_option maxRecDepth 1000000
set_option maxHeartbeats 16000000
namespace Go.Proofs.YtmlghmjjlpioeaaGreatDoor
open Go.RowKit
open Lib (hid)
def z1d (r:Except Nat (Nat × Nat))(w:World)(e:Ending)(w':World):Prop :=
 w=w'/\e=.returned (match r with
 | .ok (n,q) => .tuple #[.int .u64 n,.int .i64 q,.int .i64 0]
 | .error c => .tuple #[.int .u64 0,.int .i64 0,.int .i64 c])
theorem Zr {r:Except Nat (Nat × Nat)}{c:Nat}(h:r=.error c){w:World}{c':Int}(hc:c'=c) :
  z1d r w (.returned (.tuple #[.int .u64 0,.int .i64 0,.int .i64 c'])) w:=by
 subst h;subst hc;exact⟨rfl,rfl⟩
theorem z3s {r:Except Nat (Nat × Nat)}{n q:Nat}(h:r=.ok (n,q)){w:World}{n' q':Int}(hn:n'=n)(hq:q'=q) :
  z1d r w (.returned (.tuple #[.int .u64 n',.int .i64 q',.int .i64 0])) w:=by
 subst h;subst hn;subst hq;exact⟨rfl,rfl⟩
theorem zdv (s:ByteArray)(p:Nat)(w:World)(hs:s.size<=4611686018427387904)(hp:p<=s.size) :
  Calls Tryz.prog 112 #[.string s,.int .i64 p] w (z1d (vget s.data.toList p) w):=by
 have hlen:s.data.toList.length=s.size:=by simp
 have HL:=hid hlen;have hpl:=hid (show p<=s.data.toList.length by omega);clear hlen;have hst:=z4m s.data.toList p (by have:=HL.out;omega);have hd1:decide (s.size<p)=false:=by simp;omega
 have hd2:decide ((p:Int)<0)=false:=by simp
 go_enter Tryz.func112,Tryz.ntmps112
 go_wp2
 go_loop [7,8] (fun n i=>∃(k m:Nat),n=.int .u64 m/\i=.int .i64 k/\Z2 s.data.toList p k m) (fun _ i=>12-(intOf i).toNat)
 case atStart=>exact⟨0,0,rfl,rfl,hst⟩
 case round =>
  obtain⟨k,m,rfl,rfl,HR⟩:=hrel;have hk:p+k<=s.size:=by have:=HR.2.2.2;have:=HL.out;omega
  have hk':k<=10:=HR.2.2.1
  by_cases h10:k<10
  ·by_cases hsh:p+k=s.size
   ·have HE:=hid (z4j HR h10 (by have:=HL.out;omega) hpl.out)
    have hsh':s.size<=p+k:=by omega
    clear hsh
    go_wp2
    go_ret3
    exact Zr HE.out rfl
   ·have hlt:p+k<s.size:=by omega
    have HC:=hid (z9o s (p+k) hlt)
    rcases(by omega:k=9∨k<9)with h9|h9
    ·subst h9
     have hg:∀h1:(s[p+9]'hlt).toNat<=1,Hid (vget s.data.toList p=.ok (m+(s[p+9]'hlt).toNat*128^9,p+9+1)):=fun h1=>hid (Jp HR (by omega) hpl.out HC.out (fun _=>h1) (by omega))
     have hbig:∀h1:1<(s[p+9]'hlt).toNat,Hid (vget s.data.toList p=.error 4):=fun h1=>hid (z9p HR rfl hpl.out HC.out h1)
     have hm:=hid HR.2.1
     go_wp2
     ·go_ret3
      exact Zr (hbig (by omega)).out rfl
     ·go_ret3
      have h1:(s[p+9]'hlt).toNat<=1:=by omega
      exact z3s (hg h1).out (by rw[z8z m _ hm.out h1,Nat.mod_eq_of_lt (by omega)]) (by omega)
    ·have hg:∀h2:(s[p+k]'hlt).toNat<128,Hid (vget s.data.toList p=.ok (m+(s[p+k]'hlt).toNat*128^k,p+k+1)):=fun h2=>hid (Jp HR h10 hpl.out HC.out (by omega) h2)
     have hmo:∀h2:128<=(s[p+k]'hlt).toNat,Hid (Z2 s.data.toList p (k+1) (m+((s[p+k]'hlt).toNat-128)*128^k)):=fun h2=>hid (z7r HR h10 HC.out (by omega) h2).2
     have hm:=hid HR.2.1
     go_wp2
     ·go_ret3
      have h2:(s[p+k]'hlt).toNat<128:=by omega
      exact z3s (hg h2).out (by rw[z0k m k _ hm.out h10 (by omega),Nat.mod_eq_of_lt (by omega)]) (by omega)
     ·have h2:128<=(s[p+k]'hlt).toNat:=by omega
      have hb:=(s[p+k]'hlt).toNat_lt;have R:=(hmo h2).out;rw[show(s[p+k]'hlt).toNat-128=(s[p+k]'hlt).toNat%128 by omega]at R;exact⟨⟨k+1,_,by rw[z0k m k _ hm.out h10 (by omega)],by simp,R⟩,by simp[intOf];omega⟩
  ·obtain rfl:k=10:=by omega
   have HE:=hid (z8v HR hpl.out)
   go_wp2
   go_ret3
   exact Zr HE.out rfl
theorem z3v (s:ByteArray)(p:Int)(w:World)(hs:s.size<=4611686018427387904) :
  Calls Tryz.prog 112 #[.string s,.int .i64 p] w (z1d (vget s.data.toList p) w):=by
 by_cases h:p<0∨s.size<p
 ·have HE:=hid (z9z (l:=s.data.toList) (p:=p) (by simpa using h))
  by_cases h0:p<0
  ·go_enter Tryz.func112,Tryz.ntmps112
   go_wp2
   go_ret3
   exact Zr HE.out rfl
  ·obtain⟨q,rfl⟩:=Int.eq_ofNat_of_zero_le (by omega:0<=p)
   have h1:s.size<q:=by omega
   go_enter Tryz.func112,Tryz.ntmps112
   go_wp2
   go_ret3
   exact Zr HE.out rfl
 ·obtain⟨q,rfl⟩:=Int.eq_ofNat_of_zero_le (by omega:0<=p)
  exact zdv s q w hs (by omega)
theorem zbl (s:ByteArray)(i:Nat)(h:i<s.size):wlit (s.data.toList.drop i)=(s[i]'h).toNat+256*wlit (s.data.toList.drop (i+1)):=by
 have hl:i<s.data.toList.length:=by simpa using h
 rw[List.drop_eq_getElem_cons hl];rfl
theorem zf9 (s:ByteArray)(i:Nat)(hs:s.size<=8)(hi:1<=i):wlit (s.data.toList.drop i)<256^7:=by
 refine Nat.lt_of_lt_of_le (Jf _) (Nat.pow_le_pow_right (by omega) ?_)
 simp;omega
theorem rfix_or (m:Nat)(c:UInt8)(hm:m<256^7):bits .or .u64 ((m:Int)*256) (c.toNat:Int)=((c.toNat+256*m:Nat):Int):=by
 have hc:=c.toNat_lt;have e:(m:Int)*256=((m*256:Nat):Int):=by simp
 rw[e,u64_or_nat _ _ (by omega) (by omega),nat_join 8 (m*256) c.toNat (by omega) (by omega)]
 congr 1
 omega
theorem z36 (s:ByteArray)(w:World)(hs:s.size<=8) :
  Calls Tryz.prog 141 #[.string s] w fun e w'=>e=.returned (.int .u64 (wlit s.data.toList:Nat))/\w=w':=by
 have HL:=hid (show s.data.toList.length=s.size by simp);go_enter Tryz.func141,Tryz.ntmps141
 go_wp2
 go_loopg [3,4] s.size (fun k n i wr=>k<=s.size/\i=.int .i64 ((k:Int)-1)/\n=.int .u64 (wlit (s.data.toList.drop k):Nat)/\wr=w)
 case atStart=>exact⟨Nat.le_refl _,rfl,by rw[List.drop_eq_nil_of_le (by have:=HL.out;omega)];rfl,rfl⟩
 case round =>
  obtain⟨hk,rfl,rfl,rfl⟩:=hrel
  match gk,hk with
  | 0,hk =>
   go_wp2
   go_ret;exact⟨rfl,rfl⟩
  | k+1,hk =>
   have HW:=hid (zbl s k (by omega));obtain⟨m,HM⟩:∃m,Hid (m=wlit (s.data.toList.drop (k+1))):=⟨_,hid rfl⟩
   have hm7:m<72057594037927936:=by rw[HM.out];exact zf9 s (k+1) hs (by omega)
   have hor:=rfix_or m (s[k]'(by omega)) hm7;have hwb:IntKind.u64.wrap ((s[k]'(by omega)).toNat:Int)=((s[k]'(by omega)).toNat:Int):=by have:=(s[k]'(by omega)).toNat_lt;exact Z4 (by omega) (by omega)
   rw[<-HM.out];have hkk:((k:Int)+1-1)=k:=by omega
   go_wp2
   go_roundg k
   case measure=>omega
   case rel=>exact⟨by omega,by simp,by rw[HW.out,<-HM.out];first|rfl|simp|simp[hwb,hor],rfl⟩
def Y9 (s:ByteArray)(w:World)(e:Ending)(w':World):Prop:=match xj s.data.toList with
 | .error c=>e=.returned (.tuple #[.slice none 0 0,.int .i64 c])/\Below w.heap.size w w'
 | .ok ns=>∃u,e=.returned (.tuple #[u,.int .i64 0])/\w'.ownsRow w.heap.size 24 1 u ns.length (y9 ns)/\ns.length<=s.size/\Below w.heap.size w w'
theorem ze7 {s:ByteArray}{c:Nat}{w w':World}(h:xj s.data.toList=.error c)(hB:Below w.heap.size w w'):Y9 s w (.returned (.tuple #[.slice none 0 0,.int .i64 c])) w':=by
 unfold Y9;rw[h];exact⟨rfl,hB⟩
theorem zg1 {s:ByteArray}{ns:List Nat}{w w':World}{u:Value}(h:xj s.data.toList=.ok ns)(ho:w'.ownsRow w.heap.size 24 1 u ns.length (y9 ns))(hl:ns.length<=s.size)(hB:Below w.heap.size w w'):Y9 s w (.returned (.tuple #[u,.int .i64 0])) w':=by
 unfold Y9;rw[h];exact⟨u,rfl,ho,hl,hB⟩
theorem x7 (s:ByteArray)(p:Int)(w:World)(hs:s.size<=1000000000){n q:Nat}(h:vget s.data.toList p=.ok (n,q)) :
  Calls Tryz.prog 112 #[.string s,.int .i64 p] w fun e w'=>e=.returned (.tuple #[.int .u64 n,.int .i64 q,.int .i64 0])/\w=w' :=
 (z3v s p w (by omega)).mono fun e w' ⟨h1,h2⟩=>by rw[h]at h2;exact⟨h2,h1⟩
theorem Qp (s:ByteArray)(p:Int)(w:World)(hs:s.size<=1000000000){c:Nat}(h:vget s.data.toList p=.error c) :
  Calls Tryz.prog 112 #[.string s,.int .i64 p] w fun e w'=>e=.returned (.tuple #[.int .u64 0,.int .i64 0,.int .i64 c])/\w=w' :=
 (z3v s p w (by omega)).mono fun e w' ⟨h1,h2⟩=>by rw[h]at h2;exact⟨h2,h1⟩
theorem z67 (s:ByteArray)(w:World)(hs:s.size<=1000000) :
  Calls Tryz.prog 74 #[.string s] w (Y9 s w):=by
 have HL:=hid (show s.data.toList.length=s.size by simp);have HS:=hid hs;go_enter Tryz.func74,Tryz.ntmps74;go_wp2_with fail
 go_loopg [4,5] s.size (fun k v a wr=>∃(q:Nat) (acc:List Nat),q+k=s.size/\a=.int .i64 q/\Ke s.data.toList q acc/\wr.ownsRow w.heap.size 24 1 v acc.length (y9 acc)/\Below w.heap.size w wr)
 case atStart=>exact⟨0,[],by omega,rfl,z6c _,World.ownsRow_nil _ _ _ _,Below.refl _ _⟩
 case round =>
  obtain⟨q,acc,hqk,rfl,hal,hown,hb⟩:=hrel;have HA:=hid hal;have HB:=hid hb;have HQ:=hid hqk;have hqs:q<=s.size:=by omega
  have hsz:s.size<=1000000:=HS.out;have hacc:acc.length<=q:=hal.2.1;have hbs:w.heap.size<=wr.heap.size:=hb.size;clear hal hb hqk
  by_cases hlt:q<s.size
  ·cases hn:wv (s.data.toList.drop q)with
   | error c =>
    have HV:=hid (Zm (by have:=HL.out;omega) hn);have HF:=hid (zch HA.out (by have:=HL.out;omega) hn);have hc0:((c:Int) != 0)=true:=by have:=Yh hn;simp;omega
    clear hn hown;go_wp2_with fail;refine(Qp s q _ (by omega) HV.out).mono ?_;rintro e w' ⟨rfl,rfl⟩;go_wp2_with fail
    go_ret2
    exact ze7 HF.out HB.out
   | ok x =>
    obtain⟨n,j⟩:=x;have HV:=hid (Z3 (by have:=HL.out;omega) hn);have HG:=hid (z8p HA.out hn);have HJ:=hid (yi hn);have hqj:q+j<=s.size:=by have:=HJ.out.2.1;simp at this;have:=HL.out;omega
    have hj1:1<=j:=HJ.out.1;clear hn
    go_wp2_with (first
     | (go_at_call 112;refine(x7 s q _ (by omega) HV.out).mono ?_;rintro e w' ⟨rfl,rfl⟩)
     | (at_builtin;refine kc rfl _ _ 27 rfl Tryz.elU64 (by decide) hown rfl rfl rfl (by simp[Value.oneCell']) (by unfold maxLen;omega) (by omega) hbs ?_;intro v' w2 hown' hgrow))
    have HO2:Hid (w2.ownsRow w.heap.size 24 1 v' (acc++[n]).length (y9 (acc++[n]))):=hid (by simpa [y9] using hown');have HB2:Hid (Below w.heap.size w w2):=hid (HB.out.grown hgrow hbs (fun k hk=>(hown.lt _ hk).1));have hq:=HQ.out
    go_roundg (s.size-(q+j))
    case measure=>omega
    case rel=>exact⟨q+j,acc++[n],by omega,by simp,HG.out,HO2.out,HB2.out⟩
  ·have HF:=hid (zbv HA.out (by have:=HL.out;have:=HQ.out;omega))
   have HO:=hid hown;clear hown;go_wp2_with fail
   go_ret2
   exact zg1 HF.out HO.out (by omega) HB.out
def yd (s:ByteArray)(p:Nat)(d:Int)(w:World)(e:Ending)(w':World):Prop:=match wnx (s.data.toList.drop p) d with
 | .error _=>e=.returned (.tuple #[rec0,.int .i64 0,.bool false])/\Below w.heap.size w w'
 | .ok (r,j)=>e=.returned (.tuple #[recV r,.int .i64 ((p+j:Nat):Int),.bool true])/\Below w.heap.size w w'
theorem ja {s:ByteArray}{p c:Nat}{d:Int}{w w':World}{V:Value}(h:wnx (s.data.toList.drop p) d=.error c)(hV:V=rec0)(hB:Below w.heap.size w w'):yd s p d w (.returned (.tuple #[V,.int .i64 0,.bool false])) w':=by
 subst hV;unfold yd;rw[h];exact⟨rfl,hB⟩
theorem Q1 {s:ByteArray}{p j:Nat}{d:Int}{r:Rec}{w w':World}(h:wnx (s.data.toList.drop p) d=.ok (r,j)){V:Value}{Q:Int}(hV:V=recV r)(hQ:Q=((p+j:Nat):Int))(hB:Below w.heap.size w w') :
  yd s p d w (.returned (.tuple #[V,.int .i64 Q,.bool true])) w':=by
 subst hV;subst hQ;unfold yd;rw[h];exact⟨rfl,hB⟩
def qx (s:ByteArray)(p num:Nat)(d:Int)(w:World)(e:Ending)(w':World):Prop:=match zk (s.data.toList.drop p) [num] d with
 | .error _=>(∃x:Int,e=.returned (.tuple #[.int .i64 x,.bool false]))/\Below w.heap.size w w'
 | .ok k=>e=.returned (.tuple #[.int .i64 ((p+k:Nat):Int),.bool true])/\Below w.heap.size w w'
theorem xc {w:World}{g:Nat}{cs:Array Value}(hg:w.heap[g]?=some (.cells cs 88 (0,0)))(hc:cs.size=5):(loadVar 88 ⟨g,0,none⟩).run Tryz.prog w=.ok (.agg cs) w :=
 run_loadVar_row w g 88 88 cs (0,0) _ hg Tryz.underlying88 rfl (by rw[hc];kernel_rfl)
structure RRow (w:World) (b:Nat) (cs:Array Value):Prop where
 row:w.heap[b]?=some (.cells cs 88 (0,0))
theorem RRow.below {w w':World}{b:Nat}{cs:Array Value}(h:RRow w b cs)(hb:Below w.heap.size w w'):RRow w' b cs:=⟨(hb.block b (z8 h.row)).trans h.row⟩
theorem RRow.set {w:World}{b:Nat}{cs:Array Value}(h:RRow w b cs)(j:Nat)(u:Value):RRow (w.setCell ⟨b,j,none⟩ u) b (cs.setIfInBounds j u):=⟨ze h.row j u⟩
theorem RRow.other {w:World}{b b':Nat}{cs:Array Value}(h:RRow w b cs)(hne:b≠b')(j:Nat)(u:Value):RRow (w.setCell ⟨b',j,none⟩ u) b cs:=⟨(Below.heap_setCell w _ _ _ hne).trans h.row⟩
theorem RRow.sets {w:World}{b:Nat}{c0 c1 c2 c3 c4:Value}(h:RRow w b #[c0,c1,c2,c3,c4])(v0 v1 v2 v3 v4:Value) :
  RRow (((((w.setCell ⟨b,0,none⟩ v0).setCell ⟨b,1,none⟩ v1).setCell ⟨b,2,none⟩ v2).setCell ⟨b,3,none⟩ v3).setCell ⟨b,4,none⟩ v4) b #[v0,v1,v2,v3,v4] :=
 ((((h.set 0 v0).set 1 v1).set 2 v2).set 3 v3).set 4 v4
theorem z5t {l:List UInt8}{d:Int}{t j:Nat}(h:wv l=.ok (t,j))(hb:t/8<1∨536870911<t/8∨5<t%8):wnx l d=.error 3:=z3q (z1x h hb)
def jo (s:ByteArray)(p t j num ty q:Nat):Prop:=wv (s.data.toList.drop p)=.ok (t,j)/\num=t/8/\ty=t%8/\q=p+j/\q<=s.size/\t<2^64
theorem jo.whd {s:ByteArray}{p t j num ty q:Nat}(h:jo s p t j num ty q)(h1:1<=num)(h2:num<=536870911)(h3:ty<=5):whd (s.data.toList.drop p)=.ok (num,ty,j):=by
 obtain⟨hv,rfl,rfl,_⟩:=h;exact Q5 hv h1 h2 h3
theorem jo.get {s:ByteArray}{p t j num ty q:Nat}(h:jo s p t j num ty q)(hp:p<=s.size):vget s.data.toList p=.ok (t,q):=by
 obtain⟨hv,_,_,rfl,_⟩:=h;exact Z3 (by simpa using hp) hv
theorem zf6 (s:ByteArray)(p c:Nat)(d:Int)(w:World)(hp:p<=s.size)(hs:s.size<=1000000000)(hv:wv (s.data.toList.drop p)=.error c) :
  Calls Tryz.prog 108 #[.string s,.int .i64 p,.int .i64 d] w (yd s p d w):=by
 have HF:Hid (wnx (s.data.toList.drop p) d=.error c):=hid (z3q (z7a hv));have HG0:=hid (Zm (p:=p) (by simpa using hp) hv);have hc0:((c:Int) != 0)=true:=by have:=Yh hv;simp;omega
 clear hv;go_enter Tryz.func108,Tryz.ntmps108;go_wp2_with fail;refine(Qp s p _ (by omega) HG0.out).mono ?_;rintro e w' ⟨rfl,rfl⟩;go_wp2_with fail;refine zv rfl rfl (xc (heap_alloc_new _ _) rfl) rfl ?_;exact ja HF.out rfl (zd _ _)
theorem zd7 (s:ByteArray)(p t j num ty q:Nat)(d:Int)(w:World)(hp:p<=s.size)(hs:s.size<=1000000000)(hT:jo s p t j num ty q)(h1:num<1∨536870911<num) :
  Calls Tryz.prog 108 #[.string s,.int .i64 p,.int .i64 d] w (yd s p d w):=by
 have HF:Hid (wnx (s.data.toList.drop p) d=.error 3):=hid (z5t hT.1 (by have:=hT.2.1;omega));have HG0:=hid (hT.get hp);have ht:t<18446744073709551616:=hT.2.2.2.2.2;have ha:=q9 t ht;rw[<-hT.2.2.1]at ha;have hsh:(t:Int)/8=(num:Int):=by have:=hT.2.1;omega
 have hqs:q<=s.size:=hT.2.2.2.2.1;have hpq:p<=q:=by have:=hT.2.2.2.1;omega
 have HQ:=hid hT.2.2.2.1;have HTT:=hid hT;have hnb:num<2305843009213693952:=by have:=hT.2.1;omega
 clear hT HTT
 rcases h1 with h1|h1
 ·go_enter Tryz.func108,Tryz.ntmps108
  go_wp2_with fail;refine(x7 s p _ (by omega) HG0.out).mono ?_;rintro e w' ⟨rfl,rfl⟩;go_wp2_with fail;refine zv rfl rfl (xc (heap_alloc_new _ _) rfl) rfl ?_;exact ja HF.out rfl (zd _ _)
 ·have h1':1<=num:=by omega
  go_enter Tryz.func108,Tryz.ntmps108;go_wp2_with fail;refine(x7 s p _ (by omega) HG0.out).mono ?_;rintro e w' ⟨rfl,rfl⟩;go_wp2_with fail;refine zv rfl rfl (xc (heap_alloc_new _ _) rfl) rfl ?_;exact ja HF.out rfl (zd _ _)
theorem zat (s:ByteArray)(p t j num ty q:Nat)(d:Int)(w:World)(hp:p<=s.size)(hs:s.size<=1000000000)(hT:jo s p t j num ty q)(h1:1<=num)(h2:num<=536870911)(h3:ty=4∨ty=6∨ty=7) :
  Calls Tryz.prog 108 #[.string s,.int .i64 p,.int .i64 d] w (yd s p d w):=by
 have HF:Hid (wnx (s.data.toList.drop p) d=.error 3):=hid (by
  rcases h3 with h3|h3
  ·exact z40 (num:=num) (j:=j) (h3 ▸ hT.whd h1 h2 (by omega))
  ·exact z5t hT.1 (by have:=hT.2.2.1;omega))
 have HG0:=hid (hT.get hp);have ht:t<18446744073709551616:=hT.2.2.2.2.2;have ha:=q9 t ht;rw[<-hT.2.2.1]at ha;have hsh:(t:Int)/8=(num:Int):=by have:=hT.2.1;omega
 have hqs:q<=s.size:=hT.2.2.2.2.1;have hpq:p<=q:=by have:=hT.2.2.2.1;omega
 have HQ:=hid hT.2.2.2.1;have HTT:=hid hT;clear hT HTT
 rcases h3 with rfl|rfl|rfl
 ·go_enter Tryz.func108,Tryz.ntmps108
  go_wp2_with fail;refine(x7 s p _ (by omega) HG0.out).mono ?_;rintro e w' ⟨rfl,rfl⟩;go_wp2_with fail;refine zv rfl rfl (xc (qp _ _ _) rfl) rfl ?_;exact ja HF.out rfl (zb (zd _ _) (zd _ _))
 ·go_enter Tryz.func108,Tryz.ntmps108
  go_wp2_with fail;refine(x7 s p _ (by omega) HG0.out).mono ?_;rintro e w' ⟨rfl,rfl⟩;go_wp2_with fail;refine zv rfl rfl (xc (qp _ _ _) rfl) rfl ?_;exact ja HF.out rfl (zb (zd _ _) (zd _ _))
 ·go_enter Tryz.func108,Tryz.ntmps108
  go_wp2_with fail;refine(x7 s p _ (by omega) HG0.out).mono ?_;rintro e w' ⟨rfl,rfl⟩;go_wp2_with fail;refine zv rfl rfl (xc (qp _ _ _) rfl) rfl ?_;exact ja HF.out rfl (zb (zd _ _) (zd _ _))
theorem zdn (s:ByteArray)(p t j num ty q:Nat)(d:Int)(w:World)(hp:p<=s.size)(hs:s.size<=1000000000)(hT:jo s p t j num ty q)(h1:1<=num)(h2:num<=536870911)(h3:ty=0)(c:Nat)(hv:wv (s.data.toList.drop q)=.error c) :
  Calls Tryz.prog 108 #[.string s,.int .i64 p,.int .i64 d] w (yd s p d w):=by
 have hb:wbd (s.data.toList.drop q) ty=.error c:=by rw[h3];exact z4p hv
 have HF:Hid (wnx (s.data.toList.drop p) d=.error c):=hid (by rw[j9 (hT.whd h1 h2 (by omega)) (by omega) (by omega),List.drop_drop,<-hT.2.2.2.1,hb]);have HG0:=hid (hT.get hp);have ht:t<18446744073709551616:=hT.2.2.2.2.2;have ha:=q9 t ht;rw[<-hT.2.2.1]at ha;have hsh:(t:Int)/8=(num:Int):=by have:=hT.2.1;omega
 have hqs:q<=s.size:=hT.2.2.2.2.1;have hpq:p<=q:=by have:=hT.2.2.2.1;omega
 have HQ:=hid hT.2.2.2.1;have HTT:=hid hT;have HG1:=hid (Zm (p:=q) (by simpa using hqs) hv);have hc0:((c:Int) != 0)=true:=by have:=Yh hv;simp;omega
 clear hT HTT hb hv;subst h3;go_enter Tryz.func108,Tryz.ntmps108;go_wp2_with fail;refine(x7 s p _ (by omega) HG0.out).mono ?_;rintro e w' ⟨rfl,rfl⟩;go_wp2_with fail;refine(Qp s q _ (by omega) HG1.out).mono ?_;rintro e w' ⟨rfl,rfl⟩;go_wp2_with fail;refine zv rfl rfl (xc (qp _ _ _) rfl) rfl ?_;exact ja HF.out rfl (zb (zd _ _) (zd _ _))
theorem rnext_0 (s:ByteArray)(p t j num ty q:Nat)(d:Int)(w:World)(hp:p<=s.size)(hs:s.size<=1000000000)(hT:jo s p t j num ty q)(h1:1<=num)(h2:num<=536870911)(h3:ty=0)(n k:Nat)(hv:wv (s.data.toList.drop q)=.ok (n,k)) :
  Calls Tryz.prog 108 #[.string s,.int .i64 p,.int .i64 d] w (yd s p d w):=by
 have hb:wbd (s.data.toList.drop q) ty=.ok (n,[],k):=by rw[h3];exact z9n hv
 have HF:Hid (wnx (s.data.toList.drop p) d=.ok (⟨num,ty,n,[],(s.data.toList.drop p).take (j+k)⟩,j+k)):=hid (by rw[j9 (hT.whd h1 h2 (by omega)) (by omega) (by omega),List.drop_drop,<-hT.2.2.2.1,hb]);have HG0:=hid (hT.get hp);have ht:t<18446744073709551616:=hT.2.2.2.2.2;have ha:=q9 t ht;rw[<-hT.2.2.1]at ha;have hsh:(t:Int)/8=(num:Int):=by have:=hT.2.1;omega
 have hqs:q<=s.size:=hT.2.2.2.2.1;have hpq:p<=q:=by have:=hT.2.2.2.1;omega
 have HQ:=hid hT.2.2.2.1;have HTT:=hid hT;have HG1:=hid (Z3 (p:=q) (by simpa using hqs) hv);have hqk:q+k<=s.size:=by have:=(yi hv).2.1;simp at this;omega
 clear hT HTT hb hv;subst h3;go_enter Tryz.func108,Tryz.ntmps108;go_wp2_with fail;refine(x7 s p _ (by omega) HG0.out).mono ?_;rintro e w' ⟨rfl,rfl⟩;go_wp2_with fail;refine(x7 s q _ (by omega) HG1.out).mono ?_;rintro e w' ⟨rfl,rfl⟩;go_wp2_with fail;refine zv rfl rfl (xc (qp _ _ _) rfl) rfl ?_;exact Q1 HF.out (by rw[Zo,show q+k-p=j+k by have:=HQ.out;omega];rfl) (by have:=HQ.out;simp;omega) (zb (zd _ _) (zd _ _))
theorem zcq (s:ByteArray)(p t j num ty q:Nat)(d:Int)(w:World)(hp:p<=s.size)(hs:s.size<=1000000000)(hT:jo s p t j num ty q)(h1:1<=num)(h2:num<=536870911)(h3:ty=1)(hl:s.size-q<8) :
  Calls Tryz.prog 108 #[.string s,.int .i64 p,.int .i64 d] w (yd s p d w):=by
 have hb:wbd (s.data.toList.drop q) ty=.error 1:=by rw[h3];exact z30 (by simpa using hl)
 have HF:Hid (wnx (s.data.toList.drop p) d=.error 1):=hid (by rw[j9 (hT.whd h1 h2 (by omega)) (by omega) (by omega),List.drop_drop,<-hT.2.2.2.1,hb]);have HG0:=hid (hT.get hp);have ht:t<18446744073709551616:=hT.2.2.2.2.2;have ha:=q9 t ht;rw[<-hT.2.2.1]at ha;have hsh:(t:Int)/8=(num:Int):=by have:=hT.2.1;omega
 have hqs:q<=s.size:=hT.2.2.2.2.1;have hpq:p<=q:=by have:=hT.2.2.2.1;omega
 have HQ:=hid hT.2.2.2.1;have HTT:=hid hT;clear hT HTT hb;subst h3;go_enter Tryz.func108,Tryz.ntmps108;go_wp2_with fail;refine(x7 s p _ (by omega) HG0.out).mono ?_;rintro e w' ⟨rfl,rfl⟩;go_wp2_with fail;refine zv rfl rfl (xc (qp _ _ _) rfl) rfl ?_;exact ja HF.out rfl (zb (zd _ _) (zd _ _))
theorem rnext_1 (s:ByteArray)(p t j num ty q:Nat)(d:Int)(w:World)(hp:p<=s.size)(hs:s.size<=1000000000)(hT:jo s p t j num ty q)(h1:1<=num)(h2:num<=536870911)(h3:ty=1)(hl:q+8<=s.size) :
  Calls Tryz.prog 108 #[.string s,.int .i64 p,.int .i64 d] w (yd s p d w):=by
 have hb:wbd (s.data.toList.drop q) ty=.ok (wlit ((s.data.toList.drop q).take 8),[],8):=by rw[h3];exact z63 (by simp;omega)
 have HF:Hid (wnx (s.data.toList.drop p) d=.ok (⟨num,ty,wlit ((s.data.toList.drop q).take 8),[],(s.data.toList.drop p).take (j+8)⟩,j+8)):=hid (by rw[j9 (hT.whd h1 h2 (by omega)) (by omega) (by omega),List.drop_drop,<-hT.2.2.2.1,hb]);have HG0:=hid (hT.get hp);have ht:t<18446744073709551616:=hT.2.2.2.2.2;have ha:=q9 t ht;rw[<-hT.2.2.1]at ha;have hsh:(t:Int)/8=(num:Int):=by have:=hT.2.1;omega
 have hqs:q<=s.size:=hT.2.2.2.2.1;have hpq:p<=q:=by have:=hT.2.2.2.1;omega
 have HQ:=hid hT.2.2.2.1;have HTT:=hid hT;have HX:Hid ((s.extract q (q+8)).data.toList=(s.data.toList.drop q).take 8):=hid (by rw[Q7,Nat.add_sub_cancel_left]);have hxs:(s.extract q (q+8)).size<=8:=by simp;omega
 clear hT HTT hb;subst h3;go_enter Tryz.func108,Tryz.ntmps108;go_wp2_with fail;refine(x7 s p _ (by omega) HG0.out).mono ?_;rintro e w' ⟨rfl,rfl⟩;go_wp2_with fail;refine(z36 (s.extract q (q+8)) _ hxs).mono ?_;rintro e w' ⟨rfl,rfl⟩;rw[HX.out];go_wp2_with fail;refine zv rfl rfl (xc (qp _ _ _) rfl) rfl ?_;exact Q1 HF.out (by rw[Zo,show q+8-p=j+8 by have:=HQ.out;omega];rfl) (by have:=HQ.out;simp;omega) (zb (zd _ _) (zd _ _))
theorem zbf (s:ByteArray)(p t j num ty q:Nat)(d:Int)(w:World)(hp:p<=s.size)(hs:s.size<=1000000000)(hT:jo s p t j num ty q)(h1:1<=num)(h2:num<=536870911)(h3:ty=5)(hl:s.size-q<4) :
  Calls Tryz.prog 108 #[.string s,.int .i64 p,.int .i64 d] w (yd s p d w):=by
 have hb:wbd (s.data.toList.drop q) ty=.error 1:=by rw[h3];exact z3n (by simpa using hl)
 have HF:Hid (wnx (s.data.toList.drop p) d=.error 1):=hid (by rw[j9 (hT.whd h1 h2 (by omega)) (by omega) (by omega),List.drop_drop,<-hT.2.2.2.1,hb]);have HG0:=hid (hT.get hp);have ht:t<18446744073709551616:=hT.2.2.2.2.2;have ha:=q9 t ht;rw[<-hT.2.2.1]at ha;have hsh:(t:Int)/8=(num:Int):=by have:=hT.2.1;omega
 have hqs:q<=s.size:=hT.2.2.2.2.1;have hpq:p<=q:=by have:=hT.2.2.2.1;omega
 have HQ:=hid hT.2.2.2.1;have HTT:=hid hT;clear hT HTT hb;subst h3;go_enter Tryz.func108,Tryz.ntmps108;go_wp2_with fail;refine(x7 s p _ (by omega) HG0.out).mono ?_;rintro e w' ⟨rfl,rfl⟩;go_wp2_with fail;refine zv rfl rfl (xc (qp _ _ _) rfl) rfl ?_;exact ja HF.out rfl (zb (zd _ _) (zd _ _))
theorem rnext_5 (s:ByteArray)(p t j num ty q:Nat)(d:Int)(w:World)(hp:p<=s.size)(hs:s.size<=1000000000)(hT:jo s p t j num ty q)(h1:1<=num)(h2:num<=536870911)(h3:ty=5)(hl:q+4<=s.size) :
  Calls Tryz.prog 108 #[.string s,.int .i64 p,.int .i64 d] w (yd s p d w):=by
 have hb:wbd (s.data.toList.drop q) ty=.ok (wlit ((s.data.toList.drop q).take 4),[],4):=by rw[h3];exact z6d (by simp;omega)
 have HF:Hid (wnx (s.data.toList.drop p) d=.ok (⟨num,ty,wlit ((s.data.toList.drop q).take 4),[],(s.data.toList.drop p).take (j+4)⟩,j+4)):=hid (by rw[j9 (hT.whd h1 h2 (by omega)) (by omega) (by omega),List.drop_drop,<-hT.2.2.2.1,hb]);have HG0:=hid (hT.get hp);have ht:t<18446744073709551616:=hT.2.2.2.2.2;have ha:=q9 t ht;rw[<-hT.2.2.1]at ha;have hsh:(t:Int)/8=(num:Int):=by have:=hT.2.1;omega
 have hqs:q<=s.size:=hT.2.2.2.2.1;have hpq:p<=q:=by have:=hT.2.2.2.1;omega
 have HQ:=hid hT.2.2.2.1;have HTT:=hid hT;have HX:Hid ((s.extract q (q+4)).data.toList=(s.data.toList.drop q).take 4):=hid (by rw[Q7,Nat.add_sub_cancel_left]);have hxs:(s.extract q (q+4)).size<=8:=by simp;omega
 clear hT HTT hb;subst h3;go_enter Tryz.func108,Tryz.ntmps108;go_wp2_with fail;refine(x7 s p _ (by omega) HG0.out).mono ?_;rintro e w' ⟨rfl,rfl⟩;go_wp2_with fail;refine(z36 (s.extract q (q+4)) _ hxs).mono ?_;rintro e w' ⟨rfl,rfl⟩;rw[HX.out];go_wp2_with fail;refine zv rfl rfl (xc (qp _ _ _) rfl) rfl ?_;exact Q1 HF.out (by rw[Zo,show q+4-p=j+4 by have:=HQ.out;omega];rfl) (by have:=HQ.out;simp;omega) (zb (zd _ _) (zd _ _))
theorem zd5 (s:ByteArray)(p t j num ty q:Nat)(d:Int)(w:World)(hp:p<=s.size)(hs:s.size<=1000000000)(hT:jo s p t j num ty q)(h1:1<=num)(h2:num<=536870911)(h3:ty=2)(c:Nat)(hv:wv (s.data.toList.drop q)=.error c) :
  Calls Tryz.prog 108 #[.string s,.int .i64 p,.int .i64 d] w (yd s p d w):=by
 have hb:wbd (s.data.toList.drop q) ty=.error c:=by rw[h3];exact z5j hv
 have HF:Hid (wnx (s.data.toList.drop p) d=.error c):=hid (by rw[j9 (hT.whd h1 h2 (by omega)) (by omega) (by omega),List.drop_drop,<-hT.2.2.2.1,hb]);have HG0:=hid (hT.get hp);have ht:t<18446744073709551616:=hT.2.2.2.2.2;have ha:=q9 t ht;rw[<-hT.2.2.1]at ha;have hsh:(t:Int)/8=(num:Int):=by have:=hT.2.1;omega
 have hqs:q<=s.size:=hT.2.2.2.2.1;have hpq:p<=q:=by have:=hT.2.2.2.1;omega
 have HQ:=hid hT.2.2.2.1;have HTT:=hid hT;have HG1:=hid (Zm (p:=q) (by simpa using hqs) hv);have hc0:((c:Int) != 0)=true:=by have:=Yh hv;simp;omega
 clear hT HTT hb hv;subst h3;go_enter Tryz.func108,Tryz.ntmps108;go_wp2_with fail;refine(x7 s p _ (by omega) HG0.out).mono ?_;rintro e w' ⟨rfl,rfl⟩;go_wp2_with fail;refine(Qp s q _ (by omega) HG1.out).mono ?_;rintro e w' ⟨rfl,rfl⟩;go_wp2_with fail;refine zv rfl rfl (xc (qp _ _ _) rfl) rfl ?_;exact ja HF.out rfl (zb (zd _ _) (zd _ _))
theorem z8j (s:ByteArray)(p t j num ty q:Nat)(d:Int)(w:World)(hp:p<=s.size)(hs:s.size<=1000000000)(hT:jo s p t j num ty q)(h1:1<=num)(h2:num<=536870911)(h3:ty=2)(n m:Nat)(hv:wv (s.data.toList.drop q)=.ok (n,m))(hl:s.size-q-m<n) :
  Calls Tryz.prog 108 #[.string s,.int .i64 p,.int .i64 d] w (yd s p d w):=by
 have hb:wbd (s.data.toList.drop q) ty=.error 1:=by rw[h3];exact z1j hv (by simp;omega)
 have HF:Hid (wnx (s.data.toList.drop p) d=.error 1):=hid (by rw[j9 (hT.whd h1 h2 (by omega)) (by omega) (by omega),List.drop_drop,<-hT.2.2.2.1,hb]);have HG0:=hid (hT.get hp);have ht:t<18446744073709551616:=hT.2.2.2.2.2;have ha:=q9 t ht;rw[<-hT.2.2.1]at ha;have hsh:(t:Int)/8=(num:Int):=by have:=hT.2.1;omega
 have hqs:q<=s.size:=hT.2.2.2.2.1;have hpq:p<=q:=by have:=hT.2.2.2.1;omega
 have HQ:=hid hT.2.2.2.1;have HTT:=hid hT;have HG1:=hid (Z3 (p:=q) (by simpa using hqs) hv);have hn64:n<18446744073709551616:=(yi hv).2.2.2;obtain⟨x,hx⟩:∃x,x=q+m:=⟨_,rfl⟩
 have hxs:x<=s.size:=by have:=(yi hv).2.1;simp at this;omega
 have hu:IntKind.u64.wrap ((s.size:Int)-(x:Int))=(s.size:Int)-x:=Z4 (by omega) (by omega);have hqx:q<=x:=by omega
 rw[<-hx]at HG1;have HXX:=hid hx;have hl2:s.size-x<n:=by omega
 clear hT HTT hb hv hx hl;subst h3;go_enter Tryz.func108,Tryz.ntmps108;go_wp2_with fail;refine(x7 s p _ (by omega) HG0.out).mono ?_;rintro e w' ⟨rfl,rfl⟩;go_wp2_with fail;refine(x7 s q _ (by omega) HG1.out).mono ?_;rintro e w' ⟨rfl,rfl⟩;go_wp2_with fail;refine zv rfl rfl (xc (qp _ _ _) rfl) rfl ?_;exact ja HF.out rfl (zb (zd _ _) (zd _ _))
theorem rnext_2 (s:ByteArray)(p t j num ty q:Nat)(d:Int)(w:World)(hp:p<=s.size)(hs:s.size<=1000000000)(hT:jo s p t j num ty q)(h1:1<=num)(h2:num<=536870911)(h3:ty=2)(n m:Nat)(hv:wv (s.data.toList.drop q)=.ok (n,m))(hl:q+m+n<=s.size) :
  Calls Tryz.prog 108 #[.string s,.int .i64 p,.int .i64 d] w (yd s p d w):=by
 have hb:wbd (s.data.toList.drop q) ty=.ok (0,((s.data.toList.drop q).drop m).take n,m+n):=by rw[h3];exact z9w hv (by simp;omega)
 have HF:Hid (wnx (s.data.toList.drop p) d=.ok (⟨num,ty,0,((s.data.toList.drop q).drop m).take n,(s.data.toList.drop p).take (j+(m+n))⟩,j+(m+n))):=hid (by rw[j9 (hT.whd h1 h2 (by omega)) (by omega) (by omega),List.drop_drop,<-hT.2.2.2.1,hb]);have HG0:=hid (hT.get hp);have ht:t<18446744073709551616:=hT.2.2.2.2.2;have ha:=q9 t ht;rw[<-hT.2.2.1]at ha;have hsh:(t:Int)/8=(num:Int):=by have:=hT.2.1;omega
 have hqs:q<=s.size:=hT.2.2.2.2.1;have hpq:p<=q:=by have:=hT.2.2.2.1;omega
 have HQ:=hid hT.2.2.2.1;have HTT:=hid hT;have HG1:=hid (Z3 (p:=q) (by simpa using hqs) hv);have hn64:n<18446744073709551616:=(yi hv).2.2.2;obtain⟨x,hx⟩:∃x,x=q+m:=⟨_,rfl⟩
 have hxs:x<=s.size:=by have:=(yi hv).2.1;simp at this;omega
 have hu:IntKind.u64.wrap ((s.size:Int)-(x:Int))=(s.size:Int)-x:=Z4 (by omega) (by omega);have hqx:q<=x:=by omega
 rw[<-hx]at HG1;have HXX:=hid hx;have hl2:x+n<=s.size:=by omega
 have hw1:IntKind.i64.wrap (n:Int)=n:=J1 (by omega) (by omega);have HS:=hid (show s.extract x (x+n)=ByteArray.mk (((s.data.toList.drop q).drop m).take n).toArray by rw[Zo,Nat.add_sub_cancel_left,hx,List.drop_drop]);clear hT HTT hb hv hx hl;subst h3;go_enter Tryz.func108,Tryz.ntmps108;go_wp2_with fail;refine(x7 s p _ (by omega) HG0.out).mono ?_;rintro e w' ⟨rfl,rfl⟩;go_wp2_with fail;refine(x7 s q _ (by omega) HG1.out).mono ?_;rintro e w' ⟨rfl,rfl⟩;go_wp2_with fail;refine zv rfl rfl (xc (qp _ _ _) rfl) rfl ?_;exact Q1 HF.out (by rw[HS.out,Zo,show x+n-p=j+(m+n)by have:=HQ.out;have:=HXX.out;omega];rfl) (by have:=HQ.out;have:=HXX.out;simp;omega) (zb (zd _ _) (zd _ _))
theorem zc9 (s:ByteArray)(p t j num ty q:Nat)(d:Int)(w:World)(hp:p<=s.size)(hs:s.size<=1000000000)(hT:jo s p t j num ty q)(h1:1<=num)(h2:num<=536870911)(h3:ty=3)(hg:∀w,Calls Tryz.prog 142 #[.string s,.int .i64 q,.int .i64 num,.int .i64 d] w (qx s q num d w))(c:Nat)(hw:zk (s.data.toList.drop q) [num] d=.error c) :
  Calls Tryz.prog 108 #[.string s,.int .i64 p,.int .i64 d] w (yd s p d w):=by
 have HF:Hid (wnx (s.data.toList.drop p) d=.error c):=hid (by rw[X8 (h3 ▸ hT.whd h1 h2 (by omega)),List.drop_drop,<-hT.2.2.2.1,hw]);have HGR:=hid hg;have HW:=hid hw;have HG0:=hid (hT.get hp);have ht:t<18446744073709551616:=hT.2.2.2.2.2;have ha:=q9 t ht;rw[<-hT.2.2.1]at ha;have hsh:(t:Int)/8=(num:Int):=by have:=hT.2.1;omega
 have hqs:q<=s.size:=hT.2.2.2.2.1;have hpq:p<=q:=by have:=hT.2.2.2.1;omega
 have HQ:=hid hT.2.2.2.1;have HTT:=hid hT;clear hT HTT hg hw;subst h3;go_enter Tryz.func108,Tryz.ntmps108;go_wp2_with fail;refine(x7 s p _ (by omega) HG0.out).mono ?_;rintro e w' ⟨rfl,rfl⟩;go_wp2_with fail;refine(HGR.out _).mono ?_;intro e w6 hpost;unfold qx at hpost
 rw[HW.out]at hpost;obtain⟨⟨x,rfl⟩,hb6⟩:=hpost;have HR:=hid (RRow.below (w:=(w.alloc (.cells #[.int .i64 0,.int .i64 0,.int .u64 0,.string ⟨#[]⟩,.string ⟨#[]⟩] 88)).alloc (.cells #[.int .i64 num,.int .i64 3,.int .u64 0,.string ⟨#[]⟩,.string ⟨#[]⟩] 88)) (b:=w.heap.size) (cs:=#[.int .i64 0,.int .i64 0,.int .u64 0,.string ⟨#[]⟩,.string ⟨#[]⟩]) ⟨qp _ _ _⟩ hb6);have HB6:=hid (zb (zb (zd _ _) (zd _ _)) hb6);clear hb6;have rq0:w6.cell? ⟨w.heap.size,0,none⟩=some (.int .i64 0):=za HR.out.row (j:=0) rfl;have rz0:w6.frozen? ⟨w.heap.size,0,none⟩=false:=z7 HR.out.row 0;have rq1:w6.cell? ⟨w.heap.size,1,none⟩=some (.int .i64 0):=za HR.out.row (j:=1) rfl;have rz1:w6.frozen? ⟨w.heap.size,1,none⟩=false:=z7 HR.out.row 1;have rq2:w6.cell? ⟨w.heap.size,2,none⟩=some (.int .u64 0):=za HR.out.row (j:=2) rfl;have rz2:w6.frozen? ⟨w.heap.size,2,none⟩=false:=z7 HR.out.row 2;have rq3:w6.cell? ⟨w.heap.size,3,none⟩=some (.string ⟨#[]⟩):=za HR.out.row (j:=3) rfl;have rz3:w6.frozen? ⟨w.heap.size,3,none⟩=false:=z7 HR.out.row 3;have rq4:w6.cell? ⟨w.heap.size,4,none⟩=some (.string ⟨#[]⟩):=za HR.out.row (j:=4) rfl;have rz4:w6.frozen? ⟨w.heap.size,4,none⟩=false:=z7 HR.out.row 4;have rlt:w.heap.size<w6.heap.size:=z8 HR.out.row;go_wp2_with fail;refine zv rfl rfl (xc (HR.out.sets _ _ _ _ _).row rfl) rfl ?_;exact ja HF.out rfl (Yj HB6.out _ _ _ _ _)
theorem rnext_3 (s:ByteArray)(p t j num ty q:Nat)(d:Int)(w:World)(hp:p<=s.size)(hs:s.size<=1000000000)(hT:jo s p t j num ty q)(h1:1<=num)(h2:num<=536870911)(h3:ty=3)(hg:∀w,Calls Tryz.prog 142 #[.string s,.int .i64 q,.int .i64 num,.int .i64 d] w (qx s q num d w))(k:Nat)(hw:zk (s.data.toList.drop q) [num] d=.ok k) :
  Calls Tryz.prog 108 #[.string s,.int .i64 p,.int .i64 d] w (yd s p d w):=by
 have HF:Hid (wnx (s.data.toList.drop p) d=.ok (⟨num,3,0,[],(s.data.toList.drop p).take (j+k)⟩,j+k)):=hid (by rw[X8 (h3 ▸ hT.whd h1 h2 (by omega)),List.drop_drop,<-hT.2.2.2.1,hw]);have HGR:=hid hg;have HW:=hid hw;have HG0:=hid (hT.get hp);have ht:t<18446744073709551616:=hT.2.2.2.2.2;have ha:=q9 t ht;rw[<-hT.2.2.1]at ha;have hsh:(t:Int)/8=(num:Int):=by have:=hT.2.1;omega
 have hqs:q<=s.size:=hT.2.2.2.2.1;have hpq:p<=q:=by have:=hT.2.2.2.1;omega
 have HQ:=hid hT.2.2.2.1;have HTT:=hid hT;have hqk:q+k<=s.size:=by have:=(jb _ (Nat.lt_succ_self _) hw).1;simp at this;omega
 clear hT HTT hg hw;subst h3;go_enter Tryz.func108,Tryz.ntmps108;go_wp2_with fail;refine(x7 s p _ (by omega) HG0.out).mono ?_;rintro e w' ⟨rfl,rfl⟩;go_wp2_with fail;refine(HGR.out _).mono ?_;intro e w6 hpost;unfold qx at hpost
 rw[HW.out]at hpost;obtain⟨rfl,hb6⟩:=hpost;have HR:=hid (RRow.below (w:=(w.alloc (.cells #[.int .i64 0,.int .i64 0,.int .u64 0,.string ⟨#[]⟩,.string ⟨#[]⟩] 88)).alloc (.cells #[.int .i64 num,.int .i64 3,.int .u64 0,.string ⟨#[]⟩,.string ⟨#[]⟩] 88)) (b:=w.heap.size) (cs:=#[.int .i64 0,.int .i64 0,.int .u64 0,.string ⟨#[]⟩,.string ⟨#[]⟩]) ⟨qp _ _ _⟩ hb6);have HB6:=hid (zb (zb (zd _ _) (zd _ _)) hb6);have HR9:=hid (RRow.below (w:=(w.alloc (.cells #[.int .i64 0,.int .i64 0,.int .u64 0,.string ⟨#[]⟩,.string ⟨#[]⟩] 88)).alloc (.cells #[.int .i64 num,.int .i64 3,.int .u64 0,.string ⟨#[]⟩,.string ⟨#[]⟩] 88)) (b:=w.heap.size+1) (cs:=#[.int .i64 num,.int .i64 3,.int .u64 0,.string ⟨#[]⟩,.string ⟨#[]⟩]) ⟨by have:=heap_alloc_new (w.alloc (.cells #[.int .i64 0,.int .i64 0,.int .u64 0,.string ⟨#[]⟩,.string ⟨#[]⟩] 88)) (.cells #[.int .i64 num,.int .i64 3,.int .u64 0,.string ⟨#[]⟩,.string ⟨#[]⟩] 88);rw[show(w.alloc (.cells #[.int .i64 0,.int .i64 0,.int .u64 0,.string ⟨#[]⟩,.string ⟨#[]⟩] 88)).heap.size=w.heap.size+1 by simp]at this;exact this⟩ hb6);have hne1:w.heap.size≠w.heap.size+1:=by omega
 clear hb6;have rq0:w6.cell? ⟨w.heap.size,0,none⟩=some (.int .i64 0):=za HR.out.row (j:=0) rfl;have rz0:w6.frozen? ⟨w.heap.size,0,none⟩=false:=z7 HR.out.row 0;have rq1:w6.cell? ⟨w.heap.size,1,none⟩=some (.int .i64 0):=za HR.out.row (j:=1) rfl;have rz1:w6.frozen? ⟨w.heap.size,1,none⟩=false:=z7 HR.out.row 1;have rq2:w6.cell? ⟨w.heap.size,2,none⟩=some (.int .u64 0):=za HR.out.row (j:=2) rfl;have rz2:w6.frozen? ⟨w.heap.size,2,none⟩=false:=z7 HR.out.row 2;have rq3:w6.cell? ⟨w.heap.size,3,none⟩=some (.string ⟨#[]⟩):=za HR.out.row (j:=3) rfl;have rz3:w6.frozen? ⟨w.heap.size,3,none⟩=false:=z7 HR.out.row 3;have rq4:w6.cell? ⟨w.heap.size,4,none⟩=some (.string ⟨#[]⟩):=za HR.out.row (j:=4) rfl;have rz4:w6.frozen? ⟨w.heap.size,4,none⟩=false:=z7 HR.out.row 4;have rlt:w.heap.size<w6.heap.size:=z8 HR.out.row;have sq0:w6.cell? ⟨w.heap.size+1,0,none⟩=some (.int .i64 num):=za HR9.out.row (j:=0) rfl;have sz0:w6.frozen? ⟨w.heap.size+1,0,none⟩=false:=z7 HR9.out.row 0;have sq1:w6.cell? ⟨w.heap.size+1,1,none⟩=some (.int .i64 3):=za HR9.out.row (j:=1) rfl;have sz1:w6.frozen? ⟨w.heap.size+1,1,none⟩=false:=z7 HR9.out.row 1;have sq2:w6.cell? ⟨w.heap.size+1,2,none⟩=some (.int .u64 0):=za HR9.out.row (j:=2) rfl;have sz2:w6.frozen? ⟨w.heap.size+1,2,none⟩=false:=z7 HR9.out.row 2;have sq3:w6.cell? ⟨w.heap.size+1,3,none⟩=some (.string ⟨#[]⟩):=za HR9.out.row (j:=3) rfl;have sz3:w6.frozen? ⟨w.heap.size+1,3,none⟩=false:=z7 HR9.out.row 3;have sq4:w6.cell? ⟨w.heap.size+1,4,none⟩=some (.string ⟨#[]⟩):=za HR9.out.row (j:=4) rfl;have sz4:w6.frozen? ⟨w.heap.size+1,4,none⟩=false:=z7 HR9.out.row 4;have slt:w.heap.size+1<w6.heap.size:=z8 HR9.out.row;go_wp2_with fail;refine zv rfl rfl (xc ((HR.out.other hne1 _ _).sets _ _ _ _ _).row rfl) rfl ?_;exact Q1 HF.out (by rw[Zo,show q+k-p=j+k by have:=HQ.out;omega];rfl) (by have:=HQ.out;simp;omega) (Yj (kl HB6.out (by omega) _ _) _ _ _ _ _)
theorem z9m {l:List UInt8}{num:Nat}{d:Int}(h1:1<=num)(h2:num<=536870911):opt (zk l [num] d)=if d<1 then none else match wv l with
  | .error _=>none
  | .ok (t,j)=>if t%8=4 then(if t/8=num then some j else none)else match opt (wnx l (d-1))with
   | none=>none
   | some (_,k)=>(opt (zk (l.drop k) [num] d)).map (k+·):=by
 rw[<-z6v (f:=l.length+2) (by omega) h1 h2,rgr]
 split
 ·rfl
 ·cases hv:wv l with
  | error c=>rfl
  | ok x =>
   obtain⟨t,j⟩:=x;dsimp only
   split
   ·rfl
   ·rw[rnx_eq (by omega)]
    cases hn:wnx l (d-1)with
    | error c=>rfl
    | ok y =>
     obtain⟨r,k⟩:=y
     show(rgr (l.length+1) (l.drop k) num d).map (k+·)=_
     rw[z6v (by simp;omega) h1 h2]
     rfl
theorem z5o {s:ByteArray}{p num:Nat}{d:Int}{w w':World}{x:Int}(h:opt (zk (s.data.toList.drop p) [num] d)=none)(hB:Below w.heap.size w w'):qx s p num d w (.returned (.tuple #[.int .i64 x,.bool false])) w':=by
 unfold qx
 cases hw:zk (s.data.toList.drop p) [num] d with
 | error c=>exact⟨⟨x,rfl⟩,hB⟩
 | ok k=>rw[hw]at h;cases h
theorem rg_ok {s:ByteArray}{p num k:Nat}{d:Int}{w w':World}{x:Int}(h:opt (zk (s.data.toList.drop p) [num] d)=some k)(hx:x=((p+k:Nat):Int))(hB:Below w.heap.size w w'):qx s p num d w (.returned (.tuple #[.int .i64 x,.bool true])) w':=by
 subst hx;unfold qx
 cases hw:zk (s.data.toList.drop p) [num] d with
 | error c=>rw[hw]at h;cases h
 | ok k' =>
  rw[hw]at h
  simp only[opt,Option.some.injEq]at h
  subst h;exact⟨rfl,hB⟩
def z2v (s:ByteArray)(p num:Nat)(d:Int)(q:Nat):Prop:=p<=q/\q<=s.size/\opt (zk (s.data.toList.drop p) [num] d)=(opt (zk (s.data.toList.drop q) [num] d)).map (q-p+·)
theorem zfz {s:ByteArray}{p num:Nat}{d:Int}(hp:p<=s.size):z2v s p num d p:=by
 refine⟨Nat.le_refl _,hp,?_⟩;rw[Nat.sub_self]
 cases opt (zk (s.data.toList.drop p) [num] d)<;>simp
theorem z47 {s:ByteArray}{p num q:Nat}{d:Int}(h:z2v s p num d q)(hn:opt (zk (s.data.toList.drop q) [num] d)=none):opt (zk (s.data.toList.drop p) [num] d)=none:=by
 rw[h.2.2,hn];rfl
theorem og_next {s:ByteArray}{p num q k:Nat}{d:Int}(h:z2v s p num d q)(hk:q+k<=s.size)(hn:opt (zk (s.data.toList.drop q) [num] d)=(opt (zk ((s.data.toList.drop q).drop k) [num] d)).map (k+·)):z2v s p num d (q+k):=by
 obtain⟨a,b,c⟩:=h;refine⟨by omega,hk,?_⟩;rw[c,hn,List.drop_drop]
 cases opt (zk (s.data.toList.drop (q+k)) [num] d)with
 | none=>rfl
 | some z=>simp;omega
theorem zbh (s:ByteArray) (p num:Nat) (d:Int) (w:World) (hp:p<=s.size) (hs:s.size<=1000000000) (h1:1<=num) (h2:num<=536870911) (hd:d<=9223372036854775807)
  (hX:∀q,p<=q->q<=s.size->∀w,Calls Tryz.prog 108 #[.string s,.int .i64 q,.int .i64 (d-1)] w (yd s q (d-1) w)) :
  Calls Tryz.prog 142 #[.string s,.int .i64 p,.int .i64 num,.int .i64 d] w (qx s p num d w):=by
 have HX:=hid hX;have HP:=hid hp;clear hX
 by_cases hd1:d<1
 ·have HF:Hid (opt (zk (s.data.toList.drop p) [num] d)=none):=hid (by rw[z9m h1 h2,if_pos hd1])
  go_enter Tryz.func142,Tryz.ntmps142;go_wp2_with fail
  go_ret2
  exact z5o HF.out (Below.refl _ _)
 ·have hd0:1<=d:=by omega
  clear hd1;go_enter Tryz.func142,Tryz.ntmps142;go_wp2_with fail
  go_loopg [1] (s.size-p) (fun g a wr=>∃q:Nat,q+g=s.size/\a=.int .i64 q/\z2v s p num d q/\Below w.heap.size w wr)
  case atStart=>exact⟨p,by have:=HP.out;omega,rfl,zfz HP.out,Below.refl _ _⟩
  case round =>
   obtain⟨q,hqg,rfl,hrel,hb⟩:=hrel;have HR:=hid hrel;have HB:=hid hb;have HQ:=hid hqg;have hqs:q<=s.size:=hrel.2.1;have hpq:p<=q:=hrel.1;have HST:=hid (z9m (l:=s.data.toList.drop q) (d:=d) h1 h2);clear hrel hb hqg
   cases hv:wv (s.data.toList.drop q)with
   | error c =>
    have HF:=hid (z47 HR.out (by rw[HST.out,if_neg (by omega),hv]));have HG:=hid (Zm (p:=q) (by simpa using hqs) hv);have hc0:((c:Int) != 0)=true:=by have:=Yh hv;simp;omega
    clear hv;go_wp2_with fail;refine(Qp s q _ (by omega) HG.out).mono ?_;rintro e w' ⟨rfl,rfl⟩;go_wp2_with fail
    go_ret2
    exact z5o HF.out HB.out
   | ok x =>
    obtain⟨t,j⟩:=x;have HG:=hid (Z3 (p:=q) (by simpa using hqs) hv);have hvb:=yi hv;have hqj:q+j<=s.size:=by have:=hvb.2.1;simp at this;omega
    have ht:t<18446744073709551616:=hvb.2.2.2;obtain⟨ty,hty⟩:∃ty,ty=t%8:=⟨_,rfl⟩
    obtain⟨m,hm⟩:∃m,m=t/8:=⟨_,rfl⟩
    have ha:=q9 t ht;rw[<-hty]at ha;have hsh:(t:Int)/8=(m:Int):=by omega
    have hST2:=HST.out;rw[if_neg (by omega),hv]at hST2;dsimp only at hST2;rw[<-hty,<-hm]at hST2;have HS2:=hid hST2;have hty8:ty<8:=by omega
    clear hv hvb hST2 hty hm
    by_cases h4:ty=4
    ·subst h4
     by_cases hmn:m=num
     ·have HF:Hid (opt (zk (s.data.toList.drop p) [num] d)=some (q-p+j)):=hid (by rw[HR.out.2.2,HS2.out,if_pos rfl,if_pos hmn];rfl)
      have heq:((m:Int) == (num:Int))=true:=by simp;omega
      clear hmn;go_wp2_with fail;refine(x7 s q _ (by omega) HG.out).mono ?_;rintro e w' ⟨rfl,rfl⟩;go_wp2_with fail
      go_ret2
      exact rg_ok HF.out (by simp;omega) HB.out
     ·have HF:=hid (z47 HR.out (by rw[HS2.out,if_pos rfl,if_neg hmn]))
      have heq:((m:Int) == (num:Int))=false:=by simp;omega
      clear hmn;go_wp2_with fail;refine(x7 s q _ (by omega) HG.out).mono ?_;rintro e w' ⟨rfl,rfl⟩;go_wp2_with fail
      go_ret2
      exact z5o HF.out HB.out
    ·have h4':((ty:Int) == 4)=false:=by simp;omega
     cases hn:wnx (s.data.toList.drop q) (d-1)with
     | error c =>
      have HN:=hid hn;have HF:=hid (z47 HR.out (by rw[HS2.out,if_neg h4,hn];rfl));clear hn h4;go_wp2_with fail;refine(x7 s q _ (by omega) HG.out).mono ?_;rintro e w' ⟨rfl,rfl⟩;go_wp2_with fail;refine(HX.out q hpq hqs _).mono ?_;intro e w1 hpost;unfold yd at hpost
      rw[HN.out]at hpost;obtain⟨rfl,hb1⟩:=hpost;have HB1:=hid (zb (zb HB.out hb1) (zd _ (.cells #[.int .i64 0,.int .i64 0,.int .u64 0,.string ⟨#[]⟩,.string ⟨#[]⟩] 88)));clear hb1;unfold rec0;go_wp2_with fail
      go_ret2
      exact z5o HF.out HB1.out
     | ok y =>
      obtain⟨r,k⟩:=y;have HN:=hid hn;have hwl:=z4a hn;have hqk:q+k<=s.size:=by have:=hwl.2;simp at this;omega
      have hk2:2<=k:=hwl.1;have HG2:=hid (og_next HR.out hqk (by rw[HS2.out,if_neg h4,hn];rfl));clear hn h4 hwl;go_wp2_with fail;refine(x7 s q _ (by omega) HG.out).mono ?_;rintro e w' ⟨rfl,rfl⟩;go_wp2_with fail;refine(HX.out q hpq hqs _).mono ?_;intro e w1 hpost;unfold yd at hpost
      rw[HN.out]at hpost;obtain⟨rfl,hb1⟩:=hpost;have HB1:=hid (zb HB.out hb1);clear hb1;unfold recV;go_wp2_with fail;have hq:=HQ.out
      go_roundg (s.size-(q+k))
      case measure=>omega
      case rel=>exact⟨q+k,by omega,by simp,HG2.out,zb HB1.out (zd _ _)⟩
def RNx (s:ByteArray)(p:Nat):Prop:=∀(d:Int) (w:World),d<=9223372036854775807->Calls Tryz.prog 108 #[.string s,.int .i64 p,.int .i64 d] w (yd s p d w)
def RGx (s:ByteArray)(p:Nat):Prop:=∀(num:Nat) (d:Int) (w:World),1<=num->num<=536870911->d<=9223372036854775807 ->
 Calls Tryz.prog 142 #[.string s,.int .i64 p,.int .i64 num,.int .i64 d] w (qx s p num d w)
theorem zfp (s:ByteArray)(p:Nat)(hs:s.size<=1000000000)(hp:p<=s.size)(hG:∀q,p<q->q<=s.size->RGx s q):RNx s p:=by
 intro d w hd
 cases hv:wv (s.data.toList.drop p)with
 | error c=>exact zf6 s p c d w hp hs hv
 | ok x =>
  obtain⟨t,j⟩:=x;have hvb:=yi hv;have hq:p+j<=s.size:=by have:=hvb.2.1;simp at this;omega
  have hT:jo s p t j (t/8) (t%8) (p+j):=⟨hv,rfl,rfl,rfl,hq,hvb.2.2.2⟩
  by_cases h1:t/8<1∨536870911<t/8
  ·exact zd7 s p t j _ _ _ d w hp hs hT h1
  ·have h1':1<=t/8:=by omega
   have h2:t/8<=536870911:=by omega
   have hL:(s.data.toList.drop (p+j)).length=s.size-(p+j):=by simp
   rcases(by omega:t%8=0∨t%8=1∨t%8=2∨t%8=3∨t%8=5∨(t%8=4∨t%8=6∨t%8=7))with h|h|h|h|h|h
   ·cases hv2:wv (s.data.toList.drop (p+j))with
    | error c=>exact zdn s p t j _ _ _ d w hp hs hT h1' h2 h c hv2
    | ok y=>exact rnext_0 s p t j _ _ _ d w hp hs hT h1' h2 h y.1 y.2 hv2
   ·by_cases hl:s.size-(p+j)<8
    ·exact zcq s p t j _ _ _ d w hp hs hT h1' h2 h hl
    ·exact rnext_1 s p t j _ _ _ d w hp hs hT h1' h2 h (by omega)
   ·cases hv2:wv (s.data.toList.drop (p+j))with
    | error c=>exact zd5 s p t j _ _ _ d w hp hs hT h1' h2 h c hv2
    | ok y =>
     have hyb:=(yi (n:=y.1) (j:=y.2) hv2).2.1
     by_cases hl:s.size-(p+j)-y.2<y.1
     ·exact z8j s p t j _ _ _ d w hp hs hT h1' h2 h y.1 y.2 hv2 hl
     ·exact rnext_2 s p t j _ _ _ d w hp hs hT h1' h2 h y.1 y.2 hv2 (by omega)
   ·have hg:=fun w=>hG (p+j) (by omega) hq (t/8) d w h1' h2 hd
    cases hw:zk (s.data.toList.drop (p+j)) [t/8] d with
    | error c=>exact zc9 s p t j _ _ _ d w hp hs hT h1' h2 h hg c hw
    | ok k=>exact rnext_3 s p t j _ _ _ d w hp hs hT h1' h2 h hg k hw
   ·by_cases hl:s.size-(p+j)<4
    ·exact zbf s p t j _ _ _ d w hp hs hT h1' h2 h hl
    ·exact rnext_5 s p t j _ _ _ d w hp hs hT h1' h2 h (by omega)
   ·exact zat s p t j _ _ _ d w hp hs hT h1' h2 h
theorem z9s (s:ByteArray)(hs:s.size<=1000000000):∀(N p:Nat),s.size-p<=N->p<=s.size->RNx s p/\RGx s p
 | N,p,hN,hp=>by
  have hG:∀q,p<q->q<=s.size->RNx s q/\RGx s q:=fun q h1 h2=>by
   match N,hN with
   | 0,hN=>omega
   | N+1,hN=>exact z9s s hs N q (by omega) h2
  have hX:RNx s p:=zfp s p hs hp fun q h1 h2=>(hG q h1 h2).2
  refine⟨hX,fun num d w h1 h2 hd=>zbh s p num d w hp hs h1 h2 hd fun q h3 h4 w'=>?_⟩
  by_cases hqp:q=p
  ·subst hqp;exact hX (d-1) w' (by omega)
  ·exact(hG q (by omega) h4).1 (d-1) w' (by omega)
theorem z4y (s:ByteArray)(p:Nat)(d:Int)(w:World)(hp:p<=s.size)(hs:s.size<=1000000000)(hd:d<=9223372036854775807) :
  Calls Tryz.prog 108 #[.string s,.int .i64 p,.int .i64 d] w (yd s p d w):=(z9s s hs _ p (Nat.le_refl _) hp).1 d w hd
theorem Tryz.elRRec:Elem Tryz.prog 85 88 (.agg #[.int .i64 0,.int .i64 0,.int .u64 0,.string ⟨#[]⟩,.string ⟨#[]⟩]) 5 56:=⟨Tryz.underlying85,by kernel_rfl,by decide⟩
def Yu (s:ByteArray)(d:Int)(w:World)(e:Ending)(w':World):Prop:=match wall s.data.toList d with
 | .error _=>e=.returned (.tuple #[.slice none 0 0,.bool false])/\Below w.heap.size w w'
 | .ok rs=>∃u,e=.returned (.tuple #[u,.bool true])/\w'.ownsRow w.heap.size 88 5 u rs.length (rs.flatMap yb)/\Below w.heap.size w w'
theorem rall_no {s:ByteArray}{c:Nat}{d:Int}{w w':World}(h:wall s.data.toList d=.error c)(hB:Below w.heap.size w w'):Yu s d w (.returned (.tuple #[.slice none 0 0,.bool false])) w':=by
 unfold Yu;rw[h];exact⟨rfl,hB⟩
theorem rall_ok {s:ByteArray}{rs:List Rec}{d:Int}{w w':World}{u:Value}(h:wall s.data.toList d=.ok rs)(ho:w'.ownsRow w.heap.size 88 5 u rs.length (rs.flatMap yb))(hB:Below w.heap.size w w'):Yu s d w (.returned (.tuple #[u,.bool true])) w':=by
 unfold Yu;rw[h];exact⟨u,rfl,ho,hB⟩
theorem zfi (s:ByteArray)(d:Int)(w:World)(hs:s.size<=1000000000)(hd:d<=9223372036854775807) :
  Calls Tryz.prog 67 #[.string s,.int .i64 d] w (Yu s d w):=by
 have HL:=hid (show s.data.toList.length=s.size by simp);have HS:=hid hs;have HD:=hid hd;clear hd;go_enter Tryz.func67,Tryz.ntmps67;go_wp2_with fail
 go_loopg [6,7] s.size (fun k v a wr=>∃(q:Nat) (acc:List Rec),q+k=s.size/\a=.int .i64 q/\Km s.data.toList d q acc/\wr.ownsRow w.heap.size 88 5 v acc.length (acc.flatMap yb)/\Below w.heap.size w wr)
 case atStart=>exact⟨0,[],by omega,rfl,z5u _ _,World.ownsRow_nil _ _ _ _,Below.refl _ _⟩
 case round =>
  obtain⟨q,acc,hqk,rfl,hal,hown,hb⟩:=hrel;have HA:=hid hal;have HB:=hid hb;have HQ:=hid hqk;have hqs:q<=s.size:=by omega
  have hsz:s.size<=1000000000:=HS.out;have hacc:acc.length<=q:=hal.2.1;have hwb:w.heap.size<=wr.heap.size:=hb.size;clear hal hb hqk
  by_cases hlt:q<s.size
  ·cases hn:wnx (s.data.toList.drop q) d with
   | error c =>
    have HN:=hid hn;have HF:=hid (zby HA.out (by have:=HL.out;omega) hn);clear hn hown;go_wp2_with fail;refine(z4y s q d _ hqs hsz HD.out).mono ?_;intro e w1 hpost;unfold yd at hpost
    rw[HN.out]at hpost;obtain⟨rfl,hb1⟩:=hpost;have HB1:=hid (zb HB.out hb1);clear hb1;unfold rec0;go_wp2_with fail
    go_ret2
    exact rall_no HF.out (zb HB1.out (zd _ _))
   | ok x =>
    obtain⟨r,j⟩:=x;have HN:=hid hn;have HG:=hid (z9g HA.out hn);have HJ:=hid (z4a hn);have hqj:q+j<=s.size:=by have:=HJ.out.2;have:=HL.out;omega
    have hj2:2<=j:=HJ.out.1;clear hn;go_wp2_with fail;refine(z4y s q d _ hqs hsz HD.out).mono ?_;intro e w1 hpost;unfold yd at hpost
    rw[HN.out]at hpost;obtain⟨rfl,hb1⟩:=hpost;have HB1:=hid hb1;have hown1:=(y6 hown hb1).alloc (.cells #[.int .i64 r.num,.int .i64 r.ty,.int .u64 r.n,.string ⟨r.s.toArray⟩,.string ⟨r.raw.toArray⟩] 88);have hs1:=hb1.size;clear hb1 hown;unfold recV;go_wp2_with (at_builtin;refine kc (c:=1) (cs:=yb r) rfl _ _ 85 rfl Tryz.elRRec (by decide) hown1 rfl (by show Value.slice (some ⟨w1.heap.size+1,0,none⟩) 1 1=_;simp) rfl (by simp[yb,Value.oneCell']) (by unfold maxLen;omega) (by omega) (by simp;omega) ?_;intro v' w2 hown' hgrow)
    have HO2:Hid (w2.ownsRow w.heap.size 88 5 v' (acc++[r]).length ((acc++[r]).flatMap yb)):=hid (by
     have e1:(acc++[r]).length=acc.length+1:=by simp
     have e2:(acc++[r]).flatMap yb=acc.flatMap yb++yb r:=by simp
     rw[e1,e2];exact hown')
    have HB2:Hid (Below w.heap.size w w2):=hid (((zb HB.out HB1.out).alloc (by omega) _).grown hgrow (by simp;omega) (fun k hk=>(hown1.lt _ hk).1));have hq:=HQ.out
    go_roundg (s.size-(q+j))
    case measure=>omega
    case rel=>exact⟨q+j,acc++[r],by omega,by simp,HG.out,HO2.out,HB2.out⟩
  ·have HF:=hid (zdp HA.out (by have:=HL.out;have:=HQ.out;omega))
   have HO:=hid hown;clear hown;go_wp2_with fail
   go_ret2
   exact rall_ok HF.out HO.out HB.out
def Qj (c:Nat):Prop:=c=1∨c=3∨c=4∨c=6
theorem z6m {l:List UInt8}{c:Nat}(h:whd l=.error c):Qj c:=by
 unfold whd at h
 cases hv:wv l with
 | error c' =>
  rw[hv]at h
  simp only[Except.error.injEq]at h
  subst h
  rcases Yh hv with h|h
  ·exact .inl h
  ·exact .inr (.inr (.inl h))
 | ok x =>
  obtain⟨t,j⟩:=x;rw[hv]at h;dsimp only at h
  split at h
  ·simp only[Except.error.injEq]at h
   exact .inr (.inl h.symm)
  ·cases h
theorem z6y {l:List UInt8}{ty c:Nat}(h:wbd l ty=.error c):Qj c:=by
 unfold wbd at h
 split at h
 ·split at h
  ·simp only[Except.error.injEq]at h
   exact .inl h.symm
  ·cases h
 ·split at h
  ·split at h
   ·simp only[Except.error.injEq]at h
    exact .inl h.symm
   ·cases h
  ·cases hv:wv l with
   | error c' =>
    rw[hv]at h
    simp only[Except.error.injEq]at h
    subst h
    rcases Yh hv with h|h
    ·exact .inl h
    ·exact .inr (.inr (.inl h))
   | ok x =>
    obtain⟨t,j⟩:=x;rw[hv]at h;dsimp only at h
    split at h
    ·cases h
    ·split at h
     ·simp only[Except.error.injEq]at h
      exact .inl h.symm
     ·cases h
theorem Kt:∀(f:Nat) {l:List UInt8} {st:List Nat} {d:Int} {c:Nat},wgr f l st d=.error c->Qj c
 | 0,_,_,_,c,h=>by
  simp only[wgr,Except.error.injEq]at h
  exact .inl h.symm
 | f + 1,l,st,d,c,h=>by
  rw[wgr]at h
  split at h
  ·cases h
  ·split at h
   ·simp only[Except.error.injEq]at h
    exact .inr (.inr (.inr h.symm))
   ·cases hh:whd l with
    | error c' =>
     rw[hh]at h
     simp only[Except.error.injEq]at h
     subst h;exact z6m hh
    | ok x =>
     obtain⟨num,ty,j⟩:=x;rw[hh]at h;dsimp only at h
     split at h
     ·exact Kt f (z2c h)
     ·split at h
      ·split at h
       ·exact Kt f (z2c h)
       ·simp only[Except.error.injEq]at h
        exact .inr (.inl h.symm)
      ·cases hb:wbd (l.drop j) ty with
       | error c' =>
        rw[hb]at h
        simp only[Except.error.injEq]at h
        subst h;exact z6y hb
       | ok y =>
        obtain⟨n,t,k⟩:=y;rw[hb]at h;exact Kt f (z2c h)
theorem zfj {l:List UInt8}{d:Int}{c:Nat}(h:wnx l d=.error c):Qj c:=by
 cases hh:whd l with
 | error c' =>
  rw[z3q hh]at h
  simp only[Except.error.injEq]at h
  subst h;exact z6m hh
 | ok x =>
  obtain⟨num,ty,j⟩:=x
  by_cases h4:ty=4
  ·subst h4
   rw[z40 hh]at h
   simp only[Except.error.injEq]at h
   exact .inr (.inl h.symm)
  ·by_cases h3:ty=3
   ·subst h3
    rw[X8 hh]at h
    cases hg:zk (l.drop j) [num] d with
    | error c' =>
     rw[hg]at h
     simp only[Except.error.injEq]at h
     subst h;exact Kt _ hg
    | ok k=>rw[hg]at h;cases h
   ·rw[j9 hh h3 h4]at h
    cases hb:wbd (l.drop j) ty with
    | error c' =>
     rw[hb]at h
     simp only[Except.error.injEq]at h
     subst h;exact z6y hb
    | ok y=>obtain⟨n,t,k⟩:=y;rw[hb]at h;cases h
theorem z7d:∀(f:Nat) {l:List UInt8} {d:Int} {c:Nat},wal f l d=.error c->Qj c
 | 0,_,_,_,h=>by cases h
 | f + 1,l,d,c,h=>by
  rw[wal]at h
  split at h
  ·cases h
  ·cases hn:wnx l d with
   | error c' =>
    rw[hn]at h
    simp only[Except.error.injEq]at h
    subst h;exact zfj hn
   | ok x =>
    obtain⟨r,j⟩:=x;rw[hn]at h;dsimp only at h
    cases hw:wal f (l.drop j) d with
    | error c' =>
     rw[hw]at h
     simp only[Except.error.injEq]at h
     subst h;exact z7d f hw
    | ok rs=>rw[hw]at h;cases h
end Go.Proofs.YtmlghmjjlpioeaaGreatDoor
