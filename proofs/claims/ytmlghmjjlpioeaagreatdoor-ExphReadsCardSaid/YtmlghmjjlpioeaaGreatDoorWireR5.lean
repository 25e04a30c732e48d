/-
  wire.little, wire.head, wire.body: what they read.
-/
import Derived.Test.YtmlghmjjlpioeaaGreatDoorWireMath
import Derived.Test.YtmlghmjjlpioeaaGreatDoorErrNew
import Derived.Test.YtmlghmjjlpioeaaGreatDoorGet
import Derived.Deep.LoopGhost
import Derived.Deep.QuietTactic
import Derived.WalkSmall
set_option maxRecDepth 1000000
set_option maxHeartbeats 16000000
namespace Go.Proofs.YtmlghmjjlpioeaaGreatDoor
open Go.RowKit
open Lib (hid)
theorem zdq (l:List UInt8)(b:UInt8):wlit (l++[b])=wlit l+b.toNat*256^l.length:=by
 induction l with
 | nil=>simp[wlit]
 | cons c r ih=>simp only[List.cons_append,wlit,ih,List.length_cons,Nat.pow_succ];rw[Nat.mul_add,Nat.mul_left_comm,Nat.mul_comm (256^r.length) 256];omega
theorem Jf (l:List UInt8):wlit l<256^l.length:=by
 induction l with
 | nil=>decide
 | cons c r ih=>have:=c.toNat_lt;simp only[wlit,List.length_cons,Nat.pow_succ];omega
theorem zdu (s:ByteArray)(i:Nat)(h:i<s.size):wlit (s.data.toList.take (i+1))=wlit (s.data.toList.take i)+(s[i]'h).toNat*256^i:=by
 have hl:i<s.data.toList.length:=by simpa using h
 rw[List.take_succ_eq_append_getElem hl,zdq]
 simp only[List.length_take]
 rw[Nat.min_eq_left (by omega)]
 rfl
theorem lit_or (m j:Nat)(c:UInt8)(hm:m<256^j)(hj:j<8):bits .or .u64 (m:Int) (IntKind.u64.wrap (IntKind.u64.wrap (c.toNat:Int)*2^(8*j)))=((m+c.toNat*256^j:Nat):Int):=by
 have hc:=c.toNat_lt;have e256:256^j=2^(8*j):=by rw[show 256=2^8 from rfl,<-Nat.pow_mul]
 have h1:IntKind.u64.wrap (c.toNat:Int)=c.toNat:=Z4 (by omega) (by omega);have hle:256^j<=256^7:=Nat.pow_le_pow_right (by omega) (by omega);have h2:c.toNat*256^j<=255*256^7:=Nat.mul_le_mul (by omega) hle
 have h3:IntKind.u64.wrap ((c.toNat:Int)*2^(8*j))=((c.toNat*256^j:Nat):Int):=by
  have:(c.toNat:Int)*2^(8*j)=((c.toNat*256^j:Nat):Int):=by rw[e256];simp
  rw[this];exact Z4 (by omega) (by omega)
 rw[h1,h3,u64_or_nat _ _ (by omega) (by omega)]
 congr 1
 rw[Nat.or_comm,nat_join (8*j) _ m (by rw[e256];exact Nat.mul_mod_left _ _) (by rw[<-e256];exact hm)];omega
theorem z2r (s:ByteArray)(w:World)(hs:s.size<=8) :
  Calls Tryz.prog 156 #[.string s] w fun e w'=>e=.returned (.int .u64 (wlit s.data.toList:Nat))/\w=w':=by
 have HL:=hid (show s.data.toList.length=s.size by simp);go_enter Tryz.func156,Tryz.ntmps156
 go_wp2
 go_loopg [3,7] s.size (fun k n i wr=>∃j:Nat,j+k=s.size/\i=.int .i64 j/\n=.int .u64 (wlit (s.data.toList.take j):Nat)/\wr=w)
 case atStart=>exact⟨0,by omega,rfl,rfl,rfl⟩
 case round =>
  obtain⟨j,hj,rfl,rfl,rfl⟩:=hrel;have HJ:=hid hj;have hjs:j<=s.size:=by omega
  clear hj
  by_cases hlt:j<s.size
  ·have HT:=hid (zdu s j hlt)
   have hmin:min (8*(j:Int)) 64=8*j:=by omega
   have HO:=hid (lit_or (wlit (s.data.toList.take j)) j (s[j]'hlt) (Nat.lt_of_lt_of_le (Jf _) (Nat.pow_le_pow_right (by omega) (by simp;omega))) (by omega))
   go_wp2
   have hj:=HJ.out
   go_roundg (gk-1)
   case measure=>omega
   case rel=>exact⟨j+1,by omega,by simp,by rw[HT.out,HO.out],rfl⟩
  ·have e:s.data.toList.take j=s.data.toList:=List.take_of_length_le (by have:=HL.out;omega)
   have E:=hid e;clear e
   go_wp2
   go_ret;exact⟨by rw[E.out];rfl,rfl⟩
def rec0:Value := .agg #[.int .i64 0,.int .i64 0,.int .u64 0,.string ⟨#[]⟩,.string ⟨#[]⟩]
def xo (s:ByteArray)(p:Nat)(w:World)(e:Ending)(w':World):Prop:=match whd (s.data.toList.drop p)with
 | .error c=>∃v,e=.returned (.tuple #[rec0,.int .i64 0,v])/\yq w (p:Int) (c:Int) v w'
 | .ok (num,ty,j)=>e=.returned (.tuple #[.agg #[.int .i64 num,.int .i64 ty,.int .u64 0,.string ⟨#[]⟩,.string ⟨#[]⟩],.int .i64 ((p+j:Nat):Int),.nilIface])/\Below w.heap.size w w'
theorem z9c {s:ByteArray}{p c:Nat}{w w':World}{v:Value}(h:whd (s.data.toList.drop p)=.error c)(hE:yq w (p:Int) (c:Int) v w'):xo s p w (.returned (.tuple #[rec0,.int .i64 0,v])) w':=by
 unfold xo;rw[h];exact⟨v,rfl,hE⟩
theorem head_ok {s:ByteArray}{p num ty j:Nat}{w w':World}(h:whd (s.data.toList.drop p)=.ok (num,ty,j))(hB:Below w.heap.size w w'):xo s p w (.returned (.tuple #[.agg #[.int .i64 num,.int .i64 ty,.int .u64 0,.string ⟨#[]⟩,.string ⟨#[]⟩],.int .i64 ((p+j:Nat):Int),.nilIface])) w':=by
 unfold xo;rw[h];exact⟨rfl,hB⟩
theorem q9 (n:Nat)(hn:n<18446744073709551616):bits .and .u64 (n:Int) 7=((n%8:Nat):Int):=by
 have:=u64_and_nat n 7 hn (by decide);rw[show((7:Nat):Int)=7 from rfl]at this;rw[this,show 7=2^3-1 from rfl,Nat.and_two_pow_sub_one_eq_mod]
theorem ky {w:World}{g:Nat}{cs:Array Value}(hg:w.heap[g]?=some (.cells cs 78 (0,0)))(hc:cs.size=5):(loadVar 78 ⟨g,0,none⟩).run Tryz.prog w=.ok (.agg cs) w :=
 run_loadVar_row w g 78 78 cs (0,0) _ hg Tryz.underlying78 rfl (by rw[hc];kernel_rfl)
theorem qp (w:World)(a b:Obj):((w.alloc a).alloc b).heap[w.heap.size]?=some a:=(Below.heap_alloc _ _ _ (by simp)).trans (heap_alloc_new w _)
theorem j8 (s:ByteArray)(p:Nat)(w:World)(hp:p<=s.size)(hs:s.size<=1000000000) :
  Calls Tryz.prog 131 #[.string s,.int .i64 p] w (xo s p w):=by
 have HL:=hid (show s.data.toList.length=s.size by simp)
 cases hv:wv (s.data.toList.drop p)with
 | error c =>
  have HF:=hid (z7a hv);have HV:=hid (Zm (by have:=HL.out;omega) hv);clear hv;go_enter Tryz.func131,Tryz.ntmps131;go_wp2_with fail;refine(z1c s p _ (by unfold maxLen;omega) HV.out).mono ?_;rintro e w' ⟨rfl,rfl⟩;go_wp2_with fail;refine zv rfl rfl (ky (qp _ _ _) rfl) rfl ?_;exact z9c HF.out (Ka ((Below.refl _ _).alloc (Nat.le_refl _) _) (by simp))
 | ok x =>
  obtain⟨t,j⟩:=x;have HV:=hid (Z3 (by have:=HL.out;omega) hv);have HB:=hid (yi hv);have ht:t<18446744073709551616:=HB.out.2.2.2;obtain⟨num,hnum⟩:∃num,num=t/8:=⟨_,rfl⟩
  obtain⟨ty,hty⟩:∃ty,ty=t%8:=⟨_,rfl⟩
  have ha:=q9 t ht;rw[<-hty]at ha;have hty8:ty<8:=by omega
  have hjl:p+j<=s.size:=by have:=HB.out.2.1;simp at this;have:=HL.out;omega
  have hsh:(t:Int)/8=(num:Int):=by omega
  have hnb:num<2305843009213693952:=by omega
  by_cases hbad:num<1∨536870911<num∨5<ty
  ·have HF:=hid (z1x hv (by rw[<-hnum,<-hty];exact hbad))
   have hcs:num<1∨(1<=num/\536870911<num)∨(1<=num/\num<=536870911/\5<ty):=by omega
   clear hv hbad hnum hty
   rcases hcs with h1|⟨h1,h2⟩|⟨h1,h2,h3⟩
   all_goals go_enter Tryz.func131,Tryz.ntmps131
   all_goals go_wp2_with fail
   all_goals refine(Jn s p _ (by unfold maxLen;omega) HV.out).mono ?_
   all_goals rintro e w' ⟨rfl,rfl⟩
   all_goals go_wp2_with fail
   all_goals refine(qe _ _ _ _).mono ?_
   all_goals rintro e w' ⟨rfl,rfl⟩
   all_goals go_wp2_with fail
   all_goals refine zv rfl rfl (ky (qp _ _ _) rfl) rfl ?_
   all_goals exact z9c HF.out (Ka ((Below.refl _ _).alloc (Nat.le_refl _) _) (by simp))
  ·have h1:1<=num:=by omega
   have h2:num<=536870911:=by omega
   have h3:ty<=5:=by omega
   have HF:=hid (Q5 hv (by rw[<-hnum];exact h1) (by rw[<-hnum];exact h2) (by rw[<-hty];exact h3));rw[<-hnum,<-hty]at HF;clear hv hbad hnum hty;go_enter Tryz.func131,Tryz.ntmps131;go_wp2_with fail;refine(Jn s p _ (by unfold maxLen;omega) HV.out).mono ?_;rintro e w' ⟨rfl,rfl⟩;go_wp2_with fail;refine zv rfl rfl (ky (heap_alloc_new _ _) rfl) rfl ?_;exact head_ok HF.out ((Below.refl _ _).alloc (Nat.le_refl _) _)
theorem qk {fn:Func}{t u v x:Tmp}(h:fn.results=#[.tmp t,.tmp u,.tmp v,.tmp x])(tmps:Array Value)(P:Program)(w:World) :
  (results fn tmps).run P w=.ok (.tuple #[tmps.getD t undef,tmps.getD u undef,tmps.getD v undef,tmps.getD x undef]) w:=by
 simp[results,h]
theorem Ye (w:World)(n:Nat):Below w.heap.size w (w.drewN n):=(Below.refl _ _).trans ⟨rfl,rfl,rfl,Nat.le_refl _,fun _ _=>rfl⟩
theorem Q7 (s:ByteArray)(a b:Nat):(s.extract a b).data.toList=(s.data.toList.drop a).take (b-a):=by
 rw[ByteArray.data_extract,Array.toList_extract,List.extract_eq_take_drop]
theorem Zo (s:ByteArray)(a b:Nat):s.extract a b=ByteArray.mk ((s.data.toList.drop a).take (b-a)).toArray:=by
 apply ByteArray.ext
 apply Array.toList_inj.1
 rw[Q7]
def qv (s:ByteArray)(p ty:Nat)(w:World)(e:Ending)(w':World):Prop:=match wbd (s.data.toList.drop p) ty with
 | .error c=>∃v,e=.returned (.tuple #[.int .u64 0,.string ⟨#[]⟩,.int .i64 0,v])/\∃q:Nat,q<=s.size/\yq w (q:Int) (c:Int) v w'
 | .ok (n,t,j)=>e=.returned (.tuple #[.int .u64 n,.string ⟨t.toArray⟩,.int .i64 ((p+j:Nat):Int),.nilIface])/\Below w.heap.size w w'
theorem Jg {s:ByteArray}{p ty c:Nat}{w w':World}{v:Value}(h:wbd (s.data.toList.drop p) ty=.error c)(q:Nat)(hq:q<=s.size)(hE:yq w (q:Int) (c:Int) v w'):qv s p ty w (.returned (.tuple #[.int .u64 0,.string ⟨#[]⟩,.int .i64 0,v])) w':=by
 unfold qv;rw[h];exact⟨v,rfl,q,hq,hE⟩
theorem z13 {s:ByteArray}{p ty n j:Nat}{t:List UInt8}{w w':World}{N Q:Int}{T:ByteArray}(h:wbd (s.data.toList.drop p) ty=.ok (n,t,j))(hN:N=n)(hT:T=⟨t.toArray⟩)(hQ:Q=((p+j:Nat):Int))(hB:Below w.heap.size w w') :
  qv s p ty w (.returned (.tuple #[.int .u64 N,.string T,.int .i64 Q,.nilIface])) w':=by
 subst hN;subst hT;subst hQ;unfold qv;rw[h];exact⟨rfl,hB⟩
theorem z63 {l:List UInt8}(h:8<=l.length):wbd l 1=.ok (wlit (l.take 8),[],8):=by unfold wbd;rw[if_pos rfl,if_neg (by omega)]
theorem z30 {l:List UInt8}(h:l.length<8):wbd l 1=.error 1:=by unfold wbd;rw[if_pos rfl,if_pos h]
theorem z6d {l:List UInt8}(h:4<=l.length):wbd l 5=.ok (wlit (l.take 4),[],4):=by unfold wbd;rw[if_neg (by decide),if_pos rfl,if_neg (by omega)]
theorem z3n {l:List UInt8}(h:l.length<4):wbd l 5=.error 1:=by unfold wbd;rw[if_neg (by decide),if_pos rfl,if_pos h]
theorem z9n {l:List UInt8}{n j:Nat}(h:wv l=.ok (n,j)):wbd l 0=.ok (n,[],j):=by unfold wbd;rw[if_neg (by decide),if_neg (by decide),h];rfl
theorem z4p {l:List UInt8}{c:Nat}(h:wv l=.error c):wbd l 0=.error c:=by unfold wbd;rw[if_neg (by decide),if_neg (by decide),h]
theorem z5j {l:List UInt8}{c:Nat}(h:wv l=.error c):wbd l 2=.error c:=by unfold wbd;rw[if_neg (by decide),if_neg (by decide),h]
theorem z9w {l:List UInt8}{n j:Nat}(h:wv l=.ok (n,j))(hl:n<=l.length-j):wbd l 2=.ok (0,(l.drop j).take n,j+n):=by
 unfold wbd;rw[if_neg (by decide),if_neg (by decide),h];dsimp only;rw[if_neg (by decide),if_neg (by omega)]
theorem z1j {l:List UInt8}{n j:Nat}(h:wv l=.ok (n,j))(hl:l.length-j<n):wbd l 2=.error 1:=by
 unfold wbd;rw[if_neg (by decide),if_neg (by decide),h];dsimp only;rw[if_neg (by decide),if_pos hl]
theorem zcc (s:ByteArray)(p:Nat)(w:World)(hp:p<=s.size)(hs:s.size<=1000000000) :
  Calls Tryz.prog 133 #[.string s,.int .i64 p,.int .i64 1] w (qv s p 1 w):=by
 have HL:=hid (show(s.data.toList.drop p).length=s.size-p by simp)
 by_cases h:s.size-p<8
 ·have HF:=hid (z30 (l:=s.data.toList.drop p) (by rw[HL.out];exact h))
  go_enter Tryz.func133,Tryz.ntmps133;go_wp2_with fail;refine(qe _ _ _ _).mono ?_;rintro e w' ⟨rfl,rfl⟩;go_wp2_with fail;refine bodyPost_ret (qk rfl _ _ _) rfl ?_;exact Jg HF.out p hp (jh (Below.refl _ _))
 ·have h':p+8<=s.size:=by omega
  have HF:=hid (z63 (l:=s.data.toList.drop p) (by rw[HL.out];omega));have HX:Hid ((s.extract p (p+8)).data.toList=(s.data.toList.drop p).take 8):=hid (by rw[Q7];simp);have hxs:(s.extract p (p+8)).size<=8:=by simp;omega
  clear h;go_enter Tryz.func133,Tryz.ntmps133;go_wp2_with fail;refine(z2r (s.extract p (p+8)) _ hxs).mono ?_;rintro e w' ⟨rfl,rfl⟩;rw[HX.out];go_wp2_with fail;refine bodyPost_ret (qk rfl _ _ _) rfl ?_;exact z13 HF.out rfl rfl (by simp) (Below.refl _ _)
theorem zcr (s:ByteArray)(p:Nat)(w:World)(hp:p<=s.size)(hs:s.size<=1000000000) :
  Calls Tryz.prog 133 #[.string s,.int .i64 p,.int .i64 5] w (qv s p 5 w):=by
 have HL:=hid (show(s.data.toList.drop p).length=s.size-p by simp)
 by_cases h:s.size-p<4
 ·have HF:=hid (z3n (l:=s.data.toList.drop p) (by rw[HL.out];exact h))
  go_enter Tryz.func133,Tryz.ntmps133;go_wp2_with fail;refine(qe _ _ _ _).mono ?_;rintro e w' ⟨rfl,rfl⟩;go_wp2_with fail;refine bodyPost_ret (qk rfl _ _ _) rfl ?_;exact Jg HF.out p hp (jh (Below.refl _ _))
 ·have h':p+4<=s.size:=by omega
  have HF:=hid (z6d (l:=s.data.toList.drop p) (by rw[HL.out];omega));have HX:Hid ((s.extract p (p+4)).data.toList=(s.data.toList.drop p).take 4):=hid (by rw[Q7];simp);have hxs:(s.extract p (p+4)).size<=8:=by simp;omega
  clear h;go_enter Tryz.func133,Tryz.ntmps133;go_wp2_with fail;refine(z2r (s.extract p (p+4)) _ hxs).mono ?_;rintro e w' ⟨rfl,rfl⟩;rw[HX.out];go_wp2_with fail;refine bodyPost_ret (qk rfl _ _ _) rfl ?_;exact z13 HF.out rfl rfl (by simp) (Below.refl _ _)
theorem zem (s:ByteArray)(p:Nat)(w:World)(hp:p<=s.size)(hs:s.size<=1000000000) :
  Calls Tryz.prog 133 #[.string s,.int .i64 p,.int .i64 0] w (qv s p 0 w):=by
 have HL:=hid (show s.data.toList.length=s.size by simp)
 cases hv:wv (s.data.toList.drop p)with
 | error c =>
  have HF:=hid (z4p hv);have HV:=hid (Zm (by have:=HL.out;omega) hv);clear hv;go_enter Tryz.func133,Tryz.ntmps133;go_wp2_with fail;refine(z1c s p _ (by unfold maxLen;omega) HV.out).mono ?_;rintro e w' ⟨rfl,rfl⟩;go_wp2_with fail;refine bodyPost_ret (qk rfl _ _ _) rfl ?_;exact Jg HF.out p hp (jh (Below.refl _ _))
 | ok x =>
  obtain⟨t,j⟩:=x;have HF:=hid (z9n hv);have HV:=hid (Z3 (by have:=HL.out;omega) hv);clear hv;go_enter Tryz.func133,Tryz.ntmps133;go_wp2_with fail;refine(Jn s p _ (by unfold maxLen;omega) HV.out).mono ?_;rintro e w' ⟨rfl,rfl⟩;go_wp2_with fail;refine bodyPost_ret (qk rfl _ _ _) rfl ?_;exact z13 HF.out rfl rfl (by simp) (Below.refl _ _)
theorem ze4 (s:ByteArray)(p:Nat)(w:World)(hp:p<=s.size)(hs:s.size<=1000000000) :
  Calls Tryz.prog 133 #[.string s,.int .i64 p,.int .i64 2] w (qv s p 2 w):=by
 have HL:=hid (show s.data.toList.length=s.size by simp)
 cases hv:wv (s.data.toList.drop p)with
 | error c =>
  have HF:=hid (z5j hv);have HV:=hid (Zm (by have:=HL.out;omega) hv);clear hv;go_enter Tryz.func133,Tryz.ntmps133;go_wp2_with fail;refine(z1c s p _ (by unfold maxLen;omega) HV.out).mono ?_;rintro e w' ⟨rfl,rfl⟩;go_wp2_with fail;refine bodyPost_ret (qk rfl _ _ _) rfl ?_;exact Jg HF.out p hp (jh (Below.refl _ _))
 | ok x =>
  obtain⟨t,j⟩:=x;have HV:=hid (Z3 (by have:=HL.out;omega) hv);have HB:=hid (yi hv);have ht:t<18446744073709551616:=HB.out.2.2.2;obtain⟨q,hq⟩:∃q,q=p+j:=⟨_,rfl⟩
  have hqs:q<=s.size:=by have:=HB.out.2.1;simp at this;have:=HL.out;omega
  have hu:IntKind.u64.wrap ((s.size:Int)-(q:Int))=(s.size:Int)-q:=Z4 (by omega) (by omega);rw[<-hq]at HV;have HQ:=hid hq;have HFL:s.size-q<t->Hid (wbd (s.data.toList.drop p) 2=.error 1):=fun hl=>hid (z1j hv (by simp;have:=HL.out;omega))
  have HFO:q+t<=s.size->Hid (wbd (s.data.toList.drop p) 2=.ok (0,((s.data.toList.drop p).drop j).take t,j+t)):=fun hl=>hid (z9w hv (by simp;have:=HL.out;omega))
  clear hq hv
  by_cases hl:s.size-q<t
  ·have HF:=HFL hl
   clear HFL HFO;go_enter Tryz.func133,Tryz.ntmps133;go_wp2_with fail;refine(Jn s p _ (by unfold maxLen;omega) HV.out).mono ?_;rintro e w' ⟨rfl,rfl⟩;go_wp2_with fail;refine(qe _ _ _ _).mono ?_;rintro e w' ⟨rfl,rfl⟩;go_wp2_with fail;refine bodyPost_ret (qk rfl _ _ _) rfl ?_;exact Jg HF.out q hqs (jh (Below.refl _ _))
  ·have hl':q+t<=s.size:=by omega
   have HF:=HFO hl';have hw1:IntKind.i64.wrap (t:Int)=t:=J1 (by omega) (by omega);have hw2:IntKind.i64.wrap ((q:Int)+(t:Int))=(q:Int)+t:=J1 (by omega) (by omega);have hb1:(0:Int)<=(q:Int):=by omega
   have hb2:(q:Int)<=(q:Int)+(t:Int):=by omega
   have hb3:(q:Int)+(t:Int)<=(s.size:Int):=by omega
   clear hl HFL HFO;go_enter Tryz.func133,Tryz.ntmps133;go_wp2_with fail;refine(Jn s p _ (by unfold maxLen;omega) HV.out).mono ?_;rintro e w' ⟨rfl,rfl⟩;go_wp2_with fail
   go_quiet (fail)
   go_wp2_with fail;refine bodyPost_ret (qk rfl _ _ _) rfl ?_;exact z13 HF.out rfl (by rw[Zo,show((q:Int)+(t:Int)).toNat=q+t by omega,HQ.out,List.drop_drop,Nat.add_sub_cancel_left]) (by rw[HQ.out];simp;omega) (Ye _ _)
theorem Jz (s:ByteArray)(p ty:Nat)(w:World)(hp:p<=s.size)(hs:s.size<=1000000000)(ht:ty=0∨ty=1∨ty=2∨ty=5) :
  Calls Tryz.prog 133 #[.string s,.int .i64 p,.int .i64 ty] w (qv s p ty w):=by
 rcases ht with rfl|rfl|rfl|rfl
 ·exact zem s p w hp hs
 ·exact zcc s p w hp hs
 ·exact ze4 s p w hp hs
 ·exact zcr s p w hp hs
theorem Tryz.elIntW:Elem Tryz.prog 90 3 (.int .i64 0) 1 8:=⟨Tryz.underlying90,by kernel_rfl,by decide⟩
def nint (l:List Nat):List Value:=l.map fun n:Nat => .int .i64 n
theorem y6 {w w':World}{base:Nat}{e:TypeId}{size:Nat}{v:Value}{n:Nat}{xs:List Value}(ho:w.ownsRow base e size v n xs)(hb:Below w.heap.size w w'):w'.ownsRow base e size v n xs :=
 (Upd.of_new (S:=fun _=>False) hb).own ho (fun _ _ h=>h)
theorem zd (w:World)(o:Obj):Below w.heap.size w (w.alloc o):=(Below.refl _ _).alloc (Nat.le_refl _) o
theorem zb {a b c:World}(h1:Below a.heap.size a b)(h2:Below b.heap.size b c):Below a.heap.size a c:=h1.trans (h2.mono h1.size)
def Zb (s:ByteArray)(p num:Nat)(d:Int)(w:World)(e:Ending)(w':World):Prop:=match zk (s.data.toList.drop p) [num] d with
 | .error c=>∃v,e=.returned (.tuple #[.int .i64 0,v])/\∃q:Nat,q<=s.size/\yq w (q:Int) (c:Int) v w'
 | .ok k=>e=.returned (.tuple #[.int .i64 ((p+k:Nat):Int),.nilIface])/\Below w.heap.size w w'
theorem Kd {s:ByteArray}{p num c:Nat}{d:Int}{w w':World}{v:Value}(h:zk (s.data.toList.drop p) [num] d=.error c)(q:Nat)(hq:q<=s.size)(hE:yq w (q:Int) (c:Int) v w'):Zb s p num d w (.returned (.tuple #[.int .i64 0,v])) w':=by
 unfold Zb;rw[h];exact⟨v,rfl,q,hq,hE⟩
theorem own_one (w:World)(u:Value)(e:TypeId)(base:Nat)(hb:base<=w.heap.size):(w.alloc (.cells #[u] e)).ownsRow base e 1 (.slice (some ⟨w.heap.size,0,none⟩) 1 1) 1 [u] :=
 ⟨rfl,.inr ⟨w.heap.size,1,#[u],rfl,hb,heap_alloc_new w _,Nat.le_refl _,by simp[maxLen],rfl,rfl⟩⟩
theorem zct {w:World}{base:Nat}{e:TypeId}{size:Nat}{v:Value}{n:Nat}{xs:List Value}(ho:w.ownsRow base e size v n xs)(k:Nat):(w.drewN k).ownsRow base e size v n xs:=y6 ho (Ye w k)
def z3r (s:ByteArray)(p num:Nat)(d:Int)(q:Nat)(st:List Nat):Prop:=p<=q/\q<=s.size/\st.length<=q-p+1/\zk (s.data.toList.drop p) [num] d=wadd (q-p) (zk (s.data.toList.drop q) st d)
theorem z3o {s:ByteArray}{p num q c:Nat}{d:Int}{st:List Nat}(h:z3r s p num d q st)(he:zk (s.data.toList.drop q) st d=.error c):zk (s.data.toList.drop p) [num] d=.error c:=by
 rw[h.2.2.2,he];rfl
theorem z42 {s:ByteArray}{p num q j:Nat}{d:Int}{st st':List Nat}(h:z3r s p num d q st)(he:zk (s.data.toList.drop q) st d=wadd j (zk ((s.data.toList.drop q).drop j) st' d))(hj:1<=j)(hq:q+j<=s.size)(hl:st'.length<=st.length+1):z3r s p num d (q+j) st':=by
 obtain⟨h1,h2,h3,h4⟩:=h;refine⟨by omega,hq,by omega,?_⟩;rw[h4,he,zed,List.drop_drop]
 congr 1
 omega
theorem gr_end {s:ByteArray}{p num q:Nat}{d:Int}{w w':World}(h:z3r s p num d q [])(hB:Below w.heap.size w w'):Zb s p num d w (.returned (.tuple #[.int .i64 q,.nilIface])) w':=by
 obtain⟨h1,h2,h3,h4⟩:=h;rw[z34]at h4;unfold Zb;rw[h4];refine⟨?_,hB⟩;rw[show p+(q-p+0)=q by omega]
theorem z0c {l:List UInt8}{num ty j:Nat}(h:whd l=.ok (num,ty,j))(h3:ty≠3)(h4:ty≠4):ty=0∨ty=1∨ty=2∨ty=5:=by
 have:=yo h;omega
theorem z5a (s:ByteArray)(p num:Nat)(d:Int)(w:World)(hp:p<=s.size)(hs:s.size<=1000000000) :
  Calls Tryz.prog 132 #[.string s,.int .i64 p,.int .i64 num,.int .i64 d] w (Zb s p num d w):=by
 have HL:=hid (show s.data.toList.length=s.size by simp);have HS:=hid hs;have HP:=hid hp;go_enter Tryz.func132,Tryz.ntmps132;go_wp2_with fail
 go_loopg [1,10] (s.size-p) (fun k a v wr=>∃(q:Nat) (st:List Nat),q+k=s.size/\a=.int .i64 q/\z3r s p num d q st/\wr.ownsRow w.heap.size 3 1 v st.length (nint st.reverse)/\Below w.heap.size w wr)
 case atStart=>exact⟨p,[num],by have:=HP.out;omega,rfl,⟨Nat.le_refl _,HP.out,by simp,by rw[Nat.sub_self,zcz]⟩,own_one w _ _ _ (Nat.le_refl _),zd _ _⟩
 case round =>
  obtain⟨q,st,hqk,rfl,hgr,hown,hb⟩:=hrel;have HGR:=hid hgr;have HOWN:=hid hown;have HB:=hid hb;have HQ:=hid hqk;have hqs:q<=s.size:=hgr.2.1;have hsz:s.size<=1000000000:=HS.out;have hstl:st.length<=1000000001:=by have:=hgr.2.2.1;omega
  have hwb:w.heap.size<=wr.heap.size:=hb.size;clear hgr hb hqk
  match st,HGR,HOWN,hstl with
  | [],HGR,HOWN,hstl =>
   obtain⟨ao,cap,rfl⟩:=zh HOWN.out;clear hown;go_wp2_with fail
   go_ret2
   exact gr_end HGR.out HB.out
  | top :: rest,HGR,HOWN,hstl =>
   obtain⟨ao,cap,rfl⟩:=zh HOWN.out;clear hown;obtain⟨m,hm⟩:∃m,m=rest.length:=⟨_,rfl⟩
   have HM:=hid hm;have HN:Hid (nint (top::rest).reverse=nint rest.reverse++[.int .i64 top]):=hid (by simp[nint]);have hml:m<=1000000000:=by simp at hstl;omega
   rw[show(top::rest).length=m+1 by simp[hm]]at *;clear hm
   by_cases hdp:d<(m:Int)+1
   ·have HF:=hid (z3o HGR.out (z1o (by simp) (by simp;have:=HM.out;omega)))
    go_wp2_with fail;refine(qe _ _ _ _).mono ?_;rintro e w' ⟨rfl,rfl⟩;go_wp2_with fail
    go_ret2
    exact Kd HF.out q hqs (jh HB.out)
   ·have hdp':(((top::rest).length:Nat):Int)<=d:=by simp;have:=HM.out;omega
    have HDP:=hid hdp';clear hdp'
    cases hh:whd (s.data.toList.drop q)with
    | error c =>
     have HF:=hid (z3o HGR.out (Qt (by simp) HDP.out hh));have HH:=hid hh;clear hh;go_wp2_with fail;refine(j8 s q wr hqs hsz).mono ?_;intro e w1 hpost;unfold xo at hpost
     rw[HH.out]at hpost;obtain⟨v,rfl,hE⟩:=hpost;obtain⟨T,y,rfl⟩:=hE.iface;have HE:=hid hE;clear hE;unfold rec0;go_wp2_with fail
     go_ret2
     exact Kd HF.out q hqs ((HE.out.after HB.out).stay (zd _ _))
    | ok x =>
     obtain⟨num',ty,j⟩:=x;have hbd:=yo hh;have hqj:q+j<=s.size:=by have:=hbd.2.1;simp at this;have:=HL.out;omega
     have hj1:1<=j:=hbd.1;have hn1:num'<=536870911:=hbd.2.2.2.1;have hty:ty<=5:=hbd.2.2.2.2.1;have HH:=hid hh;clear hh hbd
     by_cases h3:ty=3
     ·subst h3
      have HG:=hid (z42 HGR.out (z0e (by simp) HDP.out HH.out) hj1 hqj (by simp));go_wp2_with fail;refine(j8 s q wr hqs hsz).mono ?_;intro e w1 hpost;unfold xo at hpost
      rw[HH.out]at hpost;obtain⟨rfl,hb1⟩:=hpost;have HB1:=hid hb1;have hown1:=(y6 HOWN.out hb1).alloc (.cells #[.int .i64 (num':Int),.int .i64 3,.int .u64 0,.string ⟨#[]⟩,.string ⟨#[]⟩] 78);have hs1:=hb1.size;clear hb1;go_wp2_with (at_builtin;refine kc (c:=1) rfl _ _ 90 rfl Tryz.elIntW (by decide) hown1 rfl (by show Value.slice (some ⟨w1.heap.size+1,0,none⟩) 1 1=_;simp) rfl (by simp[Value.oneCell']) (by unfold maxLen;omega) (by omega) (by simp;omega) ?_;intro v' w2 hown' hgrow)
      have HO2:Hid (w2.ownsRow w.heap.size 3 1 v' (num'::top::rest).length (nint (num'::top::rest).reverse)):=hid (by
       have e1:(num'::top::rest).length=m+1+1:=by simp[HM.out]
       have e2:nint (num'::top::rest).reverse=nint (top::rest).reverse++[.int .i64 (num':Int)]:=by simp[nint]
       rw[e1,e2];exact hown')
      have HB2:Hid (Below w.heap.size w w2):=hid (((zb HB.out HB1.out).alloc (by omega) _).grown hgrow (by simp;omega) (fun k hk=>(hown1.lt _ hk).1));have hq:=HQ.out
      go_roundg (s.size-(q+j))
      case measure=>omega
      case rel=>exact⟨q+j,num'::top::rest,by omega,by simp,HG.out,HO2.out,HB2.out⟩
     ·by_cases h4:ty=4
      ·subst h4
       by_cases hnt:num'=top
       ·subst hnt
        have HG:=hid (z42 HGR.out (z3u HDP.out HH.out) hj1 hqj (by simp only[List.length_cons];omega));obtain⟨g,cap',hv,hg1,hg2,hg3,hg4⟩:=yj HOWN.out (by simp)
        simp only[Value.slice.injEq]at hv
        obtain⟨rfl,_,rfl⟩:=hv
        have hcell0:wr.cell? ⟨g,m,none⟩=some (.int .i64 (num':Int)):=by
         rw[HOWN.out.cellAt m (by simp),HN.out]
         simp[nint,HM.out]
        have HCELL:=hid hcell0;clear hcell0;go_wp2_with fail;refine(j8 s q wr hqs hsz).mono ?_;intro e w1 hpost;unfold xo at hpost
        rw[HH.out]at hpost;obtain⟨rfl,hb1⟩:=hpost;have HB1:=hid hb1;have hs1:=hb1.size;clear hb1;go_wp2_with fail;obtain⟨w5,hw5⟩:∃w5,w5=w1.alloc (.cells #[.int .i64 (num':Int),.int .i64 4,.int .u64 0,.string ⟨#[]⟩,.string ⟨#[]⟩] 78):=⟨_,rfl⟩
        have hc0:w5.cell? ⟨w1.heap.size,0,none⟩=some (.int .i64 (num':Int)):=by rw[hw5];simp
        have hcg:w5.cell? ⟨g,m,none⟩=some (.int .i64 (num':Int)):=by
         rw[hw5,World.cell?_alloc_lt _ _ ⟨g,m,none⟩ (by simp;omega)];exact(HB1.out.cell (p:=⟨g,m,none⟩) hg2).trans HCELL.out
        have HB5:Hid (Below wr.heap.size wr w5):=hid (by rw[hw5];exact zb HB1.out (zd _ _));rw[<-hw5];have hm0:(0:Int)<=(m:Int):=by omega
        have hm1:(m:Int)<(m:Int)+1:=by omega
        have hm2:(m:Int)<((m+1:Nat):Int):=by omega
        clear hw5
        go_quiet (fail)
        go_wp2_with fail
        have HO5:Hid (w5.ownsRow w.heap.size 3 1 (.slice (some ⟨g,0,none⟩) rest.length cap) rest.length (nint rest.reverse)):=hid (by
         have ho:=y6 HOWN.out HB5.out;rw[HN.out]at ho;rw[<-HM.out];exact ownsRow_pop (by simp[nint,HM.out]) ho)
        have hq:=HQ.out
        go_roundg (s.size-(q+j))
        case measure=>omega
        case rel=>exact⟨q+j,rest,by omega,by simp,HG.out,by rw[<-HM.out]at HO5 ⊢;exact zct HO5.out _,zb (zb HB.out HB5.out) (Ye _ _)⟩
       ·have HF:=hid (z3o HGR.out (z0b HDP.out HH.out hnt))
        have hne:((num':Int) == (top:Int))=false:=by simp;omega
        obtain⟨g,cap',hv,hg1,hg2,hg3,hg4⟩:=yj HOWN.out (by simp)
        simp only[Value.slice.injEq]at hv
        obtain⟨rfl,_,rfl⟩:=hv
        have hcell0:wr.cell? ⟨g,m,none⟩=some (.int .i64 top):=by
         rw[HOWN.out.cellAt m (by simp),HN.out]
         simp[nint,HM.out]
        have HCELL:=hid hcell0;clear hcell0;go_wp2_with fail;refine(j8 s q wr hqs hsz).mono ?_;intro e w1 hpost;unfold xo at hpost
        rw[HH.out]at hpost;obtain⟨rfl,hb1⟩:=hpost;have HB1:=hid hb1;have hs1:=hb1.size;clear hb1;go_wp2_with fail;obtain⟨w5,hw5⟩:∃w5,w5=w1.alloc (.cells #[.int .i64 (num':Int),.int .i64 4,.int .u64 0,.string ⟨#[]⟩,.string ⟨#[]⟩] 78):=⟨_,rfl⟩
        have hc0:w5.cell? ⟨w1.heap.size,0,none⟩=some (.int .i64 (num':Int)):=by rw[hw5];simp
        have hcg:w5.cell? ⟨g,m,none⟩=some (.int .i64 top):=by
         rw[hw5,World.cell?_alloc_lt _ _ ⟨g,m,none⟩ (by simp;omega)];exact(HB1.out.cell (p:=⟨g,m,none⟩) hg2).trans HCELL.out
        have HB5:Hid (Below wr.heap.size wr w5):=hid (by rw[hw5];exact zb HB1.out (zd _ _));rw[<-hw5];have hm0:(0:Int)<=(m:Int):=by omega
        have hm1:(m:Int)<(m:Int)+1:=by omega
        have hm2:(m:Int)<((m+1:Nat):Int):=by omega
        clear hw5
        go_quiet (fail)
        go_wp2_with fail;refine(qe _ _ _ _).mono ?_;rintro e w' ⟨rfl,rfl⟩;go_wp2_with fail
        go_ret2
        exact Kd HF.out q hqs (jh (zb (zb HB.out HB5.out) (Ye _ _)))
      ·have hbdc:=z0c HH.out h3 h4
       have hT3:((ty:Int) == 3)=false:=by simp;omega
       have hT4:((ty:Int) == 4)=false:=by simp;omega
       cases hbd:wbd (s.data.toList.drop (q+j)) ty with
       | error c =>
        have HBD:=hid hbd;have HF:=hid (z3o HGR.out (Kx (by simp) HDP.out HH.out h3 h4 (by rw[List.drop_drop];exact hbd)));clear hbd h3 h4;go_wp2_with fail;refine(j8 s q wr hqs hsz).mono ?_;intro e w1 hpost;unfold xo at hpost
        rw[HH.out]at hpost;obtain⟨rfl,hb1⟩:=hpost;have HB1:=hid hb1;clear hb1;go_wp2_with fail;refine(Jz s (q+j) ty _ hqj hsz hbdc).mono ?_;intro e w6 hpost;unfold qv at hpost
        rw[HBD.out]at hpost;obtain⟨v,rfl,q',hq',hE⟩:=hpost;obtain⟨T,y,rfl⟩:=hE.iface;have HE:=hid hE;clear hE;go_wp2_with fail
        go_ret2
        exact Kd HF.out q' hq' (HE.out.after (zb (zb HB.out HB1.out) (zd _ _)))
       | ok z =>
        obtain⟨n,t,k⟩:=z;have HBD:=hid hbd;have hbb:=j1 hbd;have hqk:q+j+k<=s.size:=by have:=hbb.2.1;simp at this;have:=HL.out;omega
        have hk1:1<=k:=hbb.1;have HG0:=z42 HGR.out (Kv (by simp) HDP.out HH.out h3 h4 (by rw[List.drop_drop];exact hbd)) (by omega) (by omega) (by simp);have HG:=hid HG0;clear hbd h3 h4 hbb HG0;go_wp2_with fail;refine(j8 s q wr hqs hsz).mono ?_;intro e w1 hpost;unfold xo at hpost
        rw[HH.out]at hpost;obtain⟨rfl,hb1⟩:=hpost;have HB1:=hid hb1;clear hb1;go_wp2_with fail;refine(Jz s (q+j) ty _ hqj hsz hbdc).mono ?_;intro e w6 hpost;unfold qv at hpost
        rw[HBD.out]at hpost;obtain⟨rfl,hb6⟩:=hpost;have HB6:=hid (zb (zb HB1.out (zd _ _)) hb6);clear hb6;go_wp2_with fail;have hq:=HQ.out
        go_roundg (s.size-(q+(j+k)))
        case measure=>omega
        case rel=>exact⟨q+(j+k),top::rest,by omega,by simp;omega,HG.out,by have:=y6 HOWN.out HB6.out;simpa [HM.out] using this,zb HB.out HB6.out⟩
def recV (r:Rec):Value := .agg #[.int .i64 r.num,.int .i64 r.ty,.int .u64 r.n,.string ⟨r.s.toArray⟩,.string ⟨r.raw.toArray⟩]
def qw (s:ByteArray)(p:Nat)(d:Int)(w:World)(e:Ending)(w':World):Prop:=match wnx (s.data.toList.drop p) d with
 | .error c=>∃v,e=.returned (.tuple #[rec0,.int .i64 0,v])/\∃q:Nat,q<=s.size/\yq w (q:Int) (c:Int) v w'
 | .ok (r,j)=>e=.returned (.tuple #[recV r,.int .i64 ((p+j:Nat):Int),.nilIface])/\Below w.heap.size w w'
theorem z18 {s:ByteArray}{p c:Nat}{d:Int}{w w':World}{v:Value}(h:wnx (s.data.toList.drop p) d=.error c)(q:Nat)(hq:q<=s.size)(hE:yq w (q:Int) (c:Int) v w'):qw s p d w (.returned (.tuple #[rec0,.int .i64 0,v])) w':=by
 unfold qw;rw[h];exact⟨v,rfl,q,hq,hE⟩
theorem z9b {s:ByteArray}{p j:Nat}{d:Int}{r:Rec}{w w':World}(h:wnx (s.data.toList.drop p) d=.ok (r,j)){V:Value}{Q:Int}(hV:V=recV r)(hQ:Q=((p+j:Nat):Int))(hB:Below w.heap.size w w') :
  qw s p d w (.returned (.tuple #[V,.int .i64 Q,.nilIface])) w':=by
 subst hV;subst hQ;unfold qw;rw[h];exact⟨rfl,hB⟩
theorem z3q {l:List UInt8}{d:Int}{c:Nat}(h:whd l=.error c):wnx l d=.error c:=by unfold wnx;rw[h]
theorem z40 {l:List UInt8}{d:Int}{num j:Nat}(h:whd l=.ok (num,4,j)):wnx l d=.error 3:=by unfold wnx;rw[h];dsimp only;rw[if_pos rfl]
theorem X8 {l:List UInt8}{d:Int}{num j:Nat}(h:whd l=.ok (num,3,j)):wnx l d=match zk (l.drop j) [num] d with
  | .error c => .error c
  | .ok k => .ok (⟨num,3,0,[],l.take (j+k)⟩,j+k):=by unfold wnx;rw[h];dsimp only;rw[if_neg (by decide),if_pos rfl];cases zk (l.drop j) [num] d<;>rfl
theorem j9 {l:List UInt8}{d:Int}{num ty j:Nat}(h:whd l=.ok (num,ty,j))(h3:ty≠3)(h4:ty≠4):wnx l d=match wbd (l.drop j) ty with
  | .error c => .error c
  | .ok (n,s,k) => .ok (⟨num,ty,n,s,l.take (j+k)⟩,j+k):=by unfold wnx;rw[h];dsimp only;rw[if_neg h4,if_neg h3];cases wbd (l.drop j) ty<;>rfl
structure xl (w:World) (b:Nat) (cs:Array Value):Prop where
 row:w.heap[b]?=some (.cells cs 78 (0,0))
theorem xl.below {w w':World}{b:Nat}{cs:Array Value}(h:xl w b cs)(hb:Below w.heap.size w w'):xl w' b cs:=⟨(hb.block b (z8 h.row)).trans h.row⟩
theorem xl.set {w:World}{b:Nat}{cs:Array Value}(h:xl w b cs)(j:Nat)(u:Value):xl (w.setCell ⟨b,j,none⟩ u) b (cs.setIfInBounds j u):=⟨ze h.row j u⟩
theorem xl.other {w:World}{b b':Nat}{cs:Array Value}(h:xl w b cs)(hne:b≠b')(j:Nat)(u:Value):xl (w.setCell ⟨b',j,none⟩ u) b cs:=⟨(Below.heap_setCell w _ _ _ hne).trans h.row⟩
theorem xl.new (w:World)(cs:Array Value):xl (w.alloc (.cells cs 78)) w.heap.size cs:=⟨heap_alloc_new w _⟩
theorem xl.sets {w:World}{b:Nat}{c0 c1 c2 c3 c4:Value}(h:xl w b #[c0,c1,c2,c3,c4])(v0 v1 v2 v3 v4:Value) :
  xl (((((w.setCell ⟨b, 0, none⟩ v0).setCell ⟨b, 1, none⟩ v1).setCell ⟨b, 2, none⟩ v2).setCell ⟨b, 3, none⟩ v3).setCell ⟨b, 4, none⟩ v4) b #[v0, v1, v2, v3, v4] := -- sets_row
 ((((h.set 0 v0).set 1 v1).set 2 v2).set 3 v3).set 4 v4
theorem Ki (w:World)(b:Nat)(v0 v1 v2 v3 v4:Value):Upd (fun k=>k=b) w (((((w.setCell ⟨b,0,none⟩ v0).setCell ⟨b,1,none⟩ v1).setCell ⟨b,2,none⟩ v2).setCell ⟨b,3,none⟩ v3).setCell ⟨b,4,none⟩ v4) :=
 ((((Upd.set w ⟨b,0,none⟩ v0).trans (Upd.set _ ⟨b,1,none⟩ v1)).trans (Upd.set _ ⟨b,2,none⟩ v2)).trans (Upd.set _ ⟨b,3,none⟩ v3)).trans (Upd.set _ ⟨b,4,none⟩ v4)
theorem Yj {w w1:World}(h:Below w.heap.size w w1)(v0 v1 v2 v3 v4:Value):Below w.heap.size w (((((w1.setCell ⟨w.heap.size,0,none⟩ v0).setCell ⟨w.heap.size,1,none⟩ v1).setCell ⟨w.heap.size,2,none⟩ v2).setCell ⟨w.heap.size,3,none⟩ v3).setCell ⟨w.heap.size,4,none⟩ v4) :=
 h.trans ((Ki w1 w.heap.size v0 v1 v2 v3 v4).below h.size (fun k _ hk=>by subst hk;exact Nat.le_refl _))
theorem kl {w w1:World}(h:Below w.heap.size w w1){b:Nat}(hb:w.heap.size<=b)(j:Nat)(u:Value):Below w.heap.size w (w1.setCell ⟨b,j,none⟩ u) :=
 h.trans ((Upd.set w1 ⟨b,j,none⟩ u).below h.size (fun k _ hk=>by subst hk;exact hb))
theorem yq.upd {w0 w w1 w':World}{n c:Int}{v:Value}{S:Nat->Prop}(h:yq w n c v w1)(hU:Upd S w1 w')(hB:Below w0.heap.size w0 w)(hS:∀k,S k->w0.heap.size<=k/\k<w.heap.size):yq w0 n c v w':=by
 obtain⟨⟨a,ha,hv,hh⟩,hb⟩:=h;refine⟨⟨a,Nat.le_trans hB.size ha,hv,(hU.block a (z8 hh) (fun hk=>by have:=(hS a hk).2;omega)).trans hh⟩,?_⟩;exact(hB.trans (hb.mono hB.size)).trans (hU.below (Nat.le_trans hB.size hb.size) (fun k _ hk=>(hS k hk).1))
theorem z88 (s:ByteArray)(p c:Nat)(d:Int)(w:World)(hp:p<=s.size)(hs:s.size<=1000000000)(hh:whd (s.data.toList.drop p)=.error c) :
  Calls Tryz.prog 96 #[.string s,.int .i64 p,.int .i64 d] w (qw s p d w):=by
 have HF:=hid (z3q (d:=d) hh);have HH:=hid hh;clear hh;go_enter Tryz.func96,Tryz.ntmps96;go_wp2_with fail;refine(j8 s p _ hp hs).mono ?_;intro e w1 hpost;unfold xo at hpost
 rw[HH.out]at hpost;obtain⟨v,rfl,hE⟩:=hpost;obtain⟨T,y,rfl⟩:=hE.iface;have HR:=hid ((xl.new w #[.int .i64 0,.int .i64 0,.int .u64 0,.string ⟨#[]⟩,.string ⟨#[]⟩]).below hE.2);have HE:=hid hE;clear hE;have rq0:w1.cell? ⟨w.heap.size,0,none⟩=some (.int .i64 0):=za HR.out.row (j:=0) rfl;have rz0:w1.frozen? ⟨w.heap.size,0,none⟩=false:=z7 HR.out.row 0;have rq1:w1.cell? ⟨w.heap.size,1,none⟩=some (.int .i64 0):=za HR.out.row (j:=1) rfl;have rz1:w1.frozen? ⟨w.heap.size,1,none⟩=false:=z7 HR.out.row 1;have rq2:w1.cell? ⟨w.heap.size,2,none⟩=some (.int .u64 0):=za HR.out.row (j:=2) rfl;have rz2:w1.frozen? ⟨w.heap.size,2,none⟩=false:=z7 HR.out.row 2;have rq3:w1.cell? ⟨w.heap.size,3,none⟩=some (.string ⟨#[]⟩):=za HR.out.row (j:=3) rfl;have rz3:w1.frozen? ⟨w.heap.size,3,none⟩=false:=z7 HR.out.row 3;have rq4:w1.cell? ⟨w.heap.size,4,none⟩=some (.string ⟨#[]⟩):=za HR.out.row (j:=4) rfl;have rz4:w1.frozen? ⟨w.heap.size,4,none⟩=false:=z7 HR.out.row 4;have rlt:w.heap.size<w1.heap.size:=z8 HR.out.row;unfold rec0;go_wp2_with fail;refine zv rfl rfl (ky ((HR.out.sets _ _ _ _ _).below (zd _ _)).row rfl) rfl ?_;exact z18 HF.out p hp (HE.out.upd ((Ki _ _ _ _ _ _ _).trans (Upd.alloc _ _ _)) (zd _ _) (fun k hk=>by subst hk;simp))
theorem zg2 (s:ByteArray)(p num j:Nat)(d:Int)(w:World)(hp:p<=s.size)(hs:s.size<=1000000000)(hh:whd (s.data.toList.drop p)=.ok (num,4,j)) :
  Calls Tryz.prog 96 #[.string s,.int .i64 p,.int .i64 d] w (qw s p d w):=by
 have HF:=hid (z40 (d:=d) hh);have HH:=hid hh;clear hh;go_enter Tryz.func96,Tryz.ntmps96;go_wp2_with fail;refine(j8 s p _ hp hs).mono ?_;intro e w1 hpost;unfold xo at hpost
 rw[HH.out]at hpost;obtain⟨rfl,hb1⟩:=hpost;have HR:=hid ((xl.new w #[.int .i64 0,.int .i64 0,.int .u64 0,.string ⟨#[]⟩,.string ⟨#[]⟩]).below hb1);have HB1:=hid hb1;clear hb1;have rq0:w1.cell? ⟨w.heap.size,0,none⟩=some (.int .i64 0):=za HR.out.row (j:=0) rfl;have rz0:w1.frozen? ⟨w.heap.size,0,none⟩=false:=z7 HR.out.row 0;have rq1:w1.cell? ⟨w.heap.size,1,none⟩=some (.int .i64 0):=za HR.out.row (j:=1) rfl;have rz1:w1.frozen? ⟨w.heap.size,1,none⟩=false:=z7 HR.out.row 1;have rq2:w1.cell? ⟨w.heap.size,2,none⟩=some (.int .u64 0):=za HR.out.row (j:=2) rfl;have rz2:w1.frozen? ⟨w.heap.size,2,none⟩=false:=z7 HR.out.row 2;have rq3:w1.cell? ⟨w.heap.size,3,none⟩=some (.string ⟨#[]⟩):=za HR.out.row (j:=3) rfl;have rz3:w1.frozen? ⟨w.heap.size,3,none⟩=false:=z7 HR.out.row 3;have rq4:w1.cell? ⟨w.heap.size,4,none⟩=some (.string ⟨#[]⟩):=za HR.out.row (j:=4) rfl;have rz4:w1.frozen? ⟨w.heap.size,4,none⟩=false:=z7 HR.out.row 4;have rlt:w.heap.size<w1.heap.size:=z8 HR.out.row;go_wp2_with fail;refine(qe _ _ _ _).mono ?_;rintro e w' ⟨rfl,rfl⟩;go_wp2_with fail;refine zv rfl rfl (ky (((HR.out.sets _ _ _ _ _).below (zd _ _)).below (zd _ _)).row rfl) rfl ?_;exact z18 HF.out p hp (Ka (zb (Yj (zb (zd _ _) HB1.out) _ _ _ _ _) (zd _ _)) (by simp))
theorem z80 (s:ByteArray) (p num j c:Nat) (d:Int) (w:World) (hp:p<=s.size) (hs:s.size<=1000000000) (hh:whd (s.data.toList.drop p)=.ok (num,3,j)) (hpj:p+j<=s.size)
  (hg:zk (s.data.toList.drop (p+j)) [num] d=.error c):Calls Tryz.prog 96 #[.string s,.int .i64 p,.int .i64 d] w (qw s p d w):=by
 have HF:Hid (wnx (s.data.toList.drop p) d=.error c):=hid (by rw[X8 hh,List.drop_drop,hg]);have HH:=hid hh;have HG:=hid hg;clear hh hg;go_enter Tryz.func96,Tryz.ntmps96;go_wp2_with fail;refine(j8 s p _ hp hs).mono ?_;intro e w1 hpost;unfold xo at hpost
 rw[HH.out]at hpost;obtain⟨rfl,hb1⟩:=hpost;have HR1:=hid ((xl.new w #[.int .i64 0,.int .i64 0,.int .u64 0,.string ⟨#[]⟩,.string ⟨#[]⟩]).below hb1);have HB1:=hid hb1;clear hb1;go_wp2_with fail;refine(z5a s (p+j) num d _ hpj hs).mono ?_;intro e w6 hpost;unfold Zb at hpost
 rw[HG.out]at hpost;obtain⟨v,rfl,q,hq,hE⟩:=hpost;obtain⟨T,y,rfl⟩:=hE.iface;have HR:=hid ((HR1.out.below (zd _ _)).below hE.2);have HE:=hid hE;have hw1:w.heap.size<w1.heap.size:=z8 HR1.out.row;clear hE;have rq0:w6.cell? ⟨w.heap.size,0,none⟩=some (.int .i64 0):=za HR.out.row (j:=0) rfl;have rz0:w6.frozen? ⟨w.heap.size,0,none⟩=false:=z7 HR.out.row 0;have rq1:w6.cell? ⟨w.heap.size,1,none⟩=some (.int .i64 0):=za HR.out.row (j:=1) rfl;have rz1:w6.frozen? ⟨w.heap.size,1,none⟩=false:=z7 HR.out.row 1;have rq2:w6.cell? ⟨w.heap.size,2,none⟩=some (.int .u64 0):=za HR.out.row (j:=2) rfl;have rz2:w6.frozen? ⟨w.heap.size,2,none⟩=false:=z7 HR.out.row 2;have rq3:w6.cell? ⟨w.heap.size,3,none⟩=some (.string ⟨#[]⟩):=za HR.out.row (j:=3) rfl;have rz3:w6.frozen? ⟨w.heap.size,3,none⟩=false:=z7 HR.out.row 3;have rq4:w6.cell? ⟨w.heap.size,4,none⟩=some (.string ⟨#[]⟩):=za HR.out.row (j:=4) rfl;have rz4:w6.frozen? ⟨w.heap.size,4,none⟩=false:=z7 HR.out.row 4;have rlt:w.heap.size<w6.heap.size:=z8 HR.out.row;go_wp2_with fail;refine zv rfl rfl (ky (HR.out.sets _ _ _ _ _).row rfl) rfl ?_;exact z18 HF.out q hq (HE.out.upd (Ki _ _ _ _ _ _ _) (zb (zb (zd _ _) HB1.out) (zd _ _)) (fun k hk=>by subst hk;simp;omega))
theorem za3 (s:ByteArray) (p num j k:Nat) (d:Int) (w:World) (hp:p<=s.size) (hs:s.size<=1000000000) (hh:whd (s.data.toList.drop p)=.ok (num,3,j)) (hpj:p+j<=s.size)
  (hg:zk (s.data.toList.drop (p+j)) [num] d=.ok k) (hk:p+j+k<=s.size):Calls Tryz.prog 96 #[.string s,.int .i64 p,.int .i64 d] w (qw s p d w):=by
 have HF:Hid (wnx (s.data.toList.drop p) d=.ok (⟨num,3,0,[],(s.data.toList.drop p).take (j+k)⟩,j+k)):=hid (by rw[X8 hh,List.drop_drop,hg]);have HH:=hid hh;have HG:=hid hg;clear hh hg;go_enter Tryz.func96,Tryz.ntmps96;go_wp2_with fail;refine(j8 s p _ hp hs).mono ?_;intro e w1 hpost;unfold xo at hpost
 rw[HH.out]at hpost;obtain⟨rfl,hb1⟩:=hpost;have HR1:=hid ((xl.new w #[.int .i64 0,.int .i64 0,.int .u64 0,.string ⟨#[]⟩,.string ⟨#[]⟩]).below hb1);have HB1:=hid hb1;clear hb1;go_wp2_with fail;refine(z5a s (p+j) num d _ hpj hs).mono ?_;intro e w6 hpost;unfold Zb at hpost
 rw[HG.out]at hpost;obtain⟨rfl,hb6⟩:=hpost;have HR:=hid ((HR1.out.below (zd _ _)).below hb6);have HR9:=hid ((xl.new w1 #[.int .i64 num,.int .i64 3,.int .u64 0,.string ⟨#[]⟩,.string ⟨#[]⟩]).below hb6);have HB6:=hid (zb (zb (zb (zd _ _) HB1.out) (zd _ _)) hb6);have hw1:w.heap.size<w1.heap.size:=z8 HR1.out.row;have hne1:w.heap.size≠w1.heap.size:=by omega
 have hne2:w1.heap.size≠w.heap.size:=by omega
 clear hb6;have rq0:w6.cell? ⟨w.heap.size,0,none⟩=some (.int .i64 0):=za HR.out.row (j:=0) rfl;have rz0:w6.frozen? ⟨w.heap.size,0,none⟩=false:=z7 HR.out.row 0;have rq1:w6.cell? ⟨w.heap.size,1,none⟩=some (.int .i64 0):=za HR.out.row (j:=1) rfl;have rz1:w6.frozen? ⟨w.heap.size,1,none⟩=false:=z7 HR.out.row 1;have rq2:w6.cell? ⟨w.heap.size,2,none⟩=some (.int .u64 0):=za HR.out.row (j:=2) rfl;have rz2:w6.frozen? ⟨w.heap.size,2,none⟩=false:=z7 HR.out.row 2;have rq3:w6.cell? ⟨w.heap.size,3,none⟩=some (.string ⟨#[]⟩):=za HR.out.row (j:=3) rfl;have rz3:w6.frozen? ⟨w.heap.size,3,none⟩=false:=z7 HR.out.row 3;have rq4:w6.cell? ⟨w.heap.size,4,none⟩=some (.string ⟨#[]⟩):=za HR.out.row (j:=4) rfl;have rz4:w6.frozen? ⟨w.heap.size,4,none⟩=false:=z7 HR.out.row 4;have rlt:w.heap.size<w6.heap.size:=z8 HR.out.row;have sq0:w6.cell? ⟨w1.heap.size,0,none⟩=some (.int .i64 num):=za HR9.out.row (j:=0) rfl;have sz0:w6.frozen? ⟨w1.heap.size,0,none⟩=false:=z7 HR9.out.row 0;have sq1:w6.cell? ⟨w1.heap.size,1,none⟩=some (.int .i64 3):=za HR9.out.row (j:=1) rfl;have sz1:w6.frozen? ⟨w1.heap.size,1,none⟩=false:=z7 HR9.out.row 1;have sq2:w6.cell? ⟨w1.heap.size,2,none⟩=some (.int .u64 0):=za HR9.out.row (j:=2) rfl;have sz2:w6.frozen? ⟨w1.heap.size,2,none⟩=false:=z7 HR9.out.row 2;have sq3:w6.cell? ⟨w1.heap.size,3,none⟩=some (.string ⟨#[]⟩):=za HR9.out.row (j:=3) rfl;have sz3:w6.frozen? ⟨w1.heap.size,3,none⟩=false:=z7 HR9.out.row 3;have sq4:w6.cell? ⟨w1.heap.size,4,none⟩=some (.string ⟨#[]⟩):=za HR9.out.row (j:=4) rfl;have sz4:w6.frozen? ⟨w1.heap.size,4,none⟩=false:=z7 HR9.out.row 4;have slt:w1.heap.size<w6.heap.size:=z8 HR9.out.row;go_wp2_with fail;refine zv rfl rfl (ky ((HR.out.other hne1 _ _).sets _ _ _ _ _).row rfl) rfl ?_;exact z9b HF.out (by rw[Zo,show p+j+k-p=j+k by omega];rfl) (by simp;omega) (Yj (kl HB6.out (by omega) _ _) _ _ _ _ _)
theorem zd9 (w:World)(b b9:Nat)(x2 x3 v0 v1 v2 v3 v4:Value):Upd (fun k=>k=b∨k=b9) w
  (((((((w.setCell ⟨b9,2,none⟩ x2).setCell ⟨b9,3,none⟩ x3).setCell ⟨b,0,none⟩ v0).setCell ⟨b,1,none⟩ v1).setCell ⟨b,2,none⟩ v2).setCell ⟨b,3,none⟩ v3).setCell ⟨b,4,none⟩ v4) :=
 (((Upd.set w ⟨b9,2,none⟩ x2).mono (fun _ _ hk => .inr hk)).trans ((Upd.set _ ⟨b9,3,none⟩ x3).mono (fun _ _ hk => .inr hk))).trans ((Ki _ b v0 v1 v2 v3 v4).mono (fun _ _ hk => .inl hk))
theorem z8i (s:ByteArray) (p num ty j c:Nat) (d:Int) (w:World) (hp:p<=s.size) (hs:s.size<=1000000000) (hh:whd (s.data.toList.drop p)=.ok (num,ty,j)) (h3:ty≠3) (h4:ty≠4) (hpj:p+j<=s.size)
  (hg:wbd (s.data.toList.drop (p+j)) ty=.error c):Calls Tryz.prog 96 #[.string s,.int .i64 p,.int .i64 d] w (qw s p d w):=by
 have HF:Hid (wnx (s.data.toList.drop p) d=.error c):=hid (by rw[j9 hh h3 h4,List.drop_drop,hg]);have hbdc:=z0c hh h3 h4;have hT3:((ty:Int) == 3)=false:=by simp;omega
 have hT4:((ty:Int) == 4)=false:=by simp;omega
 have HH:=hid hh;have HG:=hid hg;clear hh hg h3 h4;go_enter Tryz.func96,Tryz.ntmps96;go_wp2_with fail;refine(j8 s p _ hp hs).mono ?_;intro e w1 hpost;unfold xo at hpost
 rw[HH.out]at hpost;obtain⟨rfl,hb1⟩:=hpost;have HR1:=hid ((xl.new w #[.int .i64 0,.int .i64 0,.int .u64 0,.string ⟨#[]⟩,.string ⟨#[]⟩]).below hb1);have HB1:=hid hb1;clear hb1;go_wp2_with fail;refine(Jz s (p+j) ty _ hpj hs hbdc).mono ?_;intro e w6 hpost;clear hbdc hT3 hT4;unfold qv at hpost
 rw[HG.out]at hpost;obtain⟨v,rfl,q,hq,hE⟩:=hpost;obtain⟨T,y,rfl⟩:=hE.iface;have HR:=hid ((HR1.out.below (zd _ _)).below hE.2);have HR9:=hid ((xl.new w1 #[.int .i64 num,.int .i64 ty,.int .u64 0,.string ⟨#[]⟩,.string ⟨#[]⟩]).below hE.2);have HE:=hid hE;clear hE;have hw1:w.heap.size<w1.heap.size:=z8 HR1.out.row;have hne1:w.heap.size≠w1.heap.size:=by omega
 have hne2:w1.heap.size≠w.heap.size:=by omega
 have rq0:w6.cell? ⟨w.heap.size,0,none⟩=some (.int .i64 0):=za HR.out.row (j:=0) rfl;have rz0:w6.frozen? ⟨w.heap.size,0,none⟩=false:=z7 HR.out.row 0;have rq1:w6.cell? ⟨w.heap.size,1,none⟩=some (.int .i64 0):=za HR.out.row (j:=1) rfl;have rz1:w6.frozen? ⟨w.heap.size,1,none⟩=false:=z7 HR.out.row 1;have rq2:w6.cell? ⟨w.heap.size,2,none⟩=some (.int .u64 0):=za HR.out.row (j:=2) rfl;have rz2:w6.frozen? ⟨w.heap.size,2,none⟩=false:=z7 HR.out.row 2;have rq3:w6.cell? ⟨w.heap.size,3,none⟩=some (.string ⟨#[]⟩):=za HR.out.row (j:=3) rfl;have rz3:w6.frozen? ⟨w.heap.size,3,none⟩=false:=z7 HR.out.row 3;have rq4:w6.cell? ⟨w.heap.size,4,none⟩=some (.string ⟨#[]⟩):=za HR.out.row (j:=4) rfl;have rz4:w6.frozen? ⟨w.heap.size,4,none⟩=false:=z7 HR.out.row 4;have rlt:w.heap.size<w6.heap.size:=z8 HR.out.row;have sq0:w6.cell? ⟨w1.heap.size,0,none⟩=some (.int .i64 num):=za HR9.out.row (j:=0) rfl;have sz0:w6.frozen? ⟨w1.heap.size,0,none⟩=false:=z7 HR9.out.row 0;have sq1:w6.cell? ⟨w1.heap.size,1,none⟩=some (.int .i64 ty):=za HR9.out.row (j:=1) rfl;have sz1:w6.frozen? ⟨w1.heap.size,1,none⟩=false:=z7 HR9.out.row 1;have sq2:w6.cell? ⟨w1.heap.size,2,none⟩=some (.int .u64 0):=za HR9.out.row (j:=2) rfl;have sz2:w6.frozen? ⟨w1.heap.size,2,none⟩=false:=z7 HR9.out.row 2;have sq3:w6.cell? ⟨w1.heap.size,3,none⟩=some (.string ⟨#[]⟩):=za HR9.out.row (j:=3) rfl;have sz3:w6.frozen? ⟨w1.heap.size,3,none⟩=false:=z7 HR9.out.row 3;have sq4:w6.cell? ⟨w1.heap.size,4,none⟩=some (.string ⟨#[]⟩):=za HR9.out.row (j:=4) rfl;have sz4:w6.frozen? ⟨w1.heap.size,4,none⟩=false:=z7 HR9.out.row 4;have slt:w1.heap.size<w6.heap.size:=z8 HR9.out.row;go_wp2_with fail;refine zv rfl rfl (ky (((HR.out.other hne1 _ _).other hne1 _ _).sets _ _ _ _ _).row rfl) rfl ?_;exact z18 HF.out q hq (HE.out.upd (S:=fun k=>k=w.heap.size∨k=w1.heap.size) (zd9 w6 w.heap.size w1.heap.size _ _ _ _ _ _ _) (zb (zb (zd _ _) HB1.out) (zd _ _)) (fun k hk=>by rcases hk with rfl|rfl<;>simp<;>omega))
theorem zc6 (s:ByteArray) (p num ty j n k:Nat) (t:List UInt8) (d:Int) (w:World) (hp:p<=s.size) (hs:s.size<=1000000000) (hh:whd (s.data.toList.drop p)=.ok (num,ty,j)) (h3:ty≠3) (h4:ty≠4) (hpj:p+j<=s.size)
  (hg:wbd (s.data.toList.drop (p+j)) ty=.ok (n,t,k)) (hk:p+j+k<=s.size):Calls Tryz.prog 96 #[.string s,.int .i64 p,.int .i64 d] w (qw s p d w):=by
 have HF:Hid (wnx (s.data.toList.drop p) d=.ok (⟨num,ty,n,t,(s.data.toList.drop p).take (j+k)⟩,j+k)):=hid (by rw[j9 hh h3 h4,List.drop_drop,hg]);have hbdc:=z0c hh h3 h4;have hT3:((ty:Int) == 3)=false:=by simp;omega
 have hT4:((ty:Int) == 4)=false:=by simp;omega
 have HH:=hid hh;have HG:=hid hg;clear hh hg h3 h4;go_enter Tryz.func96,Tryz.ntmps96;go_wp2_with fail;refine(j8 s p _ hp hs).mono ?_;intro e w1 hpost;unfold xo at hpost
 rw[HH.out]at hpost;obtain⟨rfl,hb1⟩:=hpost;have HR1:=hid ((xl.new w #[.int .i64 0,.int .i64 0,.int .u64 0,.string ⟨#[]⟩,.string ⟨#[]⟩]).below hb1);have HB1:=hid hb1;clear hb1;go_wp2_with fail;refine(Jz s (p+j) ty _ hpj hs hbdc).mono ?_;intro e w6 hpost;clear hbdc hT3 hT4;unfold qv at hpost
 rw[HG.out]at hpost;obtain⟨rfl,hb6⟩:=hpost;have HR:=hid ((HR1.out.below (zd _ _)).below hb6);have HR9:=hid ((xl.new w1 #[.int .i64 num,.int .i64 ty,.int .u64 0,.string ⟨#[]⟩,.string ⟨#[]⟩]).below hb6);have HB6:=hid (zb (zb (zb (zd _ _) HB1.out) (zd _ _)) hb6);clear hb6;have hw1:w.heap.size<w1.heap.size:=z8 HR1.out.row;have hne1:w.heap.size≠w1.heap.size:=by omega
 have hne2:w1.heap.size≠w.heap.size:=by omega
 have rq0:w6.cell? ⟨w.heap.size,0,none⟩=some (.int .i64 0):=za HR.out.row (j:=0) rfl;have rz0:w6.frozen? ⟨w.heap.size,0,none⟩=false:=z7 HR.out.row 0;have rq1:w6.cell? ⟨w.heap.size,1,none⟩=some (.int .i64 0):=za HR.out.row (j:=1) rfl;have rz1:w6.frozen? ⟨w.heap.size,1,none⟩=false:=z7 HR.out.row 1;have rq2:w6.cell? ⟨w.heap.size,2,none⟩=some (.int .u64 0):=za HR.out.row (j:=2) rfl;have rz2:w6.frozen? ⟨w.heap.size,2,none⟩=false:=z7 HR.out.row 2;have rq3:w6.cell? ⟨w.heap.size,3,none⟩=some (.string ⟨#[]⟩):=za HR.out.row (j:=3) rfl;have rz3:w6.frozen? ⟨w.heap.size,3,none⟩=false:=z7 HR.out.row 3;have rq4:w6.cell? ⟨w.heap.size,4,none⟩=some (.string ⟨#[]⟩):=za HR.out.row (j:=4) rfl;have rz4:w6.frozen? ⟨w.heap.size,4,none⟩=false:=z7 HR.out.row 4;have rlt:w.heap.size<w6.heap.size:=z8 HR.out.row;have sq0:w6.cell? ⟨w1.heap.size,0,none⟩=some (.int .i64 num):=za HR9.out.row (j:=0) rfl;have sz0:w6.frozen? ⟨w1.heap.size,0,none⟩=false:=z7 HR9.out.row 0;have sq1:w6.cell? ⟨w1.heap.size,1,none⟩=some (.int .i64 ty):=za HR9.out.row (j:=1) rfl;have sz1:w6.frozen? ⟨w1.heap.size,1,none⟩=false:=z7 HR9.out.row 1;have sq2:w6.cell? ⟨w1.heap.size,2,none⟩=some (.int .u64 0):=za HR9.out.row (j:=2) rfl;have sz2:w6.frozen? ⟨w1.heap.size,2,none⟩=false:=z7 HR9.out.row 2;have sq3:w6.cell? ⟨w1.heap.size,3,none⟩=some (.string ⟨#[]⟩):=za HR9.out.row (j:=3) rfl;have sz3:w6.frozen? ⟨w1.heap.size,3,none⟩=false:=z7 HR9.out.row 3;have sq4:w6.cell? ⟨w1.heap.size,4,none⟩=some (.string ⟨#[]⟩):=za HR9.out.row (j:=4) rfl;have sz4:w6.frozen? ⟨w1.heap.size,4,none⟩=false:=z7 HR9.out.row 4;have slt:w1.heap.size<w6.heap.size:=z8 HR9.out.row;go_wp2_with fail;refine zv rfl rfl (ky ((((HR.out.other hne1 _ _).other hne1 _ _).other hne1 _ _).sets _ _ _ _ _).row rfl) rfl ?_;exact z9b HF.out (by rw[Zo,show p+j+k-p=j+k by omega];rfl) (by simp;omega) (Yj (kl (kl (kl HB6.out (by omega) _ _) (by omega) _ _) (by omega) _ _) _ _ _ _ _)
theorem z5y (s:ByteArray)(p:Nat)(d:Int)(w:World)(hp:p<=s.size)(hs:s.size<=1000000000) :
  Calls Tryz.prog 96 #[.string s,.int .i64 p,.int .i64 d] w (qw s p d w):=by
 have hL:(s.data.toList.drop p).length=s.size-p:=by simp
 cases hh:whd (s.data.toList.drop p)with
 | error c=>exact z88 s p c d w hp hs hh
 | ok x =>
  obtain⟨num,ty,j⟩:=x;have hb:=yo hh;have hpj:p+j<=s.size:=by omega
  have hL2:(s.data.toList.drop (p+j)).length=s.size-(p+j):=by simp
  by_cases h4:ty=4
  ·subst h4;exact zg2 s p num j d w hp hs hh
  ·by_cases h3:ty=3
   ·subst h3
    cases hg:zk (s.data.toList.drop (p+j)) [num] d with
    | error c=>exact z80 s p num j c d w hp hs hh hpj hg
    | ok k =>
     have:=(jb _ (Nat.lt_succ_self _) hg).1;exact za3 s p num j k d w hp hs hh hpj hg (by omega)
   ·cases hg:wbd (s.data.toList.drop (p+j)) ty with
    | error c=>exact z8i s p num ty j c d w hp hs hh h3 h4 hpj hg
    | ok y =>
     obtain⟨n,t,k⟩:=y;have:=(j1 hg).2.1;exact zc6 s p num ty j n k t d w hp hs hh h3 h4 hpj hg (by omega)
def yb (r:Rec):List Value:=[.int .i64 r.num,.int .i64 r.ty,.int .u64 r.n,.string ⟨r.s.toArray⟩,.string ⟨r.raw.toArray⟩]
theorem Tryz.elRec:Elem Tryz.prog 135 78 (.agg #[.int .i64 0,.int .i64 0,.int .u64 0,.string ⟨#[]⟩,.string ⟨#[]⟩]) 5 56:=⟨Tryz.underlying135,by kernel_rfl,by decide⟩
def Zi (s:ByteArray)(d:Int)(w:World)(e:Ending)(w':World):Prop:=match wall s.data.toList d with
 | .error c=>∃v,e=.returned (.tuple #[.slice none 0 0,v])/\∃q:Nat,q<=s.size/\yq w (q:Int) (c:Int) v w'
 | .ok rs=>∃u,e=.returned (.tuple #[u,.nilIface])/\w'.ownsRow w.heap.size 78 5 u rs.length (rs.flatMap yb)/\rs.length<=s.size/\Below w.heap.size w w'
theorem all_no {s:ByteArray}{c:Nat}{d:Int}{w w':World}{v:Value}(h:wall s.data.toList d=.error c)(q:Nat)(hq:q<=s.size)(hE:yq w (q:Int) (c:Int) v w'):Zi s d w (.returned (.tuple #[.slice none 0 0,v])) w':=by
 unfold Zi;rw[h];exact⟨v,rfl,q,hq,hE⟩
theorem all_ok {s:ByteArray}{rs:List Rec}{d:Int}{w w':World}{u:Value}(h:wall s.data.toList d=.ok rs)(ho:w'.ownsRow w.heap.size 78 5 u rs.length (rs.flatMap yb))(hl:rs.length<=s.size)(hB:Below w.heap.size w w'):Zi s d w (.returned (.tuple #[u,.nilIface])) w':=by
 unfold Zi;rw[h];exact⟨u,rfl,ho,hl,hB⟩
def Km (l:List UInt8)(d:Int)(q:Nat)(acc:List Rec):Prop:=q<=l.length/\acc.length<=q/\wall l d=match wall (l.drop q) d with
 | .error c => .error c
 | .ok rs => .ok (acc++rs)
theorem z5u (l:List UInt8)(d:Int):Km l d 0 []:=by
 refine⟨by omega,by simp,?_⟩;rw[List.drop_zero]
 cases wall l d<;>rfl
theorem zby {l:List UInt8}{d:Int}{q c:Nat}{acc:List Rec}(h:Km l d q acc)(hq:q<l.length)(hn:wnx (l.drop q) d=.error c):wall l d=.error c:=by
 rw[h.2.2,z9l (by intro e;have:=congrArg List.length e;simp at this;omega) hn]
theorem z9g {l:List UInt8}{d:Int}{q j:Nat}{acc:List Rec}{r:Rec}(h:Km l d q acc)(hn:wnx (l.drop q) d=.ok (r,j)):Km l d (q+j) (acc++[r]):=by
 have hb:=k7 hn
 simp at hb
 obtain⟨h1,h2,h3⟩:=h;refine⟨by omega,by simp;omega,?_⟩;rw[h3,X9 hn,List.drop_drop]
 cases wall (l.drop (q+j)) d with
 | error c=>rfl
 | ok rs=>simp
theorem zdp {l:List UInt8}{d:Int}{acc:List Rec}{q:Nat}(h:Km l d q acc)(hq:q=l.length):wall l d=.ok acc:=by
 subst hq;rw[h.2.2,List.drop_length,K5]
 simp
theorem z4a {l:List UInt8}{d:Int}{q j:Nat}{r:Rec}(hn:wnx (l.drop q) d=.ok (r,j)):2<=j/\q+j<=l.length:=by
 have hb:=k7 hn
 simp at hb
 omega
theorem z1e (s:ByteArray)(d:Int)(w:World)(hs:s.size<=1000000000) :
  Calls Tryz.prog 54 #[.string s,.int .i64 d] w (Zi s d w):=by
 have HL:=hid (show s.data.toList.length=s.size by simp);have HS:=hid hs;go_enter Tryz.func54,Tryz.ntmps54;go_wp2_with fail
 go_loopg [6,7] s.size (fun k v a wr=>∃(q:Nat) (acc:List Rec),q+k=s.size/\a=.int .i64 q/\Km s.data.toList d q acc/\wr.ownsRow w.heap.size 78 5 v acc.length (acc.flatMap yb)/\Below w.heap.size w wr)
 case atStart=>exact⟨0,[],by omega,rfl,z5u _ _,World.ownsRow_nil _ _ _ _,Below.refl _ _⟩
 case round =>
  obtain⟨q,acc,hqk,rfl,hal,hown,hb⟩:=hrel;have HA:=hid hal;have HB:=hid hb;have HQ:=hid hqk;have hqs:q<=s.size:=by omega
  have hsz:s.size<=1000000000:=HS.out;have hacc:acc.length<=q:=hal.2.1;have hwb:w.heap.size<=wr.heap.size:=hb.size;clear hal hb hqk
  by_cases hlt:q<s.size
  ·cases hn:wnx (s.data.toList.drop q) d with
   | error c =>
    have HN:=hid hn;have HF:=hid (zby HA.out (by have:=HL.out;omega) hn);clear hn hown;go_wp2_with fail;refine(z5y s q d _ hqs hsz).mono ?_;intro e w1 hpost;unfold qw at hpost
    rw[HN.out]at hpost;obtain⟨v,rfl,q',hq',hE⟩:=hpost;obtain⟨T,y,rfl⟩:=hE.iface;have HE:=hid hE;clear hE;unfold rec0;go_wp2_with fail
    go_ret2
    exact all_no HF.out q' hq' ((HE.out.after HB.out).stay (zd _ _))
   | ok x =>
    obtain⟨r,j⟩:=x;have HN:=hid hn;have HG:=hid (z9g HA.out hn);have HJ:=hid (z4a hn);have hqj:q+j<=s.size:=by have:=HJ.out.2;have:=HL.out;omega
    have hj2:2<=j:=HJ.out.1;clear hn;go_wp2_with fail;refine(z5y s q d _ hqs hsz).mono ?_;intro e w1 hpost;unfold qw at hpost
    rw[HN.out]at hpost;obtain⟨rfl,hb1⟩:=hpost;have HB1:=hid hb1;have hown1:=(y6 hown hb1).alloc (.cells #[.int .i64 r.num,.int .i64 r.ty,.int .u64 r.n,.string ⟨r.s.toArray⟩,.string ⟨r.raw.toArray⟩] 78);have hs1:=hb1.size;clear hb1 hown;unfold recV;go_wp2_with (at_builtin;refine kc (c:=1) (cs:=yb r) rfl _ _ 135 rfl Tryz.elRec (by decide) hown1 rfl (by show Value.slice (some ⟨w1.heap.size+1,0,none⟩) 1 1=_;simp) rfl (by simp[yb,Value.oneCell']) (by unfold maxLen;omega) (by omega) (by simp;omega) ?_;intro v' w2 hown' hgrow)
    have HO2:Hid (w2.ownsRow w.heap.size 78 5 v' (acc++[r]).length ((acc++[r]).flatMap yb)):=hid (by
     have e1:(acc++[r]).length=acc.length+1:=by simp
     have e2:(acc++[r]).flatMap yb=acc.flatMap yb++yb r:=by simp
     rw[e1,e2];exact hown')
    have HB2:Hid (Below w.heap.size w w2):=hid (((zb HB.out HB1.out).alloc (by omega) _).grown hgrow (by simp;omega) (fun k hk=>(hown1.lt _ hk).1));have hq:=HQ.out
    go_roundg (s.size-(q+j))
    case measure=>omega
    case rel=>exact⟨q+j,acc++[r],by omega,by simp,HG.out,HO2.out,HB2.out⟩
  ·have HF:=hid (zdp HA.out (by have:=HL.out;have:=HQ.out;omega))
   have HO:=hid hown;clear hown;go_wp2_with fail
   go_ret2
   exact all_ok HF.out HO.out (by omega) HB.out
end Go.Proofs.YtmlghmjjlpioeaaGreatDoor
