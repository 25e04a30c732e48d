/-
  What the reference of utf's sign zz on.
-/
import Derived.Test.YtmlghmjjlpioeaaGreatDoorUtf2
set_option maxRecDepth 1000000
set_option maxHeartbeats 16000000
namespace Go.Proofs.YtmlghmjjlpioeaaGreatDoor
open Go.RowKit
open Lib (hid)
theorem zao {l:List UInt8} {n j:Nat} (hn:ym (l.getD 0 0).toNat=n) (hjn:j<n)
  (h:l.length<=j∨(j=1/\yn (l.getD 0 0).toNat (l.getD 1 0).toNat=false)∨(2<=j/\Y0 (l.getD j 0)=false)):yk l=0:=by
 rw[ka hn]
 split
 ·rfl
 ·rename_i h1
  split
  ·rfl
  ·rename_i h2
   have hl:n<=l.length:=by omega
   rcases h with h|⟨_,h⟩|⟨h3,h⟩
   ·omega
   ·exact absurd ⟨by omega,h⟩ h2
   ·rw[if_neg]
    intro ha;rw[List.all_eq_true]at ha
    have hm:l.getD j 0∈(l.take n).drop 2:=by
     rw[List.getD_eq_getElem?_getD,List.getElem?_eq_getElem (by omega)];refine List.mem_iff_getElem.2 ⟨j-2,by simp;omega,?_⟩
     simp only[List.getElem_drop,List.getElem_take]
     have e:2+(j-2)=j:=by omega
     simp[e]
    rw[ha _ hm]at h
    cases h
theorem zfb {l:List UInt8} {n:Nat} (hn:ym (l.getD 0 0).toNat=n) (h0:n≠0) (hl:n<=l.length) (h1:1<n->yn (l.getD 0 0).toNat (l.getD 1 0).toNat=true)
  (h2:∀k,2<=k->k<n->Y0 (l.getD k 0)=true):yk l=n:=by
 rw[ka hn,if_neg (by omega),if_neg (by rintro⟨h3,h4⟩;rw[h1 h3]at h4;cases h4),if_pos];rw[List.all_eq_true];intro x hx;obtain⟨i,hi,rfl⟩:=List.mem_iff_getElem.1 hx;have hi':i<n-2:=by simp at hi;omega
 have:=h2 (i+2) (by omega) (by omega);rw[List.getD_eq_getElem?_getD,List.getElem?_eq_getElem (by omega)]at this
 simp only[List.getElem_drop,List.getElem_take]
 have e:2+i=i+2:=by omega
 simpa [e] using this
theorem xd (s:ByteArray)(i j:Nat)(h:i+j<s.size):(s.data.toList.drop i).getD j 0=s[i+j]'h:=by
 rw[<-ko s (i+j) h,List.getD_eq_getElem?_getD,List.getElem?_drop,List.getD_eq_getElem?_getD]
def qc (l:List UInt8)(n lo hi j:Nat):Prop :=
 1<=j/\j<=n/\j<=l.length/\(j=1->∀d,yn (l.getD 0 0).toNat d=decide (lo<=d/\d<=hi))/\(1<j->lo=128/\hi=191/\yn (l.getD 0 0).toNat (l.getD 1 0).toNat=true) /\
  ∀k,2<=k->k<j->Y0 (l.getD k 0)=true
theorem Ze {l:List UInt8}{n lo hi j:Nat}(h:qc l n lo hi j)(hj:j<n)(hl:j<l.length)(h1:lo<=(l.getD j 0).toNat)(h2:(l.getD j 0).toNat<=hi):qc l n 128 191 (j+1):=by
 obtain⟨a,b,c,d,e,f⟩:=h;refine⟨by omega,by omega,by omega,by omega,fun _=>⟨rfl,rfl,?_⟩,fun k k1 k2=>?_⟩
 ·by_cases hj1:j=1
  ·subst hj1
   rw[d rfl]
   simp only[decide_eq_true_eq]
   exact⟨h1,h2⟩
  ·exact(e (by omega)).2.2
 ·by_cases hk:k<j
  ·exact f k k1 hk
  ·obtain rfl:k=j:=by omega
   obtain⟨rfl,rfl,_⟩:=e (by omega);unfold Y0
   simp only[decide_eq_true_eq]
   exact⟨h1,h2⟩
theorem yp {l:List UInt8}{n lo hi j:Nat}(hn:ym (l.getD 0 0).toNat=n)(h:qc l n lo hi j)(hj:j<n)(hl:l.length<=j∨(l.getD j 0).toNat<lo∨hi<(l.getD j 0).toNat):yk l=0:=by
 obtain⟨a,b,c,d,e,f⟩:=h;refine zao hn hj ?_
 rcases hl with hl|hl
 ·exact .inl hl
 ·by_cases hj1:j=1
  ·subst hj1
   refine .inr (.inl ⟨rfl,?_⟩);rw[d rfl]
   simp only[decide_eq_false_iff_not]
   omega
  ·obtain⟨rfl,rfl,_⟩:=e (by omega)
   refine .inr (.inr ⟨by omega,?_⟩);unfold Y0
   simp only[decide_eq_false_iff_not]
   omega
theorem Zf {l:List UInt8}{n lo hi:Nat}(hn:ym (l.getD 0 0).toNat=n)(h:qc l n lo hi n):yk l=n:=by
 obtain⟨a,b,c,d,e,f⟩:=h;exact zfb hn (by omega) c (fun h=>(e h).2.2) f
theorem rsign_0 (s:ByteArray)(i:Nat)(w:World)(hi:i<s.size)(hs:s.size<=1000000)(hc1:194<=(s[i]'hi).toNat)(hc2:(s[i]'hi).toNat<=223) :
  Calls Tryz.prog 143 #[.string s,.int .i64 i] w fun e w'=>e=.returned (.int .i64 (yk (s.data.toList.drop i):Nat))/\w=w':=by
 have e0:(s.data.toList.drop i).getD 0 0=s[i]'hi:=xd s i 0 hi;have HL:=hid (show(s.data.toList.drop i).length=s.size-i by simp);have HZ:=hid (show ym ((s.data.toList.drop i).getD 0 0).toNat=2 by rw[e0];unfold ym;(repeat' split)<;>first|rfl|omega)
 have HS:Hid (qc (s.data.toList.drop i) 2 128 191 1):=hid (by
  refine⟨by omega,by omega,by have:=HL.out;omega,fun _ d=>?_,by omega,fun k h1 h2=>by omega⟩;rw[e0];unfold yn
  (repeat' split)<;>first|rfl|omega)
 have f0:=(show decide (((s[i]'hi).toNat:Int)<128)=false by simp;omega)
 have f1:=(show decide ((194:Int)<=(s[i]'hi).toNat)=true by simp;omega)
 have f2:=(show decide (((s[i]'hi).toNat:Int)<=223)=true by simp;omega)
 have f3:=(show decide ((224:Int)<=(s[i]'hi).toNat)=false by simp;omega)
 have f4:=(show decide (((s[i]'hi).toNat:Int)<=239)=true by simp;omega)
 have f5:=(show decide ((240:Int)<=(s[i]'hi).toNat)=false by simp;omega)
 have f6:=(show decide (((s[i]'hi).toNat:Int)<=244)=true by simp;omega)
 have f7:=(show(((s[i]'hi).toNat:Int) == 224)=false by simp;omega)
 have f8:=(show(((s[i]'hi).toNat:Int) == 237)=false by simp;omega)
 have f9:=(show(((s[i]'hi).toNat:Int) == 240)=false by simp;omega)
 have f10:=(show(((s[i]'hi).toNat:Int) == 244)=false by simp;omega)
 clear e0 hc1 hc2;go_enter Tryz.func143,Tryz.ntmps143
 go_wp2
 go_loopg [7,8,9] 1 (fun k lo hi v wr=>∃(a b j:Nat),lo=.int .u8 a/\hi=.int .u8 b/\v=.int .i64 j/\j+k=2/\qc (s.data.toList.drop i) 2 a b j/\wr=w)
 case atStart=>exact⟨128,191,1,rfl,rfl,rfl,by omega,HS.out,rfl⟩
 case round =>
  obtain⟨a,b,j,rfl,rfl,rfl,hk,HR0,rfl⟩:=hrel;have HR:=hid HR0;clear HR0
  by_cases hjn:j<2
  ·by_cases hl:i+j<s.size
   ·have ej:=hid (xd s i j hl)
    by_cases h1:a<=(s[i+j]'hl).toNat
    ·by_cases h2:(s[i+j]'hl).toNat<=b
     ·have HN:=hid (Ze HR.out hjn (by have:=HL.out;omega) (by rw[ej.out];exact h1) (by rw[ej.out];exact h2))
      go_wp2
      go_roundg (gk-1)
      case measure=>omega
      case rel=>exact⟨128,191,j+1,rfl,rfl,by simp,by omega,HN.out,rfl⟩
     ·have HF:=hid (yp HZ.out HR.out hjn (.inr (.inr (by rw[ej.out];omega))))
      go_wp2
      go_ret;exact⟨zl (by rw[HF.out];rfl),rfl⟩
    ·have HF:=hid (yp HZ.out HR.out hjn (.inr (.inl (by rw[ej.out];omega))))
     go_wp2
     go_ret;exact⟨zl (by rw[HF.out];rfl),rfl⟩
   ·have HF:=hid (yp HZ.out HR.out hjn (.inl (by have:=HL.out;omega)))
    go_wp2
    go_ret;exact⟨zl (by rw[HF.out];rfl),rfl⟩
  ·obtain rfl:j=2:=by have:=HR.out.2.1;omega
   have HF:=hid (Zf HZ.out HR.out)
   go_wp2
   go_ret;exact⟨zl (by rw[HF.out];rfl),rfl⟩
theorem rsign_1 (s:ByteArray)(i:Nat)(w:World)(hi:i<s.size)(hs:s.size<=1000000)(hc1:224<=(s[i]'hi).toNat)(hc2:(s[i]'hi).toNat<=224) :
  Calls Tryz.prog 143 #[.string s,.int .i64 i] w fun e w'=>e=.returned (.int .i64 (yk (s.data.toList.drop i):Nat))/\w=w':=by
 have e0:(s.data.toList.drop i).getD 0 0=s[i]'hi:=xd s i 0 hi;have HL:=hid (show(s.data.toList.drop i).length=s.size-i by simp);have HZ:=hid (show ym ((s.data.toList.drop i).getD 0 0).toNat=3 by rw[e0];unfold ym;(repeat' split)<;>first|rfl|omega)
 have HS:Hid (qc (s.data.toList.drop i) 3 160 191 1):=hid (by
  refine⟨by omega,by omega,by have:=HL.out;omega,fun _ d=>?_,by omega,fun k h1 h2=>by omega⟩;rw[e0];unfold yn
  (repeat' split)<;>first|rfl|omega)
 have f0:=(show decide (((s[i]'hi).toNat:Int)<128)=false by simp;omega)
 have f1:=(show decide ((194:Int)<=(s[i]'hi).toNat)=true by simp;omega)
 have f2:=(show decide (((s[i]'hi).toNat:Int)<=223)=false by simp;omega)
 have f3:=(show decide ((224:Int)<=(s[i]'hi).toNat)=true by simp;omega)
 have f4:=(show decide (((s[i]'hi).toNat:Int)<=239)=true by simp;omega)
 have f5:=(show decide ((240:Int)<=(s[i]'hi).toNat)=false by simp;omega)
 have f6:=(show decide (((s[i]'hi).toNat:Int)<=244)=true by simp;omega)
 have f7:=(show(((s[i]'hi).toNat:Int) == 224)=true by simp;omega)
 have f8:=(show(((s[i]'hi).toNat:Int) == 237)=false by simp;omega)
 have f9:=(show(((s[i]'hi).toNat:Int) == 240)=false by simp;omega)
 have f10:=(show(((s[i]'hi).toNat:Int) == 244)=false by simp;omega)
 clear e0 hc1 hc2;go_enter Tryz.func143,Tryz.ntmps143
 go_wp2
 go_loopg [7,8,9] 2 (fun k lo hi v wr=>∃(a b j:Nat),lo=.int .u8 a/\hi=.int .u8 b/\v=.int .i64 j/\j+k=3/\qc (s.data.toList.drop i) 3 a b j/\wr=w)
 case atStart=>exact⟨160,191,1,rfl,rfl,rfl,by omega,HS.out,rfl⟩
 case round =>
  obtain⟨a,b,j,rfl,rfl,rfl,hk,HR0,rfl⟩:=hrel;have HR:=hid HR0;clear HR0
  by_cases hjn:j<3
  ·by_cases hl:i+j<s.size
   ·have ej:=hid (xd s i j hl)
    by_cases h1:a<=(s[i+j]'hl).toNat
    ·by_cases h2:(s[i+j]'hl).toNat<=b
     ·have HN:=hid (Ze HR.out hjn (by have:=HL.out;omega) (by rw[ej.out];exact h1) (by rw[ej.out];exact h2))
      go_wp2
      go_roundg (gk-1)
      case measure=>omega
      case rel=>exact⟨128,191,j+1,rfl,rfl,by simp,by omega,HN.out,rfl⟩
     ·have HF:=hid (yp HZ.out HR.out hjn (.inr (.inr (by rw[ej.out];omega))))
      go_wp2
      go_ret;exact⟨zl (by rw[HF.out];rfl),rfl⟩
    ·have HF:=hid (yp HZ.out HR.out hjn (.inr (.inl (by rw[ej.out];omega))))
     go_wp2
     go_ret;exact⟨zl (by rw[HF.out];rfl),rfl⟩
   ·have HF:=hid (yp HZ.out HR.out hjn (.inl (by have:=HL.out;omega)))
    go_wp2
    go_ret;exact⟨zl (by rw[HF.out];rfl),rfl⟩
  ·obtain rfl:j=3:=by have:=HR.out.2.1;omega
   have HF:=hid (Zf HZ.out HR.out)
   go_wp2
   go_ret;exact⟨zl (by rw[HF.out];rfl),rfl⟩
theorem rsign_2 (s:ByteArray)(i:Nat)(w:World)(hi:i<s.size)(hs:s.size<=1000000)(hc1:225<=(s[i]'hi).toNat)(hc2:(s[i]'hi).toNat<=236) :
  Calls Tryz.prog 143 #[.string s,.int .i64 i] w fun e w'=>e=.returned (.int .i64 (yk (s.data.toList.drop i):Nat))/\w=w':=by
 have e0:(s.data.toList.drop i).getD 0 0=s[i]'hi:=xd s i 0 hi;have HL:=hid (show(s.data.toList.drop i).length=s.size-i by simp);have HZ:=hid (show ym ((s.data.toList.drop i).getD 0 0).toNat=3 by rw[e0];unfold ym;(repeat' split)<;>first|rfl|omega)
 have HS:Hid (qc (s.data.toList.drop i) 3 128 191 1):=hid (by
  refine⟨by omega,by omega,by have:=HL.out;omega,fun _ d=>?_,by omega,fun k h1 h2=>by omega⟩;rw[e0];unfold yn
  (repeat' split)<;>first|rfl|omega)
 have f0:=(show decide (((s[i]'hi).toNat:Int)<128)=false by simp;omega)
 have f1:=(show decide ((194:Int)<=(s[i]'hi).toNat)=true by simp;omega)
 have f2:=(show decide (((s[i]'hi).toNat:Int)<=223)=false by simp;omega)
 have f3:=(show decide ((224:Int)<=(s[i]'hi).toNat)=true by simp;omega)
 have f4:=(show decide (((s[i]'hi).toNat:Int)<=239)=true by simp;omega)
 have f5:=(show decide ((240:Int)<=(s[i]'hi).toNat)=false by simp;omega)
 have f6:=(show decide (((s[i]'hi).toNat:Int)<=244)=true by simp;omega)
 have f7:=(show(((s[i]'hi).toNat:Int) == 224)=false by simp;omega)
 have f8:=(show(((s[i]'hi).toNat:Int) == 237)=false by simp;omega)
 have f9:=(show(((s[i]'hi).toNat:Int) == 240)=false by simp;omega)
 have f10:=(show(((s[i]'hi).toNat:Int) == 244)=false by simp;omega)
 clear e0 hc1 hc2;go_enter Tryz.func143,Tryz.ntmps143
 go_wp2
 go_loopg [7,8,9] 2 (fun k lo hi v wr=>∃(a b j:Nat),lo=.int .u8 a/\hi=.int .u8 b/\v=.int .i64 j/\j+k=3/\qc (s.data.toList.drop i) 3 a b j/\wr=w)
 case atStart=>exact⟨128,191,1,rfl,rfl,rfl,by omega,HS.out,rfl⟩
 case round =>
  obtain⟨a,b,j,rfl,rfl,rfl,hk,HR0,rfl⟩:=hrel;have HR:=hid HR0;clear HR0
  by_cases hjn:j<3
  ·by_cases hl:i+j<s.size
   ·have ej:=hid (xd s i j hl)
    by_cases h1:a<=(s[i+j]'hl).toNat
    ·by_cases h2:(s[i+j]'hl).toNat<=b
     ·have HN:=hid (Ze HR.out hjn (by have:=HL.out;omega) (by rw[ej.out];exact h1) (by rw[ej.out];exact h2))
      go_wp2
      go_roundg (gk-1)
      case measure=>omega
      case rel=>exact⟨128,191,j+1,rfl,rfl,by simp,by omega,HN.out,rfl⟩
     ·have HF:=hid (yp HZ.out HR.out hjn (.inr (.inr (by rw[ej.out];omega))))
      go_wp2
      go_ret;exact⟨zl (by rw[HF.out];rfl),rfl⟩
    ·have HF:=hid (yp HZ.out HR.out hjn (.inr (.inl (by rw[ej.out];omega))))
     go_wp2
     go_ret;exact⟨zl (by rw[HF.out];rfl),rfl⟩
   ·have HF:=hid (yp HZ.out HR.out hjn (.inl (by have:=HL.out;omega)))
    go_wp2
    go_ret;exact⟨zl (by rw[HF.out];rfl),rfl⟩
  ·obtain rfl:j=3:=by have:=HR.out.2.1;omega
   have HF:=hid (Zf HZ.out HR.out)
   go_wp2
   go_ret;exact⟨zl (by rw[HF.out];rfl),rfl⟩
theorem rsign_3 (s:ByteArray)(i:Nat)(w:World)(hi:i<s.size)(hs:s.size<=1000000)(hc1:237<=(s[i]'hi).toNat)(hc2:(s[i]'hi).toNat<=237) :
  Calls Tryz.prog 143 #[.string s,.int .i64 i] w fun e w'=>e=.returned (.int .i64 (yk (s.data.toList.drop i):Nat))/\w=w':=by
 have e0:(s.data.toList.drop i).getD 0 0=s[i]'hi:=xd s i 0 hi;have HL:=hid (show(s.data.toList.drop i).length=s.size-i by simp);have HZ:=hid (show ym ((s.data.toList.drop i).getD 0 0).toNat=3 by rw[e0];unfold ym;(repeat' split)<;>first|rfl|omega)
 have HS:Hid (qc (s.data.toList.drop i) 3 128 159 1):=hid (by
  refine⟨by omega,by omega,by have:=HL.out;omega,fun _ d=>?_,by omega,fun k h1 h2=>by omega⟩;rw[e0];unfold yn
  (repeat' split)<;>first|rfl|omega)
 have f0:=(show decide (((s[i]'hi).toNat:Int)<128)=false by simp;omega)
 have f1:=(show decide ((194:Int)<=(s[i]'hi).toNat)=true by simp;omega)
 have f2:=(show decide (((s[i]'hi).toNat:Int)<=223)=false by simp;omega)
 have f3:=(show decide ((224:Int)<=(s[i]'hi).toNat)=true by simp;omega)
 have f4:=(show decide (((s[i]'hi).toNat:Int)<=239)=true by simp;omega)
 have f5:=(show decide ((240:Int)<=(s[i]'hi).toNat)=false by simp;omega)
 have f6:=(show decide (((s[i]'hi).toNat:Int)<=244)=true by simp;omega)
 have f7:=(show(((s[i]'hi).toNat:Int) == 224)=false by simp;omega)
 have f8:=(show(((s[i]'hi).toNat:Int) == 237)=true by simp;omega)
 have f9:=(show(((s[i]'hi).toNat:Int) == 240)=false by simp;omega)
 have f10:=(show(((s[i]'hi).toNat:Int) == 244)=false by simp;omega)
 clear e0 hc1 hc2;go_enter Tryz.func143,Tryz.ntmps143
 go_wp2
 go_loopg [7,8,9] 2 (fun k lo hi v wr=>∃(a b j:Nat),lo=.int .u8 a/\hi=.int .u8 b/\v=.int .i64 j/\j+k=3/\qc (s.data.toList.drop i) 3 a b j/\wr=w)
 case atStart=>exact⟨128,159,1,rfl,rfl,rfl,by omega,HS.out,rfl⟩
 case round =>
  obtain⟨a,b,j,rfl,rfl,rfl,hk,HR0,rfl⟩:=hrel;have HR:=hid HR0;clear HR0
  by_cases hjn:j<3
  ·by_cases hl:i+j<s.size
   ·have ej:=hid (xd s i j hl)
    by_cases h1:a<=(s[i+j]'hl).toNat
    ·by_cases h2:(s[i+j]'hl).toNat<=b
     ·have HN:=hid (Ze HR.out hjn (by have:=HL.out;omega) (by rw[ej.out];exact h1) (by rw[ej.out];exact h2))
      go_wp2
      go_roundg (gk-1)
      case measure=>omega
      case rel=>exact⟨128,191,j+1,rfl,rfl,by simp,by omega,HN.out,rfl⟩
     ·have HF:=hid (yp HZ.out HR.out hjn (.inr (.inr (by rw[ej.out];omega))))
      go_wp2
      go_ret;exact⟨zl (by rw[HF.out];rfl),rfl⟩
    ·have HF:=hid (yp HZ.out HR.out hjn (.inr (.inl (by rw[ej.out];omega))))
     go_wp2
     go_ret;exact⟨zl (by rw[HF.out];rfl),rfl⟩
   ·have HF:=hid (yp HZ.out HR.out hjn (.inl (by have:=HL.out;omega)))
    go_wp2
    go_ret;exact⟨zl (by rw[HF.out];rfl),rfl⟩
  ·obtain rfl:j=3:=by have:=HR.out.2.1;omega
   have HF:=hid (Zf HZ.out HR.out)
   go_wp2
   go_ret;exact⟨zl (by rw[HF.out];rfl),rfl⟩
theorem rsign_4 (s:ByteArray)(i:Nat)(w:World)(hi:i<s.size)(hs:s.size<=1000000)(hc1:238<=(s[i]'hi).toNat)(hc2:(s[i]'hi).toNat<=239) :
  Calls Tryz.prog 143 #[.string s,.int .i64 i] w fun e w'=>e=.returned (.int .i64 (yk (s.data.toList.drop i):Nat))/\w=w':=by
 have e0:(s.data.toList.drop i).getD 0 0=s[i]'hi:=xd s i 0 hi;have HL:=hid (show(s.data.toList.drop i).length=s.size-i by simp);have HZ:=hid (show ym ((s.data.toList.drop i).getD 0 0).toNat=3 by rw[e0];unfold ym;(repeat' split)<;>first|rfl|omega)
 have HS:Hid (qc (s.data.toList.drop i) 3 128 191 1):=hid (by
  refine⟨by omega,by omega,by have:=HL.out;omega,fun _ d=>?_,by omega,fun k h1 h2=>by omega⟩;rw[e0];unfold yn
  (repeat' split)<;>first|rfl|omega)
 have f0:=(show decide (((s[i]'hi).toNat:Int)<128)=false by simp;omega)
 have f1:=(show decide ((194:Int)<=(s[i]'hi).toNat)=true by simp;omega)
 have f2:=(show decide (((s[i]'hi).toNat:Int)<=223)=false by simp;omega)
 have f3:=(show decide ((224:Int)<=(s[i]'hi).toNat)=true by simp;omega)
 have f4:=(show decide (((s[i]'hi).toNat:Int)<=239)=true by simp;omega)
 have f5:=(show decide ((240:Int)<=(s[i]'hi).toNat)=false by simp;omega)
 have f6:=(show decide (((s[i]'hi).toNat:Int)<=244)=true by simp;omega)
 have f7:=(show(((s[i]'hi).toNat:Int) == 224)=false by simp;omega)
 have f8:=(show(((s[i]'hi).toNat:Int) == 237)=false by simp;omega)
 have f9:=(show(((s[i]'hi).toNat:Int) == 240)=false by simp;omega)
 have f10:=(show(((s[i]'hi).toNat:Int) == 244)=false by simp;omega)
 clear e0 hc1 hc2;go_enter Tryz.func143,Tryz.ntmps143
 go_wp2
 go_loopg [7,8,9] 2 (fun k lo hi v wr=>∃(a b j:Nat),lo=.int .u8 a/\hi=.int .u8 b/\v=.int .i64 j/\j+k=3/\qc (s.data.toList.drop i) 3 a b j/\wr=w)
 case atStart=>exact⟨128,191,1,rfl,rfl,rfl,by omega,HS.out,rfl⟩
 case round =>
  obtain⟨a,b,j,rfl,rfl,rfl,hk,HR0,rfl⟩:=hrel;have HR:=hid HR0;clear HR0
  by_cases hjn:j<3
  ·by_cases hl:i+j<s.size
   ·have ej:=hid (xd s i j hl)
    by_cases h1:a<=(s[i+j]'hl).toNat
    ·by_cases h2:(s[i+j]'hl).toNat<=b
     ·have HN:=hid (Ze HR.out hjn (by have:=HL.out;omega) (by rw[ej.out];exact h1) (by rw[ej.out];exact h2))
      go_wp2
      go_roundg (gk-1)
      case measure=>omega
      case rel=>exact⟨128,191,j+1,rfl,rfl,by simp,by omega,HN.out,rfl⟩
     ·have HF:=hid (yp HZ.out HR.out hjn (.inr (.inr (by rw[ej.out];omega))))
      go_wp2
      go_ret;exact⟨zl (by rw[HF.out];rfl),rfl⟩
    ·have HF:=hid (yp HZ.out HR.out hjn (.inr (.inl (by rw[ej.out];omega))))
     go_wp2
     go_ret;exact⟨zl (by rw[HF.out];rfl),rfl⟩
   ·have HF:=hid (yp HZ.out HR.out hjn (.inl (by have:=HL.out;omega)))
    go_wp2
    go_ret;exact⟨zl (by rw[HF.out];rfl),rfl⟩
  ·obtain rfl:j=3:=by have:=HR.out.2.1;omega
   have HF:=hid (Zf HZ.out HR.out)
   go_wp2
   go_ret;exact⟨zl (by rw[HF.out];rfl),rfl⟩
theorem rsign_5 (s:ByteArray)(i:Nat)(w:World)(hi:i<s.size)(hs:s.size<=1000000)(hc1:240<=(s[i]'hi).toNat)(hc2:(s[i]'hi).toNat<=240) :
  Calls Tryz.prog 143 #[.string s,.int .i64 i] w fun e w'=>e=.returned (.int .i64 (yk (s.data.toList.drop i):Nat))/\w=w':=by
 have e0:(s.data.toList.drop i).getD 0 0=s[i]'hi:=xd s i 0 hi;have HL:=hid (show(s.data.toList.drop i).length=s.size-i by simp);have HZ:=hid (show ym ((s.data.toList.drop i).getD 0 0).toNat=4 by rw[e0];unfold ym;(repeat' split)<;>first|rfl|omega)
 have HS:Hid (qc (s.data.toList.drop i) 4 144 191 1):=hid (by
  refine⟨by omega,by omega,by have:=HL.out;omega,fun _ d=>?_,by omega,fun k h1 h2=>by omega⟩;rw[e0];unfold yn
  (repeat' split)<;>first|rfl|omega)
 have f0:=(show decide (((s[i]'hi).toNat:Int)<128)=false by simp;omega)
 have f1:=(show decide ((194:Int)<=(s[i]'hi).toNat)=true by simp;omega)
 have f2:=(show decide (((s[i]'hi).toNat:Int)<=223)=false by simp;omega)
 have f3:=(show decide ((224:Int)<=(s[i]'hi).toNat)=true by simp;omega)
 have f4:=(show decide (((s[i]'hi).toNat:Int)<=239)=false by simp;omega)
 have f5:=(show decide ((240:Int)<=(s[i]'hi).toNat)=true by simp;omega)
 have f6:=(show decide (((s[i]'hi).toNat:Int)<=244)=true by simp;omega)
 have f7:=(show(((s[i]'hi).toNat:Int) == 224)=false by simp;omega)
 have f8:=(show(((s[i]'hi).toNat:Int) == 237)=false by simp;omega)
 have f9:=(show(((s[i]'hi).toNat:Int) == 240)=true by simp;omega)
 have f10:=(show(((s[i]'hi).toNat:Int) == 244)=false by simp;omega)
 clear e0 hc1 hc2;go_enter Tryz.func143,Tryz.ntmps143
 go_wp2
 go_loopg [7,8,9] 3 (fun k lo hi v wr=>∃(a b j:Nat),lo=.int .u8 a/\hi=.int .u8 b/\v=.int .i64 j/\j+k=4/\qc (s.data.toList.drop i) 4 a b j/\wr=w)
 case atStart=>exact⟨144,191,1,rfl,rfl,rfl,by omega,HS.out,rfl⟩
 case round =>
  obtain⟨a,b,j,rfl,rfl,rfl,hk,HR0,rfl⟩:=hrel;have HR:=hid HR0;clear HR0
  by_cases hjn:j<4
  ·by_cases hl:i+j<s.size
   ·have ej:=hid (xd s i j hl)
    by_cases h1:a<=(s[i+j]'hl).toNat
    ·by_cases h2:(s[i+j]'hl).toNat<=b
     ·have HN:=hid (Ze HR.out hjn (by have:=HL.out;omega) (by rw[ej.out];exact h1) (by rw[ej.out];exact h2))
      go_wp2
      go_roundg (gk-1)
      case measure=>omega
      case rel=>exact⟨128,191,j+1,rfl,rfl,by simp,by omega,HN.out,rfl⟩
     ·have HF:=hid (yp HZ.out HR.out hjn (.inr (.inr (by rw[ej.out];omega))))
      go_wp2
      go_ret;exact⟨zl (by rw[HF.out];rfl),rfl⟩
    ·have HF:=hid (yp HZ.out HR.out hjn (.inr (.inl (by rw[ej.out];omega))))
     go_wp2
     go_ret;exact⟨zl (by rw[HF.out];rfl),rfl⟩
   ·have HF:=hid (yp HZ.out HR.out hjn (.inl (by have:=HL.out;omega)))
    go_wp2
    go_ret;exact⟨zl (by rw[HF.out];rfl),rfl⟩
  ·obtain rfl:j=4:=by have:=HR.out.2.1;omega
   have HF:=hid (Zf HZ.out HR.out)
   go_wp2
   go_ret;exact⟨zl (by rw[HF.out];rfl),rfl⟩
theorem rsign_6 (s:ByteArray)(i:Nat)(w:World)(hi:i<s.size)(hs:s.size<=1000000)(hc1:241<=(s[i]'hi).toNat)(hc2:(s[i]'hi).toNat<=243) :
  Calls Tryz.prog 143 #[.string s,.int .i64 i] w fun e w'=>e=.returned (.int .i64 (yk (s.data.toList.drop i):Nat))/\w=w':=by
 have e0:(s.data.toList.drop i).getD 0 0=s[i]'hi:=xd s i 0 hi;have HL:=hid (show(s.data.toList.drop i).length=s.size-i by simp);have HZ:=hid (show ym ((s.data.toList.drop i).getD 0 0).toNat=4 by rw[e0];unfold ym;(repeat' split)<;>first|rfl|omega)
 have HS:Hid (qc (s.data.toList.drop i) 4 128 191 1):=hid (by
  refine⟨by omega,by omega,by have:=HL.out;omega,fun _ d=>?_,by omega,fun k h1 h2=>by omega⟩;rw[e0];unfold yn
  (repeat' split)<;>first|rfl|omega)
 have f0:=(show decide (((s[i]'hi).toNat:Int)<128)=false by simp;omega)
 have f1:=(show decide ((194:Int)<=(s[i]'hi).toNat)=true by simp;omega)
 have f2:=(show decide (((s[i]'hi).toNat:Int)<=223)=false by simp;omega)
 have f3:=(show decide ((224:Int)<=(s[i]'hi).toNat)=true by simp;omega)
 have f4:=(show decide (((s[i]'hi).toNat:Int)<=239)=false by simp;omega)
 have f5:=(show decide ((240:Int)<=(s[i]'hi).toNat)=true by simp;omega)
 have f6:=(show decide (((s[i]'hi).toNat:Int)<=244)=true by simp;omega)
 have f7:=(show(((s[i]'hi).toNat:Int) == 224)=false by simp;omega)
 have f8:=(show(((s[i]'hi).toNat:Int) == 237)=false by simp;omega)
 have f9:=(show(((s[i]'hi).toNat:Int) == 240)=false by simp;omega)
 have f10:=(show(((s[i]'hi).toNat:Int) == 244)=false by simp;omega)
 clear e0 hc1 hc2;go_enter Tryz.func143,Tryz.ntmps143
 go_wp2
 go_loopg [7,8,9] 3 (fun k lo hi v wr=>∃(a b j:Nat),lo=.int .u8 a/\hi=.int .u8 b/\v=.int .i64 j/\j+k=4/\qc (s.data.toList.drop i) 4 a b j/\wr=w)
 case atStart=>exact⟨128,191,1,rfl,rfl,rfl,by omega,HS.out,rfl⟩
 case round =>
  obtain⟨a,b,j,rfl,rfl,rfl,hk,HR0,rfl⟩:=hrel;have HR:=hid HR0;clear HR0
  by_cases hjn:j<4
  ·by_cases hl:i+j<s.size
   ·have ej:=hid (xd s i j hl)
    by_cases h1:a<=(s[i+j]'hl).toNat
    ·by_cases h2:(s[i+j]'hl).toNat<=b
     ·have HN:=hid (Ze HR.out hjn (by have:=HL.out;omega) (by rw[ej.out];exact h1) (by rw[ej.out];exact h2))
      go_wp2
      go_roundg (gk-1)
      case measure=>omega
      case rel=>exact⟨128,191,j+1,rfl,rfl,by simp,by omega,HN.out,rfl⟩
     ·have HF:=hid (yp HZ.out HR.out hjn (.inr (.inr (by rw[ej.out];omega))))
      go_wp2
      go_ret;exact⟨zl (by rw[HF.out];rfl),rfl⟩
    ·have HF:=hid (yp HZ.out HR.out hjn (.inr (.inl (by rw[ej.out];omega))))
     go_wp2
     go_ret;exact⟨zl (by rw[HF.out];rfl),rfl⟩
   ·have HF:=hid (yp HZ.out HR.out hjn (.inl (by have:=HL.out;omega)))
    go_wp2
    go_ret;exact⟨zl (by rw[HF.out];rfl),rfl⟩
  ·obtain rfl:j=4:=by have:=HR.out.2.1;omega
   have HF:=hid (Zf HZ.out HR.out)
   go_wp2
   go_ret;exact⟨zl (by rw[HF.out];rfl),rfl⟩
theorem rsign_7 (s:ByteArray)(i:Nat)(w:World)(hi:i<s.size)(hs:s.size<=1000000)(hc1:244<=(s[i]'hi).toNat)(hc2:(s[i]'hi).toNat<=244) :
  Calls Tryz.prog 143 #[.string s,.int .i64 i] w fun e w'=>e=.returned (.int .i64 (yk (s.data.toList.drop i):Nat))/\w=w':=by
 have e0:(s.data.toList.drop i).getD 0 0=s[i]'hi:=xd s i 0 hi;have HL:=hid (show(s.data.toList.drop i).length=s.size-i by simp);have HZ:=hid (show ym ((s.data.toList.drop i).getD 0 0).toNat=4 by rw[e0];unfold ym;(repeat' split)<;>first|rfl|omega)
 have HS:Hid (qc (s.data.toList.drop i) 4 128 143 1):=hid (by
  refine⟨by omega,by omega,by have:=HL.out;omega,fun _ d=>?_,by omega,fun k h1 h2=>by omega⟩;rw[e0];unfold yn
  (repeat' split)<;>first|rfl|omega)
 have f0:=(show decide (((s[i]'hi).toNat:Int)<128)=false by simp;omega)
 have f1:=(show decide ((194:Int)<=(s[i]'hi).toNat)=true by simp;omega)
 have f2:=(show decide (((s[i]'hi).toNat:Int)<=223)=false by simp;omega)
 have f3:=(show decide ((224:Int)<=(s[i]'hi).toNat)=true by simp;omega)
 have f4:=(show decide (((s[i]'hi).toNat:Int)<=239)=false by simp;omega)
 have f5:=(show decide ((240:Int)<=(s[i]'hi).toNat)=true by simp;omega)
 have f6:=(show decide (((s[i]'hi).toNat:Int)<=244)=true by simp;omega)
 have f7:=(show(((s[i]'hi).toNat:Int) == 224)=false by simp;omega)
 have f8:=(show(((s[i]'hi).toNat:Int) == 237)=false by simp;omega)
 have f9:=(show(((s[i]'hi).toNat:Int) == 240)=false by simp;omega)
 have f10:=(show(((s[i]'hi).toNat:Int) == 244)=true by simp;omega)
 clear e0 hc1 hc2;go_enter Tryz.func143,Tryz.ntmps143
 go_wp2
 go_loopg [7,8,9] 3 (fun k lo hi v wr=>∃(a b j:Nat),lo=.int .u8 a/\hi=.int .u8 b/\v=.int .i64 j/\j+k=4/\qc (s.data.toList.drop i) 4 a b j/\wr=w)
 case atStart=>exact⟨128,143,1,rfl,rfl,rfl,by omega,HS.out,rfl⟩
 case round =>
  obtain⟨a,b,j,rfl,rfl,rfl,hk,HR0,rfl⟩:=hrel;have HR:=hid HR0;clear HR0
  by_cases hjn:j<4
  ·by_cases hl:i+j<s.size
   ·have ej:=hid (xd s i j hl)
    by_cases h1:a<=(s[i+j]'hl).toNat
    ·by_cases h2:(s[i+j]'hl).toNat<=b
     ·have HN:=hid (Ze HR.out hjn (by have:=HL.out;omega) (by rw[ej.out];exact h1) (by rw[ej.out];exact h2))
      go_wp2
      go_roundg (gk-1)
      case measure=>omega
      case rel=>exact⟨128,191,j+1,rfl,rfl,by simp,by omega,HN.out,rfl⟩
     ·have HF:=hid (yp HZ.out HR.out hjn (.inr (.inr (by rw[ej.out];omega))))
      go_wp2
      go_ret;exact⟨zl (by rw[HF.out];rfl),rfl⟩
    ·have HF:=hid (yp HZ.out HR.out hjn (.inr (.inl (by rw[ej.out];omega))))
     go_wp2
     go_ret;exact⟨zl (by rw[HF.out];rfl),rfl⟩
   ·have HF:=hid (yp HZ.out HR.out hjn (.inl (by have:=HL.out;omega)))
    go_wp2
    go_ret;exact⟨zl (by rw[HF.out];rfl),rfl⟩
  ·obtain rfl:j=4:=by have:=HR.out.2.1;omega
   have HF:=hid (Zf HZ.out HR.out)
   go_wp2
   go_ret;exact⟨zl (by rw[HF.out];rfl),rfl⟩
theorem zcb (s:ByteArray)(i:Nat)(w:World)(hi:i<s.size)(hs:s.size<=1000000) :
  Calls Tryz.prog 143 #[.string s,.int .i64 i] w fun e w'=>e=.returned (.int .i64 (yk (s.data.toList.drop i):Nat))/\w=w':=by
 have e0:(s.data.toList.drop i).getD 0 0=s[i]'hi:=xd s i 0 hi;have HL:=hid (show(s.data.toList.drop i).length=s.size-i by simp);have hlt:=(s[i]'hi).toNat_lt
 rcases(by omega:(244<(s[i]'hi).toNat∨(128<=(s[i]'hi).toNat/\(s[i]'hi).toNat<194))∨(s[i]'hi).toNat<128∨(194<=(s[i]'hi).toNat/\(s[i]'hi).toNat<=223)∨(224<=(s[i]'hi).toNat/\(s[i]'hi).toNat<=224)∨(225<=(s[i]'hi).toNat/\(s[i]'hi).toNat<=236)∨(237<=(s[i]'hi).toNat/\(s[i]'hi).toNat<=237)∨(238<=(s[i]'hi).toNat/\(s[i]'hi).toNat<=239)∨(240<=(s[i]'hi).toNat/\(s[i]'hi).toNat<=240)∨(241<=(s[i]'hi).toNat/\(s[i]'hi).toNat<=243)∨(244<=(s[i]'hi).toNat/\(s[i]'hi).toNat<=244))with hc|hc|⟨hc1,hc2⟩|⟨hc1,hc2⟩|⟨hc1,hc2⟩|⟨hc1,hc2⟩|⟨hc1,hc2⟩|⟨hc1,hc2⟩|⟨hc1,hc2⟩|⟨hc1,hc2⟩
 ·have HF:=hid (z8s (l:=s.data.toList.drop i) (by rw[e0];unfold ym;rw[if_pos hc]))
  clear e0
  rcases hc with hc|⟨hc1,hc2⟩
  ·go_enter Tryz.func143,Tryz.ntmps143
   go_wp2
   go_ret;exact⟨zl (by rw[HF.out];rfl),rfl⟩
  ·go_enter Tryz.func143,Tryz.ntmps143
   go_wp2
   go_ret;exact⟨zl (by rw[HF.out];rfl),rfl⟩
 ·have HF:=hid (z9d (l:=s.data.toList.drop i) (by rw[e0];unfold ym;rw[if_neg (by omega),if_neg (by omega),if_neg (by omega),if_neg (by omega)]) (by have:=HL.out;omega))
  clear e0;go_enter Tryz.func143,Tryz.ntmps143
  go_wp2
  go_ret;exact⟨zl (by rw[HF.out];rfl),rfl⟩
 ·exact rsign_0 s i w hi hs hc1 hc2
 ·exact rsign_1 s i w hi hs hc1 hc2
 ·exact rsign_2 s i w hi hs hc1 hc2
 ·exact rsign_3 s i w hi hs hc1 hc2
 ·exact rsign_4 s i w hi hs hc1 hc2
 ·exact rsign_5 s i w hi hs hc1 hc2
 ·exact rsign_6 s i w hi hs hc1 hc2
 ·exact rsign_7 s i w hi hs hc1 hc2
theorem ubad_at {l:List UInt8}{j:Nat}(h:Xf l l.length j)(hj:j<l.length)(h0:yk (l.drop j)=0):ubad l=j:=by
 have:=Qa h (.inr (.inl h0));unfold ubad;rw[this,if_neg (by omega)]
theorem zbi {l:List UInt8}{j:Nat}(h:Xf l l.length j)(hj:j=l.length):ubad l = -1:=by
 subst hj;have:=Qa h (.inl (by simp));unfold ubad;rw[this,if_pos rfl]
theorem zf8 (s:ByteArray)(w:World)(hs:s.size<=1000000) :
  Calls Tryz.prog 109 #[.string s] w fun e w'=>e=.returned (.int .i64 (ubad s.data.toList))/\w=w':=by
 have HL:=hid (show s.data.toList.length=s.size by simp);go_enter Tryz.func109,Tryz.ntmps109
 go_wp2
 go_loopg [3] s.size (fun k v wr=>∃j:Nat,j+k=s.size/\v=.int .i64 j/\Xf s.data.toList s.data.toList.length j/\wr=w)
 case atStart=>exact⟨0,by omega,rfl,z5c _ _,rfl⟩
 case round =>
  obtain⟨j,hj,rfl,HR0,rfl⟩:=hrel;have HR:=hid HR0;have HJ:=hid hj;have hjs:j<=s.size:=by omega
  clear hj HR0
  by_cases hlt:j<s.size
  ·obtain⟨k,HK⟩:∃k,Hid (k=yk (s.data.toList.drop j)):=⟨_,hid rfl⟩
   have hk1:k<=s.size-j:=by rw[HK.out];have:=(z1y (s.data.toList.drop j)).1;have:=HL.out;simp at *;omega
   go_wp2_with fail;refine(zcb s j wr hlt hs).mono ?_;rintro e w' ⟨rfl,rfl⟩;rw[<-HK.out]
   by_cases hk0:k=0
   ·subst hk0
    have HF:=hid (ubad_at HR.out (by have:=HL.out;omega) HK.out.symm)
    go_wp2
    go_ret;exact⟨zl (by rw[HF.out]),rfl⟩
   ·have hk0':((k:Int) == 0)=false:=by simp;omega
    have HN:=hid (z74 HR.out (by intro e;have:=congrArg List.length e;simp at this;have:=HL.out;omega) (by rw[<-HK.out];exact hk0) (by rw[<-HK.out,HL.out];omega));have hj:=HJ.out
    go_wp2
    go_roundg (s.size-(j+k))
    case measure=>omega
    case rel=>exact⟨j+k,by omega,by simp,by rw[HK.out];exact HN.out,rfl⟩
  ·have HF:Hid (ubad s.data.toList = -1):=hid (zbi HR.out (by have:=HL.out;omega))
   go_wp2
   go_ret;exact⟨zl (by rw[HF.out]),rfl⟩
end Go.Proofs.YtmlghmjjlpioeaaGreatDoor
