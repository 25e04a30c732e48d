/-
  Package utf: signs, what is whole.
-/
import Derived.Test.YtmlghmjjlpioeaaGreatDoorKit
import Derived.Deep.LoopGhost
set_option maxRecDepth 1000000
set_option maxHeartbeats 16000000
namespace Go.Proofs.YtmlghmjjlpioeaaGreatDoor
open Go.RowKit
open Lib (hid)
def ym (c:Nat):Nat:=if 244<c∨(128<=c/\c<194)then 0 else if 240<=c then 4 else if 224<=c then 3 else if 194<=c then 2 else 1
def yn (c d:Nat):Bool :=
 if c=224 then decide (160<=d/\d<=191)else if c=237 then decide (128<=d/\d<=159)else if c=240 then decide (144<=d/\d<=191)else if c=244 then decide (128<=d/\d<=143)else decide (128<=d/\d<=191)
def Y0 (b:UInt8):Bool:=decide (128<=b.toNat/\b.toNat<=191)
def yk (l:List UInt8):Nat :=
 let n:=ym (l.getD 0 0).toNat
 if n=0∨l.length<n then 0 else if 1<n/\yn (l.getD 0 0).toNat (l.getD 1 0).toNat=false then 0
 else if((l.take n).drop 2).all Y0 then n else 0
theorem zfh (c:Nat):ym c<=4:=by
 unfold ym
 repeat' split
 all_goals omega
theorem z1y (l:List UInt8):yk l<=l.length/\yk l<=4:=by
 have:=zfh (l.getD 0 0).toNat;unfold yk;dsimp only
 repeat' split
 all_goals omega
theorem ko (s:ByteArray)(i:Nat)(h:i<s.size):s.data.toList.getD i 0=s[i]'h:=by
 have h':i<s.data.toList.length:=by simpa using h
 rw[List.getD_eq_getElem?_getD,List.getElem?_eq_getElem h'];rfl
theorem Zq (c d:UInt8)(w:World) :
  Calls Tryz.prog 185 #[.int .u8 c.toNat,.int .u8 d.toNat] w fun e w'=>e=.returned (.bool (yn c.toNat d.toNat))/\w=w':=by
 have hc:=c.toNat_lt;have hd:=d.toNat_lt
 generalize c.toNat=x at *
 generalize d.toNat=y at *
 rcases(by omega:x=224∨x=237∨x=240∨x=244∨(x≠224/\x≠237/\x≠240/\x≠244))with rfl|rfl|rfl|rfl|⟨h1,h2,h3,h4⟩
 ·go_enter Tryz.func185,Tryz.ntmps185
  go_wp2
  all_goals go_ret
  all_goals exact⟨Ql (by rw[Bool.eq_iff_iff];simp[yn];omega),rfl⟩
 ·go_enter Tryz.func185,Tryz.ntmps185
  go_wp2
  all_goals go_ret
  all_goals exact⟨Ql (by rw[Bool.eq_iff_iff];simp[yn];omega),rfl⟩
 ·go_enter Tryz.func185,Tryz.ntmps185
  go_wp2
  all_goals go_ret
  all_goals exact⟨Ql (by rw[Bool.eq_iff_iff];simp[yn];omega),rfl⟩
 ·go_enter Tryz.func185,Tryz.ntmps185
  go_wp2
  all_goals go_ret
  all_goals exact⟨Ql (by rw[Bool.eq_iff_iff];simp[yn];omega),rfl⟩
 ·have g1:((x:Int) == 224)=false:=by simp;omega
  have g2:((x:Int) == 237)=false:=by simp;omega
  have g3:((x:Int) == 240)=false:=by simp;omega
  have g4:((x:Int) == 244)=false:=by simp;omega
  have HF:=hid (show yn x y=decide (128<=y/\y<=191)by unfold yn;rw[if_neg h1,if_neg h2,if_neg h3,if_neg h4]);clear h1 h2 h3 h4;go_enter Tryz.func185,Tryz.ntmps185
  go_wp2
  all_goals go_ret
  all_goals exact⟨Ql (by rw[HF.out,Bool.eq_iff_iff];simp;omega),rfl⟩
theorem ka {l:List UInt8}{n:Nat}(hn:ym (l.getD 0 0).toNat=n):yk l=if n=0∨l.length<n then 0 else if 1<n/\yn (l.getD 0 0).toNat (l.getD 1 0).toNat=false then 0 else if((l.take n).drop 2).all Y0 then n else 0:=by
 subst hn;rfl
theorem take3 {l:List UInt8}(h:3<=l.length):(l.take 3).drop 2=[l.getD 2 0]:=by
 match l,h with
 | _::_::_::_,_=>rfl
theorem take4 {l:List UInt8}(h:4<=l.length):(l.take 4).drop 2=[l.getD 2 0,l.getD 3 0]:=by
 match l,h with
 | _::_::_::_::_,_=>rfl
theorem z8s {l:List UInt8}(h:ym (l.getD 0 0).toNat=0):yk l=0:=by rw[ka h,if_pos (.inl rfl)]
theorem J2 {l:List UInt8}{n:Nat}(h:ym (l.getD 0 0).toNat=n)(hl:l.length<n):yk l=0:=by rw[ka h,if_pos (.inr hl)]
theorem Qk {l:List UInt8}{n:Nat}(h:ym (l.getD 0 0).toNat=n)(h1:1<n)(hs:yn (l.getD 0 0).toNat (l.getD 1 0).toNat=false):yk l=0:=by
 rw[ka h]
 split
 ·rfl
 ·rw[if_pos ⟨h1,hs⟩]
theorem z9d {l:List UInt8}(h:ym (l.getD 0 0).toNat=1)(hl:1<=l.length):yk l=1:=by
 rw[ka h,if_neg (by omega),if_neg (by omega),if_pos];have:(l.take 1).drop 2=[]:=List.drop_eq_nil_of_le (by simp;omega);rw[this];rfl
theorem usign_2 {l:List UInt8}(h:ym (l.getD 0 0).toNat=2)(hl:2<=l.length)(hs:yn (l.getD 0 0).toNat (l.getD 1 0).toNat=true):yk l=2:=by
 rw[ka h,if_neg (by omega),if_neg (by rw[hs];simp),if_pos];have:(l.take 2).drop 2=[]:=List.drop_eq_nil_of_le (by simp;omega);rw[this];rfl
theorem usign_3 {l:List UInt8}(h:ym (l.getD 0 0).toNat=3)(hl:3<=l.length)(hs:yn (l.getD 0 0).toNat (l.getD 1 0).toNat=true):yk l=if Y0 (l.getD 2 0)then 3 else 0:=by
 rw[ka h,if_neg (by omega),if_neg (by rw[hs];simp),take3 hl]
 simp
theorem usign_4 {l:List UInt8}(h:ym (l.getD 0 0).toNat=4)(hl:4<=l.length)(hs:yn (l.getD 0 0).toNat (l.getD 1 0).toNat=true):yk l=if Y0 (l.getD 2 0)&&Y0 (l.getD 3 0)then 4 else 0:=by
 rw[ka h,if_neg (by omega),if_neg (by rw[hs];simp),take4 hl]
 simp
theorem z7g (s:ByteArray)(w:World)(h0:0<s.size)(hm:s.size<=maxLen) :
  Calls Tryz.prog 181 #[.string s] w fun e w'=>e=.returned (.int .i64 (yk s.data.toList:Nat))/\w=w':=by
 unfold maxLen at hm
 have e0:=ko s 0 h0;have HL:=hid (show s.data.toList.length=s.size by simp)
 rcases(by omega:(244<(s[0]'h0).toNat∨(128<=(s[0]'h0).toNat/\(s[0]'h0).toNat<194))∨(s[0]'h0).toNat<128∨(194<=(s[0]'h0).toNat/\(s[0]'h0).toNat<224)∨(224<=(s[0]'h0).toNat/\(s[0]'h0).toNat<240)∨(240<=(s[0]'h0).toNat/\(s[0]'h0).toNat<=244))with hc|hc|hc|hc|hc
 ·have HF:=hid (z8s (l:=s.data.toList) (by rw[e0];unfold ym;rw[if_pos hc]))
  clear e0
  rcases hc with hc|hc
  ·go_enter Tryz.func181,Tryz.ntmps181
   go_wp2
   go_ret;exact⟨zl (by rw[HF.out];rfl),rfl⟩
  ·obtain⟨hc1,hc2⟩:=hc
   go_enter Tryz.func181,Tryz.ntmps181
   go_wp2
   go_ret;exact⟨zl (by rw[HF.out];rfl),rfl⟩
 ·have HF:=hid (z9d (l:=s.data.toList) (by rw[e0];unfold ym;rw[if_neg (by omega),if_neg (by omega),if_neg (by omega),if_neg (by omega)]) (by have:=HL.out;omega))
  clear e0;go_enter Tryz.func181,Tryz.ntmps181
  go_wp2
  refine wp_loop_rounds 1 ?_;rw[rounds_succ]
  go_wp2
  go_ret;exact⟨zl (by rw[HF.out];rfl),rfl⟩
 ·have hz:ym (s.data.toList.getD 0 0).toNat=2:=by rw[e0];unfold ym;rw[if_neg (by omega),if_neg (by omega),if_neg (by omega),if_pos (by omega)]
  obtain⟨hc1,hc2⟩:=hc
  by_cases hl:s.size<2
  ·have HF:=hid (J2 hz (by have:=HL.out;omega))
   clear e0 hz;go_enter Tryz.func181,Tryz.ntmps181
   go_wp2
   go_ret;exact⟨zl (by rw[HF.out];rfl),rfl⟩
  ·have e1:=ko s 1 (by omega)
   cases hs:yn (s[0]'h0).toNat (s[1]'(by omega)).toNat with
   | false =>
    have HF:=hid (Qk hz (by omega) (by rw[e0,e1];exact hs));have HS:=hid hs;clear e0 hz e1 hs;go_enter Tryz.func181,Tryz.ntmps181;go_wp2_with (go_at_call 185;refine(Zq _ _ _).mono ?_;rintro e w' ⟨rfl,rfl⟩;rw[HS.out]);go_ret;exact⟨zl (by rw[HF.out];rfl),rfl⟩
   | true =>
    have HF:=hid (usign_2 hz (by have:=HL.out;omega) (by rw[e0,e1];exact hs));have HS:=hid hs;clear e0 hz e1 hs;go_enter Tryz.func181,Tryz.ntmps181;go_wp2_with (go_at_call 185;refine(Zq _ _ _).mono ?_;rintro e w' ⟨rfl,rfl⟩;rw[HS.out]);refine wp_loop_rounds 1 ?_;rw[rounds_succ]
    go_wp2
    go_ret;exact⟨zl (by rw[HF.out];rfl),rfl⟩
 ·have hz:ym (s.data.toList.getD 0 0).toNat=3:=by rw[e0];unfold ym;rw[if_neg (by omega),if_neg (by omega),if_pos (by omega)]
  obtain⟨hc1,hc2⟩:=hc
  by_cases hl:s.size<3
  ·have HF:=hid (J2 hz (by have:=HL.out;omega))
   clear e0 hz;go_enter Tryz.func181,Tryz.ntmps181
   go_wp2
   go_ret;exact⟨zl (by rw[HF.out];rfl),rfl⟩
  ·have e1:=ko s 1 (by omega)
   cases hs:yn (s[0]'h0).toNat (s[1]'(by omega)).toNat with
   | false =>
    have HF:=hid (Qk hz (by omega) (by rw[e0,e1];exact hs));have HS:=hid hs;clear e0 hz e1 hs;go_enter Tryz.func181,Tryz.ntmps181;go_wp2_with (go_at_call 185;refine(Zq _ _ _).mono ?_;rintro e w' ⟨rfl,rfl⟩;rw[HS.out]);go_ret;exact⟨zl (by rw[HF.out];rfl),rfl⟩
   | true =>
    have HF:=hid (usign_3 hz (by have:=HL.out;omega) (by rw[e0,e1];exact hs));have H2:=hid (ko s 2 (by omega));have HS:=hid hs;clear e0 hz e1 hs;go_enter Tryz.func181,Tryz.ntmps181;go_wp2_with (go_at_call 185;refine(Zq _ _ _).mono ?_;rintro e w' ⟨rfl,rfl⟩;rw[HS.out]);refine wp_loop_rounds 2 ?_;rw[rounds_succ]
    go_wp2
    all_goals try (rw[rounds_succ];go_wp2)
    all_goals go_ret
    all_goals refine⟨zl ?_,rfl⟩
    all_goals rw[HF.out,H2.out]
    all_goals unfold Y0
    all_goals simp only[decide_eq_true_eq]
    all_goals split<;>omega
 ·have hz:ym (s.data.toList.getD 0 0).toNat=4:=by rw[e0];unfold ym;rw[if_neg (by omega),if_pos (by omega)]
  obtain⟨hc1,hc2⟩:=hc
  by_cases hl:s.size<4
  ·have HF:=hid (J2 hz (by have:=HL.out;omega))
   clear e0 hz;go_enter Tryz.func181,Tryz.ntmps181
   go_wp2
   go_ret;exact⟨zl (by rw[HF.out];rfl),rfl⟩
  ·have e1:=ko s 1 (by omega)
   cases hs:yn (s[0]'h0).toNat (s[1]'(by omega)).toNat with
   | false =>
    have HF:=hid (Qk hz (by omega) (by rw[e0,e1];exact hs));have HS:=hid hs;clear e0 hz e1 hs;go_enter Tryz.func181,Tryz.ntmps181;go_wp2_with (go_at_call 185;refine(Zq _ _ _).mono ?_;rintro e w' ⟨rfl,rfl⟩;rw[HS.out]);go_ret;exact⟨zl (by rw[HF.out];rfl),rfl⟩
   | true =>
    have HF:=hid (usign_4 hz (by have:=HL.out;omega) (by rw[e0,e1];exact hs));have H2:=hid (ko s 2 (by omega));have H3:=hid (ko s 3 (by omega));have HS:=hid hs;clear e0 hz e1 hs;go_enter Tryz.func181,Tryz.ntmps181;go_wp2_with (go_at_call 185;refine(Zq _ _ _).mono ?_;rintro e w' ⟨rfl,rfl⟩;rw[HS.out]);refine wp_loop_rounds 3 ?_;rw[rounds_succ]
    go_wp2
    all_goals try (rw[rounds_succ];go_wp2)
    all_goals try (rw[rounds_succ];go_wp2)
    all_goals go_ret
    all_goals refine⟨zl ?_,rfl⟩
    all_goals rw[HF.out,H2.out,H3.out]
    all_goals unfold Y0
    all_goals simp only[decide_eq_true_eq,Bool.and_eq_true]
    all_goals split<;>omega
def whl:Nat->List UInt8->Int->Nat
 | 0,_,_=>0
 | f+1,l,n=>if l=[]∨yk l=0∨n<yk l then 0 else yk l+whl f (l.drop (yk l)) (n-yk l)
theorem z61:∀(f g:Nat) (l:List UInt8) (n:Int),l.length<=f->l.length<=g->whl f l n=whl g l n
 | 0,0,_,_,_,_=>rfl
 | 0,g+1,l,n,hf,_=>by
  have:l=[]:=List.length_eq_zero_iff.1 (by omega);rw[whl,whl,if_pos (.inl this)]
 | f+1,0,l,n,_,hg=>by
  have:l=[]:=List.length_eq_zero_iff.1 (by omega);rw[whl,whl,if_pos (.inl this)]
 | f+1,g+1,l,n,hf,hg=>by
  rw[whl,whl]
  split
  ·rfl
  ·rename_i h
   have h1:yk l≠0:=fun e=>h (.inr (.inl e))
   rw[z61 f g _ _ (by simp;omega) (by simp;omega)]
def jx (l:List UInt8)(n:Int):Nat:=whl l.length l n
def Xf (l:List UInt8)(n:Int)(j:Nat):Prop:=j<=l.length/\jx l n=j+jx (l.drop j) (n-j)
theorem z5c (l:List UInt8)(n:Int):Xf l n 0:=⟨by omega,by simp⟩
theorem Qa {l:List UInt8}{n:Int}{j:Nat}(h:Xf l n j)(hs:l.drop j=[]∨yk (l.drop j)=0∨n-j<yk (l.drop j)):jx l n=j:=by
 rw[h.2];unfold jx
 cases hl:(l.drop j).length with
 | zero=>rfl
 | succ m=>rw[whl,if_pos hs];rfl
theorem z74 {l:List UInt8}{n:Int}{j:Nat}(h:Xf l n j)(h0:l.drop j≠[])(h1:yk (l.drop j)≠0)(h2:yk (l.drop j)<=n-j):Xf l n (j+yk (l.drop j)):=by
 have hle:=(z1y (l.drop j)).1
 simp at hle
 refine⟨by have:=h.1;omega,?_⟩;rw[h.2];have:(l.drop j).length≠0:=fun e=>h0 (List.length_eq_zero_iff.1 e)
 conv=>lhs;unfold jx
 cases hl:(l.drop j).length with
 | zero=>exact absurd hl this
 | succ m =>
  rw[whl,if_neg (by rintro(h|h|h)<;>first|exact h0 h|exact h1 h|omega),List.drop_drop];have e:((n-(j:Int))-(yk (l.drop j):Int))=n-((j+yk (l.drop j):Nat):Int):=by omega
  rw[e];unfold jx;rw[z61 m _ _ _ (by simp at hl ⊢;omega) (Nat.le_refl _)];omega
theorem z6f (s:ByteArray)(j:Nat):(s.extract j s.size).data.toList=s.data.toList.drop j:=by
 have h:s.data.toList.length=s.size:=by simp
 rw[ByteArray.data_extract,Array.toList_extract,List.extract_eq_take_drop,List.take_of_length_le (by simp)]
theorem z6n (s:ByteArray)(j:Nat):(s.extract j s.size).size=s.size-j:=by simp
theorem zdg (s:ByteArray)(n:Int)(w:World)(hm:s.size<=maxLen)(hn1:-4611686018427387904<=n)(hn2:n<=9223372036854775807)(hs:s.size<=4611686018427387904) :
  Calls Tryz.prog 168 #[.string s,.int .i64 n] w fun e w'=>e=.returned (.int .i64 (jx s.data.toList n:Nat))/\w=w':=by
 have HM:=hid hm;have HL:=hid (show s.data.toList.length=s.size by simp);clear hm;go_enter Tryz.func168,Tryz.ntmps168
 go_wp2
 go_loopg [5] s.size (fun k i wr=>∃j:Nat,j+k=s.size/\i=.int .i64 j/\Xf s.data.toList n j/\wr=w)
 case atStart=>exact⟨0,by omega,rfl,z5c _ _,rfl⟩
 case round =>
  obtain⟨j,hj,rfl,HR,rfl⟩:=hrel;have HJ:=hid hj;have hjs:j<=s.size:=by omega
  clear hj
  by_cases hlt:j<s.size
  ·have HD:Hid (s.data.toList.drop j≠[]):=hid (by intro e;have:=congrArg List.length e;simp at this;have:=HL.out;omega)
   have hse:=z6n s j;obtain⟨k,HK⟩:∃k,Hid (k=yk (s.data.toList.drop j)):=⟨_,hid rfl⟩
   have hk1:k<=s.size-j:=by rw[HK.out];have:=(z1y (s.data.toList.drop j)).1;have:=HL.out;simp at *;omega
   have HSE:Hid ((s.extract j s.size).size=s.size-j):=hid hse;clear hse;go_wp2_with fail;refine(z7g (s.extract j s.size) wr (by rw[HSE.out];omega) (by rw[HSE.out];have:=HM.out;omega)).mono ?_;rintro e w' ⟨rfl,rfl⟩;rw[z6f,<-HK.out]
   by_cases hk0:k=0
   ·subst hk0
    have HF:=hid (Qa HR (.inr (.inl HK.out.symm)))
    go_wp2
    go_ret;exact⟨zl (by rw[HF.out]),rfl⟩
   ·have hk0':((k:Int) == 0)=false:=by simp;omega
    by_cases hkn:n-(j:Int)<(k:Int)
    ·have HF:=hid (Qa HR (.inr (.inr (by rw[<-HK.out];exact hkn))))
     go_wp2
     go_ret;exact⟨zl (by rw[HF.out]),rfl⟩
    ·have HN:=hid (z74 HR HD.out (by rw[<-HK.out];exact hk0) (by rw[<-HK.out];omega))
     have hj:=HJ.out
     go_wp2
     go_roundg (s.size-(j+k))
     case measure=>omega
     case rel=>exact⟨j+k,by omega,by simp,by rw[HK.out];exact HN.out,rfl⟩
  ·have hj:=HJ.out
   have HF:=hid (Qa HR (.inl (List.drop_eq_nil_of_le (by have:=HL.out;omega))))
   go_wp2
   go_ret;exact⟨zl (by rw[HF.out]),rfl⟩
theorem zau (l:List UInt8)(n:Int)(h:n<0):jx l n=0:=by
 unfold jx
 cases hl:l.length with
 | zero=>rfl
 | succ m=>rw[whl,if_pos (.inr (.inr (by omega)))]
theorem zbn (s:ByteArray)(n:Int)(w:World)(hm:s.size<=4611686018427387904)(hn:n<0)(hn1:-9223372036854775808<=n) :
  Calls Tryz.prog 168 #[.string s,.int .i64 n] w fun e w'=>e=.returned (.int .i64 (jx s.data.toList n:Nat))/\w=w':=by
 have HF:=hid (zau s.data.toList n hn)
 by_cases hs0:s.size=0
 ·have hs1:s.size<=0:=by omega
  clear hs0;go_enter Tryz.func168,Tryz.ntmps168
  go_wp2
  refine wp_loop_rounds 1 ?_;rw[rounds_succ]
  go_wp2
  go_ret;exact⟨zl (by rw[HF.out];rfl),rfl⟩
 ·have hs1:0<s.size:=by omega
  obtain⟨k,HK⟩:∃k,Hid (k=yk s.data.toList):=⟨_,hid rfl⟩
  clear hs0;go_enter Tryz.func168,Tryz.ntmps168
  go_wp2
  refine wp_loop_rounds 1 ?_;rw[rounds_succ];go_wp2_with fail
  go_at_call 181
  refine(z7g s w hs1 (by unfold maxLen;omega)).mono ?_;rintro e w' ⟨rfl,rfl⟩;rw[<-HK.out]
  by_cases hk0:k=0
  ·subst hk0
   go_wp2
   go_ret;exact⟨zl (by rw[HF.out];rfl),rfl⟩
  ·have hk0':((k:Int) == 0)=false:=by simp;omega
   go_wp2
   go_ret;exact⟨zl (by rw[HF.out];rfl),rfl⟩
theorem zf2 (s:ByteArray)(n:Int)(w:World)(hs:s.size<=4611686018427387904)(hn1:-9223372036854775808<=n)(hn2:n<=9223372036854775807) :
  Calls Tryz.prog 168 #[.string s,.int .i64 n] w fun e w'=>e=.returned (.int .i64 (jx s.data.toList n:Nat))/\w=w':=by
 by_cases h:0<=n
 ·exact zdg s n w (by unfold maxLen;omega) (by omega) hn2 hs
 ·exact zbn s n w hs (by omega) hn1
def ubad (l:List UInt8):Int:=if jx l l.length=l.length then -1 else jx l l.length
theorem za1 (s:ByteArray)(w:World)(hs:s.size<=4611686018427387904) :
  Calls Tryz.prog 158 #[.string s] w fun e w'=>e=.returned (.int .i64 (ubad s.data.toList))/\w=w':=by
 have HL:=hid (show s.data.toList.length=s.size by simp);obtain⟨j,HJ⟩:∃j,Hid (j=jx s.data.toList s.size):=⟨_,hid rfl⟩
 go_enter Tryz.func158,Tryz.ntmps158;go_wp2_with fail;refine(zf2 s s.size w hs (by omega) (by omega)).mono ?_;rintro e w' ⟨rfl,rfl⟩;rw[<-HJ.out]
 by_cases hj:j=s.size
 ·have HF:Hid (ubad s.data.toList = -1):=hid (by unfold ubad;rw[if_pos (by rw[HL.out,<-HJ.out];exact hj)])
  have hj':((j:Int) == (s.size:Int))=true:=by simp;omega
  clear hj
  go_wp2
  go_ret;exact⟨zl (by rw[HF.out]),rfl⟩
 ·have HF:Hid (ubad s.data.toList=j):=hid (by unfold ubad;rw[HL.out,<-HJ.out,if_neg hj])
  have hj':((j:Int) == (s.size:Int))=false:=by simp;omega
  clear hj
  go_wp2
  go_ret;exact⟨zl (by rw[HF.out]),rfl⟩
def xb (l:List UInt8):Bool:=decide (ubad l<0)
end Go.Proofs.YtmlghmjjlpioeaaGreatDoor
