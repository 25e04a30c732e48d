/-
  XrTakes, XpBack
-/
import Derived.Test.YtmlghmjjlpioeaaGreatDoorBukRef
import Derived.Test.YtmlghmjjlpioeaaGreatDoorXrFld
set_option maxRecDepth 1000000
set_option maxHeartbeats 16000000
namespace Go.Proofs.YtmlghmjjlpioeaaGreatDoor
open Go.RowKit
open Lib (hid)
def bkSb:Sub (Bk × List UInt8) where
 rd d t:=yx t d
 out x:=bput x.1 x.2
 may d x:=bmay x.2 d
 fit x:=BkOk x.1
 wt x:=10*x.1.cs.length+x.2.length
theorem za2:bkSb.Ok where
 len:=fun x=>by have:=zep x.1 x.2;show(bput x.1 x.2).length<=10*x.1.cs.length+x.2.length+1000;omega
 back:=fun x d hf hw hd hm=>by
  obtain⟨x,u⟩:=x;have hw:10*x.cs.length+u.length<=1000000:=hw;have:=Yz x.cs;exact zcd (x:=x) (u:=u) hf (by omega) hm
 less:=fun x d d' hf hw hd hm hle hn=>by
  obtain⟨x,u⟩:=x;have hw:10*x.cs.length+u.length<=1000000:=hw;have:=Yz x.cs;refine z46 (x:=x) (u:=u) hf (by omega) hm hle ?_
  rcases hn with h|h
  ·unfold bmay;rw[decide_eq_false (by omega)];rfl
  ·exact h
 twice:=fun t x d ht h=>by
  obtain⟨x,u⟩:=x;have h:yx t d=.ok (x,u):=h;have h1:=zbe h;have h2:=zfr h;have h3:=zdh h
  have h0:0<=d:=by
   have h4:=h1;unfold bmay at h4
   rw[Bool.and_eq_true,decide_eq_true_eq]at h4;exact h4.1
  exact⟨h0,h1,h2.2,by show 10*x.cs.length+u.length<=_;omega⟩
def bkz (x:Bk × List UInt8):Bool:=decide (x.1.off=0)&&(x.1.cs.isEmpty&&x.2.isEmpty)
theorem z97 (x:Bk × List UInt8):bkz x=true↔x=(⟨0,[]⟩,[]):=by
 obtain⟨⟨o,cs⟩,u⟩:=x;unfold bkz
 simp only[Bool.and_eq_true,decide_eq_true_eq,List.isEmpty_iff,Prod.mk.injEq,Bk.mk.injEq,and_assoc]
theorem z12:bkSb.fit ((⟨0,[]⟩,[]):Bk × List UInt8):=⟨by show(-2147483648:Int)<=0;omega,by show(0:Int)<=2147483647;omega,fun n hn=>by cases hn⟩
theorem z56:∀(f:Nat) {l:List UInt8} {c:Nat},wvs f l=.error c->c=1∨c=4
 | 0,l,c,h=>by
  rw[wvs]at h
  first|(cases h)|(split at h<;>cases h)
 | f + 1,l,c,h=>by
  rw[wvs]at h
  split at h
  ·cases h
  ·cases hv:wv l with
   | error c' =>
    rw[hv]at h
    simp only[Except.error.injEq]at h
    subst h;exact Yh hv
   | ok x =>
    rw[hv]at h;dsimp only at h
    cases hk:wvs f (l.drop x.2)with
    | error c' =>
     rw[hk]at h
     simp only[Except.error.injEq]at h
     subst h;exact z56 f hk
    | ok ns=>rw[hk]at h;cases h
theorem z8u {l:List UInt8}{d:Int}{c:Nat}(h:yx l d=.error c):j0 c:=Zn (σ:=Bk) (fun st r c hs=>by
 unfold x9 at hs
 split at hs
 ·cases hs
 ·cases hp:qz st.cs r with
  | error c' =>
   rw[hp]at hs
   simp only[Except.error.injEq]at hs
   subst hs;unfold qz at hp
   split at hp
   ·cases hp
   ·cases hv:xj r.s with
    | error c' =>
     rw[hv]at hp
     simp only[Except.error.injEq]at hp
     subst hp
     rcases z56 _ hv with h|h
     ·exact .inl (.inl h)
     ·exact .inl (.inr (.inr (.inl h)))
    | ok ns=>rw[hv]at hp;cases hp
  | ok ys=>rw[hp]at hs;cases hs) h
theorem z8f (r:Rec)(w:World):Calls Tryz.prog 103 #[.int .i64 r.num,.int .i64 r.ty] w fun e w'=>e=.returned (.bool (exF.tk r))/\w=w':=by
 obtain⟨num,ty,n,s,raw⟩:=r;have hq:=z3l ⟨num,ty,n,s,raw⟩;dsimp only at hq;obtain⟨q,hqe⟩:=nmd (exF.tk ⟨num,ty,n,s,raw⟩)
 rw[hqe]at hq ⊢;clear hqe
 by_cases h2:num=2
 ·subst h2
  have hb:Hid (q=((ty:Int) == (1:Int))):=hid (by rw[show((1:Int))=((1:Nat):Int)from rfl,ibeq,hq];exact decide_eq_decide.2 (by omega));clear hq;go_enter Tryz.func103,Tryz.ntmps103;go_wp2_with fail;go_ret;exact⟨by rw[hb.out];rfl,rfl⟩
 by_cases h6:num=6
 ·subst h6
  have hb:Hid (q=((ty:Int) == (1:Int))):=hid (by rw[show((1:Int))=((1:Nat):Int)from rfl,ibeq,hq];exact decide_eq_decide.2 (by omega));clear hq;go_enter Tryz.func103,Tryz.ntmps103;go_wp2_with fail;go_ret;exact⟨by rw[hb.out];rfl,rfl⟩
 by_cases h3:num=3
 ·subst h3
  have hb:Hid (q=((ty:Int) == (1:Int))):=hid (by rw[show((1:Int))=((1:Nat):Int)from rfl,ibeq,hq];exact decide_eq_decide.2 (by omega));clear hq;go_enter Tryz.func103,Tryz.ntmps103;go_wp2_with fail;go_ret;exact⟨by rw[hb.out];rfl,rfl⟩
 by_cases h4:num=4
 ·subst h4
  have hb:Hid (q=((ty:Int) == (2:Int))):=hid (by rw[show((2:Int))=((2:Nat):Int)from rfl,ibeq,hq];exact decide_eq_decide.2 (by omega));clear hq;go_enter Tryz.func103,Tryz.ntmps103;go_wp2_with fail;go_ret;exact⟨by rw[hb.out];rfl,rfl⟩
 by_cases h5:num=5
 ·subst h5
  have hb:Hid (q=((ty:Int) == (2:Int))):=hid (by rw[show((2:Int))=((2:Nat):Int)from rfl,ibeq,hq];exact decide_eq_decide.2 (by omega));clear hq;go_enter Tryz.func103,Tryz.ntmps103;go_wp2_with fail;go_ret;exact⟨by rw[hb.out];rfl,rfl⟩
 by_cases h7:num=7
 ·subst h7
  have hb:Hid (q=((ty:Int) == (2:Int))):=hid (by rw[show((2:Int))=((2:Nat):Int)from rfl,ibeq,hq];exact decide_eq_decide.2 (by omega));clear hq;go_enter Tryz.func103,Tryz.ntmps103;go_wp2_with fail;go_ret;exact⟨by rw[hb.out];rfl,rfl⟩
 have d2:((num:Int) == (2:Int))=false:=ibf (by omega)
 have d6:((num:Int) == (6:Int))=false:=ibf (by omega)
 have d3:((num:Int) == (3:Int))=false:=ibf (by omega)
 have d4:((num:Int) == (4:Int))=false:=ibf (by omega)
 have d5:((num:Int) == (5:Int))=false:=ibf (by omega)
 have d7:((num:Int) == (7:Int))=false:=ibf (by omega)
 have hb:Hid (q=false):=hid (by rw[hq];exact decide_eq_false (by omega));clear h2 h6 h3 h4 h5 h7 hq;go_enter Tryz.func103,Tryz.ntmps103;go_wp2_with fail;go_ret;exact⟨by rw[hb.out];rfl,rfl⟩
theorem z83 (r:Rec)(w:World):Calls Tryz.prog 16 #[.int .i64 r.num,.int .i64 r.ty] w fun e w'=>e=.returned (.bool (xrF.tk r))/\w=w':=by
 obtain⟨num,ty,n,s,raw⟩:=r;have hq:=Jj ⟨num,ty,n,s,raw⟩;dsimp only at hq;obtain⟨q,hqe⟩:=nmd (xrF.tk ⟨num,ty,n,s,raw⟩)
 rw[hqe]at hq ⊢;clear hqe
 by_cases h2:num=2
 ·subst h2
  have hb:Hid (q=((ty:Int) == (1:Int))):=hid (by rw[show((1:Int))=((1:Nat):Int)from rfl,ibeq,hq];exact decide_eq_decide.2 (by omega));clear hq;go_enter Tryz.func16,Tryz.ntmps16;go_wp2_with fail;go_ret;exact⟨by rw[hb.out];rfl,rfl⟩
 by_cases h3:num=3
 ·subst h3
  have hb:Hid (q=((ty:Int) == (1:Int))):=hid (by rw[show((1:Int))=((1:Nat):Int)from rfl,ibeq,hq];exact decide_eq_decide.2 (by omega));clear hq;go_enter Tryz.func16,Tryz.ntmps16;go_wp2_with fail;go_ret;exact⟨by rw[hb.out];rfl,rfl⟩
 by_cases h4:num=4
 ·subst h4
  have hb:Hid (q=((ty:Int) == (1:Int))):=hid (by rw[show((1:Int))=((1:Nat):Int)from rfl,ibeq,hq];exact decide_eq_decide.2 (by omega));clear hq;go_enter Tryz.func16,Tryz.ntmps16;go_wp2_with fail;go_ret;exact⟨by rw[hb.out];rfl,rfl⟩
 by_cases h5:num=5
 ·subst h5
  have hb:Hid (q=((ty:Int) == (1:Int))):=hid (by rw[show((1:Int))=((1:Nat):Int)from rfl,ibeq,hq];exact decide_eq_decide.2 (by omega));clear hq;go_enter Tryz.func16,Tryz.ntmps16;go_wp2_with fail;go_ret;exact⟨by rw[hb.out];rfl,rfl⟩
 by_cases h7:num=7
 ·subst h7
  have hb:Hid (q=((ty:Int) == (1:Int))):=hid (by rw[show((1:Int))=((1:Nat):Int)from rfl,ibeq,hq];exact decide_eq_decide.2 (by omega));clear hq;go_enter Tryz.func16,Tryz.ntmps16;go_wp2_with fail;go_ret;exact⟨by rw[hb.out];rfl,rfl⟩
 by_cases h12:num=12
 ·subst h12
  have hb:Hid (q=((ty:Int) == (1:Int))):=hid (by rw[show((1:Int))=((1:Nat):Int)from rfl,ibeq,hq];exact decide_eq_decide.2 (by omega));clear hq;go_enter Tryz.func16,Tryz.ntmps16;go_wp2_with fail;go_ret;exact⟨by rw[hb.out];rfl,rfl⟩
 by_cases h13:num=13
 ·subst h13
  have hb:Hid (q=((ty:Int) == (1:Int))):=hid (by rw[show((1:Int))=((1:Nat):Int)from rfl,ibeq,hq];exact decide_eq_decide.2 (by omega));clear hq;go_enter Tryz.func16,Tryz.ntmps16;go_wp2_with fail;go_ret;exact⟨by rw[hb.out];rfl,rfl⟩
 by_cases h14:num=14
 ·subst h14
  have hb:Hid (q=((ty:Int) == (1:Int))):=hid (by rw[show((1:Int))=((1:Nat):Int)from rfl,ibeq,hq];exact decide_eq_decide.2 (by omega));clear hq;go_enter Tryz.func16,Tryz.ntmps16;go_wp2_with fail;go_ret;exact⟨by rw[hb.out];rfl,rfl⟩
 by_cases h6:num=6
 ·subst h6
  have hb:Hid (q=((ty:Int) == (0:Int))):=hid (by rw[show((0:Int))=((0:Nat):Int)from rfl,ibeq,hq];exact decide_eq_decide.2 (by omega));clear hq;go_enter Tryz.func16,Tryz.ntmps16;go_wp2_with fail;go_ret;exact⟨by rw[hb.out];rfl,rfl⟩
 by_cases h10:num=10
 ·subst h10
  have hb:Hid (q=((ty:Int) == (0:Int))):=hid (by rw[show((0:Int))=((0:Nat):Int)from rfl,ibeq,hq];exact decide_eq_decide.2 (by omega));clear hq;go_enter Tryz.func16,Tryz.ntmps16;go_wp2_with fail;go_ret;exact⟨by rw[hb.out];rfl,rfl⟩
 by_cases h1:num=1
 ·subst h1
  have hb:Hid (q=((ty:Int) == (2:Int))):=hid (by rw[show((2:Int))=((2:Nat):Int)from rfl,ibeq,hq];exact decide_eq_decide.2 (by omega));clear hq;go_enter Tryz.func16,Tryz.ntmps16;go_wp2_with fail;go_ret;exact⟨by rw[hb.out];rfl,rfl⟩
 by_cases h8:num=8
 ·subst h8
  have hb:Hid (q=((ty:Int) == (2:Int))):=hid (by rw[show((2:Int))=((2:Nat):Int)from rfl,ibeq,hq];exact decide_eq_decide.2 (by omega));clear hq;go_enter Tryz.func16,Tryz.ntmps16;go_wp2_with fail;go_ret;exact⟨by rw[hb.out];rfl,rfl⟩
 by_cases h9:num=9
 ·subst h9
  have hb:Hid (q=((ty:Int) == (2:Int))):=hid (by rw[show((2:Int))=((2:Nat):Int)from rfl,ibeq,hq];exact decide_eq_decide.2 (by omega));clear hq;go_enter Tryz.func16,Tryz.ntmps16;go_wp2_with fail;go_ret;exact⟨by rw[hb.out];rfl,rfl⟩
 by_cases h11:num=11
 ·subst h11
  have hb:Hid (q=((ty:Int) == (2:Int))):=hid (by rw[show((2:Int))=((2:Nat):Int)from rfl,ibeq,hq];exact decide_eq_decide.2 (by omega));clear hq;go_enter Tryz.func16,Tryz.ntmps16;go_wp2_with fail;go_ret;exact⟨by rw[hb.out];rfl,rfl⟩
 have d2:((num:Int) == (2:Int))=false:=ibf (by omega)
 have d3:((num:Int) == (3:Int))=false:=ibf (by omega)
 have d4:((num:Int) == (4:Int))=false:=ibf (by omega)
 have d5:((num:Int) == (5:Int))=false:=ibf (by omega)
 have d7:((num:Int) == (7:Int))=false:=ibf (by omega)
 have d12:((num:Int) == (12:Int))=false:=ibf (by omega)
 have d13:((num:Int) == (13:Int))=false:=ibf (by omega)
 have d14:((num:Int) == (14:Int))=false:=ibf (by omega)
 have d6:((num:Int) == (6:Int))=false:=ibf (by omega)
 have d10:((num:Int) == (10:Int))=false:=ibf (by omega)
 have d1:((num:Int) == (1:Int))=false:=ibf (by omega)
 have d8:((num:Int) == (8:Int))=false:=ibf (by omega)
 have d9:((num:Int) == (9:Int))=false:=ibf (by omega)
 have d11:((num:Int) == (11:Int))=false:=ibf (by omega)
 have hb:Hid (q=false):=hid (by rw[hq];exact decide_eq_false (by omega));clear h2 h3 h4 h5 h7 h12 h13 h14 h6 h10 h1 h8 h9 h11 hq;go_enter Tryz.func16,Tryz.ntmps16;go_wp2_with fail;go_ret;exact⟨by rw[hb.out];rfl,rfl⟩
abbrev Xp:Type:=(List KV × Nat × Nat × Nat × (Bool × Nat) × Int × Nat × (Bool × Bk × List UInt8) × (Bool × Bk × List UInt8) × Nat × List Ex × (Bool × Nat) × (Bool × Nat) × Nat) × List UInt8
def xpN:Fnl xrF:=(Fnl.id (zy 1 kvS)).and ((Fnl.id (numF 2)).and ((Fnl.id (numF 3)).and ((Fnl.id (numF 4)).and ((Fnl.id (optF 5)).and ((Fnl.id (zigF 6)).and ((Fnl.id (numF 7)).and ((Js 8 bkSb (⟨0,[]⟩,[]) bkz).and ((Js 9 bkSb (⟨0,[]⟩,[]) bkz).and ((Fnl.id (xn 10)).and ((Fnl.id (zy 11 exSb)).and ((Fnl.id (optF 12)).and ((Fnl.id (optF 13)).and (Fnl.id (numF 14))))))))))))))
theorem xpN_ok:xpN.Ok:=(Fnl.Ok.and (Fld.Ok.fnl (Qc z6l (by omega) (by omega))) (Fnl.Ok.and (Fld.Ok.fnl (ki (by omega) (by omega))) (Fnl.Ok.and (Fld.Ok.fnl (ki (by omega) (by omega))) (Fnl.Ok.and (Fld.Ok.fnl (ki (by omega) (by omega))) (Fnl.Ok.and (Fld.Ok.fnl (Xs (by omega) (by omega))) (Fnl.Ok.and (Fld.Ok.fnl (z9t (by omega) (by omega))) (Fnl.Ok.and (Fld.Ok.fnl (ki (by omega) (by omega))) (Fnl.Ok.and (z69 za2 z97 z12) (Fnl.Ok.and (z69 za2 z97 z12) (Fnl.Ok.and (Fld.Ok.fnl (z52 (by omega) (by omega))) (Fnl.Ok.and (Fld.Ok.fnl (Qc z8x (by omega) (by omega))) (Fnl.Ok.and (Fld.Ok.fnl (Xs (by omega) (by omega))) (Fnl.Ok.and (Fld.Ok.fnl (Xs (by omega) (by omega))) (Fld.Ok.fnl (ki (by omega) (by omega))))))))))))))))
theorem zfa:xpN.Code:=(Fnl.Code.and (Fnl.id_code _) (Fnl.Code.and (Fnl.id_code _) (Fnl.Code.and (Fnl.id_code _) (Fnl.Code.and (Fnl.id_code _) (Fnl.Code.and (Fnl.id_code _) (Fnl.Code.and (Fnl.id_code _) (Fnl.Code.and (Fnl.id_code _) (Fnl.Code.and (z3f fun _ _ _ h=>z8u h) (Fnl.Code.and (z3f fun _ _ _ h=>z8u h) (Fnl.Code.and (Fnl.id_code _) (Fnl.Code.and (Fnl.id_code _) (Fnl.Code.and (Fnl.id_code _) (Fnl.Code.and (Fnl.id_code _) (Fnl.id_code _))))))))))))))
def xprd (l:List UInt8)(d:Int):Except Nat Xp:=xpN.rd d l
def zcl (d:Int):Xp->Bool
 | ((l,(_,(_,(_,((bp,vp),(_,(_,((gp,pb,pu),((gn,nb,nu),(_,(es,((bm,vm),((bg,vg),_))))))))))))),u)=>decide (0<=d)&&((xk l d&&((bp||decide (vp=0))&&((if gp=true then decide (1<=d)&&bmay pu (d-1)else bkz (pb,pu))&&((if gn=true then decide (1<=d)&&bmay nu (d-1)else bkz (nb,nu))&&(lmays exSb es d&&((bm||decide (vm=0))&&(bg||decide (vg=0))))))))&&zp xrF.tk u d)
def xp_wt:Xp->Nat
 | ((l,(_,(_,(_,((_,_),(_,(_,((_,pb,pu),((_,nb,nu),(_,(es,((_,_),((_,_),_))))))))))))),u)=>100+(ksw l+10*pb.cs.length+pu.length+10*nb.cs.length+nu.length+lwt exSb es+u.length)
def z7e:Xp->Prop
 | ((l,(a,(t,(k,((_,vp),(sc,(zc,((_,pb,pu),((_,nb,nu),(f,(es,((_,vm),((_,vg),th))))))))))))),u)=>qs l/\a<18446744073709551616/\t<18446744073709551616/\k<18446744073709551616/\vp<18446744073709551616/\(-2147483648<=sc/\sc<=2147483647)/\zc<18446744073709551616/\BkOk pb/\BkOk nb/\f<4294967296/\(∀x∈es,z01 x)/\vm<18446744073709551616/\vg<18446744073709551616/\th<18446744073709551616/\ksw l+10*pb.cs.length+pu.length+10*nb.cs.length+nu.length+lwt exSb es+u.length<=400000
def z6a:Xp->Prop
 | ((l,(a,(t,(k,((_,vp),(sc,(zc,((_,pb,pu),((_,nb,nu),(f,(es,((_,vm),((_,vg),th))))))))))))),u)=>qs l/\Yi l/\l.length<=9223372036854775807/\a<18446744073709551616/\t<18446744073709551616/\k<18446744073709551616/\vp<18446744073709551616/\(-2147483648<=sc/\sc<=2147483647)/\zc<18446744073709551616/\BkOk pb/\pb.cs.length<=9223372036854775807/\pu.length<=9223372036854775807/\BkOk nb/\nb.cs.length<=9223372036854775807/\nu.length<=9223372036854775807/\f<4294967296/\(∀x∈es,z09 x)/\es.length<=9223372036854775807/\vm<18446744073709551616/\vg<18446744073709551616/\th<18446744073709551616/\u.length<=9223372036854775807
theorem xp_mayF (d:Int){l:List KV}{a t k:Nat}{bp:Bool}{vp:Nat}{sc:Int}{zc:Nat}{gp:Bool}{pb:Bk}{pu:List UInt8}{gn:Bool}{nb:Bk}{nu:List UInt8}{f:Nat}{es:List Ex}{bm:Bool}{vm:Nat}{bg:Bool}{vg th:Nat}{u:List UInt8}:zcl d ((l,(a,(t,(k,((bp,vp),(sc,(zc,((gp,pb,pu),((gn,nb,nu),(f,(es,((bm,vm),((bg,vg),th))))))))))))),u)=(decide (0<=d)&&(xpN.may d (l,(a,(t,(k,((bp,vp),(sc,(zc,((gp,pb,pu),((gn,nb,nu),(f,(es,((bm,vm),((bg,vg),th)))))))))))))&&zp xrF.tk u d)):=by
 have h:xpN.may d (l,(a,(t,(k,((bp,vp),(sc,(zc,((gp,pb,pu),((gn,nb,nu),(f,(es,((bm,vm),((bg,vg),th)))))))))))))=(xk l d&&((bp||decide (vp=0))&&((if gp=true then decide (1<=d)&&bmay pu (d-1)else bkz (pb,pu))&&((if gn=true then decide (1<=d)&&bmay nu (d-1)else bkz (nb,nu))&&(lmays exSb es d&&((bm||decide (vm=0))&&(bg||decide (vg=0)))))))):=by
  show((zy 1 kvS).may d l&&(true&&(true&&(true&&((bp||decide (vp=0))&&(true&&(true&&((if gp=true then decide (1<=d)&&bmay pu (d-1)else bkz (pb,pu))&&((if gn=true then decide (1<=d)&&bmay nu (d-1)else bkz (nb,nu))&&(true&&((zy 11 exSb).may d es&&((bm||decide (vm=0))&&((bg||decide (vg=0))&&true)))))))))))))=_
  simp only[z48,lst_may (S:=exSb),Bool.true_and,Bool.and_true]
 rw[h];rfl
theorem zfe {l:List KV}{a t k:Nat}{bp:Bool}{vp:Nat}{sc:Int}{zc:Nat}{gp:Bool}{pb:Bk}{pu:List UInt8}{gn:Bool}{nb:Bk}{nu:List UInt8}{f:Nat}{es:List Ex}{bm:Bool}{vm:Nat}{bg:Bool}{vg th:Nat}{u s:List UInt8}{d:Int}(hl:s.length<=6000)(h:xprd s d=.ok ((l,(a,(t,(k,((bp,vp),(sc,(zc,((gp,pb,pu),((gn,nb,nu),(f,(es,((bm,vm),((bg,vg),th))))))))))))),u)):zcl d ((l,(a,(t,(k,((bp,vp),(sc,(zc,((gp,pb,pu),((gn,nb,nu),(f,(es,((bm,vm),((bg,vg),th))))))))))))),u)=true/\z7e ((l,(a,(t,(k,((bp,vp),(sc,(zc,((gp,pb,pu),((gn,nb,nu),(f,(es,((bm,vm),((bg,vg),th))))))))))))),u):=by
 obtain⟨h0,h1,h2,h3,h4⟩:=zbt j4 xpN_ok (x:=(l,(a,(t,(k,((bp,vp),(sc,(zc,((gp,pb,pu),((gn,nb,nu),(f,(es,((bm,vm),((bg,vg),th)))))))))))))) (by omega) h;refine⟨?_,?_⟩
 ·rw[xp_mayF,h1,h2,decide_eq_true h0];rfl
 ·have h5:((zy 1 kvS).wt l+(0+(0+(0+(0+(0+(0+((10*pb.cs.length+pu.length)+((10*nb.cs.length+nu.length)+(0+((zy 11 exSb).wt es+(0+(0+0)))))))))))))+u.length<=(0+(0+(0+(0+(0+(0+(0+((100+0)+((100+0)+(0+(0+(0+(0+0)))))))))))))+51*s.length:=h4
  rw[z2n,lst_wt]at h5;exact⟨z9y (num:=1) h3.1,h3.2.1,h3.2.2.1,h3.2.2.2.1,h3.2.2.2.2.1,h3.2.2.2.2.2.1,h3.2.2.2.2.2.2.1,h3.2.2.2.2.2.2.2.1,h3.2.2.2.2.2.2.2.2.1,h3.2.2.2.2.2.2.2.2.2.1,exs_fit (num:=11) h3.2.2.2.2.2.2.2.2.2.2.1 (by omega),h3.2.2.2.2.2.2.2.2.2.2.2.1,h3.2.2.2.2.2.2.2.2.2.2.2.2.1,h3.2.2.2.2.2.2.2.2.2.2.2.2.2,by omega⟩
theorem zd1 {l:List KV}{a t k:Nat}{bp:Bool}{vp:Nat}{sc:Int}{zc:Nat}{gp:Bool}{pb:Bk}{pu:List UInt8}{gn:Bool}{nb:Bk}{nu:List UInt8}{f:Nat}{es:List Ex}{bm:Bool}{vm:Nat}{bg:Bool}{vg th:Nat}{u:List UInt8}(h:z7e ((l,(a,(t,(k,((bp,vp),(sc,(zc,((gp,pb,pu),((gn,nb,nu),(f,(es,((bm,vm),((bg,vg),th))))))))))))),u)):z6a ((l,(a,(t,(k,((bp,vp),(sc,(zc,((gp,pb,pu),((gn,nb,nu),(f,(es,((bm,vm),((bg,vg),th))))))))))))),u):=by
 obtain⟨hfl,hna,hnt,hnk,hnvp,hnsc,hnzc,hfpu,hfnu,hnf,hfes,hnvm,hnvg,hnth,hw⟩:=h;have hzl:=Jd l;have hzes:=z9k es;exact⟨hfl,J0 l (by omega),(by omega),hna,hnt,hnk,hnvp,hnsc,hnzc,hfpu,(by omega),(by omega),hfnu,(by omega),(by omega),hnf,(fun x hx=>zai (hfes x hx)),(by omega),hnvm,hnvg,hnth,(by omega)⟩
theorem xp_code {l:List UInt8}{d:Int}{c:Nat}(h:xprd l d=.error c):j0 c:=zef ze2 zfa h
end Go.Proofs.YtmlghmjjlpioeaaGreatDoor
