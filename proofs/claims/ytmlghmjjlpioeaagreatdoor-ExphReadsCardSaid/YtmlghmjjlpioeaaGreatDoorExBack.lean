/-
  An exemplar, by its fields.
-/
import Derived.Test.YtmlghmjjlpioeaaGreatDoorFld
namespace Go.Proofs.YtmlghmjjlpioeaaGreatDoor
open Go.RowKit
open Lib (hid)
def exF:Fld:=(numF 2).and (((qf 3 6).wrap ((yy 4).and (yy 5)) (fun s=>if s.1=1 then [rF 3 s.2]else []) (fun s=>if s.1=2 then [rF 6 s.2]else [])).and (zy 7 kvS))
theorem z0f:exF.Ok:=(ki (by omega) (by omega)).and (((zec (by omega) (by omega) (by omega) (by omega) (by omega)).wrap ((z4d (by omega) (by omega)).and (z4d (by omega) (by omega)) (xm fun r h=>by simp only[yy,decide_eq_true_eq]at h;simp only[yy,decide_eq_false_iff_not];omega)) (xm fun r h=>by simp only[qf,decide_eq_true_eq]at h;simp only[Fld.and,yy,Bool.or_eq_false_iff,decide_eq_false_iff_not];omega) (fun s=>by show(if s.1=1 then [rF 3 s.2]else [])++(if s.1=2 then [rF 6 s.2]else [])=(if s.1=1 then [rF 3 s.2]else if s.1=2 then [rF 6 s.2]else []);by_cases h1:s.1=1<;>by_cases h2:s.1=2<;>simp_all)).and (Qc z6l (by omega) (by omega)) (xm fun r h=>by simp only[Fld.and,Fld.wrap,yy,qf,Bool.or_eq_true,decide_eq_true_eq]at h;simp only[zy,ya,decide_eq_false_iff_not];omega)) (xm fun r h=>by simp only[numF,decide_eq_true_eq]at h;simp only[Fld.and,Fld.wrap,yy,qf,zy,ya,Bool.or_eq_false_iff,decide_eq_false_iff_not];omega)
theorem z3l (r:Rec):exF.tk r=decide ((r.num=2/\r.ty=1)∨((((r.num=3∨r.num=6)/\r.ty=1)∨((r.num=4/\r.ty=2)∨(r.num=5/\r.ty=2)))∨(r.num=7/\r.ty=2))):=by
 rw[Bool.eq_iff_iff]
 simp only[exF,Fld.and,Fld.wrap,numF,yy,qf,zy,ya,Bool.or_eq_true,decide_eq_true_eq]
theorem exF_2 {r:Rec}(h:r.num=2/\r.ty=1)(d:Int)(t:Nat)(k:Int)(n:Nat)(a b:List UInt8)(l:List KV):exF.step d (t,(((k,n),(a,b)),l)) r=.ok (r.n,(((k,n),(a,b)),l)) :=
 (Fld.and_1ok (by simp only[numF,decide_eq_true_eq];omega) rfl)
theorem exF_3 {r:Rec}(h:r.num=3/\r.ty=1)(d:Int)(t:Nat)(k:Int)(n:Nat)(a b:List UInt8)(l:List KV):exF.step d (t,(((k,n),(a,b)),l)) r=.ok (t,(((1,r.n),(a,b)),l)) :=
 (Fld.and_2ok (by simp only[numF,decide_eq_false_iff_not];omega) (Fld.and_1ok (by simp only[Fld.and,Fld.wrap,yy,qf,Bool.or_eq_true,decide_eq_true_eq];omega) (Fld.and_1ok (by simp only[qf,decide_eq_true_eq];omega) (show Except.ok ((if r.num=6 then(2:Int)else 1),r.n)=_ by rw[h.1];rfl))))
theorem exF_6 {r:Rec}(h:r.num=6/\r.ty=1)(d:Int)(t:Nat)(k:Int)(n:Nat)(a b:List UInt8)(l:List KV):exF.step d (t,(((k,n),(a,b)),l)) r=.ok (t,(((2,r.n),(a,b)),l)) :=
 (Fld.and_2ok (by simp only[numF,decide_eq_false_iff_not];omega) (Fld.and_1ok (by simp only[Fld.and,Fld.wrap,yy,qf,Bool.or_eq_true,decide_eq_true_eq];omega) (Fld.and_1ok (by simp only[qf,decide_eq_true_eq];omega) (show Except.ok ((if r.num=6 then(2:Int)else 1),r.n)=_ by rw[h.1];rfl))))
theorem exF_4 {r:Rec}(h:r.num=4/\r.ty=2)(d:Int)(t:Nat)(k:Int)(n:Nat)(a b:List UInt8)(l:List KV):exF.step d (t,(((k,n),(a,b)),l)) r=.ok (t,(((k,n),(r.s,b)),l)) :=
 (Fld.and_2ok (by simp only[numF,decide_eq_false_iff_not];omega) (Fld.and_1ok (by simp only[Fld.and,Fld.wrap,yy,qf,Bool.or_eq_true,decide_eq_true_eq];omega) (Fld.and_2ok (by simp only[qf,decide_eq_false_iff_not];omega) (Fld.and_1ok (by simp only[yy,decide_eq_true_eq];omega) rfl))))
theorem exF_5 {r:Rec}(h:r.num=5/\r.ty=2)(d:Int)(t:Nat)(k:Int)(n:Nat)(a b:List UInt8)(l:List KV):exF.step d (t,(((k,n),(a,b)),l)) r=.ok (t,(((k,n),(a,r.s)),l)) :=
 (Fld.and_2ok (by simp only[numF,decide_eq_false_iff_not];omega) (Fld.and_1ok (by simp only[Fld.and,Fld.wrap,yy,qf,Bool.or_eq_true,decide_eq_true_eq];omega) (Fld.and_2ok (by simp only[qf,decide_eq_false_iff_not];omega) (Fld.and_2ok (by simp only[yy,decide_eq_false_iff_not];omega) rfl))))
theorem exF_7 {r:Rec}(h:r.num=7/\r.ty=2)(d:Int)(t:Nat)(k:Int)(n:Nat)(a b:List UInt8)(l:List KV):exF.step d (t,(((k,n),(a,b)),l)) r=match zm 1000001 r.s (d-1)with
  | .error c => .error c
  | .ok x => .ok (t,(((k,n),(a,b)),l++[x])):=by
 cases e:zm 1000001 r.s (d-1)with
 | error c=>exact(Fld.and_2no (by simp only[numF,decide_eq_false_iff_not];omega) (Fld.and_2no (by simp only[Fld.and,Fld.wrap,yy,qf,Bool.or_eq_false_iff,decide_eq_false_iff_not];omega) (kv_no e)))
 | ok x=>exact(Fld.and_2ok (by simp only[numF,decide_eq_false_iff_not];omega) (Fld.and_2ok (by simp only[Fld.and,Fld.wrap,yy,qf,Bool.or_eq_false_iff,decide_eq_false_iff_not];omega) (kv_ok e)))
abbrev Ex:Type:=(Nat × ((Int × Nat) × List UInt8 × List UInt8) × List KV) × List UInt8
def Kk (w:World)(P:Nat->Prop):Ex->List Value->Prop
 | ((t,(((k,n),(a,b)),l)),u),cs=>∃(lo:Option Addr) (lc:Nat),cs=[.slice lo l.length lc,.int .u64 t,.int .i64 k,.int .u64 n,strV a,strV b,strV u]/\y7 w P l lo 0
def qg:Cel Ex where
 R:=Kk
 size:=7
 len:=by rintro w P ⟨⟨t,⟨⟨⟨k,n⟩,⟨a,b⟩⟩,l⟩⟩,u⟩ cs ⟨lo,lc,rfl,_⟩;rfl
 upd:=by rintro w w' S P Q ⟨⟨t,⟨⟨⟨k,n⟩,⟨a,b⟩⟩,l⟩⟩,u⟩ cs hu hs hq ⟨lo,lc,h,h0⟩;exact⟨lo,lc,h,y7.upd hu hs hq _ _ _ h0⟩
 lt:=by rintro w P ⟨⟨t,⟨⟨⟨k,n⟩,⟨a,b⟩⟩,l⟩⟩,u⟩ cs ⟨lo,lc,h,h0⟩;exact⟨lo,lc,h,y7.lt _ _ _ h0⟩
def Q3:Array Value:=#[.slice none 0 0,.int .u64 0,.int .i64 0,.int .u64 0,.string ⟨#[]⟩,.string ⟨#[]⟩,.string ⟨#[]⟩]
def exrd (l:List UInt8)(d:Int):Except Nat Ex:=zq (σ:=Nat × ((Int × Nat) × List UInt8 × List UInt8) × List KV) exF.tk (exF.step d) exF.z l d
def Q2 (d:Int):Ex->Bool
 | ((_,(((k,n),(_,_)),l)),u)=>decide (0<=d)&&((decide (k=0/\n=0∨k=1∨k=2)&&xk l d)&&zp exF.tk u d)
def z0l:Ex->List UInt8
 | ((t,(((k,n),(a,b)),l)),u)=>(if t=0 then []else(rF 2 t).raw)++(if k=1 then(rF 3 n).raw else [])++(if a=[]then []else(rB 4 a).raw)++(if b=[]then []else(rB 5 b).raw)++(if k=2 then(rF 6 n).raw else [])++zx 7 l++u
def Xn:Ex->Nat
 | ((_,(((_,_),(a,b)),l)),u)=>60+(a.length+b.length+ksw l+u.length)
def z01:Ex->Prop
 | ((t,(((_,n),(a,b)),l)),u)=>t<18446744073709551616/\n<18446744073709551616/\qs l/\a.length+b.length+ksw l+u.length<=400000
def z09:Ex->Prop
 | ((t,(((_,n),(a,b)),l)),u)=>t<18446744073709551616/\n<18446744073709551616/\a.length<=9223372036854775807/\b.length<=9223372036854775807/\qs l/\Yi l/\l.length<=9223372036854775807/\u.length<=9223372036854775807
theorem ex_mayF (d:Int){t:Nat}{k:Int}{n:Nat}{a b:List UInt8}{l:List KV}{u:List UInt8}:Q2 d ((t,(((k,n),(a,b)),l)),u)=(decide (0<=d)&&(exF.may d (t,(((k,n),(a,b)),l))&&zp exF.tk u d)):=by
 have h:exF.may d (t,(((k,n),(a,b)),l))=(decide (k=0/\n=0∨k=1∨k=2)&&xk l d):=by
  show(true&&((decide (k=0/\n=0∨k=1∨k=2)&&(true&&true))&&(zy 7 kvS).may d l))=_
  simp only[z48,Bool.and_true,Bool.true_and]
 rw[h];rfl
theorem ex_outF {t:Nat}{k:Int}{n:Nat}{a b:List UInt8}{l:List KV}{u:List UInt8}:(exF.out (t,(((k,n),(a,b)),l))).flatMap Rec.raw++u=z0l ((t,(((k,n),(a,b)),l)),u):=by
 have h:=congrArg (·++u) ((z3z (numF 2) (((qf 3 6).wrap ((yy 4).and (yy 5)) (fun s=>if s.1=1 then [rF 3 s.2]else []) (fun s=>if s.1=2 then [rF 6 s.2]else [])).and (zy 7 kvS)) t (((k,n),(a,b)),l)).trans (congr (congrArg HAppend.hAppend (num_out 2 t)) ((z3z ((qf 3 6).wrap ((yy 4).and (yy 5)) (fun s=>if s.1=1 then [rF 3 s.2]else []) (fun s=>if s.1=2 then [rF 6 s.2]else [])) (zy 7 kvS) ((k,n),(a,b)) l).trans (congr (congrArg HAppend.hAppend ((zey (qf 3 6) ((yy 4).and (yy 5)) (fun s=>if s.1=1 then [rF 3 s.2]else []) (fun s=>if s.1=2 then [rF 6 s.2]else []) (k,n) (a,b)).trans (congr (congrArg HAppend.hAppend (congr (congrArg HAppend.hAppend (z95 (k=1) (rF 3 n))) ((z3z (yy 4) (yy 5) a b).trans (congr (congrArg HAppend.hAppend (z4g 4 a)) (z4g 5 b))))) (z95 (k=2) (rF 6 n))))) (z94 7 l)))));refine Eq.trans (show _=_ from h) ?_
 show _=(if t=0 then []else(rF 2 t).raw)++(if k=1 then(rF 3 n).raw else [])++(if a=[]then []else(rB 4 a).raw)++(if b=[]then []else(rB 5 b).raw)++(if k=2 then(rF 6 n).raw else [])++zx 7 l++u
 simp only[List.append_assoc]
theorem zd2 {t:Nat}{k:Int}{n:Nat}{a b:List UInt8}{l:List KV}{u:List UInt8}(h:z01 ((t,(((k,n),(a,b)),l)),u)):z09 ((t,(((k,n),(a,b)),l)),u):=by
 obtain⟨hnt,hnn,hfl,hw⟩:=h;have hzl:=Jd l;exact⟨hnt,hnn,(by omega),(by omega),hfl,J0 l (by omega),(by omega),(by omega)⟩
theorem zev:exF.Code:=((Y7 _).and (((((zb3 _ _).wrap (((z1r _).and (z1r _))) _ _)).and (z6i _))))
theorem ex_code {l:List UInt8}{d:Int}{c:Nat}(h:exrd l d=.error c):j0 c:=Zn (σ:=Nat × ((Int × Nat) × List UInt8 × List UInt8) × List KV) (fun st r c hs=>zev d st r c hs) h
end Go.Proofs.YtmlghmjjlpioeaaGreatDoor
