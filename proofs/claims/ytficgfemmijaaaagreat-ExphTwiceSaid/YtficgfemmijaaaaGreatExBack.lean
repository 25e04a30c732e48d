/-
  An exemplar, by its fields.
-/
import Derived.Test.YtficgfemmijaaaaGreatFld
namespace Go.Proofs.YtficgfemmijaaaaGreat
open Go.RowKit
open Lib (hid)
def exF:Fld:=(numF 2).and (((kindF 3 6).wrap ((bytesF 4).and (bytesF 5)) (fun s=>if s.1=1 then [rF 3 s.2] else []) (fun s=>if s.1=2 then [rF 6 s.2] else [])).and (listF 7 kvS))
theorem exF_ok:exF.Ok:=(numF_ok (by omega) (by omega)).and (((kindF_ok (by omega) (by omega) (by omega) (by omega) (by omega)).wrap ((bytesF_ok (by omega) (by omega)).and (bytesF_ok (by omega) (by omega)) (apart_of fun r h=>by simp only[bytesF,decide_eq_true_eq] at h;simp only[bytesF,decide_eq_false_iff_not];omega)) (apart_of fun r h=>by simp only[kindF,decide_eq_true_eq] at h;simp only[Fld.and,bytesF,Bool.or_eq_false_iff,decide_eq_false_iff_not];omega) (fun s=>by show (if s.1=1 then [rF 3 s.2] else [])++(if s.1=2 then [rF 6 s.2] else [])=(if s.1=1 then [rF 3 s.2] else if s.1=2 then [rF 6 s.2] else []);by_cases h1:s.1=1<;>by_cases h2:s.1=2<;>simp_all)).and (listF_ok kvS_ok (by omega) (by omega)) (apart_of fun r h=>by simp only[Fld.and,Fld.wrap,bytesF,kindF,Bool.or_eq_true,decide_eq_true_eq] at h;simp only[listF,listTk,decide_eq_false_iff_not];omega)) (apart_of fun r h=>by simp only[numF,decide_eq_true_eq] at h;simp only[Fld.and,Fld.wrap,bytesF,kindF,listF,listTk,Bool.or_eq_false_iff,decide_eq_false_iff_not];omega)
theorem exF_tk (r:Rec):exF.tk r=decide ((r.num=2∧r.ty=1)∨((((r.num=3∨r.num=6)∧r.ty=1)∨((r.num=4∧r.ty=2)∨(r.num=5∧r.ty=2)))∨(r.num=7∧r.ty=2))):=by
 rw[Bool.eq_iff_iff]
 simp only[exF,Fld.and,Fld.wrap,numF,bytesF,kindF,listF,listTk,Bool.or_eq_true,decide_eq_true_eq]
theorem exF_2 {r:Rec}(h:r.num=2∧r.ty=1)(d:Int)(t:Nat)(k:Int)(n:Nat)(a b:List UInt8)(l:List KV):exF.step d (t,(((k,n),(a,b)),l)) r = .ok (r.n,(((k,n),(a,b)),l)) :=
 (Fld.and_1ok (by simp only[numF,decide_eq_true_eq];omega) rfl)
theorem exF_3 {r:Rec}(h:r.num=3∧r.ty=1)(d:Int)(t:Nat)(k:Int)(n:Nat)(a b:List UInt8)(l:List KV):exF.step d (t,(((k,n),(a,b)),l)) r = .ok (t,(((1,r.n),(a,b)),l)) :=
 (Fld.and_2ok (by simp only[numF,decide_eq_false_iff_not];omega) (Fld.and_1ok (by simp only[Fld.and,Fld.wrap,bytesF,kindF,Bool.or_eq_true,decide_eq_true_eq];omega) (Fld.and_1ok (by simp only[kindF,decide_eq_true_eq];omega) (show Except.ok ((if r.num=6 then (2:Int) else 1),r.n)=_ by rw[h.1];rfl))))
theorem exF_6 {r:Rec}(h:r.num=6∧r.ty=1)(d:Int)(t:Nat)(k:Int)(n:Nat)(a b:List UInt8)(l:List KV):exF.step d (t,(((k,n),(a,b)),l)) r = .ok (t,(((2,r.n),(a,b)),l)) :=
 (Fld.and_2ok (by simp only[numF,decide_eq_false_iff_not];omega) (Fld.and_1ok (by simp only[Fld.and,Fld.wrap,bytesF,kindF,Bool.or_eq_true,decide_eq_true_eq];omega) (Fld.and_1ok (by simp only[kindF,decide_eq_true_eq];omega) (show Except.ok ((if r.num=6 then (2:Int) else 1),r.n)=_ by rw[h.1];rfl))))
theorem exF_4 {r:Rec}(h:r.num=4∧r.ty=2)(d:Int)(t:Nat)(k:Int)(n:Nat)(a b:List UInt8)(l:List KV):exF.step d (t,(((k,n),(a,b)),l)) r = .ok (t,(((k,n),(r.s,b)),l)) :=
 (Fld.and_2ok (by simp only[numF,decide_eq_false_iff_not];omega) (Fld.and_1ok (by simp only[Fld.and,Fld.wrap,bytesF,kindF,Bool.or_eq_true,decide_eq_true_eq];omega) (Fld.and_2ok (by simp only[kindF,decide_eq_false_iff_not];omega) (Fld.and_1ok (by simp only[bytesF,decide_eq_true_eq];omega) rfl))))
theorem exF_5 {r:Rec}(h:r.num=5∧r.ty=2)(d:Int)(t:Nat)(k:Int)(n:Nat)(a b:List UInt8)(l:List KV):exF.step d (t,(((k,n),(a,b)),l)) r = .ok (t,(((k,n),(a,r.s)),l)) :=
 (Fld.and_2ok (by simp only[numF,decide_eq_false_iff_not];omega) (Fld.and_1ok (by simp only[Fld.and,Fld.wrap,bytesF,kindF,Bool.or_eq_true,decide_eq_true_eq];omega) (Fld.and_2ok (by simp only[kindF,decide_eq_false_iff_not];omega) (Fld.and_2ok (by simp only[bytesF,decide_eq_false_iff_not];omega) rfl))))
theorem exF_7 {r:Rec}(h:r.num=7∧r.ty=2)(d:Int)(t:Nat)(k:Int)(n:Nat)(a b:List UInt8)(l:List KV):exF.step d (t,(((k,n),(a,b)),l)) r=match kread 1000001 r.s (d - 1) with
  | .error c => .error c
  | .ok x => .ok (t,(((k,n),(a,b)),l++[x])):=by
 cases e:kread 1000001 r.s (d - 1) with
 | error c=>exact (Fld.and_2no (by simp only[numF,decide_eq_false_iff_not];omega) (Fld.and_2no (by simp only[Fld.and,Fld.wrap,bytesF,kindF,Bool.or_eq_false_iff,decide_eq_false_iff_not];omega) (kv_no e)))
 | ok x=>exact (Fld.and_2ok (by simp only[numF,decide_eq_false_iff_not];omega) (Fld.and_2ok (by simp only[Fld.and,Fld.wrap,bytesF,kindF,Bool.or_eq_false_iff,decide_eq_false_iff_not];omega) (kv_ok e)))
open Go.RowKit
abbrev Ex:Type:=(Nat × ((Int × Nat) × List UInt8 × List UInt8) × List KV) × List UInt8
def ExRel (w:World)(P:Nat→Prop):Ex→List Value→Prop
 | ((t,(((k,n),(a,b)),l)),u),cs=>∃ (lo:Option Addr) (lc:Nat),cs=[.slice lo l.length lc,.int .u64 t,.int .i64 k,.int .u64 n,strV a,strV b,strV u]∧KRels w P l lo 0
def exCel:Cel Ex where
 R:=ExRel
 size:=7
 len:=by rintro w P ⟨⟨t,⟨⟨⟨k,n⟩,⟨a,b⟩⟩,l⟩⟩,u⟩ cs ⟨lo,lc,rfl,_⟩;rfl
 upd:=by rintro w w' S P Q ⟨⟨t,⟨⟨⟨k,n⟩,⟨a,b⟩⟩,l⟩⟩,u⟩ cs hu hs hq ⟨lo,lc,h,h0⟩;exact ⟨lo,lc,h,KRels.upd hu hs hq _ _ _ h0⟩
 lt:=by rintro w P ⟨⟨t,⟨⟨⟨k,n⟩,⟨a,b⟩⟩,l⟩⟩,u⟩ cs ⟨lo,lc,h,h0⟩;exact ⟨lo,lc,h,KRels.lt _ _ _ h0⟩
def exzero:Array Value:=#[.slice none 0 0,.int .u64 0,.int .i64 0,.int .u64 0,.string ⟨#[]⟩,.string ⟨#[]⟩,.string ⟨#[]⟩]
def exrd (l:List UInt8)(d:Int):Except Nat Ex:=mread (σ:=Nat × ((Int × Nat) × List UInt8 × List UInt8) × List KV) exF.tk (exF.step d) exF.z l d
open Go.RowKit
theorem num_seg (num n:Nat):(if n=0 then [] else (rF num n).raw).length≤20:=by
 split
 ·simp
 ·show (vput (8 * num+1)++eight 8 n).length≤20
  have:=vput_le10 (8 * num+1);have:=eight_len 8 n;rw[List.length_append];omega
theorem var_seg (num n:Nat):(if n=0 then [] else (rN num n).raw).length≤20:=by
 split
 ·simp
 ·exact rN_len20 num n
def ex_may (d:Int):Ex→Bool
 | ((_,(((k,n),(_,_)),l)),u)=>decide (0≤d)&&((decide (k=0∧n=0∨k=1∨k=2)&&kmays l d)&&munkOk exF.tk u d)
def ex_out:Ex→List UInt8
 | ((t,(((k,n),(a,b)),l)),u)=>(if t=0 then [] else (rF 2 t).raw)++(if k=1 then (rF 3 n).raw else [])++(if a=[] then [] else (rB 4 a).raw)++(if b=[] then [] else (rB 5 b).raw)++(if k=2 then (rF 6 n).raw else [])++kouts 7 l++u
def ex_wt:Ex→Nat
 | ((_,(((_,_),(a,b)),l)),u)=>60+(a.length+b.length+ksw l+u.length)
def ex_fit:Ex→Prop
 | ((t,(((_,n),(a,b)),l)),u)=>t<18446744073709551616∧n<18446744073709551616∧ksfit l∧a.length+b.length+ksw l+u.length≤400000
def ex_arg:Ex→Prop
 | ((t,(((_,n),(a,b)),l)),u)=>t<18446744073709551616∧n<18446744073709551616∧a.length≤9223372036854775807∧b.length≤9223372036854775807∧ksfit l∧kslim l∧l.length≤9223372036854775807∧u.length≤9223372036854775807
theorem ex_mayF (d:Int){t:Nat}{k:Int}{n:Nat}{a b:List UInt8}{l:List KV}{u:List UInt8}:ex_may d ((t,(((k,n),(a,b)),l)),u)=(decide (0≤d)&&(exF.may d (t,(((k,n),(a,b)),l))&&munkOk exF.tk u d)):=by
 have h:exF.may d (t,(((k,n),(a,b)),l))=(decide (k=0∧n=0∨k=1∨k=2)&&kmays l d):=by
  show (true&&((decide (k=0∧n=0∨k=1∨k=2)&&(true&&true))&&(listF 7 kvS).may d l))=_
  simp only[kvs_may,Bool.and_true,Bool.true_and]
 rw[h];rfl
theorem ex_outF {t:Nat}{k:Int}{n:Nat}{a b:List UInt8}{l:List KV}{u:List UInt8}:(exF.out (t,(((k,n),(a,b)),l))).flatMap Rec.raw++u=ex_out ((t,(((k,n),(a,b)),l)),u):=by
 have h:=congrArg (·++u) ((out_and (numF 2) (((kindF 3 6).wrap ((bytesF 4).and (bytesF 5)) (fun s=>if s.1=1 then [rF 3 s.2] else []) (fun s=>if s.1=2 then [rF 6 s.2] else [])).and (listF 7 kvS)) t (((k,n),(a,b)),l)).trans (congr (congrArg HAppend.hAppend (num_out 2 t)) ((out_and ((kindF 3 6).wrap ((bytesF 4).and (bytesF 5)) (fun s=>if s.1=1 then [rF 3 s.2] else []) (fun s=>if s.1=2 then [rF 6 s.2] else [])) (listF 7 kvS) ((k,n),(a,b)) l).trans (congr (congrArg HAppend.hAppend ((out_wrap (kindF 3 6) ((bytesF 4).and (bytesF 5)) (fun s=>if s.1=1 then [rF 3 s.2] else []) (fun s=>if s.1=2 then [rF 6 s.2] else []) (k,n) (a,b)).trans (congr (congrArg HAppend.hAppend (congr (congrArg HAppend.hAppend (one_out (k=1) (rF 3 n))) ((out_and (bytesF 4) (bytesF 5) a b).trans (congr (congrArg HAppend.hAppend (bytes_out 4 a)) (bytes_out 5 b))))) (one_out (k=2) (rF 6 n))))) (kvs_out 7 l)))));refine Eq.trans (show _=_ from h) ?_
 show _=(if t=0 then [] else (rF 2 t).raw)++(if k=1 then (rF 3 n).raw else [])++(if a=[] then [] else (rB 4 a).raw)++(if b=[] then [] else (rB 5 b).raw)++(if k=2 then (rF 6 n).raw else [])++kouts 7 l++u
 simp only[List.append_assoc]
theorem ex_fitF {t:Nat}{k:Int}{n:Nat}{a b:List UInt8}{l:List KV}{u:List UInt8}(h:ex_fit ((t,(((k,n),(a,b)),l)),u)):exF.fit (t,(((k,n),(a,b)),l))∧exF.wt (t,(((k,n),(a,b)),l))≤1000000:=by
 obtain ⟨hnt,hnn,hfl,hw⟩:=h;refine ⟨⟨hnt,⟨⟨hnn,⟨(by show a.length≤_;omega),(by show b.length≤_;omega)⟩⟩,(kvs_fit2 hfl)⟩⟩,?_⟩
 show (0+((0+(a.length+b.length))+(listF 7 kvS).wt l))≤_
 rw[kvs_wt];omega
theorem ex_arg_of {t:Nat}{k:Int}{n:Nat}{a b:List UInt8}{l:List KV}{u:List UInt8}(h:ex_fit ((t,(((k,n),(a,b)),l)),u)):ex_arg ((t,(((k,n),(a,b)),l)),u):=by
 obtain ⟨hnt,hnn,hfl,hw⟩:=h;have hzl:=ksw_len l;exact ⟨hnt,hnn,(by omega),(by omega),hfl,kslim_ofw l (by omega),(by omega),(by omega)⟩
open Go.RowKit
end Go.Proofs.YtficgfemmijaaaaGreat
