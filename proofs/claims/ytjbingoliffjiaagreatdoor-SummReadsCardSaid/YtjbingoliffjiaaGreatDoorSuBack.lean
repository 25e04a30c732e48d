/-
  Points of summaries: by their fields; in memory; there and back; joined.
-/
import Derived.Test.YtjbingoliffjiaaGreatDoorQuBack
namespace Go.Proofs.YtjbingoliffjiaaGreatDoor
open Go.RowKit
def suF:Fld:=(numF 2).and ((numF 3).and ((numF 4).and ((numF 5).and ((listF 6 quSb).and ((listF 7 kvS).and (var32F 8))))))
theorem suF_ok:suF.Ok:=(numF_ok (by omega) (by omega)).and ((numF_ok (by omega) (by omega)).and ((numF_ok (by omega) (by omega)).and ((numF_ok (by omega) (by omega)).and ((listF_ok quSb_ok (by omega) (by omega)).and ((listF_ok kvS_ok (by omega) (by omega)).and (var32F_ok (by omega) (by omega)) (apart_of fun r h=>by simp only[listF,listTk,decide_eq_true_eq] at h;simp only[var32F,decide_eq_false_iff_not];omega)) (apart_of fun r h=>by simp only[listF,listTk,decide_eq_true_eq] at h;simp only[Fld.and,var32F,listF,listTk,Bool.or_eq_false_iff,decide_eq_false_iff_not];omega)) (apart_of fun r h=>by simp only[numF,decide_eq_true_eq] at h;simp only[Fld.and,var32F,listF,listTk,Bool.or_eq_false_iff,decide_eq_false_iff_not];omega)) (apart_of fun r h=>by simp only[numF,decide_eq_true_eq] at h;simp only[Fld.and,numF,var32F,listF,listTk,Bool.or_eq_false_iff,decide_eq_false_iff_not];omega)) (apart_of fun r h=>by simp only[numF,decide_eq_true_eq] at h;simp only[Fld.and,numF,var32F,listF,listTk,Bool.or_eq_false_iff,decide_eq_false_iff_not];omega)) (apart_of fun r h=>by simp only[numF,decide_eq_true_eq] at h;simp only[Fld.and,numF,var32F,listF,listTk,Bool.or_eq_false_iff,decide_eq_false_iff_not];omega)
theorem suF_tk (r:Rec):suF.tk r=decide ((r.num=2∧r.ty=1)∨((r.num=3∧r.ty=1)∨((r.num=4∧r.ty=1)∨((r.num=5∧r.ty=1)∨((r.num=6∧r.ty=2)∨((r.num=7∧r.ty=2)∨(r.num=8∧r.ty=0))))))):=by
 rw[Bool.eq_iff_iff]
 simp only[suF,Fld.and,numF,var32F,listF,listTk,Bool.or_eq_true,decide_eq_true_eq]
theorem suF_2 {r:Rec} (h:r.num=2∧r.ty=1) (d:Int) (a:Nat) (t:Nat) (k:Nat) (n:Nat) (qs:List Qu) (l:List KV) (f:Nat):suF.step d (a,(t,(k,(n,(qs,(l,f)))))) r = .ok (r.n,(t,(k,(n,(qs,(l,f)))))) :=
 (Fld.and_1ok (by simp only[numF,decide_eq_true_eq];omega) rfl)
theorem suF_3 {r:Rec} (h:r.num=3∧r.ty=1) (d:Int) (a:Nat) (t:Nat) (k:Nat) (n:Nat) (qs:List Qu) (l:List KV) (f:Nat):suF.step d (a,(t,(k,(n,(qs,(l,f)))))) r = .ok (a,(r.n,(k,(n,(qs,(l,f)))))) :=
 (Fld.and_2ok (by simp only[numF,decide_eq_false_iff_not];omega) (Fld.and_1ok (by simp only[numF,decide_eq_true_eq];omega) rfl))
theorem suF_4 {r:Rec} (h:r.num=4∧r.ty=1) (d:Int) (a:Nat) (t:Nat) (k:Nat) (n:Nat) (qs:List Qu) (l:List KV) (f:Nat):suF.step d (a,(t,(k,(n,(qs,(l,f)))))) r = .ok (a,(t,(r.n,(n,(qs,(l,f)))))) :=
 (Fld.and_2ok (by simp only[numF,decide_eq_false_iff_not];omega) (Fld.and_2ok (by simp only[numF,decide_eq_false_iff_not];omega) (Fld.and_1ok (by simp only[numF,decide_eq_true_eq];omega) rfl)))
theorem suF_5 {r:Rec} (h:r.num=5∧r.ty=1) (d:Int) (a:Nat) (t:Nat) (k:Nat) (n:Nat) (qs:List Qu) (l:List KV) (f:Nat):suF.step d (a,(t,(k,(n,(qs,(l,f)))))) r = .ok (a,(t,(k,(r.n,(qs,(l,f)))))) :=
 (Fld.and_2ok (by simp only[numF,decide_eq_false_iff_not];omega) (Fld.and_2ok (by simp only[numF,decide_eq_false_iff_not];omega) (Fld.and_2ok (by simp only[numF,decide_eq_false_iff_not];omega) (Fld.and_1ok (by simp only[numF,decide_eq_true_eq];omega) rfl))))
theorem suF_6 {r:Rec} (h:r.num=6∧r.ty=2) (d:Int) (a:Nat) (t:Nat) (k:Nat) (n:Nat) (qs:List Qu) (l:List KV) (f:Nat):suF.step d (a,(t,(k,(n,(qs,(l,f)))))) r=match qurd r.s (d - 1) with
  | .error c => .error c
  | .ok x => .ok (a,(t,(k,(n,(qs++[x],(l,f)))))):=by
 cases e:qurd r.s (d - 1) with
 | error c=>exact (Fld.and_2no (by simp only[numF,decide_eq_false_iff_not];omega) (Fld.and_2no (by simp only[numF,decide_eq_false_iff_not];omega) (Fld.and_2no (by simp only[numF,decide_eq_false_iff_not];omega) (Fld.and_2no (by simp only[numF,decide_eq_false_iff_not];omega) (Fld.and_1no (by simp only[listF,listTk,decide_eq_true_eq];omega) (lst_no (S:=quSb) e))))))
 | ok x=>exact (Fld.and_2ok (by simp only[numF,decide_eq_false_iff_not];omega) (Fld.and_2ok (by simp only[numF,decide_eq_false_iff_not];omega) (Fld.and_2ok (by simp only[numF,decide_eq_false_iff_not];omega) (Fld.and_2ok (by simp only[numF,decide_eq_false_iff_not];omega) (Fld.and_1ok (by simp only[listF,listTk,decide_eq_true_eq];omega) (lst_ok (S:=quSb) e))))))
theorem suF_7 {r:Rec} (h:r.num=7∧r.ty=2) (d:Int) (a:Nat) (t:Nat) (k:Nat) (n:Nat) (qs:List Qu) (l:List KV) (f:Nat):suF.step d (a,(t,(k,(n,(qs,(l,f)))))) r=match kread 1000001 r.s (d - 1) with
  | .error c => .error c
  | .ok x => .ok (a,(t,(k,(n,(qs,(l++[x],f)))))):=by
 cases e:kread 1000001 r.s (d - 1) with
 | error c=>exact (Fld.and_2no (by simp only[numF,decide_eq_false_iff_not];omega) (Fld.and_2no (by simp only[numF,decide_eq_false_iff_not];omega) (Fld.and_2no (by simp only[numF,decide_eq_false_iff_not];omega) (Fld.and_2no (by simp only[numF,decide_eq_false_iff_not];omega) (Fld.and_2no (by simp only[listF,listTk,decide_eq_false_iff_not];omega) (Fld.and_1no (by simp only[listF,listTk,decide_eq_true_eq];omega) (kv_no e)))))))
 | ok x=>exact (Fld.and_2ok (by simp only[numF,decide_eq_false_iff_not];omega) (Fld.and_2ok (by simp only[numF,decide_eq_false_iff_not];omega) (Fld.and_2ok (by simp only[numF,decide_eq_false_iff_not];omega) (Fld.and_2ok (by simp only[numF,decide_eq_false_iff_not];omega) (Fld.and_2ok (by simp only[listF,listTk,decide_eq_false_iff_not];omega) (Fld.and_1ok (by simp only[listF,listTk,decide_eq_true_eq];omega) (kv_ok e)))))))
theorem suF_8 {r:Rec} (h:r.num=8∧r.ty=0) (d:Int) (a:Nat) (t:Nat) (k:Nat) (n:Nat) (qs:List Qu) (l:List KV) (f:Nat):suF.step d (a,(t,(k,(n,(qs,(l,f)))))) r = .ok (a,(t,(k,(n,(qs,(l,r.n % 4294967296)))))) :=
 (Fld.and_2ok (by simp only[numF,decide_eq_false_iff_not];omega) (Fld.and_2ok (by simp only[numF,decide_eq_false_iff_not];omega) (Fld.and_2ok (by simp only[numF,decide_eq_false_iff_not];omega) (Fld.and_2ok (by simp only[numF,decide_eq_false_iff_not];omega) (Fld.and_2ok (by simp only[listF,listTk,decide_eq_false_iff_not];omega) (Fld.and_2ok (by simp only[listF,listTk,decide_eq_false_iff_not];omega) rfl))))))
abbrev Su:Type:=(Nat × Nat × Nat × Nat × List Qu × List KV × Nat) × List UInt8
def SuRel (w:World) (P:Nat→Prop):Su→List Value→Prop
 | ((a,(t,(k,(n,(qs,(l,f)))))),u),cs=>∃ (lo:Option Addr) (lc:Nat) (qo:Option Addr) (qc:Nat),cs=[.slice lo l.length lc,.int .u64 (a:Int),.int .u64 (t:Int),.int .u64 (k:Int),.int .u64 (n:Int),.slice qo qs.length qc,.int .u32 (f:Int),strV u]∧KRels w P l lo 0∧CRels quCel w P qs qo
def suCel:Cel Su where
 R:=SuRel
 size:=8
 len:=by rintro w P ⟨⟨a,⟨t,⟨k,⟨n,⟨qs,⟨l,f⟩⟩⟩⟩⟩⟩,u⟩ cs ⟨lo,lc,qo,qc,rfl,_,_⟩;rfl
 upd:=by rintro w w' S P Q ⟨⟨a,⟨t,⟨k,⟨n,⟨qs,⟨l,f⟩⟩⟩⟩⟩⟩,u⟩ cs hu hs hq ⟨lo,lc,qo,qc,h,h0,h1⟩;exact ⟨lo,lc,qo,qc,h,KRels.upd hu hs hq _ _ _ h0,CRels.upd hu hs hq h1⟩
 lt:=by rintro w P ⟨⟨a,⟨t,⟨k,⟨n,⟨qs,⟨l,f⟩⟩⟩⟩⟩⟩,u⟩ cs ⟨lo,lc,qo,qc,h,h0,h1⟩;exact ⟨lo,lc,qo,qc,h,KRels.lt _ _ _ h0,CRels.lt h1⟩
def suzero:Array Value:=#[.slice none 0 0,.int .u64 0,.int .u64 0,.int .u64 0,.int .u64 0,.slice none 0 0,.int .u32 0,.string ⟨#[]⟩]
def surd (l:List UInt8) (d:Int):Except Nat Su:=mread (σ:=Nat × Nat × Nat × Nat × List Qu × List KV × Nat) suF.tk (suF.step d) suF.z l d
def su_may (d:Int):Su→Bool
 | ((_,(_,(_,(_,(qs,(l,_)))))),u)=>decide (0≤d)&&((lmays quSb qs d&&kmays l d)&&munkOk suF.tk u d)
def su_out:Su→List UInt8
 | ((a,(t,(k,(n,(qs,(l,f)))))),u)=>(if a=0 then [] else (rF 2 a).raw)++(if t=0 then [] else (rF 3 t).raw)++(if k=0 then [] else (rF 4 k).raw)++(if n=0 then [] else (rF 5 n).raw)++louts quSb 6 qs++kouts 7 l++(if f=0 then [] else (rN 8 f).raw)++u
def su_fit:Su→Prop
 | ((a,(t,(k,(n,(qs,(l,f)))))),u)=>a<18446744073709551616∧t<18446744073709551616∧k<18446744073709551616∧n<18446744073709551616∧(∀ x∈qs,qu_fit x)∧ksfit l∧f<4294967296∧lwt quSb qs+ksw l+u.length≤400000
def su_arg:Su→Prop
 | ((a,(t,(k,(n,(qs,(l,f)))))),u)=>a<18446744073709551616∧t<18446744073709551616∧k<18446744073709551616∧n<18446744073709551616∧(∀ x∈qs,qu_arg x)∧qs.length≤9223372036854775807∧ksfit l∧kslim l∧l.length≤9223372036854775807∧f<4294967296∧u.length≤9223372036854775807
theorem su_mayF (d:Int) {a:Nat} {t:Nat} {k:Nat} {n:Nat} {qs:List Qu} {l:List KV} {f:Nat} {u:List UInt8}:su_may d ((a,(t,(k,(n,(qs,(l,f)))))),u)=(decide (0≤d)&&(suF.may d (a,(t,(k,(n,(qs,(l,f))))))&&munkOk suF.tk u d)):=by
 have h:suF.may d (a,(t,(k,(n,(qs,(l,f))))))=(lmays quSb qs d&&kmays l d):=by
  show (true&&(true&&(true&&(true&&((listF 6 quSb).may d qs&&((listF 7 kvS).may d l&&true))))))=_
  simp only[kvs_may,lst_may (S:=quSb),Bool.and_true,Bool.true_and]
 rw[h];rfl
theorem su_twice {a:Nat} {t:Nat} {k:Nat} {n:Nat} {qs:List Qu} {l:List KV} {f:Nat} {u:List UInt8} {s:List UInt8} {d:Int} (hl:s.length≤6000) (h:surd s d = .ok ((a,(t,(k,(n,(qs,(l,f)))))),u)):su_may d ((a,(t,(k,(n,(qs,(l,f)))))),u)=true∧su_fit ((a,(t,(k,(n,(qs,(l,f)))))),u):=by
 obtain ⟨h0,h1,h2,h3,h4⟩:=fld_twice suF_ok (s:=(a,(t,(k,(n,(qs,(l,f))))))) (by omega) h
 refine ⟨?_,?_⟩
 ·rw[su_mayF,h1,h2,decide_eq_true h0];rfl
 ·have h5:(0+(0+(0+(0+((listF 6 quSb).wt qs+((listF 7 kvS).wt l+0))))))+u.length≤(0+(0+(0+(0+(0+(0+0))))))+51 * s.length:=h4
  rw[lst_wt,kvs_wt] at h5
  exact ⟨h3.1,h3.2.1,h3.2.2.1,h3.2.2.2.1,qus_fit h3.2.2.2.2.1 (by omega),kvs_fit h3.2.2.2.2.2.1,h3.2.2.2.2.2.2,by omega⟩
theorem su_arg_of {a:Nat} {t:Nat} {k:Nat} {n:Nat} {qs:List Qu} {l:List KV} {f:Nat} {u:List UInt8} (h:su_fit ((a,(t,(k,(n,(qs,(l,f)))))),u)):su_arg ((a,(t,(k,(n,(qs,(l,f)))))),u):=by
 obtain ⟨hna,hnt,hnk,hnn,hfqs,hfl,hnf,hw⟩:=h
 have hzl:=ksw_len l
 have hzqs:=qus_len qs
 exact ⟨hna,hnt,hnk,hnn,(fun x hx=>qu_arg_ofx (hfqs x hx)),(by omega),hfl,kslim_ofw l (by omega),(by omega),hnf,(by omega)⟩
theorem su_codeF:suF.Code:=((numF_code _).and (((numF_code _).and (((numF_code _).and (((numF_code _).and (((qus_code _).and (((kvF_code _).and (var32F_code _))))))))))))
theorem su_code {l:List UInt8} {d:Int} {c:Nat} (h:surd l d = .error c):VCode c:=mread_code (σ:=Nat × Nat × Nat × Nat × List Qu × List KV × Nat) (fun st r c hs=>su_codeF d st r c hs) h
theorem su_zarg:su_arg ((0,(0,(0,(0,([],([],0)))))),[]):=⟨(by omega),(by omega),(by omega),(by omega),(fun x hx=>by cases hx),(by simp),(by rw[ksfit];trivial),(by rw[kslim];trivial),(by simp),(by omega),(by simp)⟩
theorem su_zrel (w:World) (P:Nat→Prop):suCel.R w P ((0,(0,(0,(0,([],([],0)))))),[]) [.slice none 0 0,.int .u64 0,.int .u64 0,.int .u64 0,.int .u64 0,.slice none 0 0,.int .u32 0,.string ⟨#[]⟩]:=⟨none,0,none,0,rfl,by rw[KRels];trivial,CRels.nil _ _ _ _⟩
end Go.Proofs.YtjbingoliffjiaaGreatDoor
