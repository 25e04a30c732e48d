/-
  Quantiles: by their fields; in memory; there and back; as a part of lists.
-/
import Derived.Test.YtjbingoliffjiaaGreatDoorRowL
import Derived.Test.YtjbingoliffjiaaGreatDoorExSub
namespace Go.Proofs.YtjbingoliffjiaaGreatDoor
open Go.RowKit
def quF:Fld:=(numF 1).and (numF 2)
theorem quF_ok:quF.Ok:=(numF_ok (by omega) (by omega)).and (numF_ok (by omega) (by omega)) (apart_of fun r h=>by simp only[numF,decide_eq_true_eq] at h;simp only[numF,decide_eq_false_iff_not];omega)
theorem quF_tk (r:Rec):quF.tk r=decide ((r.num=1∧r.ty=1)∨(r.num=2∧r.ty=1)):=by
 rw[Bool.eq_iff_iff]
 simp only[quF,Fld.and,numF,Bool.or_eq_true,decide_eq_true_eq]
theorem quF_1 {r:Rec} (h:r.num=1∧r.ty=1) (d:Int) (q:Nat) (v:Nat):quF.step d (q,v) r = .ok (r.n,v) :=
 (Fld.and_1ok (by simp only[numF,decide_eq_true_eq];omega) rfl)
theorem quF_2 {r:Rec} (h:r.num=2∧r.ty=1) (d:Int) (q:Nat) (v:Nat):quF.step d (q,v) r = .ok (q,r.n) :=
 (Fld.and_2ok (by simp only[numF,decide_eq_false_iff_not];omega) rfl)
abbrev Qu:Type:=(Nat × Nat) × List UInt8
def QuRel (_:World) (_:Nat→Prop):Qu→List Value→Prop
 | ((q,v),u),cs=>cs=[.int .u64 (q:Int),.int .u64 (v:Int),strV u]
def quCel:Cel Qu where
 R:=QuRel
 size:=3
 len:=by rintro w P ⟨⟨q,v⟩,u⟩ cs h;have h:cs=_:=h;rw[h];rfl
 upd:=by rintro w w' S P Q ⟨⟨q,v⟩,u⟩ cs hu hs hq h;exact h
 lt:=by rintro w P ⟨⟨q,v⟩,u⟩ cs h;exact h
def quzero:Array Value:=#[.int .u64 0,.int .u64 0,.string ⟨#[]⟩]
def qurd (l:List UInt8) (d:Int):Except Nat Qu:=mread (σ:=Nat × Nat) quF.tk (quF.step d) quF.z l d
def qu_may (d:Int):Qu→Bool
 | ((_,_),u)=>decide (0≤d)&&(true&&munkOk quF.tk u d)
def qu_out:Qu→List UInt8
 | ((q,v),u)=>(if q=0 then [] else (rF 1 q).raw)++(if v=0 then [] else (rF 2 v).raw)++u
def qu_wt:Qu→Nat
 | ((_,_),u)=>20+(u.length)
def qu_fit:Qu→Prop
 | ((q,v),u)=>q<18446744073709551616∧v<18446744073709551616∧u.length≤400000
def qu_arg:Qu→Prop
 | ((q,v),u)=>q<18446744073709551616∧v<18446744073709551616∧u.length≤9223372036854775807
theorem qu_mayF (d:Int) {q:Nat} {v:Nat} {u:List UInt8}:qu_may d ((q,v),u)=(decide (0≤d)&&(quF.may d (q,v)&&munkOk quF.tk u d)):=by
 have h:quF.may d (q,v)=true:=by
  show (true&&true)=_
  simp only[Bool.and_true]
 rw[h];rfl
theorem qu_outF {q:Nat} {v:Nat} {u:List UInt8}:(quF.out (q,v)).flatMap Rec.raw++u=qu_out ((q,v),u):=by
 have h:=congrArg (·++u) ((out_and (numF 1) (numF 2) q v).trans (congr (congrArg HAppend.hAppend (num_out 1 q)) (num_out 2 v)))
 refine Eq.trans (show _=_ from h) ?_
 show _=(if q=0 then [] else (rF 1 q).raw)++(if v=0 then [] else (rF 2 v).raw)++u
 simp only[List.append_assoc]
theorem qu_arg_of {q:Nat} {v:Nat} {u:List UInt8} (h:qu_fit ((q,v),u)):qu_arg ((q,v),u):=by
 obtain ⟨hnq,hnv,hw⟩:=h
 exact ⟨hnq,hnv,(by omega)⟩
theorem qu_codeF:quF.Code:=((numF_code _).and (numF_code _))
theorem qu_code {l:List UInt8} {d:Int} {c:Nat} (h:qurd l d = .error c):VCode c:=mread_code (σ:=Nat × Nat) (fun st r c hs=>qu_codeF d st r c hs) h
theorem qu_zrel (w:World) (P:Nat→Prop):quCel.R w P ((0,0),[]) [.int .u64 0,.int .u64 0,.string ⟨#[]⟩]:=rfl
def quSb:Sub Qu where
 rd d t:=qurd t d
 out:=qu_out
 may d x:=qu_may d x
 fit x:=quF.fit x.1
 wt:=qu_wt
theorem qu_mayx (x:Qu) (d:Int):qu_may d x=(decide (0≤d)&&(quF.may d x.1&&munkOk quF.tk x.2 d)):=by
 obtain ⟨⟨q,v⟩,u⟩:=x
 exact qu_mayF d
theorem qu_outx (x:Qu):(quF.out x.1).flatMap Rec.raw++x.2=qu_out x:=by
 obtain ⟨⟨q,v⟩,u⟩:=x
 exact qu_outF
theorem qu_wtx (x:Qu):qu_wt x=20+(quF.wt x.1+x.2.length):=by
 obtain ⟨⟨q,v⟩,u⟩:=x
 show 20+(u.length)=20+((0+0)+u.length)
 omega
theorem qu_wlen (x:Qu):(qu_out x).length+11≤qu_wt x+10:=by
 obtain ⟨⟨q,v⟩,u⟩:=x
 have g0:=num_seg9 (num:=1) (by omega) q
 have g1:=num_seg9 (num:=2) (by omega) v
 show ((if q=0 then [] else (rF 1 q).raw)++(if v=0 then [] else (rF 2 v).raw)++u).length+11≤20+(u.length)+10
 simp only[List.length_append]
 omega
theorem quSb_ok:quSb.Ok where
 len:=fun x=>by have:=qu_wlen x;show (qu_out x).length≤qu_wt x+1000;omega
 back:=fun (x:Qu) d hf hw hd hm=>by
  have hm:qu_may d x=true:=hm
  have hw:qu_wt x≤1000000:=hw
  rw[qu_mayx] at hm
  simp only[Bool.and_eq_true,decide_eq_true_eq] at hm
  rw[qu_wtx] at hw
  have h:=fld_back quF_ok (s:=x.1) (u:=x.2) hf (by omega) hd hm.2.1 hm.2.2
  rw[qu_outx] at h
  exact h
 less:=fun (x:Qu) d d' hf hw hd hm hle hn=>by
  have hm:qu_may d x=true:=hm
  have hw:qu_wt x≤1000000:=hw
  rw[qu_mayx] at hm
  simp only[Bool.and_eq_true,decide_eq_true_eq] at hm
  rw[qu_wtx] at hw
  obtain ⟨c,h⟩:=fld_less quF_ok (s:=x.1) (u:=x.2) (d:=d) (d':=d') hf (by omega) hm.2.1 hm.2.2 hle (by
   rcases hn with h0|h0
   ·exact .inl h0
   ·have h0:qu_may d' x=false:=h0
    by_cases h1:d' < 0
    ·exact .inl h1
    ·rw[qu_mayx,decide_eq_true (by omega:0≤d'),Bool.true_and,Bool.and_eq_false_iff] at h0
     exact .inr h0)
  rw[qu_outx] at h
  exact ⟨c,h⟩
 twice:=fun t (x:Qu) d ht h=>by
  obtain ⟨h0,h1,h2,h3,h4⟩:=fld_twice quF_ok (s:=x.1) (u:=x.2) ht h
  have h4:quF.wt x.1+x.2.length≤(0+0)+51 * t.length:=h4
  refine ⟨h0,?_,h3,?_⟩
  ·show qu_may d x=true
   rw[qu_mayx,h1,h2,decide_eq_true h0];rfl
  ·show qu_wt x≤_
   rw[qu_wtx];omega
theorem qu_arg_ofx {x:Qu} (h:qu_fit x):qu_arg x:=by
 obtain ⟨⟨q,v⟩,u⟩:=x
 exact qu_arg_of h
theorem qu_fit_back {x:Qu} (h:quF.fit x.1) (hw:qu_wt x≤400000):qu_fit x:=by
 obtain ⟨⟨q,v⟩,u⟩:=x
 have hw:20+(u.length)≤400000:=hw
 exact ⟨h.1,h.2,by omega⟩
theorem qus_wt_le {l:List Qu} {x:Qu} {n:Nat} (hx:x∈l) (hw:lwt quSb l≤n):qu_wt x≤n:=Nat.le_trans (lwt_mem (S:=quSb) hx) hw
theorem qus_fit {num:Nat} {l:List Qu} (h:(listF num quSb).fit l) (hw:lwt quSb l≤400000):∀ x∈l,qu_fit x:=fun x hx=>qu_fit_back (h x hx) (qus_wt_le hx hw)
theorem qus_len:∀ l:List Qu,l.length * 20≤lwt quSb l:=lwt_len (S:=quSb) (k:=20) fun x=>by
 obtain ⟨⟨q,v⟩,u⟩:=x
 show 20≤20+_
 omega
theorem qus_code (num:Nat):(listF num quSb).Code:=lst_code (fun _ _ _ h=>qu_code h) num
end Go.Proofs.YtjbingoliffjiaaGreatDoor
