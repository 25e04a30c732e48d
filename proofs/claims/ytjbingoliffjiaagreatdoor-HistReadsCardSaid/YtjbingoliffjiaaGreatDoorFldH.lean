/-
  Fields: a number that may lack; packed numbers of eight bytes.
-/
import Derived.Test.YtjbingoliffjiaaGreatDoorFld
namespace Go.Proofs.YtjbingoliffjiaaGreatDoor
open Go.RowKit
open Lib (hid)
def optF (num:Nat):Fld where
 σ:=Bool × Nat
 z:=(false,0)
 tk r:=decide (r.num=num∧r.ty=1)
 step _ _ r := .ok (true,r.n)
 out s:=if s.1=true then [rF num s.2] else []
 may _ s:=s.1||decide (s.2=0)
 fit s:=s.2<18446744073709551616
 wt _:=0
 w0:=0
 inv _ s _:=(s.1=true∨s.2=0)∧s.2<18446744073709551616
theorem optF_ok {num:Nat}(h1:1≤num)(h2:num≤536870911):(optF num).Ok where
 recs:=fun (s:Bool × Nat) hf hw r hr=>by
  have hr:r∈(if s.1=true then [rF num s.2] else []):=hr
  have hf:s.2<18446744073709551616:=hf
  split at hr
  ·rw[List.mem_singleton.1 hr]
   exact ⟨decide_eq_true ⟨rfl,rfl⟩,fun d=>rF_is h1 h2 (by omega) d⟩
  ·cases hr
 back:=fun (s:Bool × Nat) d hf hw hd hm=>by
  obtain ⟨b,n⟩:=s
  have hm:(b||decide (n=0))=true:=hm
  show mfold (σ:=Bool × Nat) (optF num).tk ((optF num).step d) (false,(0:Nat)) (if b=true then [rF num n] else []) = .ok (b,n)
  cases b with
  | true=>exact mfold_one (decide_eq_true ⟨rfl,rfl⟩) rfl
  | false =>
   have h0:n=0:=of_decide_eq_true (by simpa using hm)
   subst h0
   rfl
 less:=fun (s:Bool × Nat) d d' hf hw hm hle hn=>by rw[show (optF num).may d' s=(optF num).may d s from rfl,hm] at hn;cases hn
 start:=fun d=>⟨.inr rfl,by show 0<18446744073709551616;omega⟩
 go:=fun d (s:Bool × Nat) t r (s':Bool × Nat) hi hr hk ht hs=>by
  have hs:Except.ok (true,r.n)=Except.ok s':=hs
  obtain rfl:=Except.ok.inj hs
  have:=(isrec_facts hr).1
  exact ⟨.inl rfl,by show r.n<18446744073709551616;omega⟩
 ends:=fun d (s:Bool × Nat) t hd hi ht=>by
  refine ⟨?_,hi.2,by show 0≤_;omega⟩
  show (s.1||decide (s.2=0))=true
  rcases hi.1 with h|h
  ·rw[h];rfl
  ·rw[h,decide_eq_true rfl,Bool.or_true]
def fstep (xs:List Nat)(r:Rec):Except Nat (List Nat):=if r.ty≠2 then .ok (xs++[r.n]) else if r.s.length % 8=0 then .ok (xs++fixs r.s (r.s.length / 8)) else .error 1
def numsF (num:Nat):Fld where
 σ:=List Nat
 z:=[]
 tk r:=decide (r.num=num∧(r.ty=1∨r.ty=2))
 step _ s r:=fstep s r
 out s:=if s=[] then [] else [rB num (eights s)]
 may _ _:=true
 fit s:=∀ n∈s,n<18446744073709551616
 wt s:=8 * s.length
 w0:=0
 inv _ s t:=(∀ n∈s,n<18446744073709551616)∧8 * s.length≤t
theorem fixs_lt (l:List UInt8)(k:Nat):∀ n∈fixs l k,n<18446744073709551616:=fun n hn=>by
 obtain ⟨i,_,rfl⟩:=List.mem_map.1 hn
 have h:=wlit_lt ((l.drop (8 * i)).take 8)
 have h2:((l.drop (8 * i)).take 8).length≤8:=List.length_take_le ..
 have h3:256 ^ ((l.drop (8 * i)).take 8).length≤256 ^ 8:=Nat.pow_le_pow_right (by omega) h2
 omega
theorem fstep_one {xs:List Nat}{r:Rec}(h:r.ty=1):fstep xs r = .ok (xs++[r.n]):=if_pos (by omega)
theorem fstep_len {xs:List Nat}{r:Rec}(h:r.ty=2):fstep xs r=if r.s.length % 8=0 then .ok (xs++fixs r.s (r.s.length / 8)) else .error 1:=if_neg (by omega)
theorem numsF_ok {num:Nat}(h1:1≤num)(h2:num≤536870911):(numsF num).Ok where
 recs:=fun (s:List Nat) hf hw r hr=>by
  have hr:r∈(if s=[] then [] else [rB num (eights s)]):=hr
  have hw:8 * s.length≤1000000:=hw
  split at hr
  ·cases hr
  ·rw[List.mem_singleton.1 hr]
   exact ⟨decide_eq_true ⟨rfl,.inr rfl⟩,fun d=>rB_is h1 h2 (by rw[eights_len];omega) d⟩
 back:=fun (s:List Nat) d hf hw hd hm=>by
  show mfold (σ:=List Nat) (numsF num).tk ((numsF num).step d) ([]:List Nat) (if s=[] then [] else [rB num (eights s)]) = .ok s
  split
  ·rename_i h;rw[h];rfl
  ·refine mfold_one (decide_eq_true ⟨rfl,.inr rfl⟩) ?_
   show fstep [] (rB num (eights s)) = .ok s
   rw[fstep_len rfl]
   have hl:(rB num (eights s)).s.length=8 * s.length:=eights_len s
   rw[hl,if_pos (by omega),show 8 * s.length / 8=s.length by omega]
   have hf:∀ n∈s,n<18446744073709551616:=hf
   show Except.ok ([]++fixs (eights s) s.length)=_
   rw[fixs_eights s (fun n hn=>by have:=hf n hn;omega)]
   rfl
 less:=fun (s:List Nat) d d' hf hw hm hle hn=>by cases hn
 start:=fun d=>⟨(fun n hn=>by cases hn),by show 8 * 0≤0;omega⟩
 go := fun d (s:List Nat) t r (s':List Nat) hi hr hk ht hs=>by
  have hs:fstep s r = .ok s':=hs
  have hk:r.num=num∧(r.ty=1∨r.ty=2):=of_decide_eq_true hk
  have hb:=rec_big hr
  rcases hk.2 with h|h
  ·rw[fstep_one h] at hs
   obtain rfl:=Except.ok.inj hs
   have h9:=hb.2.2 h
   have hl:8 * s.length≤t:=hi.2
   refine ⟨fun n hn=>?_,by rw[List.length_append,List.length_cons,List.length_nil];omega⟩
   rcases List.mem_append.1 hn with hn|hn
   ·exact hi.1 n hn
   ·rw[List.mem_singleton.1 hn];have:=h9.1;omega
  ·rw[fstep_len h] at hs
   split at hs
   ·rename_i h8
    obtain rfl:=Except.ok.inj hs
    have h9:=(hb.1 h).2
    have hl:8 * s.length≤t:=hi.2
    refine ⟨fun n hn=>?_,by rw[List.length_append,fixs_len];omega⟩
    rcases List.mem_append.1 hn with hn|hn
    ·exact hi.1 n hn
    ·exact fixs_lt _ _ n hn
   ·cases hs
 ends:=fun d (s:List Nat) t hd hi ht=>⟨rfl,hi.1,by have:8 * s.length≤t:=hi.2;show 8 * s.length≤0+_;omega⟩
end Go.Proofs.YtjbingoliffjiaaGreatDoor
