/-
  Fields: a number that may lack; packed numbers of eight bytes.
-/
import Derived.Test.YtficgfemmijaaaaGreatFld
namespace Go.Proofs.YtficgfemmijaaaaGreat
open Go.RowKit
open Lib (hid)
def optF (num:Nat):Fld where
 σ:=Bool × Nat
 z:=(false,0)
 tk r:=decide (r.num=num∧r.ty=1)
 step _ _ r := .ok (true,r.n)
 out s:=if s.1=true then [rF num s.2] else []
 may _ s:=s.1||decide (s.2=0)
 fit s:=s.2<18446744073709551616
 wt _:=0
 w0:=0
 inv _ s _:=(s.1=true∨s.2=0)∧s.2<18446744073709551616
theorem optF_ok {num:Nat}(h1:1≤num)(h2:num≤536870911):(optF num).Ok where
 recs:=fun (s:Bool × Nat) hf hw r hr=>by
  have hr:r∈(if s.1=true then [rF num s.2] else []):=hr;have hf:s.2<18446744073709551616:=hf
  split at hr
  ·rw[List.mem_singleton.1 hr]
   exact ⟨decide_eq_true ⟨rfl,rfl⟩,fun d=>rF_is h1 h2 (by omega) d⟩
  ·cases hr
 back:=fun (s:Bool × Nat) d hf hw hd hm=>by
  obtain ⟨b,n⟩:=s;have hm:(b||decide (n=0))=true:=hm
  show mfold (σ:=Bool × Nat) (optF num).tk ((optF num).step d) (false,(0:Nat)) (if b=true then [rF num n] else []) = .ok (b,n)
  cases b with
  | true=>exact mfold_one (decide_eq_true ⟨rfl,rfl⟩) rfl
  | false =>
   have h0:n=0:=of_decide_eq_true (by simpa using hm);subst h0
   rfl
 less:=fun (s:Bool × Nat) d d' hf hw hm hle hn=>by rw[show (optF num).may d' s=(optF num).may d s from rfl,hm] at hn;cases hn
 start:=fun d=>⟨.inr rfl,by show 0<18446744073709551616;omega⟩
 go:=fun d (s:Bool × Nat) t r (s':Bool × Nat) hi hr hk ht hs=>by
  have hs:Except.ok (true,r.n)=Except.ok s':=hs;obtain rfl:=Except.ok.inj hs;have:=(isrec_facts hr).1;exact ⟨.inl rfl,by show r.n<18446744073709551616;omega⟩
 ends:=fun d (s:Bool × Nat) t hd hi ht=>by
  refine ⟨?_,hi.2,by show 0≤_;omega⟩
  show (s.1||decide (s.2=0))=true
  rcases hi.1 with h|h
  ·rw[h];rfl
  ·rw[h,decide_eq_true rfl,Bool.or_true]
theorem opt_out (num:Nat)(b:Bool)(n:Nat):((optF num).out (b,n)).flatMap Rec.raw=if b=true then (rF num n).raw else []:=by
 show (if b=true then [rF num n] else []).flatMap Rec.raw=_
 split
 ·simp
 ·rfl
end Go.Proofs.YtficgfemmijaaaaGreat
