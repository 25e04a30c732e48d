/-
  FldH, NumsK
-/
import Derived.Test.YtficgfemmijaaaaGreatFld
import Derived.Test.YtficgfemmijaaaaGreatMsgPack
import Derived.Test.YtficgfemmijaaaaGreatRowL
import Derived.Test.YtficgfemmijaaaaGreatAlikeB
namespace Go.Proofs.YtficgfemmijaaaaGreat
open Go.RowKit
open Lib (hid)
def optF (num:Nat):Fld where
 σ:=Bool × Nat
 z:=(false,0)
 tk r:=decide (r.num=num∧r.ty=1)
 step _ _ r := .ok (true,r.n)
 out s:=if s.1=true then [rF num s.2] else []
 may _ s:=s.1||decide (s.2=0)
 fit s:=s.2<18446744073709551616
 wt _:=0
 w0:=0
 inv _ s _:=(s.1=true∨s.2=0)∧s.2<18446744073709551616
theorem optF_ok {num:Nat}(h1:1≤num)(h2:num≤536870911):(optF num).Ok where
 recs:=fun (s:Bool × Nat) hf hw r hr=>by
  have hr:r∈(if s.1=true then [rF num s.2] else []):=hr;have hf:s.2<18446744073709551616:=hf
  split at hr
  ·rw[List.mem_singleton.1 hr]
   exact ⟨decide_eq_true ⟨rfl,rfl⟩,fun d=>rF_is h1 h2 (by omega) d⟩
  ·cases hr
 back:=fun (s:Bool × Nat) d hf hw hd hm=>by
  obtain ⟨b,n⟩:=s;have hm:(b||decide (n=0))=true:=hm
  show mfold (σ:=Bool × Nat) (optF num).tk ((optF num).step d) (false,(0:Nat)) (if b=true then [rF num n] else []) = .ok (b,n)
  cases b with
  | true=>exact mfold_one (decide_eq_true ⟨rfl,rfl⟩) rfl
  | false =>
   have h0:n=0:=of_decide_eq_true (by simpa using hm);subst h0
   rfl
 less:=fun (s:Bool × Nat) d d' hf hw hm hle hn=>by rw[show (optF num).may d' s=(optF num).may d s from rfl,hm] at hn;cases hn
 start:=fun d=>⟨.inr rfl,by show 0<18446744073709551616;omega⟩
 go:=fun d (s:Bool × Nat) t r (s':Bool × Nat) hi hr hk ht hs=>by
  have hs:Except.ok (true,r.n)=Except.ok s':=hs;obtain rfl:=Except.ok.inj hs;have:=(isrec_facts hr).1;exact ⟨.inl rfl,by show r.n<18446744073709551616;omega⟩
 ends:=fun d (s:Bool × Nat) t hd hi ht=>by
  refine ⟨?_,hi.2,by show 0≤_;omega⟩
  show (s.1||decide (s.2=0))=true
  rcases hi.1 with h|h
  ·rw[h];rfl
  ·rw[h,decide_eq_true rfl,Bool.or_true]
theorem opt_out (num:Nat)(b:Bool)(n:Nat):((optF num).out (b,n)).flatMap Rec.raw=if b=true then (rF num n).raw else []:=by
 show (if b=true then [rF num n] else []).flatMap Rec.raw=_
 split
 ·simp
 ·rfl
open Go.RowKit
def natCel:Cel Nat where
 R _ _ n cs:=cs=[.int .u64 n]
 size:=1
 len:=by intro w P n cs h;rw[h];rfl
 upd:=by intro w w' S P Q n cs hu hs hq h;exact h
 lt:=fun h=>h
theorem nats_flat:∀ xs:List Nat,(xs.map fun n:Nat=>[Value.int .u64 n]).flatten=nats64 xs
 | []=>rfl
 | x::xs=>by
  rw[List.map_cons,List.flatten_cons,nats_flat xs]
  rfl
theorem nats_ls {base:Nat}{v:Value}{xs:List Nat}{w:World}(h:w.ownsRow base 23 1 v xs.length (nats64 xs)):LsAt natCel 23 base v xs (fun k=>v.ownBlock=some k∨False) w:=by
 refine ⟨xs.map fun n:Nat=>[Value.int .u64 n],fun _=>False,?_,by rw[List.length_map],fun j a b=>?_,fun _ h=>h.elim,rfl⟩
 ·rw[nats_flat];exact h
 ·show _=_
  rw[List.getElem_map]
theorem nats_of_rels {w:World}{P:Nat→Prop}{l:List Nat}{ao:Option Addr}(h:CRels natCel w P l ao):Nats .u64 w ao l:=fun hn=>by
 have hl:0<l.length:=List.length_pos_iff.2 hn;obtain ⟨g,off,cs,rfl,hP,hg,_,_⟩:=h 0 hl;refine ⟨g,off,rfl,hg,fun j hj=>?_⟩;obtain ⟨g',off',cs',he,_,_,hc,hr⟩:=h j hj
 simp only[Option.some.injEq,Addr.mk.injEq] at he
 obtain ⟨rfl,rfl,_⟩:=he;have hr:cs'=[.int .u64 (l[j]:Int)]:=hr;subst hr;have:=hc 0 (by simp);rw[show off+natCel.size * j+0=off+j from by show off+1 * j+0=_;omega] at this
 simpa using this
end Go.Proofs.YtficgfemmijaaaaGreat
