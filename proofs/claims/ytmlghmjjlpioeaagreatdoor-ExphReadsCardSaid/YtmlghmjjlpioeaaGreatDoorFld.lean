/-
  Messages by their fields: read, written, there and back, of any fields that do not share records.
-/
import Derived.Test.YtmlghmjjlpioeaaGreatDoorValBack
import Derived.Test.YtmlghmjjlpioeaaGreatDoorFx
set_option maxRecDepth 1000000
set_option maxHeartbeats 16000000
namespace Go.Proofs.YtmlghmjjlpioeaaGreatDoor
open Lib (hid)
structure Fld where
 σ:Type
 z:σ
 tk:Rec->Bool
 step:Int->σ->Rec->Except Nat σ
 out:σ->List Rec
 may:Int->σ->Bool
 fit:σ->Prop
 wt:σ->Nat
 w0:Nat
 inv:Int->σ->Nat->Prop
def Fld.rd (F:Fld)(d:Int)(s:F.σ)(rs:List Rec):Except Nat F.σ:=zg F.tk (F.step d) s rs
structure Fld.Ok (F:Fld):Prop where
 recs:∀s,F.fit s->F.wt s<=1000000->∀r∈F.out s,F.tk r=true/\∀d,zt d r
 back:∀s d,F.fit s->F.wt s<=1000000->0<=d->F.may d s=true->F.rd d F.z (F.out s)=.ok s
 less:∀s d d',F.fit s->F.wt s<=1000000->F.may d s=true->d'<=d->F.may d' s=false->∃c,F.rd d' F.z (F.out s)=.error c
 start:∀d,F.inv d F.z 0
 go:∀d s t r s',F.inv d s t->zt d r->F.tk r=true->t+r.raw.length<=1000000->F.step d s r=.ok s'->F.inv d s' (t+r.raw.length)
 ends:∀d s t,0<=d->F.inv d s t->t<=1000000->F.may d s=true/\F.fit s/\F.wt s<=F.w0+51*t
def Fld.and (A B:Fld):Fld where
 σ:=A.σ × B.σ
 z:=(A.z,B.z)
 tk r:=A.tk r||B.tk r
 step d s r:=if A.tk r then(match A.step d s.1 r with
  | .error c => .error c
  | .ok a => .ok (a,s.2))else(match B.step d s.2 r with
  | .error c => .error c
  | .ok b => .ok (s.1,b))
 out s:=A.out s.1++B.out s.2
 may d s:=A.may d s.1&&B.may d s.2
 fit s:=A.fit s.1/\B.fit s.2
 wt s:=A.wt s.1+B.wt s.2
 w0:=A.w0+B.w0
 inv d s t:=∃t1 t2,t1+t2=t/\A.inv d s.1 t1/\B.inv d s.2 t2
def Fld.Apart (A B:Fld):Prop:=∀r,¬(A.tk r=true/\B.tk r=true)
theorem Qb {σ:Type}(tk:Rec->Bool)(step:σ->Rec->Except Nat σ):∀(rs:List Rec) (s:σ),zg tk step s (rs.filter tk)=zg tk step s rs
 | [],_=>rfl
 | r::rs,s=>by
  rw[List.filter_cons]
  by_cases h:tk r=true
  ·rw[if_pos h,zg,zg,if_pos h,if_pos h]
   cases step s r with
   | error c=>rfl
   | ok s'=>exact Qb tk step rs s'
  ·rw[if_neg h,zg,if_neg h]
   exact Qb tk step rs s
theorem Fld.and_1ok {A B:Fld}{d:Int}{a a':A.σ}{b:B.σ}{r:Rec}(h:A.tk r=true)(e:A.step d a r=.ok a'):(A.and B).step d (a,b) r=.ok (a',b):=by simp only[Fld.and,h,e,↓reduceIte]
theorem Fld.and_1no {A B:Fld}{d:Int}{a:A.σ}{b:B.σ}{r:Rec}{c:Nat}(h:A.tk r=true)(e:A.step d a r=.error c):(A.and B).step d (a,b) r=.error c:=by simp only[Fld.and,h,e,↓reduceIte]
theorem Fld.and_2ok {A B:Fld}{d:Int}{a:A.σ}{b b':B.σ}{r:Rec}(h:A.tk r=false)(e:B.step d b r=.ok b'):(A.and B).step d (a,b) r=.ok (a,b'):=by simp only[Fld.and,h,e,Bool.false_eq_true,↓reduceIte]
theorem Fld.and_2no {A B:Fld}{d:Int}{a:A.σ}{b:B.σ}{r:Rec}{c:Nat}(h:A.tk r=false)(e:B.step d b r=.error c):(A.and B).step d (a,b) r=.error c:=by simp only[Fld.and,h,e,Bool.false_eq_true,↓reduceIte]
theorem Fld.and_rd {A B:Fld}(hap:A.Apart B)(d:Int):∀(rs:List Rec) (a:A.σ) (b:B.σ),match A.rd d a rs,B.rd d b rs with
  | .ok a',.ok b'=>(A.and B).rd d (a,b) rs=.ok (a',b')
  | _,_=>∃c,(A.and B).rd d (a,b) rs=.error c
 | [],a,b=>rfl
 | r :: rs,a,b=>by
  show match zg A.tk (A.step d) a (r::rs),zg B.tk (B.step d) b (r::rs)with
   | .ok a',.ok b'=>zg (A.and B).tk ((A.and B).step d) (a,b) (r::rs)=.ok (a',b')
   | _,_=>∃c,zg (A.and B).tk ((A.and B).step d) (a,b) (r::rs)=.error c
  simp only[zg]
  cases ha:A.tk r with
  | true =>
   have hb:B.tk r=false:=by cases h:B.tk r;rfl;exact absurd ⟨ha,h⟩ (hap r)
   have e1:(A.and B).tk r=true:=by show(A.tk r||B.tk r)=true;rw[ha];rfl
   rw[hb,e1,if_pos rfl,if_pos rfl,if_neg (by simp)]
   have e2:(A.and B).step d (a,b) r=match A.step d a r with
    | .error c => .error c
    | .ok a' => .ok (a',b):=by simp only[Fld.and,ha,↓reduceIte]
   rw[e2]
   cases A.step d a r with
   | error c=>dsimp only;exact⟨c,rfl⟩
   | ok a'=>exact Fld.and_rd hap d rs a' b
  | false =>
   rw[if_neg (by simp)]
   cases hb:B.tk r with
   | true =>
    have e1:(A.and B).tk r=true:=by show(A.tk r||B.tk r)=true;rw[ha,hb];rfl
    rw[e1,if_pos rfl,if_pos rfl]
    have e2:(A.and B).step d (a,b) r=match B.step d b r with
     | .error c => .error c
     | .ok b' => .ok (a,b'):=by simp only[Fld.and,ha,Bool.false_eq_true,↓reduceIte]
    rw[e2]
    cases B.step d b r with
    | error c =>
     dsimp only;have:=Fld.and_rd hap d rs a b
     cases zg A.tk (A.step d) a rs<;>exact⟨c,rfl⟩
    | ok b'=>exact Fld.and_rd hap d rs a b'
   | false =>
    have e1:(A.and B).tk r=false:=by show(A.tk r||B.tk r)=false;rw[ha,hb];rfl
    rw[e1,if_neg (by simp),if_neg (by simp)];exact Fld.and_rd hap d rs a b
theorem Fld.and_ok {A B:Fld}(hap:A.Apart B){d:Int}{rs:List Rec}{a:A.σ}{b:B.σ}{a':A.σ}{b':B.σ}(ha:A.rd d a rs=.ok a')(hb:B.rd d b rs=.ok b'):(A.and B).rd d (a,b) rs=.ok (a',b'):=by
 have:=Fld.and_rd hap d rs a b;rw[ha,hb]at this;exact this
theorem Fld.and_no1 {A B:Fld}(hap:A.Apart B){d:Int}{rs:List Rec}{a:A.σ}{b:B.σ}(h:∃c,A.rd d a rs=.error c):∃c,(A.and B).rd d (a,b) rs=.error c:=by
 obtain⟨c,h⟩:=h;have:=Fld.and_rd hap d rs a b;rw[h]at this;exact this
theorem Fld.and_no2 {A B:Fld}(hap:A.Apart B){d:Int}{rs:List Rec}{a:A.σ}{b:B.σ}(h:∃c,B.rd d b rs=.error c):∃c,(A.and B).rd d (a,b) rs=.error c:=by
 obtain⟨c,h⟩:=h;have:=Fld.and_rd hap d rs a b;rw[h]at this
 cases hA:A.rd d a rs with
 | error c2=>rw[hA]at this;exact this
 | ok x=>rw[hA]at this;exact this
theorem qh {p:Rec->Bool}{l:List Rec}(h:∀r∈l,p r=true):l.filter p=l:=List.filter_eq_self.2 h
theorem qi {p:Rec->Bool}{l:List Rec}(h:∀r∈l,p r=false):l.filter p=[]:=List.filter_eq_nil_iff.2 fun r hr=>by rw[h r hr];simp
theorem Fld.rd_other {A:Fld}{d:Int}{s:A.σ}{rs ts:List Rec}(h:ts.filter A.tk=rs):A.rd d s ts=A.rd d s rs:=by
 unfold Fld.rd;rw[<-h,Qb]
theorem Fld.Ok.and {A B:Fld}(hA:A.Ok)(hB:B.Ok)(hap:A.Apart B):(A.and B).Ok where
 recs:=fun s hf hw r hr=>by
  rcases List.mem_append.1 hr with h|h
  ·have:=hA.recs s.1 hf.1 (by have:A.wt s.1+B.wt s.2<=1000000:=hw;omega) r h
   exact⟨by show(A.tk r||B.tk r)=true;rw[this.1];rfl,this.2⟩
  ·have:=hB.recs s.2 hf.2 (by have:A.wt s.1+B.wt s.2<=1000000:=hw;omega) r h
   exact⟨by show(A.tk r||B.tk r)=true;rw[this.1,Bool.or_true],this.2⟩
 back:=fun s d hf hw hd hm=>by
  have hw:A.wt s.1+B.wt s.2<=1000000:=hw;have hm:(A.may d s.1&&B.may d s.2)=true:=hm;rw[Bool.and_eq_true]at hm;have ra:=hA.recs s.1 hf.1 (by omega);have rb:=hB.recs s.2 hf.2 (by omega)
  have fa:(A.out s.1++B.out s.2).filter A.tk=A.out s.1:=by
   rw[List.filter_append,qh fun r hr=>(ra r hr).1,qi fun r hr=>?_,List.append_nil]
   cases h:A.tk r
   ·rfl
   ·exact absurd ⟨h,(rb r hr).1⟩ (hap r)
  have fb:(A.out s.1++B.out s.2).filter B.tk=B.out s.2:=by
   rw[List.filter_append,qi fun r hr=>?_,qh fun r hr=>(rb r hr).1,List.nil_append]
   cases h:B.tk r
   ·rfl
   ·exact absurd ⟨(ra r hr).1,h⟩ (hap r)
  exact Fld.and_ok hap ((Fld.rd_other fa).trans (hA.back s.1 d hf.1 (by omega) hd hm.1)) ((Fld.rd_other fb).trans (hB.back s.2 d hf.2 (by omega) hd hm.2))
 less:=fun s d d' hf hw hm hle hn=>by
  have hw:A.wt s.1+B.wt s.2<=1000000:=hw;have hm:(A.may d s.1&&B.may d s.2)=true:=hm;have hn:(A.may d' s.1&&B.may d' s.2)=false:=hn;rw[Bool.and_eq_true]at hm;have ra:=hA.recs s.1 hf.1 (by omega);have rb:=hB.recs s.2 hf.2 (by omega)
  have fa:(A.out s.1++B.out s.2).filter A.tk=A.out s.1:=by
   rw[List.filter_append,qh fun r hr=>(ra r hr).1,qi fun r hr=>?_,List.append_nil]
   cases h:A.tk r
   ·rfl
   ·exact absurd ⟨h,(rb r hr).1⟩ (hap r)
  have fb:(A.out s.1++B.out s.2).filter B.tk=B.out s.2:=by
   rw[List.filter_append,qi fun r hr=>?_,qh fun r hr=>(rb r hr).1,List.nil_append]
   cases h:B.tk r
   ·rfl
   ·exact absurd ⟨(ra r hr).1,h⟩ (hap r)
  cases h1:A.may d' s.1 with
  | false =>
   obtain⟨c,hc⟩:=hA.less s.1 d d' hf.1 (by omega) hm.1 hle h1;exact Fld.and_no1 hap ⟨c,(Fld.rd_other fa).trans hc⟩
  | true =>
   rw[h1,Bool.true_and]at hn;obtain⟨c,hc⟩:=hB.less s.2 d d' hf.2 (by omega) hm.2 hle hn;exact Fld.and_no2 hap ⟨c,(Fld.rd_other fb).trans hc⟩
 start:=fun d=>⟨0,0,rfl,hA.start d,hB.start d⟩
 go := fun d s t r s' hi hr hk ht hs=>by
  obtain⟨t1,t2,rfl,i1,i2⟩:=hi
  have hs:(if A.tk r then(match A.step d s.1 r with
   | .error c => .error c
   | .ok a => .ok (a,s.2))else(match B.step d s.2 r with
   | .error c => .error c
   | .ok b => .ok (s.1,b)))=Except.ok s':=hs
  have hk:(A.tk r||B.tk r)=true:=hk
  split at hs
  ·rename_i ha
   split at hs
   ·cases hs
   ·rename_i a hst
    obtain rfl:=Except.ok.inj hs;exact⟨t1+r.raw.length,t2,by omega,hA.go d s.1 t1 r a i1 hr ha (by omega) hst,i2⟩
  ·rename_i ha
   split at hs
   ·cases hs
   ·rename_i b hst
    obtain rfl:=Except.ok.inj hs
    have hb:B.tk r=true:=by
     cases h:A.tk r
     ·rw[h,Bool.false_or]at hk;exact hk
     ·exact absurd h ha
    exact⟨t1,t2+r.raw.length,by omega,i1,hB.go d s.2 t2 r b i2 hr hb (by omega) hst⟩
 ends:=fun d s t hd hi ht=>by
  obtain⟨t1,t2,rfl,i1,i2⟩:=hi;obtain⟨a1,a2,a3⟩:=hA.ends d s.1 t1 hd i1 (by omega);obtain⟨b1,b2,b3⟩:=hB.ends d s.2 t2 hd i2 (by omega);refine⟨?_,⟨a2,b2⟩,?_⟩
  ·show(A.may d s.1&&B.may d s.2)=true
   rw[a1,b1];rfl
  ·show A.wt s.1+B.wt s.2<=A.w0+B.w0+51*(t1+t2)
   omega
theorem Fld.msg_back {F:Fld}(hF:F.Ok){rs:List Rec}{s:F.σ}{u:List UInt8}{d:Int}(hf:F.fit s)(hw:F.wt s<=1000000)(hd:0<=d)(hrs:∀r∈rs,F.tk r=true/\∀d,zt d r)(hrd:∀d',F.rd d' F.z rs=F.rd d' F.z (F.out s))(e:Int)(hm:F.may e s=true)(he:0<=e)(hu:zp F.tk u d=true) :
  zq F.tk (F.step e) F.z (rs.flatMap Rec.raw++u) d=.ok (s,u) :=
 jl hd (fun r hr=>(hrs r hr).2) ((hrd e).trans (hF.back s e hf hw he hm)) (by rw[List.all_eq_true];exact fun r hr=>(hrs r hr).1) hu
open Go.RowKit
theorem Zh {σ:Type}{tk:Rec->Bool}{step:σ->Rec->Except Nat σ}{s s':σ}{r:Rec}(hk:tk r=true)(h:step s r=.ok s'):zg tk step s [r]=.ok s':=by
 rw[zg,if_pos hk,h];rfl
def xn (num:Nat):Fld where
 σ:=Nat
 z:=0
 tk r:=decide (r.num=num/\r.ty=0)
 step _ _ r := .ok (r.n%4294967296)
 out n:=if n=0 then []else [rN num n]
 may _ _:=true
 fit n:=n<4294967296
 wt _:=0
 w0:=0
 inv _ n _:=n<4294967296
theorem z52 {num:Nat}(h1:1<=num)(h2:num<=536870911):(xn num).Ok where
 recs:=fun (s:Nat) hf hw r hr=>by
  have hr:r∈(if s=0 then []else [rN num s]):=hr;have hf:s<4294967296:=hf
  split at hr
  ·cases hr
  ·rw[List.mem_singleton.1 hr]
   exact⟨decide_eq_true ⟨rfl,rfl⟩,fun d=>z0z h1 h2 (by omega) d⟩
 back:=fun (s:Nat) d hf hw hd hm=>by
  have hf:s<4294967296:=hf
  show zg (σ:=Nat) (xn num).tk ((xn num).step d) (0:Nat) (if s=0 then []else [rN num s])=.ok s
  split
  ·rename_i h;rw[h];rfl
  ·refine Zh (decide_eq_true ⟨rfl,rfl⟩) ?_
   show Except.ok (s%4294967296)=_
   rw[Nat.mod_eq_of_lt hf]
 less:=fun (s:Nat) d d' hf hw hm hle hn=>by cases hn
 start:=fun d=>by show 0<4294967296;omega
 go:=fun d (s:Nat) t r (s':Nat) hi hr hk ht hs=>by
  have hs:Except.ok (r.n%4294967296)=Except.ok s':=hs;obtain rfl:=Except.ok.inj hs
  show r.n%4294967296<4294967296
  omega
 ends:=fun d (s:Nat) t hd hi ht=>⟨rfl,hi,by show 0<=_;omega⟩
structure Sub (α:Type) where
 rd:Int->List UInt8->Except Nat α
 out:α->List UInt8
 may:Int->α->Bool
 fit:α->Prop
 wt:α->Nat
structure Sub.Ok {α:Type} (S:Sub α):Prop where
 len:∀x,(S.out x).length<=S.wt x+1000
 back:∀x d,S.fit x->S.wt x<=1000000->0<=d->S.may d x=true->S.rd d (S.out x)=.ok x
 less:∀x d d',S.fit x->S.wt x<=1000000->0<=d->S.may d x=true->d'<=d->(d' < 0∨S.may d' x=false)->∃c,S.rd d' (S.out x)=.error c
 twice:∀t x d,t.length<=1000000->S.rd d t=.ok x->0<=d/\S.may d x=true/\S.fit x/\S.wt x<=100+51*t.length
def lsum (l:List Nat):Nat:=l.foldr (·+·) 0
theorem zdd (l:List Nat)(n:Nat):lsum (l++[n])=lsum l+n:=Jw l n
theorem Qi {l:List Nat}{n:Nat}(h:n∈l):n<=lsum l:=by
 induction l with
 | nil=>cases h
 | cons a l ih =>
  show n<=a+lsum l
  rcases List.mem_cons.1 h with rfl|h
  ·omega
  ·have:=ih h;omega
def ya (num:Nat)(r:Rec):Bool:=decide (r.num=num/\r.ty=2)
def xf {α:Type}(S:Sub α)(d:Int)(s:List α)(r:Rec):Except Nat (List α):=match S.rd (d-1) r.s with
 | .error c => .error c
 | .ok x => .ok (s++[x])
def zy {α:Type}(num:Nat)(S:Sub α):Fld where
 σ:=List α
 z:=[]
 tk r:=ya num r
 step d s r:=xf S d s r
 out s:=s.map fun x=>rB num (S.out x)
 may d s:=s.all fun x=>decide (1<=d)&&S.may (d-1) x
 fit s:=∀x∈s,S.fit x
 wt s:=lsum (s.map S.wt)
 w0:=0
 inv d s t:=(∀x∈s,1<=d/\S.may (d-1) x=true/\S.fit x)/\lsum (s.map S.wt)<=51*t
theorem z2s {α:Type}{num:Nat}{S:Sub α}{d:Int}:∀(l s:List α),(∀x∈l,S.rd (d-1) (S.out x)=.ok x)->zg (ya num) (xf S d) s (l.map fun x=>rB num (S.out x))=.ok (s++l)
 | [],s,_=>by simp[zg]
 | x::l,s,h=>by
  rw[List.map_cons,zg,if_pos (show ya num (rB num (S.out x))=true from decide_eq_true ⟨rfl,rfl⟩)]
  have e:xf S d s (rB num (S.out x))=.ok (s++[x]):=by
   unfold xf;rw[show(rB num (S.out x)).s=S.out x from rfl,h x (List.mem_cons_self ..)]
  rw[e];dsimp only;rw[z2s l _ fun y hy=>h y (List.mem_cons_of_mem _ hy),List.append_assoc]
  rfl
theorem z2w {α:Type}{num:Nat}{S:Sub α}{d:Int}:∀(l s:List α),(∀x∈l,S.rd (d-1) (S.out x)=.ok x∨∃c,S.rd (d-1) (S.out x)=.error c)->(∃x∈l,∃c,S.rd (d-1) (S.out x)=.error c)->∃c,zg (ya num) (xf S d) s (l.map fun x=>rB num (S.out x))=.error c
 | [],s,_,h=>by obtain⟨x,hx,_⟩:=h;cases hx
 | x::l,s,h,he=>by
  rw[List.map_cons,zg,if_pos (show ya num (rB num (S.out x))=true from decide_eq_true ⟨rfl,rfl⟩)]
  rcases h x (List.mem_cons_self ..)with h1|⟨c,h1⟩
  ·have e:xf S d s (rB num (S.out x))=.ok (s++[x]):=by
    unfold xf;rw[show(rB num (S.out x)).s=S.out x from rfl,h1]
   rw[e];refine z2w l _ (fun y hy=>h y (List.mem_cons_of_mem _ hy)) ?_;obtain⟨y,hy,c,hc⟩:=he
   rcases List.mem_cons.1 hy with rfl|hy
   ·rw[h1]at hc;cases hc
   ·exact⟨y,hy,c,hc⟩
  ·have e:xf S d s (rB num (S.out x))=.error c:=by
    unfold xf;rw[show(rB num (S.out x)).s=S.out x from rfl,h1]
   rw[e];exact⟨c,rfl⟩
theorem Qc {α:Type}{num:Nat}{S:Sub α}(hS:S.Ok)(h1:1<=num)(h2:num<=536870911):(zy num S).Ok where
 recs:=fun (s:List α) hf hw r hr=>by
  obtain⟨x,hx,rfl⟩:=List.mem_map.1 hr;have hw:lsum (s.map S.wt)<=1000000:=hw;have:=Qi (List.mem_map_of_mem (f:=S.wt) hx);have:=hS.len x;exact⟨decide_eq_true ⟨rfl,rfl⟩,fun d=>Z8 h1 h2 (by omega) d⟩
 back:=fun (s:List α) d hf hw hd hm=>by
  have hw:lsum (s.map S.wt)<=1000000:=hw;have hm:(s.all fun x=>decide (1<=d)&&S.may (d-1) x)=true:=hm;rw[List.all_eq_true]at hm;refine(z2s s [] fun x hx=>?_).trans (by rw[List.nil_append];rfl);have h3:=hm x hx
  simp only[Bool.and_eq_true,decide_eq_true_eq]at h3
  exact hS.back x _ (hf x hx) (by have:=Qi (List.mem_map_of_mem (f:=S.wt) hx);omega) (by omega) h3.2
 less := fun (s:List α) d d' hf hw hm hle hn=>by
  have hw:lsum (s.map S.wt)<=1000000:=hw;have hm:(s.all fun x=>decide (1<=d)&&S.may (d-1) x)=true:=hm;have hn:(s.all fun x=>decide (1<=d')&&S.may (d' - 1) x)=false:=hn;rw[List.all_eq_true]at hm
  have key:∀x∈s,S.rd (d' - 1) (S.out x)=.ok x∨∃c,S.rd (d' - 1) (S.out x)=.error c:=fun x _=>by
   cases h:S.rd (d' - 1) (S.out x)with
   | error c=>exact .inr ⟨c,rfl⟩
   | ok y =>
    rename_i hx
    have h3:=hm x hx
    simp only[Bool.and_eq_true,decide_eq_true_eq]at h3
    have hwx:S.wt x<=1000000:=by have:=Qi (List.mem_map_of_mem (f:=S.wt) hx);omega
    by_cases h4:d' - 1<0∨S.may (d' - 1) x=false
    ·obtain⟨c,hc⟩:=hS.less x (d-1) (d' - 1) (hf x hx) hwx (by omega) h3.2 (by omega) h4
     rw[hc]at h;cases h
    ·have h5:=hS.back x (d' - 1) (hf x hx) hwx (by omega) (by
      cases h6:S.may (d' - 1) x
      ·exact absurd (.inr h6) h4
      ·rfl)
     rw[h5]at h;exact .inl h.symm
  refine z2w s [] key ?_;rw[List.all_eq_false]at hn;obtain⟨x,hx,h4⟩:=hn;have h3:=hm x hx
  simp only[Bool.and_eq_true,decide_eq_true_eq]at h3 h4
  refine⟨x,hx,hS.less x (d-1) (d' - 1) (hf x hx) (by have:=Qi (List.mem_map_of_mem (f:=S.wt) hx);omega) (by omega) h3.2 (by omega) ?_⟩
  by_cases h5:d' - 1<0
  ·exact .inl h5
  ·refine .inr ?_
   cases h6:S.may (d' - 1) x
   ·rfl
   ·exact absurd ⟨by omega,h6⟩ h4
 start:=fun d=>⟨(fun x hx=>by cases hx),by show lsum []<=_;simp[lsum]⟩
 go := fun d (s:List α) t r (s':List α) hi hr hk ht hs=>by
  have hs:(match S.rd (d-1) r.s with
   | .error c => .error c
   | .ok x => .ok (s++[x]))=Except.ok s':=hs
  have hk:r.num=num/\r.ty=2:=of_decide_eq_true hk
  cases hx:S.rd (d-1) r.s with
  | error c=>rw[hx]at hs;cases hs
  | ok x =>
   rw[hx]at hs;obtain rfl:=Except.ok.inj hs;have hb:=((Ja hr).1 hk.2).2;have hv:=(zu r.s.length).1;obtain⟨g1,g2,g3,g4⟩:=hS.twice r.s x (d-1) (by omega) hx;refine⟨fun y hy=>?_,?_⟩
   ·rcases List.mem_append.1 hy with hy|hy
    ·exact hi.1 y hy
    ·rw[List.mem_singleton.1 hy];exact⟨by omega,g2,g3⟩
   ·have:lsum (s.map S.wt)<=51*t:=hi.2
    show lsum ((s++[x]).map S.wt)<=_
    rw[List.map_append,List.map_cons,List.map_nil,zdd];omega
 ends:=fun d (s:List α) t hd hi ht=>by
  refine⟨?_,fun x hx=>(hi.1 x hx).2.2,by have:lsum (s.map S.wt)<=51*t:=hi.2;show lsum (s.map S.wt)<=0+_;omega⟩
  show(s.all fun x=>decide (1<=d)&&S.may (d-1) x)=true
  rw[List.all_eq_true];intro x hx;have:=hi.1 x hx;rw[this.2.1,decide_eq_true this.1];rfl
def kvS:Sub KV where
 rd d t:=zm 1000001 t d
 out:=kout
 may d x:=kmay x d
 fit:=kfit
 wt:=kw
theorem z6l:kvS.Ok where
 len:=fun x=>by have:=Xv x;have:=Kc x;show(kout x).length<=kw x+1000;omega
 back:=fun x d hf hw hd hm=>kback x d 1000001 hf hw hm hd (by have:=Xv x;have:=Kc x;have hw:kw x<=1000000:=hw;omega)
 less:=fun x d d' hf hw hd hm hle hn=>z66 x d d' 1000001 hf hw hm hle (by
  rw[X3]
  rcases hn with hn|hn
  ·rw[decide_eq_false (by omega:¬0<=d')];rfl
  ·rw[show kmay x d'=false from hn,Bool.and_false]) (by have:=Xv x;have:=Kc x;have hw:kw x<=1000000:=hw;omega)
 twice:=fun t x d ht h=>by
  obtain⟨a1,a2,a3,_,a5⟩:=(z1h 1000001).2 t d x ht h;exact⟨a1,a2,a3,a5⟩
theorem z48 (num:Nat)(d:Int):∀l:List KV,(zy num kvS).may d l=xk l d
 | []=>by rw[xk];rfl
 | x::l=>by
  rw[xk,<-z48 num d l]
  rfl
theorem z94 (num:Nat):∀l:List KV,((zy num kvS).out l).flatMap Rec.raw=zx num l
 | []=>by rw[zx];rfl
 | x::l=>by rw[zx,<-z94 num l];rfl
theorem z9y {num:Nat}{l:List KV}(h:(zy num kvS).fit l):qs l:=by
 induction l with
 | nil=>rw[qs];trivial
 | cons x l ih=>rw[qs];exact⟨h x (List.mem_cons_self ..),ih fun y hy=>h y (List.mem_cons_of_mem _ hy)⟩
theorem z2n (num:Nat):∀l:List KV,(zy num kvS).wt l=ksw l
 | []=>by rw[ksw];rfl
 | x::l=>by rw[ksw,<-z2n num l];rfl
def numF (num:Nat):Fld where
 σ:=Nat
 z:=0
 tk r:=decide (r.num=num/\r.ty=1)
 step _ _ r := .ok r.n
 out n:=if n=0 then []else [rF num n]
 may _ _:=true
 fit n:=n<18446744073709551616
 wt _:=0
 w0:=0
 inv _ n _:=n<18446744073709551616
theorem ki {num:Nat}(h1:1<=num)(h2:num<=536870911):(numF num).Ok where
 recs:=fun (s:Nat) hf hw r hr=>by
  have hr:r∈(if s=0 then []else [rF num s]):=hr;have hf:s<18446744073709551616:=hf
  split at hr
  ·cases hr
  ·rw[List.mem_singleton.1 hr]
   exact⟨decide_eq_true ⟨rfl,rfl⟩,fun d=>z19 h1 h2 (by omega) d⟩
 back:=fun (s:Nat) d hf hw hd hm=>by
  show zg (σ:=Nat) (numF num).tk ((numF num).step d) (0:Nat) (if s=0 then []else [rF num s])=.ok s
  split
  ·rename_i h;rw[h];rfl
  ·exact Zh (decide_eq_true ⟨rfl,rfl⟩) rfl
 less:=fun (s:Nat) d d' hf hw hm hle hn=>by cases hn
 start:=fun d=>by show 0<18446744073709551616;omega
 go:=fun d (s:Nat) t r (s':Nat) hi hr hk ht hs=>by
  have hs:Except.ok r.n=Except.ok s':=hs;obtain rfl:=Except.ok.inj hs;have:=(qj hr).1
  show r.n<18446744073709551616
  omega
 ends:=fun d (s:Nat) t hd hi ht=>⟨rfl,hi,by show 0<=_;omega⟩
def yy (num:Nat):Fld where
 σ:=List UInt8
 z:=[]
 tk r:=decide (r.num=num/\r.ty=2)
 step _ _ r := .ok r.s
 out s:=if s=[]then []else [rB num s]
 may _ _:=true
 fit s:=s.length<=9223372036854775807
 wt s:=s.length
 w0:=0
 inv _ s t:=s.length<=t
theorem z4d {num:Nat}(h1:1<=num)(h2:num<=536870911):(yy num).Ok where
 recs:=fun (s:List UInt8) hf hw r hr=>by
  have hr:r∈(if s=[]then []else [rB num s]):=hr
  split at hr
  ·cases hr
  ·rw[List.mem_singleton.1 hr]
   have hf:s.length<=9223372036854775807:=hf;exact⟨decide_eq_true ⟨rfl,rfl⟩,fun d=>Z8 h1 h2 (by omega) d⟩
 back:=fun (s:List UInt8) d hf hw hd hm=>by
  show zg (yy num).tk ((yy num).step d) [] (if s=[]then []else [rB num s])=.ok s
  split
  ·rename_i h;rw[h];rfl
  ·exact Zh (decide_eq_true ⟨rfl,rfl⟩) rfl
 less:=fun (s:List UInt8) d d' hf hw hm hle hn=>by cases hn
 start:=fun d=>Nat.le_refl _
 go:=fun d (s:List UInt8) t r (s':List UInt8) hi hr hk ht hs=>by
  have hs:Except.ok r.s=Except.ok s':=hs;obtain rfl:=Except.ok.inj hs;have:=q5 hr
  show r.s.length<=_
  omega
 ends:=fun d (s:List UInt8) t hd hi ht=>⟨rfl,by have:s.length<=t:=hi;show s.length<=_;omega,by have:s.length<=t:=hi;show s.length<=0+_;omega⟩
def qf (a b:Nat):Fld where
 σ:=Int × Nat
 z:=(0,0)
 tk r:=decide ((r.num=a∨r.num=b)/\r.ty=1)
 step _ _ r := .ok (if r.num=b then 2 else 1,r.n)
 out s:=if s.1=1 then [rF a s.2]else if s.1=2 then [rF b s.2]else []
 may _ s:=decide (s.1=0/\s.2=0∨s.1=1∨s.1=2)
 fit s:=s.2<18446744073709551616
 wt _:=0
 w0:=0
 inv _ s _:=(s.1=0/\s.2=0∨s.1=1∨s.1=2)/\s.2<18446744073709551616
theorem zec {a b:Nat}(h1:1<=a)(h2:a<=536870911)(h3:1<=b)(h4:b<=536870911)(hne:a≠b):(qf a b).Ok where
 recs:=fun (s:Int × Nat) hf hw r hr=>by
  have hr:r∈(if s.1=1 then [rF a s.2]else if s.1=2 then [rF b s.2]else []):=hr;have hf:s.2<18446744073709551616:=hf
  split at hr
  ·rw[List.mem_singleton.1 hr]
   exact⟨decide_eq_true ⟨.inl rfl,rfl⟩,fun d=>z19 h1 h2 (by omega) d⟩
  ·split at hr
   ·rw[List.mem_singleton.1 hr]
    exact⟨decide_eq_true ⟨.inr rfl,rfl⟩,fun d=>z19 h3 h4 (by omega) d⟩
   ·cases hr
 back:=fun (s:Int × Nat) d hf hw hd hm=>by
  obtain⟨k,n⟩:=s;have hm:k=0/\n=0∨k=1∨k=2:=of_decide_eq_true hm
  show zg (σ:=Int × Nat) (qf a b).tk ((qf a b).step d) ((0:Int),(0:Nat)) (if k=1 then [rF a n]else if k=2 then [rF b n]else [])=.ok (k,n)
  rcases hm with ⟨rfl,rfl⟩|rfl|rfl
  ·rfl
  ·rw[if_pos rfl]
   refine Zh (decide_eq_true ⟨.inl rfl,rfl⟩) ?_
   show Except.ok (if a=b then(2:Int)else 1,n)=_
   rw[if_neg hne]
  ·rw[if_neg (by decide),if_pos rfl]
   refine Zh (decide_eq_true ⟨.inr rfl,rfl⟩) ?_
   show Except.ok (if b=b then(2:Int)else 1,n)=_
   rw[if_pos rfl]
 less:=fun (s:Int × Nat) d d' hf hw hm hle hn=>by rw[show(qf a b).may d' s=(qf a b).may d s from rfl,hm]at hn;cases hn
 start:=fun d=>⟨.inl ⟨rfl,rfl⟩,by show 0<18446744073709551616;omega⟩
 go:=fun d (s:Int × Nat) t r (s':Int × Nat) hi hr hk ht hs=>by
  have hs:Except.ok ((if r.num=b then(2:Int)else 1),r.n)=Except.ok s':=hs;obtain rfl:=Except.ok.inj hs;have:=(qj hr).1;refine⟨.inr ?_,by show r.n<18446744073709551616;omega⟩
  show(if r.num=b then(2:Int)else 1)=1∨(if r.num=b then(2:Int)else 1)=2
  split
  ·exact .inr rfl
  ·exact .inl rfl
 ends:=fun d (s:Int × Nat) t hd hi ht=>⟨decide_eq_true hi.1,hi.2,by show 0<=_;omega⟩
def Fld.wrap (A B:Fld)(pre post:A.σ->List Rec):Fld:={ A.and B with out:=fun s=>pre s.1++B.out s.2++post s.1 }
theorem Fld.Ok.wrap {A B:Fld}(hA:A.Ok)(hB:B.Ok)(hap:A.Apart B){pre post:A.σ->List Rec}(hpp:∀a,pre a++post a=A.out a):(A.wrap B pre post).Ok where
 recs:=fun s hf hw r hr=>by
  have hr:r∈pre s.1++B.out s.2++post s.1:=hr;refine(hA.and hB hap).recs s hf hw r ?_
  show r∈A.out s.1++B.out s.2
  rw[<-hpp]
  simp only[List.mem_append]at hr ⊢
  rcases hr with (h|h)|h
  ·exact .inl (.inl h)
  ·exact .inr h
  ·exact .inl (.inr h)
 back:=fun s d hf hw hd hm=>by
  have hw:A.wt s.1+B.wt s.2<=1000000:=hw;have hm:(A.may d s.1&&B.may d s.2)=true:=hm;rw[Bool.and_eq_true]at hm;have ra:=hA.recs s.1 hf.1 (by omega);have rb:=hB.recs s.2 hf.2 (by omega);rw[<-hpp]at ra
  have fa:(pre s.1++B.out s.2++post s.1).filter A.tk=A.out s.1:=by
   rw[<-hpp,List.filter_append,List.filter_append,qh fun r hr=>(ra r (List.mem_append_left _ hr)).1,qh fun r hr=>(ra r (List.mem_append_right _ hr)).1,qi fun r hr=>?_,List.append_nil]
   cases h:A.tk r
   ·rfl
   ·exact absurd ⟨h,(rb r hr).1⟩ (hap r)
  have fn:∀r∈pre s.1++post s.1,B.tk r=false:=fun r hr=>by
   cases h:B.tk r
   ·rfl
   ·exact absurd ⟨(ra r hr).1,h⟩ (hap r)
  have fb:(pre s.1++B.out s.2++post s.1).filter B.tk=B.out s.2:=by
   rw[List.filter_append,List.filter_append,qi fun r hr=>fn r (List.mem_append_left _ hr),qi fun r hr=>fn r (List.mem_append_right _ hr),qh fun r hr=>(rb r hr).1,List.nil_append,List.append_nil]
  exact Fld.and_ok hap ((Fld.rd_other fa).trans (hA.back s.1 d hf.1 (by omega) hd hm.1)) ((Fld.rd_other fb).trans (hB.back s.2 d hf.2 (by omega) hd hm.2))
 less:=fun s d d' hf hw hm hle hn=>by
  have hw:A.wt s.1+B.wt s.2<=1000000:=hw;have hm:(A.may d s.1&&B.may d s.2)=true:=hm;have hn:(A.may d' s.1&&B.may d' s.2)=false:=hn;rw[Bool.and_eq_true]at hm;have ra:=hA.recs s.1 hf.1 (by omega);have rb:=hB.recs s.2 hf.2 (by omega);rw[<-hpp]at ra
  have fa:(pre s.1++B.out s.2++post s.1).filter A.tk=A.out s.1:=by
   rw[<-hpp,List.filter_append,List.filter_append,qh fun r hr=>(ra r (List.mem_append_left _ hr)).1,qh fun r hr=>(ra r (List.mem_append_right _ hr)).1,qi fun r hr=>?_,List.append_nil]
   cases h:A.tk r
   ·rfl
   ·exact absurd ⟨h,(rb r hr).1⟩ (hap r)
  have fn:∀r∈pre s.1++post s.1,B.tk r=false:=fun r hr=>by
   cases h:B.tk r
   ·rfl
   ·exact absurd ⟨(ra r hr).1,h⟩ (hap r)
  have fb:(pre s.1++B.out s.2++post s.1).filter B.tk=B.out s.2:=by
   rw[List.filter_append,List.filter_append,qi fun r hr=>fn r (List.mem_append_left _ hr),qi fun r hr=>fn r (List.mem_append_right _ hr),qh fun r hr=>(rb r hr).1,List.nil_append,List.append_nil]
  cases h1:A.may d' s.1 with
  | false =>
   obtain⟨c,hc⟩:=hA.less s.1 d d' hf.1 (by omega) hm.1 hle h1;exact Fld.and_no1 hap ⟨c,(Fld.rd_other fa).trans hc⟩
  | true =>
   rw[h1,Bool.true_and]at hn;obtain⟨c,hc⟩:=hB.less s.2 d d' hf.2 (by omega) hm.2 hle hn;exact Fld.and_no2 hap ⟨c,(Fld.rd_other fb).trans hc⟩
 start:=fun d=>(hA.and hB hap).start d
 go:=fun d s t r s' hi hr hk ht hs=>(hA.and hB hap).go d s t r s' hi hr hk ht hs
 ends:=fun d s t hd hi ht=>(hA.and hB hap).ends d s t hd hi ht
theorem num_out (num n:Nat):((numF num).out n).flatMap Rec.raw=if n=0 then []else(rF num n).raw:=by
 show(if n=0 then []else [rF num n]).flatMap Rec.raw=_
 split
 ·rfl
 ·simp
theorem z4g (num:Nat)(a:List UInt8):((yy num).out a).flatMap Rec.raw=if a=[]then []else(rB num a).raw:=by
 show(if a=[]then []else [rB num a]).flatMap Rec.raw=_
 split
 ·rfl
 ·simp
theorem z95 (c:Prop)[Decidable c](r:Rec):(if c then [r]else []).flatMap Rec.raw=if c then r.raw else []:=by
 split
 ·simp
 ·rfl
theorem zey (A B:Fld)(pre post:A.σ->List Rec)(a:A.σ)(b:B.σ):((A.wrap B pre post).out (a,b)).flatMap Rec.raw=(pre a).flatMap Rec.raw++(B.out b).flatMap Rec.raw++(post a).flatMap Rec.raw:=by
 show(pre a++B.out b++post a).flatMap Rec.raw=_
 rw[List.flatMap_append,List.flatMap_append]
theorem xm {A B:Fld}(h:∀r,A.tk r=true->B.tk r=false):A.Apart B:=fun r hr=>by rw[h r hr.1]at hr;cases hr.2
theorem kv_ok {num:Nat}{d:Int}{l:List KV}{r:Rec}{x:KV}(e:zm 1000001 r.s (d-1)=.ok x):(zy num kvS).step d l r=.ok (l++[x]):=by
 show xf kvS d l r=_
 unfold xf;rw[show kvS.rd (d-1) r.s=.ok x from e]
 rfl
theorem kv_no {num:Nat}{d:Int}{l:List KV}{r:Rec}{c:Nat}(e:zm 1000001 r.s (d-1)=.error c):(zy num kvS).step d l r=.error c:=by
 show xf kvS d l r=_
 unfold xf;rw[show kvS.rd (d-1) r.s=.error c from e]
 rfl
def capT {σ:Type}(R:j5 σ)(bd:Nat)(D:Int):j5 σ where
 rel st P w:=∃P0,R.rel st P0 w/\¬P0 bd/\w.heap[bd]?=some (.cells #[.int .i64 D] 3 (0,0))/\P=fun k=>P0 k∨k=bd
 lt:=by
  rintro st P w ⟨P0,h1,_,h2,rfl⟩ k (hk|rfl)
  ·exact R.lt _ _ _ h1 k hk
  ·exact z8 h2
 kept:=by
  rintro st P w w' ⟨P0,h1,h0,h2,rfl⟩ hu;exact⟨P0,R.kept _ _ _ _ h1 (hu.mono fun k _ h h'=>h (.inl h')),h0,(hu.block bd (z8 h2) (fun h=>h (.inr rfl))).trans h2,rfl⟩
def rowT {σ α:Type}(C:Cel α)(T T0:TypeId)(row:σ->Value->Array Value)(ls:σ->List α)(bx:Nat):j5 σ where
 rel st P w:=∃v P1,w.heap[bx]?=some (.cells (row st v) T0 (0,0))/\LsAt C T (bx+1) v (ls st) P1 w/\P=fun k=>k=bx∨P1 k
 lt:=by
  rintro st P w ⟨v,P1,h1,h2,rfl⟩ k (rfl|hk)
  ·exact z8 h1
  ·exact(h2.lt k hk).2
 kept:=by
  rintro st P w w' ⟨v,P1,h1,h2,rfl⟩ hu;exact⟨v,P1,(hu.block bx (z8 h1) (fun h=>h (.inl rfl))).trans h1,h2.kept (hu.mono fun k _ h h'=>h (.inr h')),rfl⟩
theorem z22 {σ α:Type}{C:Cel α}{T T0:TypeId}{row:σ->Value->Array Value}{ls:σ->List α}{bx:Nat}{st st':σ}{v:Value}{P1:Nat->Prop}{w:World}(o:Nat)(u:Value)(h1:w.heap[bx]?=some (.cells (row st v) T0 (0,0)))(h2:LsAt C T (bx+1) v (ls st) P1 w)(hr:(row st v).setIfInBounds o u=row st' v)(hl:ls st'=ls st) :
  (rowT C T T0 row ls bx).rel st' (fun k=>k=bx∨P1 k) (w.setCell ⟨bx,o,none⟩ u)/\Upd (fun k=>k=bx) w (w.setCell ⟨bx,o,none⟩ u):=by
 have hu:=Upd.set w ⟨bx,o,none⟩ u;refine⟨⟨v,P1,hr ▸ ze h1 o u,?_,rfl⟩,hu⟩;rw[hl];exact h2.kept (hu.mono fun k _ h h'=>by have h:k=bx:=h;have:=(h2.lt k h').1;omega)
theorem zf0 {σ α:Type}{C:Cel α}{T T0:TypeId}{row:σ->Value->Array Value}{ls:σ->List α}{bx o:Nat}{st st':σ}{v:Value}{x:α}{P1:Nat->Prop}{w:World}{e:Ending}{w':World}(h:Yw C T T0 bx o (bx+1) (row st v) (ls st) P1 (.ok x) w e w')(hr:∀v',(row st v).setIfInBounds o v'=row st' v')(hl:ls st'=ls st++[x]) :
  e=.returned .nilIface/\Upd (fun k=>k=bx∨P1 k) w w'/\∃P',(rowT C T T0 row ls bx).rel st' P' w'/\∀k,P' k->(k=bx∨P1 k)∨w.heap.size<=k:=by
 obtain⟨hu,he,v',P',h1,h2,h3⟩:=h;refine⟨he,hu,_,⟨v',P',hr v' ▸ h1,hl ▸ h2,rfl⟩,?_⟩;rintro k (rfl|hk)
 ·exact .inl (.inl rfl)
 ·exact(h3 k hk).imp .inr id
theorem Zx {σ:Type}{R:j5 σ}{step:σ->Rec->Except Nat σ}{st:σ}{P:Nat->Prop}{r:Rec}{w w':World}{v:Value}{c:Nat}(hs:step st r=.error c)(hu:Upd P w w')(he:EC w' v c):xx R step st P r w (.returned v) w':=⟨hu,by rw[hs];exact⟨v,rfl,he⟩⟩
theorem x5 {σ:Type}{R:j5 σ}{step:σ->Rec->Except Nat σ}{st st':σ}{P P':Nat->Prop}{r:Rec}{w w':World}(hs:step st r=.ok st')(hu:Upd P w w')(hr:R.rel st' P' w')(hp:∀k,P' k->P k∨w.heap.size<=k):xx R step st P r w (.returned .nilIface) w':=⟨hu,by rw[hs];exact⟨rfl,P',hr,hp⟩⟩
theorem z4l {σ:Type}{R:j5 σ}{bd:Nat}{D:Int}{step:σ->Rec->Except Nat σ}{st:σ}{P0:Nat->Prop}{r:Rec}{w:World}{e:Ending}{w':World}(h:xx R step st P0 r w e w')(h0:¬P0 bd)(h2:w.heap[bd]?=some (.cells #[.int .i64 D] 3 (0,0))):xx (capT R bd D) step st (fun k=>P0 k∨k=bd) r w e w':=by
 obtain⟨hu,hc⟩:=h;refine⟨hu.mono fun k _ h => .inl h,?_⟩
 cases hs:step st r with
 | error c=>rw[hs]at hc;exact hc
 | ok st' =>
  rw[hs]at hc;obtain⟨he,P',h3,h4⟩:=hc;have hb:=z8 h2;refine⟨he,_,⟨P',h3,fun h=>?_,(hu.block bd hb h0).trans h2,rfl⟩,?_⟩
  ·rcases h4 bd h with h|h
   ·exact h0 h
   ·omega
  ·rintro k (hk|rfl)
   ·exact(h4 k hk).imp .inl id
   ·exact .inl (.inr rfl)
def UKey:Prop:=∀(Y:ByteArray) (d':Int) (w':World),Y.size<=1000000 -> -9223372036854775808<=d'/\d'<=9223372036854775807->Calls Tryz.prog 57 #[.string Y,.int .i64 d'] w' (Z9 kcel Jy (zm 1000001 Y.data.toList d') Y.size w')
theorem z7j (n:Nat):IntKind.u32.wrap (n:Int)=((n%4294967296:Nat):Int):=by
 show((n:Int)%4294967296)=_
 omega
theorem zdo {num:Nat}{d:Int}{l:List KV}{t:Nat}(h:(zy num kvS).inv d l t):l.length*40<=51*t:=by
 have h1:lsum (l.map kvS.wt)<=51*t:=h.2;have h2:=z2n num l;have h2:lsum (l.map kvS.wt)=ksw l:=h2;have:=Jd l;omega
theorem j7 (tk:Rec->Bool)(rs:List Rec):tlen tk rs<=(rs.flatMap Rec.raw).length:=by have:=jz tk rs;omega
theorem z53 (FT FK:Nat)(caps:Array Value)(s:ByteArray)(d:Int)(w:World)(hd:d<0) :
  Calls Tryz.prog 15 #[.string s,.int .i64 d,.func (.func FT) #[] #[],.func (.func FK) #[] caps] w fun e w'=>∃v,e=.returned (.tuple #[.string ⟨#[]⟩,v])/\Below w.heap.size w w'/\EW w' v 0 6:=by
 have d1:decide (d<0)=true:=decide_eq_true hd;clear hd;go_enter Tryz.func15,Tryz.ntmps15;go_wp2_with fail;refine(qe _ _ _ _).mono ?_;rintro e w' ⟨rfl,rfl⟩;go_wp2_with fail
 go_ret2
 exact⟨_,rfl,zd _ _,ew_at ⟨[],rfl⟩⟩
theorem z3z (A B:Fld)(a:A.σ)(b:B.σ):((A.and B).out (a,b)).flatMap Rec.raw=(A.out a).flatMap Rec.raw++(B.out b).flatMap Rec.raw:=List.flatMap_append
variable {F:Fld}
theorem zej (hF:F.Ok){s:F.σ}{u:List UInt8}{d:Int}(hf:F.fit s)(hw:F.wt s<=1000000)(hd:0<=d)(hm:F.may d s=true)(hu:zp F.tk u d=true):zq F.tk (F.step d) F.z ((F.out s).flatMap Rec.raw++u) d=.ok (s,u) :=
 Fld.msg_back hF hf hw hd (hF.recs s hf hw) (fun _=>rfl) d hm hd hu
theorem zen (hF:F.Ok){s:F.σ}{u:List UInt8}{d d':Int}(hf:F.fit s)(hw:F.wt s<=1000000)(hm:F.may d s=true)(hu:zp F.tk u d=true)(hle:d'<=d)(hn:d' < 0∨F.may d' s=false∨zp F.tk u d'=false):∃c,zq F.tk (F.step d') F.z ((F.out s).flatMap Rec.raw++u) d'=.error c:=by
 have hr:=hF.recs s hf hw
 by_cases h0:d' < 0
 ·exact⟨6,by unfold zq;rw[if_pos h0]⟩
 ·cases h1:F.may d' s with
  | false =>
   obtain⟨c,hc⟩:=hF.less s d d' hf hw hm hle h1;exact Ky (by omega) (fun r h=>(hr r h).2) hc
  | true =>
   have h2:zp F.tk u d'=false:=by
    rcases hn with h|h|h
    ·exact absurd h h0
    ·rw[h1]at h;cases h
    ·exact h
   exact kh (fun r h=>(hr r h).2) (hF.back s d' hf hw (by omega) h1) (by rw[List.all_eq_true];exact fun r h=>(hr r h).1) hu hle (.inr h2)
theorem ze0 (hF:F.Ok){l u:List UInt8}{s:F.σ}{d:Int}(hl:l.length<=1000000)(h:zq F.tk (F.step d) F.z l d=.ok (s,u)):0<=d/\F.may d s=true/\zp F.tk u d=true/\F.fit s/\F.wt s+u.length<=F.w0+51*l.length:=by
 obtain⟨h0,rs,h1,h2,h3,h4,h5⟩:=kp h;have h6:=jz F.tk rs;rw[h4,<-h2]at h6;have hi:=xa (d:=d) 1000000 (F.inv d) (hF.go d) rs F.z s 0 h3 (hF.start d) (by omega) h1;rw[Nat.zero_add]at hi;obtain⟨e1,e2,e3⟩:=hF.ends d s _ h0 hi (by omega);exact⟨h0,e1,h5,e2,by omega⟩
mutual
theorem z9i:∀(x:Val),vw x<=9223372036854775807->vlim x
 | .mk k s b n l m i u,h=>by
  rw[vw]at h;rw[vlim];have h1:=z9j l;have h2:=Jd m;exact⟨by omega,by omega,z4s l (by omega),J0 m (by omega)⟩
theorem klim_of:∀(x:KV),kw x<=9223372036854775807->klim x
 | .mk key has v u,h=>by
  rw[kw]at h;rw[klim];exact z9i v (by omega)
theorem z4s:∀(l:List Val),vsw l<=9223372036854775807->Kr l
 | [],_=>by rw[Kr];trivial
 | x::l,h=>by
  rw[vsw]at h;rw[Kr];exact⟨z9i x (by omega),z4s l (by omega)⟩
theorem J0:∀(l:List KV),ksw l<=9223372036854775807->Yi l
 | [],_=>by rw[Yi];trivial
 | x::l,h=>by
  rw[ksw]at h;rw[Yi];exact⟨klim_of x (by omega),J0 l (by omega)⟩
end
def Fld.Code (F:Fld):Prop:=∀d s r c,F.step d s r=.error c->j0 c
theorem Fld.Code.and {A B:Fld}(hA:A.Code)(hB:B.Code):(A.and B).Code:=fun d s r c h=>by
 have h:(if A.tk r then(match A.step d s.1 r with
  | .error c => .error c
  | .ok a => .ok (a,s.2))else(match B.step d s.2 r with
  | .error c => .error c
  | .ok b => .ok (s.1,b)))=(Except.error c:Except Nat (A.σ × B.σ)):=h
 split at h
 ·cases ha:A.step d s.1 r with
  | error c'=>rw[ha]at h;obtain rfl:=Except.error.inj h;exact hA _ _ _ _ ha
  | ok a=>rw[ha]at h;cases h
 ·cases hb:B.step d s.2 r with
  | error c'=>rw[hb]at h;obtain rfl:=Except.error.inj h;exact hB _ _ _ _ hb
  | ok a=>rw[hb]at h;cases h
theorem z81 (num:Nat):(xn num).Code:=fun d s r c h=>by
 have h:(Except.ok (r.n%4294967296):Except Nat Nat)=.error c:=h
 cases h
theorem z6i (num:Nat):(zy num kvS).Code:=fun d (s:List KV) r c h=>by
 have h:xf kvS d s r=.error c:=h;unfold xf at h
 cases hk:kvS.rd (d-1) r.s with
 | error c'=>rw[hk]at h;obtain rfl:=Except.error.inj h;exact(z4f _).2 _ _ _ (show zm 1000001 r.s (d-1)=_ from hk)
 | ok x=>rw[hk]at h;cases h
theorem Y7 (num:Nat):(numF num).Code:=fun d s r c h=>by
 have h:(Except.ok r.n:Except Nat Nat)=.error c:=h
 cases h
theorem z1r (num:Nat):(yy num).Code:=fun d s r c h=>by
 have h:(Except.ok r.s:Except Nat (List UInt8))=.error c:=h
 cases h
theorem zb3 (a b:Nat):(qf a b).Code:=fun d s r c h=>by
 have h:(Except.ok ((if r.num=b then(2:Int)else 1),r.n):Except Nat (Int × Nat))=.error c:=h
 cases h
theorem Fld.Code.wrap {A B:Fld}(hA:A.Code)(hB:B.Code)(pre post:A.σ->List Rec):(A.wrap B pre post).Code:=fun d s r c h=>(hA.and hB) d s r c h
end Go.Proofs.YtmlghmjjlpioeaaGreatDoor
