/-
  Messages of which a part may stand in several records, that are read as one when all records are read; zigzag numbers.
-/
import Derived.Test.YtmlghmjjlpioeaaGreatDoorRowL
namespace Go.Proofs.YtmlghmjjlpioeaaGreatDoor
open Go.RowKit
open Lib (hid)
structure Fnl (F:Fld) where
 τ:Type
 fin:Int->F.σ->Except Nat τ
 pre:τ->F.σ
 may:Int->τ->Bool
 fit:τ->Prop
 wt:τ->Nat
 w0:Nat
 c0:Nat
structure Fnl.Ok {F:Fld} (N:Fnl F):Prop where
 raw:∀x,N.fit x->N.wt x<=900000->F.fit (N.pre x)/\F.wt (N.pre x)<=N.wt x+N.c0
 rmay:∀x d,N.may d x=true->F.may d (N.pre x)=true
 back:∀x d,N.fit x->N.wt x<=900000->0<=d->N.may d x=true->N.fin d (N.pre x)=.ok x
 less:∀x d d',N.fit x->N.wt x<=900000->N.may d x=true->0<=d'->d'<=d->N.may d' x=false->F.may d' (N.pre x)=false∨∃c,N.fin d' (N.pre x)=.error c
 twice:∀d s t x,0<=d->F.inv d s t->t<=1000000->N.fin d s=.ok x->N.may d x=true/\N.fit x/\N.wt x<=N.w0+51*t
def Fnl.id (F:Fld):Fnl F where
 τ:=F.σ
 fin _ s := .ok s
 pre x:=x
 may:=F.may
 fit:=F.fit
 wt:=F.wt
 w0:=F.w0
 c0:=0
theorem Fld.Ok.fnl {F:Fld}(hF:F.Ok):(Fnl.id F).Ok where
 raw:=fun (x:F.σ) hf _=>⟨hf,Nat.le_refl _⟩
 rmay:=fun _ _ h=>h
 back:=fun _ _ _ _ _ _=>rfl
 less:=fun _ _ _ _ _ _ _ _ h => .inl h
 twice:=fun d (s:F.σ) t (x:F.σ) h0 hi ht h=>by
  have h:Except.ok s=Except.ok x:=h;obtain rfl:=Except.ok.inj h;exact hF.ends d s t h0 hi ht
def Fnl.and {A B:Fld}(N:Fnl A)(M:Fnl B):Fnl (A.and B) where
 τ:=N.τ × M.τ
 fin d s:=match N.fin d s.1 with
  | .error c => .error c
  | .ok a=>match M.fin d s.2 with
   | .error c => .error c
   | .ok b => .ok (a,b)
 pre x:=(N.pre x.1,M.pre x.2)
 may d x:=N.may d x.1&&M.may d x.2
 fit x:=N.fit x.1/\M.fit x.2
 wt x:=N.wt x.1+M.wt x.2
 w0:=N.w0+M.w0
 c0:=N.c0+M.c0
theorem Fnl.and_ok {A B:Fld}{N:Fnl A}{M:Fnl B}{d:Int}{s:A.σ}{t:B.σ}{a:N.τ}{b:M.τ}(h1:N.fin d s=.ok a)(h2:M.fin d t=.ok b):(N.and M).fin d (s,t)=.ok (a,b):=by
 show (match N.fin d s with
  | .error c => .error c
  | .ok a=>match M.fin d t with
   | .error c => .error c
   | .ok b => .ok (a,b))=Except.ok (a,b)
 rw[h1];dsimp only;rw[h2]
theorem Fnl.and_inv {A B:Fld}{N:Fnl A}{M:Fnl B}{d:Int}{s:A.σ}{t:B.σ}{a:N.τ}{b:M.τ}(h:(N.and M).fin d (s,t)=.ok (a,b)):N.fin d s=.ok a/\M.fin d t=.ok b:=by
 have h:(match N.fin d s with
  | .error c => .error c
  | .ok a=>match M.fin d t with
   | .error c => .error c
   | .ok b => .ok (a,b))=Except.ok (a,b):=h
 cases h1:N.fin d s with
 | error c=>rw[h1]at h;cases h
 | ok a' =>
  rw[h1]at h;dsimp only at h
  cases h2:M.fin d t with
  | error c=>rw[h2]at h;cases h
  | ok b' =>
   rw[h2]at h
   cases h
   exact⟨rfl,rfl⟩
theorem Fnl.and_no {A B:Fld}{N:Fnl A}{M:Fnl B}{d:Int}{s:A.σ}{t:B.σ}(h:(∃c,N.fin d s=.error c)∨∃c,M.fin d t=.error c):∃c,(N.and M).fin d (s,t)=.error c:=by
 show ∃c,(match N.fin d s with
  | .error c => .error c
  | .ok a=>match M.fin d t with
   | .error c => .error c
   | .ok b => .ok (a,b))=Except.error c
 cases h1:N.fin d s with
 | error c=>exact⟨c,rfl⟩
 | ok a =>
  dsimp only
  rcases h with ⟨c,h⟩|⟨c,h⟩
  ·rw[h1]at h;cases h
  ·rw[h];exact⟨c,rfl⟩
theorem Fnl.Ok.and {A B:Fld}{N:Fnl A}{M:Fnl B}(hN:N.Ok)(hM:M.Ok):(N.and M).Ok where
 raw:=fun (x:N.τ × M.τ) hf hw=>by
  have hw:N.wt x.1+M.wt x.2<=900000:=hw;obtain⟨a1,a2⟩:=hN.raw x.1 hf.1 (by omega);obtain⟨b1,b2⟩:=hM.raw x.2 hf.2 (by omega);exact⟨⟨a1,b1⟩,by show A.wt (N.pre x.1)+B.wt (M.pre x.2)<=N.wt x.1+M.wt x.2+(N.c0+M.c0);omega⟩
 rmay:=fun (x:N.τ × M.τ) d h=>by
  have h:(N.may d x.1&&M.may d x.2)=true:=h;rw[Bool.and_eq_true]at h
  show(A.may d (N.pre x.1)&&B.may d (M.pre x.2))=true
  rw[hN.rmay x.1 d h.1,hM.rmay x.2 d h.2];rfl
 back:=fun (x:N.τ × M.τ) d hf hw hd h=>by
  have hw:N.wt x.1+M.wt x.2<=900000:=hw;have h:(N.may d x.1&&M.may d x.2)=true:=h;rw[Bool.and_eq_true]at h;exact Fnl.and_ok (hN.back x.1 d hf.1 (by omega) hd h.1) (hM.back x.2 d hf.2 (by omega) hd h.2)
 less:=fun (x:N.τ × M.τ) d d' hf hw h hd hle hn=>by
  have hw:N.wt x.1+M.wt x.2<=900000:=hw;have h:(N.may d x.1&&M.may d x.2)=true:=h;have hn:(N.may d' x.1&&M.may d' x.2)=false:=hn;rw[Bool.and_eq_true]at h
  have hraw:A.may d' (N.pre x.1)=false∨B.may d' (M.pre x.2)=false->(A.and B).may d' ((N.and M).pre x)=false:=fun g=>by
   show(A.may d' (N.pre x.1)&&B.may d' (M.pre x.2))=false
   rcases g with g|g<;>rw[g]
   ·rfl
   ·exact Bool.and_false _
  cases h1:N.may d' x.1 with
  | false =>
   rcases hN.less x.1 d d' hf.1 (by omega) h.1 hd hle h1 with g|g
   ·exact .inl (hraw (.inl g))
   ·exact .inr (Fnl.and_no (.inl g))
  | true =>
   rw[h1,Bool.true_and]at hn
   rcases hM.less x.2 d d' hf.2 (by omega) h.2 hd hle hn with g|g
   ·exact .inl (hraw (.inr g))
   ·exact .inr (Fnl.and_no (.inr g))
 twice:=fun d (s:A.σ × B.σ) t (x:N.τ × M.τ) h0 hi ht h=>by
  obtain⟨t1,t2,rfl,i1,i2⟩:=hi;obtain⟨h1,h2⟩:=Fnl.and_inv h;obtain⟨a1,a2,a3⟩:=hN.twice d s.1 t1 x.1 h0 i1 (by omega) h1;obtain⟨b1,b2,b3⟩:=hM.twice d s.2 t2 x.2 h0 i2 (by omega) h2;refine⟨?_,⟨a2,b2⟩,by show N.wt x.1+M.wt x.2<=N.w0+M.w0+_;omega⟩
  show(N.may d x.1&&M.may d x.2)=true
  rw[a1,b1];rfl
def Fnl.rd {F:Fld}(N:Fnl F)(d:Int)(l:List UInt8):Except Nat (N.τ × List UInt8):=match zq F.tk (F.step d) F.z l d with
 | .error c => .error c
 | .ok p=>match N.fin d p.1 with
  | .error c => .error c
  | .ok x => .ok (x,p.2)
theorem Fnl.rd_ok {F:Fld}{N:Fnl F}{d:Int}{l u:List UInt8}{s:F.σ}{x:N.τ}(h1:zq F.tk (F.step d) F.z l d=.ok (s,u))(h2:N.fin d s=.ok x):N.rd d l=.ok (x,u):=by
 unfold Fnl.rd;rw[h1];dsimp only;rw[h2]
theorem Fnl.rd_no1 {F:Fld}{N:Fnl F}{d:Int}{l:List UInt8}{c:Nat}(h1:zq F.tk (F.step d) F.z l d=.error c):N.rd d l=.error c:=by
 unfold Fnl.rd;rw[h1]
theorem Fnl.rd_no2 {F:Fld}{N:Fnl F}{d:Int}{l u:List UInt8}{s:F.σ}{c:Nat}(h1:zq F.tk (F.step d) F.z l d=.ok (s,u))(h2:N.fin d s=.error c):N.rd d l=.error c:=by
 unfold Fnl.rd;rw[h1];dsimp only;rw[h2]
theorem Fnl.rd_inv {F:Fld}{N:Fnl F}{d:Int}{l u:List UInt8}{x:N.τ}(h:N.rd d l=.ok (x,u)):∃s,zq F.tk (F.step d) F.z l d=.ok (s,u)/\N.fin d s=.ok x:=by
 unfold Fnl.rd at h
 split at h
 ·cases h
 ·rename_i p hp
  split at h
  ·cases h
  ·rename_i y hy
   cases h
   exact⟨p.1,hp,hy⟩
theorem zbt {F:Fld}{N:Fnl F}(hF:F.Ok)(hN:N.Ok){l u:List UInt8}{x:N.τ}{d:Int}(hl:l.length<=1000000)(h:N.rd d l=.ok (x,u)):0<=d/\N.may d x=true/\zp F.tk u d=true/\N.fit x/\N.wt x+u.length<=N.w0+51*l.length:=by
 obtain⟨s,h,h9⟩:=Fnl.rd_inv h;obtain⟨h0,rs,h1,h2,h3,h4,h5⟩:=kp h;have h6:=jz F.tk rs;rw[h4,<-h2]at h6;have hi:=xa (d:=d) 1000000 (F.inv d) (hF.go d) rs F.z s 0 h3 (hF.start d) (by omega) h1;rw[Nat.zero_add]at hi;obtain⟨e1,e2,e3⟩:=hN.twice d s _ x h0 hi (by omega) h9;exact⟨h0,e1,h5,e2,by omega⟩
def Fnl.Code {F:Fld}(N:Fnl F):Prop:=∀d s c,N.fin d s=.error c->j0 c
theorem Fnl.id_code (F:Fld):(Fnl.id F).Code:=fun d (s:F.σ) c h=>by
 have h:Except.ok s=Except.error c:=h
 cases h
theorem Fnl.Code.and {A B:Fld}{N:Fnl A}{M:Fnl B}(hN:N.Code)(hM:M.Code):(N.and M).Code:=fun d (s:A.σ × B.σ) c h=>by
 have h:(match N.fin d s.1 with
  | .error c => .error c
  | .ok a=>match M.fin d s.2 with
   | .error c => .error c
   | .ok b => .ok (a,b))=Except.error c:=h
 cases h1:N.fin d s.1 with
 | error c' =>
  rw[h1]at h
  cases h
  exact hN d s.1 c h1
 | ok a =>
  rw[h1]at h;dsimp only at h
  cases h2:M.fin d s.2 with
  | error c' =>
   rw[h2]at h
   cases h
   exact hM d s.2 c h2
  | ok b=>rw[h2]at h;cases h
theorem zef {F:Fld}{N:Fnl F}(hF:F.Code)(hN:N.Code){l:List UInt8}{d:Int}{c:Nat}(h:N.rd d l=.error c):j0 c:=by
 unfold Fnl.rd at h
 split at h
 ·rename_i c' hc
  cases h
  exact Zn (fun st r c hs=>hF d st r c hs) hc
 ·rename_i p hp
  split at h
  ·rename_i c' hc
   cases h
   exact hN d _ _ hc
  ·cases h
def z0t (s:List (List UInt8))(r:Rec):Except Nat (List (List UInt8)) := .ok (s++[r.s])
def x6 (num:Nat):Fld where
 σ:=List (List UInt8)
 z:=[]
 tk r:=decide (r.num=num/\r.ty=2)
 step _ s r:=z0t s r
 out s:=s.map (rB num)
 may _ _:=true
 fit _:=True
 wt s:=s.flatten.length+s.length
 w0:=0
 inv _ s t:=s.flatten.length+s.length<=t
theorem z6r {b:List UInt8}:∀{s:List (List UInt8)},b∈s->b.length<=s.flatten.length
 | [],h=>by cases h
 | a::s,h=>by
  rw[List.flatten_cons,List.length_append]
  rcases List.mem_cons.1 h with rfl|h
  ·omega
  ·have:=z6r h;omega
theorem z4x {num:Nat}:∀(l s:List (List UInt8)),zg (x6 num).tk z0t s (l.map (rB num))=.ok (s++l)
 | [],s=>by rw[List.map_nil,zg,List.append_nil]
 | b::l,s=>by
  rw[List.map_cons,zg,if_pos (show(x6 num).tk (rB num b)=true from decide_eq_true ⟨rfl,rfl⟩)]
  show zg (x6 num).tk z0t (s++[b]) (l.map (rB num))=_
  rw[z4x l (s++[b]),List.append_assoc];rfl
theorem z5s {num:Nat}(h1:1<=num)(h2:num<=536870911):(x6 num).Ok where
 recs:=fun (s:List (List UInt8)) hf hw r hr=>by
  obtain⟨b,hb,rfl⟩:=List.mem_map.1 hr;have hw:s.flatten.length+s.length<=1000000:=hw;have:=z6r hb;exact⟨decide_eq_true ⟨rfl,rfl⟩,fun d=>Z8 h1 h2 (by omega) d⟩
 back:=fun (s:List (List UInt8)) d hf hw hd hm=>z4x s []
 less:=fun (s:List (List UInt8)) d d' hf hw hm hle hn=>by cases hn
 start:=fun d=>by show([]:List (List UInt8)).flatten.length+([]:List (List UInt8)).length<=0;simp
 go:=fun d (s:List (List UInt8)) t r (s':List (List UInt8)) hi hr hk ht hs=>by
  have hs:z0t s r=Except.ok s':=hs;obtain rfl:=Except.ok.inj hs;have hk:r.num=num/\r.ty=2:=of_decide_eq_true hk;have hi:s.flatten.length+s.length<=t:=hi;have hb:=((Ja hr).1 hk.2).2;have hv:=(zu r.s.length).1
  show(s++[r.s]).flatten.length+(s++[r.s]).length<=_
  rw[List.flatten_append,List.length_append,List.length_append,List.flatten_cons,List.flatten_nil,List.append_nil,List.length_cons,List.length_nil];omega
 ends:=fun d (s:List (List UInt8)) t hd hi ht=>⟨rfl,trivial,by have hi:s.flatten.length+s.length<=t:=hi;show s.flatten.length+s.length<=0+_;omega⟩
theorem z3g (num:Nat):(x6 num).Code:=fun d (s:List (List UInt8)) r c h=>by
 have h:z0t s r=Except.error c:=h
 cases h
def Js {α:Type}(num:Nat)(S:Sub α)(z0:α)(isz:α->Bool):Fnl (x6 num) where
 τ:=Bool × α
 fin d (s:List (List UInt8)):=if s=[]then .ok (false,z0)else match S.rd (d-1) s.flatten with
  | .error c => .error c
  | .ok x => .ok (true,x)
 pre x:=if x.1=true then [S.out x.2]else []
 may d x:=if x.1=true then decide (1<=d)&&S.may (d-1) x.2 else isz x.2
 fit x:=S.fit x.2
 wt x:=S.wt x.2
 w0:=100+S.wt z0
 c0:=1001
theorem z69 {α:Type}{num:Nat}{S:Sub α}{z0:α}{isz:α->Bool}(hS:S.Ok)(hz:∀x,isz x=true↔x=z0)(hf0:S.fit z0):(Js num S z0 isz).Ok where
 raw:=fun (x:Bool × α) hf hw=>by
  refine⟨trivial,?_⟩
  show(if x.1=true then [S.out x.2]else []).flatten.length+(if x.1=true then [S.out x.2]else []).length<=S.wt x.2+1001
  have:=hS.len x.2
  split
  ·rw[List.flatten_cons,List.flatten_nil,List.append_nil,List.length_cons,List.length_nil];omega
  ·rw[List.flatten_nil];simp
 rmay:=fun _ _ _=>rfl
 back:=fun (x:Bool × α) d hf hw hd hm=>by
  obtain⟨b,x⟩:=x;have hw:S.wt x<=900000:=hw
  cases b with
  | true =>
   have hm:(decide (1<=d)&&S.may (d-1) x)=true:=hm
   simp only[Bool.and_eq_true,decide_eq_true_eq]at hm
   have h:=hS.back x (d-1) hf (by omega) (by omega) hm.2
   show (if [S.out x]=[]then .ok (false,z0)else match S.rd (d-1) [S.out x].flatten with
    | .error c => .error c
    | .ok x => .ok (true,x))=Except.ok (true,x)
   rw[if_neg (by simp),List.flatten_cons,List.flatten_nil,List.append_nil,h]
  | false =>
   have hm:isz x=true:=hm;rw[hz]at hm;subst hm
   rfl
 less:=fun (x:Bool × α) d d' hf hw hm hd hle hn=>by
  obtain⟨b,x⟩:=x;have hw:S.wt x<=900000:=hw
  cases b with
  | true =>
   have hm:(decide (1<=d)&&S.may (d-1) x)=true:=hm;have hn:(decide (1<=d')&&S.may (d' - 1) x)=false:=hn
   simp only[Bool.and_eq_true,decide_eq_true_eq]at hm
   refine .inr ?_
   obtain ⟨c,hc⟩:=hS.less x (d-1) (d' - 1) hf (by omega) (by omega) hm.2 (by omega) (by
    by_cases h:1<=d'
    ·rw[decide_eq_true h,Bool.true_and]at hn;exact .inr hn
    ·exact .inl (by omega))
   refine⟨c,?_⟩
   show (if [S.out x]=[]then .ok (false,z0)else match S.rd (d' - 1) [S.out x].flatten with
    | .error c => .error c
    | .ok x => .ok (true,x))=Except.error c
   rw[if_neg (by simp),List.flatten_cons,List.flatten_nil,List.append_nil,hc]
  | false =>
   have hm:isz x=true:=hm;have hn:isz x=false:=hn;rw[hm]at hn
   cases hn
 twice:=fun d (s:List (List UInt8)) t (x:Bool × α) h0 hi ht h=>by
  have hi:s.flatten.length+s.length<=t:=hi
  have h:(if s=[]then .ok (false,z0)else match S.rd (d-1) s.flatten with
   | .error c => .error c
   | .ok x => .ok (true,x))=Except.ok x:=h
  split at h
  ·obtain rfl:=Except.ok.inj h
   exact⟨(hz z0).2 rfl,hf0,by show S.wt z0<=100+S.wt z0+_;omega⟩
  ·split at h
   ·cases h
   ·rename_i y hy
    obtain rfl:=Except.ok.inj h;obtain⟨g1,g2,g3,g4⟩:=hS.twice s.flatten y (d-1) (by omega) hy;refine⟨?_,g3,by show S.wt y<=100+S.wt z0+_;omega⟩
    show(decide (1<=d)&&S.may (d-1) y)=true
    rw[g2,decide_eq_true (by omega)];rfl
theorem z3f {α:Type}{num:Nat}{S:Sub α}{z0:α}{isz:α->Bool}(hS:∀d t c,S.rd d t=.error c->j0 c):(Js num S z0 isz).Code:=fun d (s:List (List UInt8)) c h=>by
 have h:(if s=[]then .ok (false,z0)else match S.rd (d-1) s.flatten with
  | .error c => .error c
  | .ok x => .ok (true,x))=(Except.error c:Except Nat (Bool × α)):=h
 split at h
 ·cases h
 ·split at h
  ·rename_i c' hc
   cases h
   exact hS _ _ _ hc
  ·cases h
def zigF (num:Nat):Fld where
 σ:=Int
 z:=0
 tk r:=decide (r.num=num/\r.ty=0)
 step _ _ r := .ok (zag (r.n%2^32))
 out s:=if s=0 then []else [rN num (zig s).toNat]
 may _ _:=true
 fit s := -2147483648<=s/\s<=2147483647
 wt _:=0
 w0:=0
 inv _ s _ := -2147483648<=s/\s<=2147483647
theorem zah {n:Nat}(h:n<4294967296) : -2147483648<=zag n/\zag n<=2147483647:=by
 unfold zag
 split<;>omega
theorem z4v {n:Int}(h1:-2147483648<=n)(h2:n<=2147483647):(zig n).toNat<4294967296/\zag ((zig n).toNat%2^32)=n:=by
 refine⟨?_,?_⟩<;>unfold zig<;>(try unfold zag)<;>split<;>(try split)<;>omega
theorem z9t {num:Nat}(h1:1<=num)(h2:num<=536870911):(zigF num).Ok where
 recs:=fun (s:Int) hf hw r hr=>by
  have hr:r∈(if s=0 then []else [rN num (zig s).toNat]):=hr;have hf : -2147483648<=s/\s<=2147483647:=hf;have hz:=(z4v hf.1 hf.2).1
  split at hr
  ·cases hr
  ·rw[List.mem_singleton.1 hr]
   exact⟨decide_eq_true ⟨rfl,rfl⟩,fun d=>z0z h1 h2 (by omega) d⟩
 back:=fun (s:Int) d hf hw hd hm=>by
  have hf : -2147483648<=s/\s<=2147483647:=hf
  show zg (σ:=Int) (zigF num).tk ((zigF num).step d) (0:Int) (if s=0 then []else [rN num (zig s).toNat])=.ok s
  split
  ·rename_i h;rw[h];rfl
  ·refine Zh (decide_eq_true ⟨rfl,rfl⟩) ?_
   show Except.ok (zag ((zig s).toNat%2^32))=_
   rw[(z4v hf.1 hf.2).2]
 less:=fun (s:Int) d d' hf hw hm hle hn=>by cases hn
 start:=fun d=>by show -2147483648<=(0:Int)/\(0:Int)<=2147483647;omega
 go:=fun d (s:Int) t r (s':Int) hi hr hk ht hs=>by
  have hs:Except.ok (zag (r.n%2^32))=Except.ok s':=hs;obtain rfl:=Except.ok.inj hs;exact zah (by omega)
 ends:=fun d (s:Int) t hd hi ht=>⟨rfl,hi,by show 0<=_;omega⟩
theorem zc7 (num:Nat):(zigF num).Code:=fun d s r c h=>by
 have h:Except.ok (zag (r.n%2^32))=Except.error c:=h
 cases h
end Go.Proofs.YtmlghmjjlpioeaaGreatDoor
