/-
  Attributes: what is written is read again.
-/
import Derived.Test.YtmlghmjjlpioeaaGreatDoorValOut
namespace Go.Proofs.YtmlghmjjlpioeaaGreatDoor
open Go.RowKit
open Lib (hid)
theorem z19 {num n:Nat}(h1:1<=num)(h2:num<=536870911)(hn:n<2^64)(d:Int):zt d (rF num n):=Xj (zbg h1 h2 hn) d
theorem Ky {σ:Type}{tk:Rec->Bool}{step:σ->Rec->Except Nat σ}{st:σ}{rs:List Rec}{u:List UInt8}{d:Int}{c:Nat}(hd:0<=d)(h:∀r∈rs,∀d,zt d r)(hf:zg tk step st rs=.error c) :
  ∃c,zq tk step st (rs.flatMap Rec.raw++u) d=.error c:=by
 have h1:=X6 rs d (fun r hr=>h r hr d);unfold zq;rw[if_neg (by omega),J3 _ u (Nat.le_refl _) h1]
 cases wall u d with
 | error c2=>exact⟨c2,rfl⟩
 | ok us =>
  dsimp only;rw[yr,hf];exact⟨c,rfl⟩
section
variable {α:Type} {rd:List UInt8->Int->Except Nat α} {out:α->List UInt8}
theorem z24 {d:Int}:∀(l xs:List α),(∀x∈l,rd (out x) d=.ok x)->zg itk (yc rd d) xs (l.map fun x=>rB 1 (out x))=.ok (xs++l)
 | [],xs,_=>by simp[zg]
 | x::l,xs,h=>by
  rw[List.map_cons,zg];have h1:=h x (List.mem_cons_self ..);have ht:itk (rB 1 (out x))=true:=rfl;rw[if_pos ht];unfold yc;rw[show(rB 1 (out x)).s=out x from rfl,h1];dsimp only;have:=z24 l (xs++[x]) (fun y hy=>h y (List.mem_cons_of_mem _ hy));unfold yc at this
  rw[this,List.append_assoc]
  rfl
theorem z6s {d:Int}:∀(l xs:List α),(∀x∈l,rd (out x) d=.ok x∨∃c,rd (out x) d=.error c)->(∃x∈l,∃c,rd (out x) d=.error c)->∃c,zg itk (yc rd d) xs (l.map fun x=>rB 1 (out x))=.error c
 | [],xs,_,h=>by obtain⟨x,hx,_⟩:=h;cases hx
 | x::l,xs,h,he=>by
  rw[List.map_cons,zg];have ht:itk (rB 1 (out x))=true:=rfl;rw[if_pos ht]
  rcases h x (List.mem_cons_self ..)with h1|⟨c,h1⟩
  ·have hl:yc rd d xs (rB 1 (out x))=.ok (xs++[x]):=by unfold yc;rw[show(rB 1 (out x)).s=out x from rfl,h1]
   rw[hl];refine z6s l _ (fun y hy=>h y (List.mem_cons_of_mem _ hy)) ?_;obtain⟨y,hy,c,hc⟩:=he
   rcases List.mem_cons.1 hy with rfl|hy
   ·rw[h1]at hc;cases hc
   ·exact⟨y,hy,c,hc⟩
  ·have hl:yc rd d xs (rB 1 (out x))=.error c:=by unfold yc;rw[show(rB 1 (out x)).s=out x from rfl,h1]
   rw[hl];exact⟨c,rfl⟩
theorem z0d {l:List α}(hs:∀x∈l,(out x).length<2^64):∀r∈(l.map fun x=>rB 1 (out x)),∀d,zt d r:=fun r hr d=>by
 obtain⟨x,hx,rfl⟩:=List.mem_map.1 hr;exact Z8 (by omega) (by omega) (hs x hx) d
theorem z5e (l:List α):((l.map fun x=>rB 1 (out x)).all fun r=>itk r)=true:=by
 rw[List.all_eq_true];intro r hr;obtain⟨x,hx,rfl⟩:=List.mem_map.1 hr
 rfl
theorem z7s {l:List α}{i:List UInt8}{d:Int}(hd:0<=d)(h:∀x∈l,rd (out x) (d-1)=.ok x)(hs:∀x∈l,(out x).length<2^64)(hi:zp itk i d=true):yf rd ((l.map fun x=>rB 1 (out x)).flatMap Rec.raw++i) d=.ok (l,i):=by
 unfold yf;have hf:=z24 (rd:=rd) (out:=out) (d:=d-1) l [] h;rw[List.nil_append]at hf;exact jl hd (z0d hs) hf (z5e l) hi
theorem z7v {l:List α}{i:List UInt8}{d d':Int}(hle:d'<=d)(h:∀x∈l,rd (out x) (d' - 1)=.ok x∨∃c,rd (out x) (d' - 1)=.error c)(hs:∀x∈l,(out x).length<2^64)(hi:zp itk i d=true)(hn:d' < 0∨zp itk i d'=false∨∃x∈l,∃c,rd (out x) (d' - 1)=.error c):∃c,yf rd ((l.map fun x=>rB 1 (out x)).flatMap Rec.raw++i) d'=.error c:=by
 unfold yf
 by_cases h0:d' < 0
 ·exact⟨6,by unfold zq;rw[if_pos h0]⟩
 by_cases he:∃x∈l,∃c,rd (out x) (d' - 1)=.error c
 ·obtain⟨c,hc⟩:=z6s l [] h he
  exact Ky (by omega) (z0d hs) hc
 ·have hok:∀x∈l,rd (out x) (d' - 1)=.ok x:=fun x hx=>by
   rcases h x hx with h1|⟨c,h1⟩
   ·exact h1
   ·exact absurd ⟨x,hx,c,h1⟩ he
  have hf:=z24 (rd:=rd) (out:=out) (d:=d' - 1) l [] hok;rw[List.nil_append]at hf;refine kh (z0d hs) hf (z5e l) hi hle ?_
  rcases hn with hn|hn|hn
  ·exact .inl hn
  ·exact .inr hn
  ·exact absurd hn he
end
theorem z3p (l:List Val):y3 1 l=(l.map fun x=>rB 1 (vout x)).flatMap Rec.raw:=by
 induction l with
 | nil=>rw[y3];rfl
 | cons x l ih=>rw[y3,ih,List.map_cons,List.flatMap_cons]
theorem z39 (l:List KV):zx 1 l=(l.map fun x=>rB 1 (kout x)).flatMap Rec.raw:=by
 induction l with
 | nil=>rw[zx];rfl
 | cons x l ih=>rw[zx,ih,List.map_cons,List.flatMap_cons]
theorem jv {f:Nat}{r:Rec}{u:List UInt8}{d:Int}(hd:0<=d)(hr:∀d,zt d r)(hk:vtk r=true)(ho:r.num=1->xb r.s=true)(hu:zp vtk u d=true):zn (f+1) (r.raw++u) d=zz (zn f) (zm f) (oput one0 r) (d-1) u:=by
 rw[zn]
 have hf:zg vtk yw one0 [r]=.ok (oput one0 r):=by
  rw[zg,if_pos hk]
  have:yw one0 r=.ok (oput one0 r):=by
   unfold yw;rw[if_neg (fun h=>by rw[ho h.1]at h;cases h.2)]
  rw[this]
  rfl
 have:=jl (rs:=[r]) (u:=u) hd (fun x hx=>by rw[List.mem_singleton.1 hx];exact hr) hf (by simp[hk]) hu;rw[List.flatMap_singleton]at this;rw[this]
theorem zb9 {f:Nat}{u:List UInt8}{d:Int}(hd:0<=d)(hu:zp vtk u d=true):zn (f+1) u d=zz (zn f) (zm f) one0 (d-1) u:=by
 rw[zn];have:=jl (tk:=vtk) (step:=yw) (st:=one0) (st':=one0) (rs:=[]) (u:=u) hd (fun x hx=>by cases hx) rfl rfl hu;rw[List.flatMap_nil,List.nil_append]at this;rw[this]
theorem z96 {l:List Val}{x:Val}(h:x∈l):vw x<=vsw l:=by
 induction l with
 | nil=>cases h
 | cons y l ih =>
  rw[vsw]
  rcases List.mem_cons.1 h with rfl|h
  ·omega
  ·have:=ih h;omega
theorem z98 {l:List KV}{x:KV}(h:x∈l):kw x<=ksw l:=by
 induction l with
 | nil=>cases h
 | cons y l ih =>
  rw[ksw]
  rcases List.mem_cons.1 h with rfl|h
  ·omega
  ·have:=ih h;omega
theorem zaj {v:Val}(h:vnone v=true):v=Val.zero:=by
 cases v with|mk k s b n l m i u =>
 rw[vnone]at h;unfold vpl at h
 simp only[Bool.and_eq_true,Bool.or_eq_true,decide_eq_true_eq,Bool.not_eq_true',List.isEmpty_iff]at h
 obtain⟨⟨hk,hu⟩,⟨⟨⟨⟨⟨_,hS⟩,hB⟩,hN⟩,hL⟩,hM⟩,hI⟩:=h;have e1:s=[]:=by rcases hS with h|h;omega;exact h
 have e2:b=false:=by rcases hB with h|h;omega;exact h
 have e3:n=0:=by rcases hN with h|h;omega;exact h
 have e4:l=[]:=by rcases hL with h|h;omega;exact List.eq_nil_of_length_eq_zero h
 have e5:m=[]:=by rcases hM with h|h;omega;exact List.eq_nil_of_length_eq_zero h
 have e6:i=[]:=by rcases hI with h|h;omega;exact h
 subst hk hu e1 e2 e3 e4 e5 e6
 rfl
def Yl (key:List UInt8)(has:Bool)(t:List UInt8):List Rec:=(if key=[]then []else [rB 1 key])++(if has then [rB 2 t]else [])
theorem z0n (key:List UInt8)(has:Bool)(t:List UInt8):(Yl key has t).flatMap Rec.raw=krec key++(if has then(rB 2 t).raw else []):=by
 unfold Yl krec;rw[List.flatMap_append]
 congr 1
 ·split<;>simp
 ·cases has<;>simp
theorem z29 {key:List UInt8}{has:Bool}{t:List UInt8}(h1:key.length<2^64)(h2:t.length<2^64):∀r∈Yl key has t,∀d,zt d r:=fun r hr d=>by
 unfold Yl at hr
 rcases List.mem_append.1 hr with h|h
 ·split at h
  ·cases h
  ·rw[List.mem_singleton.1 h];exact Z8 (by omega) (by omega) h1 d
 ·cases has with
  | false=>cases h
  | true=>rw[List.mem_singleton.1 h];exact Z8 (by omega) (by omega) h2 d
theorem z00 (key:List UInt8)(has:Bool)(t:List UInt8):((Yl key has t).all fun r=>ktk r)=true:=by
 rw[List.all_eq_true];intro r hr;unfold Yl at hr
 rcases List.mem_append.1 hr with h|h
 ·split at h
  ·cases h
  ·rw[List.mem_singleton.1 h];rfl
 ·cases has with
  | false=>cases h
  | true=>rw[List.mem_singleton.1 h];rfl
theorem K1 {key:List UInt8}{has:Bool}{t:List UInt8}(hk:xb key=true):zg ktk yl ([],[]) (Yl key has t)=.ok (key,if has then [t]else []):=by
 have h2:∀k:List UInt8,zg ktk yl (k,[]) (if has=true then [rB 2 t]else [])=.ok (k,if has then [t]else []):=fun k=>by
  cases has with
  | false=>rfl
  | true=>rfl
 unfold Yl;rw[yr]
 by_cases h:key=[]
 ·rw[if_pos h,zg]
  dsimp only;rw[h2,h]
 ·rw[if_neg h,zg,if_pos (show ktk (rB 1 key)=true from rfl)]
  have e:yl ([],[]) (rB 1 key)=.ok (key,[]):=by
   unfold yl;rw[if_pos (show(rB 1 key).num=1 from rfl),if_pos (show xb (rB 1 key).s=true from hk)]
   rfl
  rw[e];dsimp only;rw[zg];dsimp only;exact h2 key
theorem stands5 {f:Nat}{o:One}{d:Int}{u:List UInt8}(h:o.r.num=5){xs:List Val}{i:List UInt8}(hr:yf (zn f) o.ps.flatten d=.ok (xs,i)):zz (zn f) (zm f) o d u=.ok (.mk 5 [] false 0 xs [] i u):=by
 unfold zz;rw[if_neg (by omega),if_neg (by omega),if_neg (by omega),if_pos h,hr,h]
 rfl
theorem stands6 {f:Nat}{o:One}{d:Int}{u:List UInt8}(h:o.r.num=6){xs:List KV}{i:List UInt8}(hr:yf (zm f) o.ps.flatten d=.ok (xs,i)):zz (zn f) (zm f) o d u=.ok (.mk 6 [] false 0 [] xs i u):=by
 unfold zz;rw[if_neg (by omega),if_neg (by omega),if_neg (by omega),if_neg (by omega),if_pos h,hr,h]
 rfl
theorem zb4 {f c:Nat}{o:One}{d:Int}{u:List UInt8}(h:o.r.num=5)(hr:yf (zn f) o.ps.flatten d=.error c):zz (zn f) (zm f) o d u=.error c:=by
 unfold zz;rw[if_neg (by omega),if_neg (by omega),if_neg (by omega),if_pos h,hr]
theorem za8 {f c:Nat}{o:One}{d:Int}{u:List UInt8}(h:o.r.num=6)(hr:yf (zm f) o.ps.flatten d=.error c):zz (zn f) (zm f) o d u=.error c:=by
 unfold zz;rw[if_neg (by omega),if_neg (by omega),if_neg (by omega),if_neg (by omega),if_pos h,hr]
mutual
theorem vback:∀(x:Val) (d:Int) (f:Nat),vfit x->vw x<=1000000->vmay x d=true->0<=d->(vout x).length<f->zn f (vout x) d=.ok x
 | .mk k s b n l m i u,d,f,hfit,hw,hm,hd,hf=>by
  cases f with
  | zero=>omega
  | succ f =>
  rw[vfit]at hfit;obtain⟨_,hn,hs,hi,_,hfl,hfm⟩:=hfit;rw[vw]at hw;rw[vmay]at hm
  simp only[Bool.and_eq_true,Bool.or_eq_true,decide_eq_true_eq,Bool.not_eq_true',decide_eq_false_iff_not]at hm
  obtain⟨⟨⟨hp,ht⟩,hlm⟩,hu⟩:=hm;unfold vpl at hp
  simp only[Bool.and_eq_true,Bool.or_eq_true,decide_eq_true_eq,Bool.not_eq_true',List.isEmpty_iff]at hp
  obtain⟨⟨⟨⟨⟨⟨hk,hS⟩,hB⟩,hN⟩,hL⟩,hM⟩,hI⟩:=hp;have hbool:∀q:Nat,(!decide (q=0))=true∨(!decide (q=0))=false:=fun q=>by cases (!decide (q=0))<;>simp
  rw[vout]at hf ⊢
  rcases(by omega:k=0∨k=1∨k=2∨k=3∨k=4∨k=5∨k=6∨k=7)with rfl|rfl|rfl|rfl|rfl|rfl|rfl|rfl
  ·have e1:s=[]:=by rcases hS with h|h;omega;exact h
   have e2:b=false:=by rcases hB with h|h;omega;exact h
   have e3:n=0:=by rcases hN with h|h;omega;exact h
   have e4:l=[]:=by rcases hL with h|h;omega;exact List.eq_nil_of_length_eq_zero h
   have e5:m=[]:=by rcases hM with h|h;omega;exact List.eq_nil_of_length_eq_zero h
   have e6:i=[]:=by rcases hI with h|h;omega;exact h
   subst e1 e2 e3 e4 e5 e6;rw[show vrec 0 [] false 0 (y3 1 []) (zx 1 []) []=[]by simp[vrec],List.nil_append,zb9 hd hu]
   rfl
  ·have e2:b=false:=by rcases hB with h|h;omega;exact h
   have e3:n=0:=by rcases hN with h|h;omega;exact h
   have e4:l=[]:=by rcases hL with h|h;omega;exact List.eq_nil_of_length_eq_zero h
   have e5:m=[]:=by rcases hM with h|h;omega;exact List.eq_nil_of_length_eq_zero h
   have e6:i=[]:=by rcases hI with h|h;omega;exact h
   subst e2 e3 e4 e5 e6;rw[show vrec 1 s false 0 (y3 1 []) (zx 1 []) []=(rB 1 s).raw by simp[vrec],jv hd (fun d=>Z8 (by omega) (by omega) (by omega) d) rfl (fun _=>by rcases ht with h|h;exact absurd rfl h;exact h) hu]
   rfl
  ·have e1:s=[]:=by rcases hS with h|h;omega;exact h
   have e3:n=0:=by rcases hN with h|h;omega;exact h
   have e4:l=[]:=by rcases hL with h|h;omega;exact List.eq_nil_of_length_eq_zero h
   have e5:m=[]:=by rcases hM with h|h;omega;exact List.eq_nil_of_length_eq_zero h
   have e6:i=[]:=by rcases hI with h|h;omega;exact h
   subst e1 e3 e4 e5 e6;rw[show vrec 2 [] b 0 (y3 1 []) (zx 1 []) []=(rN 2 (if b then 1 else 0)).raw by simp[vrec],jv hd (fun d=>z0z (by omega) (by omega) (by cases b<;>simp) d) rfl (fun h=>by cases h) hu]
   cases b<;>rfl
  ·have e1:s=[]:=by rcases hS with h|h;omega;exact h
   have e2:b=false:=by rcases hB with h|h;omega;exact h
   have e4:l=[]:=by rcases hL with h|h;omega;exact List.eq_nil_of_length_eq_zero h
   have e5:m=[]:=by rcases hM with h|h;omega;exact List.eq_nil_of_length_eq_zero h
   have e6:i=[]:=by rcases hI with h|h;omega;exact h
   subst e1 e2 e4 e5 e6;rw[show vrec 3 [] false n (y3 1 []) (zx 1 []) []=(rN 3 n).raw by simp[vrec],jv hd (fun d=>z0z (by omega) (by omega) (by omega) d) rfl (fun h=>by cases h) hu]
   rfl
  ·have e1:s=[]:=by rcases hS with h|h;omega;exact h
   have e2:b=false:=by rcases hB with h|h;omega;exact h
   have e4:l=[]:=by rcases hL with h|h;omega;exact List.eq_nil_of_length_eq_zero h
   have e5:m=[]:=by rcases hM with h|h;omega;exact List.eq_nil_of_length_eq_zero h
   have e6:i=[]:=by rcases hI with h|h;omega;exact h
   subst e1 e2 e4 e5 e6;rw[show vrec 4 [] false n (y3 1 []) (zx 1 []) []=(rF 4 n).raw by simp[vrec],jv hd (fun d=>z19 (by omega) (by omega) (by omega) d) rfl (fun h=>by cases h) hu]
   rfl
  ·have e1:s=[]:=by rcases hS with h|h;omega;exact h
   have e2:b=false:=by rcases hB with h|h;omega;exact h
   have e3:n=0:=by rcases hN with h|h;omega;exact h
   have e5:m=[]:=by rcases hM with h|h;omega;exact List.eq_nil_of_length_eq_zero h
   subst e1 e2 e3 e5;have hl:=Kn 1 (by omega) l;have e0:vrec 5 [] false 0 (y3 1 l) (zx 1 []) i=(rB 5 (y3 1 l++i)).raw:=by simp[vrec]
   rw[e0]at hf ⊢
   have hlen:(y3 1 l++i).length<f:=by
    rw[List.length_append]at hf
    have:(rB 5 (y3 1 l++i)).raw.length=(vput (8*5+2)).length+((vput (y3 1 l++i).length).length+(y3 1 l++i).length):=by
     show(vput (8*5+2)++(vput (y3 1 l++i).length++(y3 1 l++i))).length=_
     rw[List.length_append,List.length_append]
    have h9:=(zu (8*5+2)).1;omega
   rw[jv hd (fun d=>Z8 (by omega) (by omega) (by rw[List.length_append];omega) d) rfl (fun h=>by cases h) hu]
   have hlm2:1<=d/\(qt l (d-1)=true/\xk [] (d-1)=true)/\zp itk i (d-1)=true:=by
    rcases hlm with h|h
    ·exact absurd (.inl rfl) h
    ·exact h
   have hrd:=z7s (rd:=zn f) (out:=vout) (l:=l) (i:=i) (d:=d-1) (by omega) (zcf l (d-1) f hfl (by omega) hlm2.2.1.1 (by rw[List.length_append]at hlen;omega)) (fun x hx=>by
    have:=z96 hx;have:=Xw x;have:=Jx x;omega) hlm2.2.2
   rw[<-z3p]at hrd;exact stands5 (o:=oput one0 (rB 5 (y3 1 l++i))) rfl (by rw[show(oput one0 (rB 5 (y3 1 l++i))).ps.flatten=y3 1 l++i by simp[oput,one0,rB]];exact hrd)
  ·have e1:s=[]:=by rcases hS with h|h;omega;exact h
   have e2:b=false:=by rcases hB with h|h;omega;exact h
   have e3:n=0:=by rcases hN with h|h;omega;exact h
   have e4:l=[]:=by rcases hL with h|h;omega;exact List.eq_nil_of_length_eq_zero h
   subst e1 e2 e3 e4;have hl:=Q0 1 (by omega) m;have e0:vrec 6 [] false 0 (y3 1 []) (zx 1 m) i=(rB 6 (zx 1 m++i)).raw:=by simp[vrec]
   rw[e0]at hf ⊢
   have hlen:(zx 1 m++i).length<f:=by
    rw[List.length_append]at hf
    have:(rB 6 (zx 1 m++i)).raw.length=(vput (8*6+2)).length+((vput (zx 1 m++i).length).length+(zx 1 m++i).length):=by
     show(vput (8*6+2)++(vput (zx 1 m++i).length++(zx 1 m++i))).length=_
     rw[List.length_append,List.length_append]
    have h9:=(zu (8*6+2)).1;omega
   rw[jv hd (fun d=>Z8 (by omega) (by omega) (by rw[List.length_append];omega) d) rfl (fun h=>by cases h) hu]
   have hlm2:1<=d/\(qt [] (d-1)=true/\xk m (d-1)=true)/\zp itk i (d-1)=true:=by
    rcases hlm with h|h
    ·exact absurd (.inr rfl) h
    ·exact h
   have hrd:=z7s (rd:=zm f) (out:=kout) (l:=m) (i:=i) (d:=d-1) (by omega) (zba m (d-1) f hfm (by omega) hlm2.2.1.2 (by rw[List.length_append]at hlen;omega)) (fun x hx=>by
    have:=z98 hx;have:=Xv x;have:=Kc x;omega) hlm2.2.2
   rw[<-z39]at hrd;exact stands6 (o:=oput one0 (rB 6 (zx 1 m++i))) rfl (by rw[show(oput one0 (rB 6 (zx 1 m++i))).ps.flatten=zx 1 m++i by simp[oput,one0,rB]];exact hrd)
  ·have e2:b=false:=by rcases hB with h|h;omega;exact h
   have e3:n=0:=by rcases hN with h|h;omega;exact h
   have e4:l=[]:=by rcases hL with h|h;omega;exact List.eq_nil_of_length_eq_zero h
   have e5:m=[]:=by rcases hM with h|h;omega;exact List.eq_nil_of_length_eq_zero h
   have e6:i=[]:=by rcases hI with h|h;omega;exact h
   subst e2 e3 e4 e5 e6;rw[show vrec 7 s false 0 (y3 1 []) (zx 1 []) []=(rB 7 s).raw by simp[vrec],jv hd (fun d=>Z8 (by omega) (by omega) (by omega) d) rfl (fun h=>by cases h) hu]
   rfl
theorem kback:∀(x:KV) (d:Int) (f:Nat),kfit x->kw x<=1000000->kmay x d=true->0<=d->(kout x).length<f->zm f (kout x) d=.ok x
 | .mk key has v u,d,f,hfit,hw,hm,hd,hf=>by
  cases f with
  | zero=>omega
  | succ f =>
  rw[kfit]at hfit;obtain⟨hs,_,hfv⟩:=hfit;rw[kw]at hw;rw[kmay]at hm
  simp only[Bool.and_eq_true]at hm
  obtain⟨⟨hk,hv⟩,hu⟩:=hm;rw[kout]at hf ⊢;have hvl:=Xw v;have hvb:=Jx v;have hrd:=jl (tk:=ktk) (step:=yl) (st:=([],[])) (rs:=Yl key has (vout v)) (u:=u) hd (z29 (by omega) (by omega)) (K1 hk) (z00 _ _ _) hu;rw[z0n]at hrd;rw[zm,hrd]
  cases has with
  | false =>
   simp only[Bool.false_eq_true,if_false]at hv
   rw[zaj hv]
   rfl
  | true =>
   simp only[if_true,Bool.and_eq_true,decide_eq_true_eq]at hv
   have hlen:(vout v).length<f:=by
    rw[List.length_append,List.length_append,if_pos rfl]at hf
    have:(rB 2 (vout v)).raw.length=(vput (8*2+2)).length+((vput (vout v).length).length+(vout v).length):=by
     show(vput (8*2+2)++(vput (vout v).length++vout v)).length=_
     rw[List.length_append,List.length_append]
    have h9:=(zu (8*2+2)).1;omega
   have hb:=vback v (d-1) f hfv (by omega) hv.2 (by omega) hlen
   simp only[if_true]
   rw[if_neg (by simp),show [vout v].flatten=vout v by simp,hb]
theorem zcf:∀(l:List Val) (d:Int) (f:Nat),Z7 l->vsw l<=1000000->qt l d=true->(y3 1 l).length<f->∀x∈l,zn f (vout x) (d-1)=.ok x
 | [],_,_,_,_,_,_=>fun x hx=>by cases hx
 | y::l,d,f,hfit,hw,hm,hf=>fun x hx=>by
  rw[Z7]at hfit;rw[vsw]at hw;rw[qt]at hm
  simp only[Bool.and_eq_true,decide_eq_true_eq]at hm
  rw[y3,List.length_append]at hf
  have hy:zn f (vout y) (d-1)=.ok y:=vback y (d-1) f hfit.1 (by omega) hm.1.2 (by omega) (by
   have:(rB 1 (vout y)).raw.length=(vput (8*1+2)).length+((vput (vout y).length).length+(vout y).length):=by
    show(vput (8*1+2)++(vput (vout y).length++vout y)).length=_
    rw[List.length_append,List.length_append]
   omega)
  have hl:=zcf l d f hfit.2 (by omega) hm.2 (by omega)
  rcases List.mem_cons.1 hx with rfl|h
  ·exact hy
  ·exact hl x h
theorem zba:∀(l:List KV) (d:Int) (f:Nat),qs l->ksw l<=1000000->xk l d=true->(zx 1 l).length<f->∀x∈l,zm f (kout x) (d-1)=.ok x
 | [],_,_,_,_,_,_=>fun x hx=>by cases hx
 | y::l,d,f,hfit,hw,hm,hf=>fun x hx=>by
  rw[qs]at hfit;rw[ksw]at hw;rw[xk]at hm
  simp only[Bool.and_eq_true,decide_eq_true_eq]at hm
  rw[zx,List.length_append]at hf
  have hy:zm f (kout y) (d-1)=.ok y:=kback y (d-1) f hfit.1 (by omega) hm.1.2 (by omega) (by
   have:(rB 1 (kout y)).raw.length=(vput (8*1+2)).length+((vput (kout y).length).length+(kout y).length):=by
    show(vput (8*1+2)++(vput (kout y).length++kout y)).length=_
    rw[List.length_append,List.length_append]
   omega)
  have hl:=zba l d f hfit.2 (by omega) hm.2 (by omega)
  rcases List.mem_cons.1 hx with rfl|h
  ·exact hy
  ·exact hl x h
end
theorem ji {f:Nat}{r:Rec}{u:List UInt8}{d d':Int}(hr:∀d,zt d r)(hk:vtk r=true)(ho:r.num=1->xb r.s=true)(hu:zp vtk u d=true)(hle:d'<=d)(hn:d' < 0∨zp vtk u d'=false):∃c,zn (f+1) (r.raw++u) d'=.error c:=by
 have hf:zg vtk yw one0 [r]=.ok (oput one0 r):=by
  rw[zg,if_pos hk]
  have:yw one0 r=.ok (oput one0 r):=by
   unfold yw;rw[if_neg (fun h=>by rw[ho h.1]at h;cases h.2)]
  rw[this]
  rfl
 obtain⟨c,h⟩:=kh (rs:=[r]) (u:=u) (fun x hx=>by rw[List.mem_singleton.1 hx];exact hr) hf (by simp[hk]) hu hle hn;rw[List.flatMap_singleton]at h;exact⟨c,by rw[zn,h]⟩
theorem z5l {f:Nat}{u:List UInt8}{d d':Int}(hu:zp vtk u d=true)(hle:d'<=d)(hn:d' < 0∨zp vtk u d'=false):∃c,zn (f+1) u d'=.error c:=by
 obtain⟨c,h⟩:=kh (tk:=vtk) (step:=yw) (st:=one0) (st':=one0) (rs:=[]) (u:=u) (fun x hx=>by cases hx) rfl rfl hu hle hn;rw[List.flatMap_nil,List.nil_append]at h;exact⟨c,by rw[zn,h]⟩
theorem zez {l:List Val}{d:Int}(h:qt l (d-1)=false):∃x∈l,Yd x (d-2)=false:=by
 rw[z58]at h;obtain⟨x,hx,h2⟩:=List.all_eq_false.1 h;exact⟨x,hx,by simpa using h2⟩
theorem zeq {l:List KV}{d:Int}(h:xk l (d-1)=false):∃x∈l,X3 x (d-2)=false:=by
 rw[z54]at h;obtain⟨x,hx,h2⟩:=List.all_eq_false.1 h;exact⟨x,hx,by simpa using h2⟩
mutual
theorem z73:∀(x:Val) (d d':Int) (f:Nat),vfit x->vw x<=1000000->vmay x d=true->d'<=d->Yd x d'=false->(vout x).length<f->∃c,zn f (vout x) d'=.error c
 | .mk k s b n l m i u,d,d',f,hfit,hw,hm,hle,hno,hf=>by
  cases f with
  | zero=>omega
  | succ f =>
  rw[vfit]at hfit;obtain⟨_,hn,hs,hi,_,hfl,hfm⟩:=hfit;rw[vw]at hw;rw[Yd,vmay]at hno;rw[vmay]at hm
  simp only[Bool.and_eq_true]at hm
  obtain⟨⟨⟨hp0,ht0⟩,hlm⟩,hu⟩:=hm;rw[hp0,ht0]at hno;have hp:=hp0;have ht:=ht0
  simp only[Bool.or_eq_true,Bool.not_eq_true',decide_eq_false_iff_not]at ht
  unfold vpl at hp
  simp only[Bool.and_eq_true,Bool.or_eq_true,decide_eq_true_eq,Bool.not_eq_true',List.isEmpty_iff]at hp
  obtain⟨⟨⟨⟨⟨⟨hk,hS⟩,hB⟩,hN⟩,hL⟩,hM⟩,hI⟩:=hp;rw[vout]at hf ⊢
  have hplain:¬(k=5∨k=6)->d' < 0∨zp vtk u d'=false:=fun h=>by
   rw[decide_eq_false h]at hno
   by_cases h0:d' < 0
   ·exact .inl h0
   ·rw[decide_eq_true (by omega)]at hno
    exact .inr (by simpa using hno)
  rcases(by omega:k=0∨k=1∨k=2∨k=3∨k=4∨k=5∨k=6∨k=7)with rfl|rfl|rfl|rfl|rfl|rfl|rfl|rfl
  ·rw[show vrec 0 s b n (y3 1 l) (zx 1 m) i=[]by simp[vrec],List.nil_append]
   exact z5l hu hle (hplain (by omega))
  ·rw[show vrec 1 s b n (y3 1 l) (zx 1 m) i=(rB 1 s).raw by simp[vrec]]
   exact ji (fun d=>Z8 (by omega) (by omega) (by omega) d) rfl (fun _=>by rcases ht with h|h;exact absurd rfl h;exact h) hu hle (hplain (by omega))
  ·rw[show vrec 2 s b n (y3 1 l) (zx 1 m) i=(rN 2 (if b then 1 else n)).raw by simp[vrec]]
   exact ji (fun d=>z0z (by omega) (by omega) (by cases b<;>simp<;>omega) d) rfl (fun h=>by cases h) hu hle (hplain (by omega))
  ·rw[show vrec 3 s b n (y3 1 l) (zx 1 m) i=(rN 3 n).raw by simp[vrec]]
   exact ji (fun d=>z0z (by omega) (by omega) (by omega) d) rfl (fun h=>by cases h) hu hle (hplain (by omega))
  ·rw[show vrec 4 s b n (y3 1 l) (zx 1 m) i=(rF 4 n).raw by simp[vrec]]
   exact ji (fun d=>z19 (by omega) (by omega) (by omega) d) rfl (fun h=>by cases h) hu hle (hplain (by omega))
  ·have e5:m=[]:=by rcases hM with h|h;omega;exact List.eq_nil_of_length_eq_zero h
   subst e5;have hl:=Kn 1 (by omega) l;have e0:vrec 5 s b n (y3 1 l) (zx 1 []) i=(rB 5 (y3 1 l++i)).raw:=by simp[vrec]
   rw[e0]at hf ⊢;have hr:∀d,zt d (rB 5 (y3 1 l++i)):=fun d=>Z8 (by omega) (by omega) (by rw[List.length_append];omega) d
   by_cases hun:d' < 0∨zp vtk u d'=false
   ·exact ji hr rfl (fun h=>by cases h) hu hle hun
   have h0:0<=d':=by omega
   have hu2:zp vtk u d'=true:=by
    cases h:zp vtk u d' with
    | true=>rfl
    | false=>exact absurd (.inr h) hun
   rw[jv h0 hr rfl (fun h=>by cases h) hu2]
   have hlen:(y3 1 l++i).length<f:=by
    rw[List.length_append]at hf
    have:(rB 5 (y3 1 l++i)).raw.length=(vput (8*5+2)).length+((vput (y3 1 l++i).length).length+(y3 1 l++i).length):=by
     show(vput (8*5+2)++(vput (y3 1 l++i).length++(y3 1 l++i))).length=_
     rw[List.length_append,List.length_append]
    have h9:=(zu (8*5+2)).1;omega
   have hlm2:1<=d/\(qt l (d-1)=true/\xk [] (d-1)=true)/\zp itk i (d-1)=true:=by
    simpa using hlm
   have hno2:¬1<=d'∨qt l (d' - 1)=false∨zp itk i (d' - 1)=false:=by
    rw[hu2,decide_eq_true h0]at hno
    by_cases h1:1<=d'
    ·right
     rw[decide_eq_true h1]at hno;have h2:qt l (d' - 1)=true->zp itk i (d' - 1)=false:=by simpa [xk] using hno
     cases hh:qt l (d' - 1)with
     | true=>exact .inr (h2 hh)
     | false=>exact .inl rfl
    ·exact .inl h1
   obtain ⟨c,hc⟩:=z7v (rd:=zn f) (out:=vout) (l:=l) (i:=i) (d:=d-1) (d':=d' - 1) (by omega) (fun x hx=>by
    have hb:=Kb l (d-1) (d' - 1) f hfl (by omega) hlm2.2.1.1 (by omega) (by rw[List.length_append]at hlen;omega) x hx
    cases hh:Yd x (d' - 1-1)with
    | true=>exact .inl (hb.1 hh)
    | false=>exact .inr (hb.2 hh)) (fun x hx=>by
    have:=z96 hx;have:=Xw x;have:=Jx x;omega) hlm2.2.2 (by
    rcases hno2 with h|h|h
    ·exact .inl (by omega)
    ·obtain⟨x,hx,h2⟩:=zez h
     have hb:=Kb l (d-1) (d' - 1) f hfl (by omega) hlm2.2.1.1 (by omega) (by rw[List.length_append]at hlen;omega) x hx;exact .inr (.inr ⟨x,hx,hb.2 (by rw[show d' - 1-1=d' - 2 by omega];exact h2)⟩)
    ·exact .inr (.inl h))
   rw[<-z3p]at hc;exact⟨c,zb4 (o:=oput one0 (rB 5 (y3 1 l++i))) rfl (by rw[show(oput one0 (rB 5 (y3 1 l++i))).ps.flatten=y3 1 l++i by simp[oput,one0,rB]];exact hc)⟩
  ·have e5:l=[]:=by rcases hL with h|h;omega;exact List.eq_nil_of_length_eq_zero h
   subst e5;have hl:=Q0 1 (by omega) m;have e0:vrec 6 s b n (y3 1 []) (zx 1 m) i=(rB 6 (zx 1 m++i)).raw:=by simp[vrec]
   rw[e0]at hf ⊢;have hr:∀d,zt d (rB 6 (zx 1 m++i)):=fun d=>Z8 (by omega) (by omega) (by rw[List.length_append];omega) d
   by_cases hun:d' < 0∨zp vtk u d'=false
   ·exact ji hr rfl (fun h=>by cases h) hu hle hun
   have h0:0<=d':=by omega
   have hu2:zp vtk u d'=true:=by
    cases h:zp vtk u d' with
    | true=>rfl
    | false=>exact absurd (.inr h) hun
   rw[jv h0 hr rfl (fun h=>by cases h) hu2]
   have hlen:(zx 1 m++i).length<f:=by
    rw[List.length_append]at hf
    have:(rB 6 (zx 1 m++i)).raw.length=(vput (8*6+2)).length+((vput (zx 1 m++i).length).length+(zx 1 m++i).length):=by
     show(vput (8*6+2)++(vput (zx 1 m++i).length++(zx 1 m++i))).length=_
     rw[List.length_append,List.length_append]
    have h9:=(zu (8*6+2)).1;omega
   have hlm2:1<=d/\(qt [] (d-1)=true/\xk m (d-1)=true)/\zp itk i (d-1)=true:=by
    simpa using hlm
   have hno2:¬1<=d'∨xk m (d' - 1)=false∨zp itk i (d' - 1)=false:=by
    rw[hu2,decide_eq_true h0]at hno
    by_cases h1:1<=d'
    ·right
     rw[decide_eq_true h1]at hno;have h2:xk m (d' - 1)=true->zp itk i (d' - 1)=false:=by simpa [qt] using hno
     cases hh:xk m (d' - 1)with
     | true=>exact .inr (h2 hh)
     | false=>exact .inl rfl
    ·exact .inl h1
   obtain ⟨c,hc⟩:=z7v (rd:=zm f) (out:=kout) (l:=m) (i:=i) (d:=d-1) (d':=d' - 1) (by omega) (fun x hx=>by
    have hb:=K4 m (d-1) (d' - 1) f hfm (by omega) hlm2.2.1.2 (by omega) (by rw[List.length_append]at hlen;omega) x hx
    cases hh:X3 x (d' - 1-1)with
    | true=>exact .inl (hb.1 hh)
    | false=>exact .inr (hb.2 hh)) (fun x hx=>by
    have:=z98 hx;have:=Xv x;have:=Kc x;omega) hlm2.2.2 (by
    rcases hno2 with h|h|h
    ·exact .inl (by omega)
    ·obtain⟨x,hx,h2⟩:=zeq h
     have hb:=K4 m (d-1) (d' - 1) f hfm (by omega) hlm2.2.1.2 (by omega) (by rw[List.length_append]at hlen;omega) x hx;exact .inr (.inr ⟨x,hx,hb.2 (by rw[show d' - 1-1=d' - 2 by omega];exact h2)⟩)
    ·exact .inr (.inl h))
   rw[<-z39]at hc;exact⟨c,za8 (o:=oput one0 (rB 6 (zx 1 m++i))) rfl (by rw[show(oput one0 (rB 6 (zx 1 m++i))).ps.flatten=zx 1 m++i by simp[oput,one0,rB]];exact hc)⟩
  ·rw[show vrec 7 s b n (y3 1 l) (zx 1 m) i=(rB 7 s).raw by simp[vrec]]
   exact ji (fun d=>Z8 (by omega) (by omega) (by omega) d) rfl (fun h=>by cases h) hu hle (hplain (by omega))
theorem z66:∀(x:KV) (d d':Int) (f:Nat),kfit x->kw x<=1000000->kmay x d=true->d'<=d->X3 x d'=false->(kout x).length<f->∃c,zm f (kout x) d'=.error c
 | .mk key has v u,d,d',f,hfit,hw,hm,hle,hno,hf=>by
  cases f with
  | zero=>omega
  | succ f =>
  rw[kfit]at hfit;obtain⟨hs,_,hfv⟩:=hfit;rw[kw]at hw;rw[X3,kmay]at hno;rw[kmay]at hm
  simp only[Bool.and_eq_true]at hm
  obtain⟨⟨hk,hv⟩,hu⟩:=hm;rw[kout]at hf ⊢;have hvl:=Xw v;have hvb:=Jx v
  by_cases hun:d' < 0∨zp ktk u d'=false
  ·obtain⟨c,h⟩:=kh (tk:=ktk) (step:=yl) (st:=([],[])) (rs:=Yl key has (vout v)) (u:=u) (z29 (by omega) (by omega)) (K1 hk) (z00 _ _ _) hu hle hun
   rw[z0n]at h;exact⟨c,by rw[zm,h]⟩
  have h0:0<=d':=by omega
  have hu2:zp ktk u d'=true:=by
   cases h:zp ktk u d' with
   | true=>rfl
   | false=>exact absurd (.inr h) hun
  have hrd:=jl (tk:=ktk) (step:=yl) (st:=([],[])) (rs:=Yl key has (vout v)) (u:=u) h0 (z29 (by omega) (by omega)) (K1 hk) (z00 _ _ _) hu2;rw[z0n]at hrd;rw[zm,hrd];rw[hk,hu2,decide_eq_true h0]at hno
  cases has with
  | false =>
   simp only[Bool.false_eq_true,if_false]at hv hno
   rw[hv]at hno
   cases hno
  | true =>
   simp only[if_true,Bool.and_eq_true,decide_eq_true_eq]at hv
   have hlen:(vout v).length<f:=by
    rw[List.length_append,List.length_append,if_pos rfl]at hf
    have:(rB 2 (vout v)).raw.length=(vput (8*2+2)).length+((vput (vout v).length).length+(vout v).length):=by
     show(vput (8*2+2)++(vput (vout v).length++vout v)).length=_
     rw[List.length_append,List.length_append]
    have h9:=(zu (8*2+2)).1;omega
   have hno2:Yd v (d' - 1)=false:=by
    rw[Yd,show decide (0<=d' - 1)=decide (1<=d')by congr 1;exact propext ⟨fun h=>by omega,fun h=>by omega⟩]
    simpa using hno
   obtain⟨c,hc⟩:=z73 v (d-1) (d' - 1) f hfv (by omega) hv.2 (by omega) hno2 hlen
   simp only[if_true]
   rw[if_neg (by simp),show [vout v].flatten=vout v by simp,hc];exact⟨c,rfl⟩
theorem Kb:∀(l:List Val) (d d':Int) (f:Nat),Z7 l->vsw l<=1000000->qt l d=true->d'<=d->(y3 1 l).length<f->∀x∈l,(Yd x (d' - 1)=true->zn f (vout x) (d' - 1)=.ok x)/\(Yd x (d' - 1)=false->∃c,zn f (vout x) (d' - 1)=.error c)
 | [],_,_,_,_,_,_,_,_=>fun x hx=>by cases hx
 | y::l,d,d',f,hfit,hw,hm,hle,hf=>fun x hx=>by
  rw[Z7]at hfit;rw[vsw]at hw;rw[qt]at hm
  simp only[Bool.and_eq_true,decide_eq_true_eq]at hm
  rw[y3,List.length_append]at hf
  have hlen:(vout y).length<f:=by
   have:(rB 1 (vout y)).raw.length=(vput (8*1+2)).length+((vput (vout y).length).length+(vout y).length):=by
    show(vput (8*1+2)++(vput (vout y).length++vout y)).length=_
    rw[List.length_append,List.length_append]
   omega
  have hy:=z73 y (d-1) (d' - 1) f hfit.1 (by omega) hm.1.2 (by omega);have hl:=Kb l d d' f hfit.2 (by omega) hm.2 hle (by omega)
  rcases List.mem_cons.1 hx with rfl|h
  ·refine⟨fun h=>?_,fun h=>hy h hlen⟩
   rw[Yd]at h
   simp only[Bool.and_eq_true,decide_eq_true_eq]at h
   exact vback _ _ f hfit.1 (by omega) h.2 h.1 hlen
  ·exact hl x h
theorem K4:∀(l:List KV) (d d':Int) (f:Nat),qs l->ksw l<=1000000->xk l d=true->d'<=d->(zx 1 l).length<f->∀x∈l,(X3 x (d' - 1)=true->zm f (kout x) (d' - 1)=.ok x)/\(X3 x (d' - 1)=false->∃c,zm f (kout x) (d' - 1)=.error c)
 | [],_,_,_,_,_,_,_,_=>fun x hx=>by cases hx
 | y::l,d,d',f,hfit,hw,hm,hle,hf=>fun x hx=>by
  rw[qs]at hfit;rw[ksw]at hw;rw[xk]at hm
  simp only[Bool.and_eq_true,decide_eq_true_eq]at hm
  rw[zx,List.length_append]at hf
  have hlen:(kout y).length<f:=by
   have:(rB 1 (kout y)).raw.length=(vput (8*1+2)).length+((vput (kout y).length).length+(kout y).length):=by
    show(vput (8*1+2)++(vput (kout y).length++kout y)).length=_
    rw[List.length_append,List.length_append]
   omega
  have hy:=z66 y (d-1) (d' - 1) f hfit.1 (by omega) hm.1.2 (by omega);have hl:=K4 l d d' f hfit.2 (by omega) hm.2 hle (by omega)
  rcases List.mem_cons.1 hx with rfl|h
  ·refine⟨fun h=>?_,fun h=>hy h hlen⟩
   rw[X3]at h
   simp only[Bool.and_eq_true,decide_eq_true_eq]at h
   exact kback _ _ f hfit.1 (by omega) h.2 h.1 hlen
  ·exact hl x h
end
open Go.RowKit
theorem z8q:∀(f k m:Nat) (l:List UInt8) {v e:Nat},yg (f+1) k m l=.ok (v,e)->∃n j,e=k+j/\v=m+n*128^k/\(yz f n).length<=j
 | f,k,m,[],v,e,h=>by simp[yg]at h
 | 0,k,m,c::r,v,e,h=>by
  simp only[yg]at h
  split at h
  ·simp at h
  ·split at h
   ·simp at h
    obtain⟨rfl,rfl⟩:=h;exact⟨c.toNat,1,rfl,rfl,by simp[yz]⟩
   ·simp at h
 | f + 1,k,m,c::r,v,e,h=>by
  rw[yg,if_neg (by omega)]at h
  split at h
  ·rename_i hc
   simp at h
   obtain⟨rfl,rfl⟩:=h;exact⟨c.toNat,1,rfl,rfl,by rw[yz,if_pos hc];simp⟩
  ·rename_i hc
   obtain⟨n,j,rfl,rfl,h4⟩:=z8q f (k+1) _ r h;have hb:=c.toNat_lt;refine⟨c.toNat-128+128*n,j+1,by omega,?_,?_⟩
   ·rw[Nat.pow_succ,Nat.add_mul,Nat.add_assoc]
    congr 2
    rw[Nat.mul_comm (128^k),<-Nat.mul_assoc,Nat.mul_comm n]
   ·rw[yz]
    split
    ·simp
    ·rw[show(c.toNat-128+128*n)/128=n by omega]
     simp
     omega
theorem zdm {l:List UInt8}{n j:Nat}(h:wv l=.ok (n,j)):(vput n).length<=j:=by
 obtain⟨m,i,rfl,rfl,h3⟩:=z8q 9 0 0 l h
 show(yz 9 _).length<=_
 rw[show 0+m*128^0=m by simp];omega
theorem Ks:∀(f n k:Nat),n<128^(k+1)->(yz f n).length<=k+1
 | 0,n,k,_=>by simp[yz]
 | f+1,n,k,h=>by
  rw[yz]
  split
  ·simp
  ·rename_i hn
   match k,h with
   | 0,h=>omega
   | k+1,h =>
    have:=Ks f (n/128) k (by rw[Nat.pow_succ]at h;omega)
    simp
    omega
theorem z6e:∀(f n:Nat),(yz f n).length<=f->n<128^(yz f n).length
 | 0,n,h=>by simp[yz]at h
 | f+1,n,h=>by
  rw[yz]at h ⊢
  split
  ·rename_i hn;simpa using hn
  ·rename_i hn
   rw[if_neg hn]at h;have:=z6e f (n/128) (by simpa using h);rw[List.length_cons,Nat.pow_succ];omega
theorem vl_lt {n:Nat}(h:n<9223372036854775808):n<128^(vput n).length:=by
 refine z6e 9 n ?_;have:=Ks 9 n 8 (by omega);exact this
theorem z8y {a b:Nat}(h:a<=b)(hb:b<9223372036854775808):(vput a).length<=(vput b).length:=by
 have h1:=vl_lt hb;have h2:=(zu b).1;obtain⟨k,hk⟩:∃k,(vput b).length=k+1:=⟨_,(Nat.succ_pred_eq_of_pos h2).symm⟩
 rw[hk]at h1 ⊢;exact Ks 9 a k (Nat.lt_of_le_of_lt h h1)
theorem vl_add {a b:Nat}(h:a+b<9223372036854775808):(vput (a+b)).length<=(vput a).length+(vput b).length:=by
 have h1:=vl_lt (n:=a) (by omega);have h2:=vl_lt (n:=b) (by omega);have h3:=(zu a).1;have h4:=(zu b).1;obtain⟨p,hp⟩:∃k,(vput a).length=k+1:=⟨_,(Nat.succ_pred_eq_of_pos h3).symm⟩
 obtain⟨q,hq⟩:∃k,(vput b).length=k+1:=⟨_,(Nat.succ_pred_eq_of_pos h4).symm⟩
 rw[hp]at h1 ⊢;rw[hq]at h2 ⊢;rw[show p+1+(q+1)=(p+q+1)+1 by omega];refine Ks 9 _ _ ?_;have h5:128^(p+1)*128^(q+1)=128^(p+q+1+1):=by rw[<-Nat.pow_add];congr 1;omega
 rw[<-h5];have h6:2<=128^(p+1):=by rw[Nat.pow_succ];have:0<128^p:=Nat.pow_pos (by decide);omega
 have h7:2<=128^(q+1):=by rw[Nat.pow_succ];have:0<128^q:=Nat.pow_pos (by decide);omega
 generalize 128^(p+1)=A at *
 generalize 128^(q+1)=B at *
 have h8:A*B=(A-2)*(B-2)+2*(A-2)+2*(B-2)+4:=by
  obtain⟨A,rfl⟩:∃x,A=x+2:=⟨A-2,by omega⟩
  obtain⟨B,rfl⟩:∃x,B=x+2:=⟨B-2,by omega⟩
  simp only[Nat.add_sub_cancel,Nat.add_mul,Nat.mul_add]
  omega
 rw[h8]
 generalize (A-2)*(B-2)=Z at *
 omega
theorem Ja {d:Int}{r:Rec}(h:zt d r):(r.ty=2->r.n=0/\1+(vput r.s.length).length+r.s.length<=r.raw.length)/\(r.ty=0->r.n<2^64/\1+(vput r.n).length<=r.raw.length)/\(r.ty=1->r.n<2^64/\9<=r.raw.length):=by
 have h1:=h [];rw[List.append_nil]at h1;unfold wnx at h1
 cases hh:whd r.raw with
 | error c=>rw[hh]at h1;cases h1
 | ok x =>
  obtain⟨num,ty,j⟩:=x;have hb:=yo hh;rw[hh]at h1;dsimp only at h1
  split at h1
  ·cases h1
  ·split at h1
   ·cases hg:zk (r.raw.drop j) [num] d with
    | error c=>rw[hg]at h1;cases h1
    | ok k =>
     rw[hg]at h1
     simp only[Except.ok.injEq,Prod.mk.injEq]at h1
     have e:r.ty=3:=by rw[<-h1.1]
     rw[e];exact⟨fun h=>by omega,fun h=>by omega,fun h=>by omega⟩
   ·cases hbd:wbd (r.raw.drop j) ty with
    | error c=>rw[hbd]at h1;cases h1
    | ok y =>
     obtain⟨n,s,m⟩:=y;rw[hbd]at h1
     simp only[Except.ok.injEq,Prod.mk.injEq]at h1
     obtain⟨h1,h3⟩:=h1;have e1:r.ty=ty:=by rw[<-h1]
     have e2:r.s=s:=by rw[<-h1]
     have e3:r.n=n:=by rw[<-h1]
     rw[e1,e2,e3];unfold wbd at hbd
     refine⟨fun ht=>?_,fun ht=>?_,fun ht=>?_⟩
     ·subst ht
      rw[if_neg (by decide),if_neg (by decide)]at hbd
      cases hv:wv (r.raw.drop j)with
      | error c=>rw[hv]at hbd;cases hbd
      | ok z =>
       obtain⟨a,i⟩:=z;have hm:=zdm hv;rw[hv]at hbd;dsimp only at hbd;rw[if_neg (by decide)]at hbd
       split at hbd
       ·cases hbd
       ·simp only[Except.ok.injEq,Prod.mk.injEq]at hbd
        obtain⟨rfl,rfl,rfl⟩:=hbd;have hl:(List.take a (List.drop i (List.drop j r.raw))).length=a:=by simp only[List.length_take,List.length_drop]at *;omega
        rw[hl];exact⟨rfl,by omega⟩
     ·subst ht
      rw[if_neg (by decide),if_neg (by decide)]at hbd
      cases hv:wv (r.raw.drop j)with
      | error c=>rw[hv]at hbd;cases hbd
      | ok z =>
       obtain⟨a,i⟩:=z;have hm:=zdm hv;rw[hv]at hbd;dsimp only at hbd;rw[if_pos rfl]at hbd
       simp only[Except.ok.injEq,Prod.mk.injEq]at hbd
       obtain⟨rfl,_,rfl⟩:=hbd;exact⟨(yi hv).2.2.2,by omega⟩
     ·subst ht
      rw[if_pos rfl]at hbd
      split at hbd
      ·cases hbd
      ·simp only[Except.ok.injEq,Prod.mk.injEq]at hbd
       refine⟨?_,by omega⟩;rw[<-hbd.1];have h8:(List.take 8 (List.drop j r.raw)).length=8:=by simp only[List.length_take,List.length_drop]at *;omega
       have:=Jf (List.take 8 (List.drop j r.raw))
       rwa [h8]at this
theorem zg6 {tk:Rec->Bool}{l:List UInt8}{d:Int}{rs:List Rec}(h:wall l d=.ok rs):zp tk (munk tk rs) d=true:=by
 have h1:=xp _ (Nat.le_refl _) h;have h2:=X6 (q7 tk rs) d (fun r hr=>h1 r (List.mem_filter.1 hr).1);unfold zp munk;rw[h2]
 show((q7 tk rs).all fun r=>!tk r)=true
 rw[List.all_eq_true];intro r hr;exact(List.mem_filter.1 hr).2
theorem kp {σ:Type}{tk:Rec->Bool}{step:σ->Rec->Except Nat σ}{st st':σ}{l u:List UInt8}{d:Int}(h:zq tk step st l d=.ok (st',u)) :
  0<=d/\∃rs,zg tk step st rs=.ok st'/\u=munk tk rs/\(∀r∈rs,zt d r)/\rs.flatMap Rec.raw=l/\zp tk u d=true:=by
 unfold zq at h
 split at h
 ·cases h
 ·cases hw:wall l d with
  | error c=>rw[hw]at h;cases h
  | ok rs =>
   rw[hw]at h;dsimp only at h
   cases hf:zg tk step st rs with
   | error c=>rw[hf]at h;cases h
   | ok o =>
    rw[hf]at h
    simp only[Except.ok.injEq,Prod.mk.injEq]at h
    obtain⟨rfl,rfl⟩:=h;exact⟨by omega,rs,hf,rfl,xp _ (Nat.le_refl _) hw,(xh _ (Nat.le_refl _) hw).1,zg6 hw⟩
def tlen (tk:Rec->Bool)(rs:List Rec):Nat:=((rs.filter tk).flatMap Rec.raw).length
theorem jz (tk:Rec->Bool):∀(rs:List Rec),tlen tk rs+(munk tk rs).length=(rs.flatMap Rec.raw).length
 | []=>by simp[tlen,munk,q7]
 | r::rs=>by
  have:=jz tk rs;unfold tlen munk q7 at this ⊢
  rw[List.filter_cons,List.filter_cons,List.flatMap_cons,List.length_append]
  cases tk r
  ·simp only[Bool.not_false,if_true,Bool.false_eq_true,if_false,List.flatMap_cons,List.length_append];omega
  ·simp only[Bool.not_true,if_true,Bool.false_eq_true,if_false,List.flatMap_cons,List.length_append];omega
theorem xa {σ:Type}{tk:Rec->Bool}{step:σ->Rec->Except Nat σ}{d:Int}(N:Nat)(I:σ->Nat->Prop)(hs:∀o t r o',I o t->zt d r->tk r=true->t+r.raw.length<=N->step o r=.ok o'->I o' (t+r.raw.length)):∀(rs:List Rec) (o o':σ) (t:Nat),(∀r∈rs,zt d r)->I o t->t+tlen tk rs<=N->zg tk step o rs=.ok o'->I o' (t+tlen tk rs)
 | [],o,o',t,_,h,_,hf=>by
  simp only[zg,Except.ok.injEq]at hf
  subst hf;exact h
 | r::rs,o,o',t,hr,h,ht,hf=>by
  have h2:=fun z hz=>hr z (List.mem_cons_of_mem _ hz)
  rw[zg]at hf
  have e:tlen tk (r::rs)=(if tk r then r.raw.length else 0)+tlen tk rs:=by
   unfold tlen;rw[List.filter_cons]
   split
   ·rw[List.flatMap_cons,List.length_append]
   ·rw[Nat.zero_add]
  rw[e]at ht ⊢
  split at hf
  ·rename_i hk
   rw[if_pos hk]at ht ⊢
   cases hst:step o r with
   | error c=>rw[hst]at hf;cases hf
   | ok o1 =>
    rw[hst]at hf;have:=xa N I hs rs o1 o' (t+r.raw.length) h2 (hs o t r o1 h (hr r (List.mem_cons_self ..)) hk (by omega) hst) (by omega) hf;rw[<-Nat.add_assoc];exact this
  ·rename_i hk
   rw[if_neg hk]at ht ⊢;rw[Nat.zero_add]at ht ⊢;exact xa N I hs rs o o' t h2 h ht hf
theorem Jc {num:Nat}(h:num<=15)(s:List UInt8):(rB num s).raw.length=1+(vput s.length).length+s.length:=by
 show(vput (8*num+2)++(vput s.length++s)).length=_
 have:(vput (8*num+2)).length=1:=by
  show(yz 9 (8*num+2)).length=1
  rw[yz,if_pos (by omega)];rfl
 rw[List.length_append,List.length_append,this];omega
theorem zdw {num:Nat}(h:num<=15)(n:Nat):(rN num n).raw.length=1+(vput n).length:=by
 show(vput (8*num+0)++vput n).length=_
 have:(vput (8*num+0)).length=1:=by
  show(yz 9 (8*num+0)).length=1
  rw[yz,if_pos (by omega)];rfl
 rw[List.length_append,this]
theorem rF_len {num:Nat}(h:num<=15)(n:Nat):(rF num n).raw.length=9:=by
 show(vput (8*num+1)++Yo 8 n).length=_
 have:(vput (8*num+1)).length=1:=by
  show(yz 9 (8*num+1)).length=1
  rw[yz,if_pos (by omega)];rfl
 rw[List.length_append,this,Xc]
def bl (n:Nat):Nat:=1+(vput n).length+n
theorem z44 {a b:Nat}(h:a<=b)(hb:b<=1000000):bl a<=bl b:=by unfold bl;have:=z8y h (by omega);omega
theorem zbu {a b:Nat}(h:a+b<=1000000):bl (a+b)+1<=bl a+bl b:=by unfold bl;have:=vl_add (a:=a) (b:=b) (by omega);omega
section
variable {α:Type} {rd:List UInt8->Int->Except Nat α} {out:α->List UInt8} {may:α->Int->Bool} {wt:α->Nat} {fit:α->Prop}
def LInv (out:α->List UInt8)(may:α->Int->Bool)(wt:α->Nat)(fit:α->Prop)(d:Int)(l:List α)(t:Nat):Prop :=
 (∀x∈l,0<=d/\may x d=true/\fit x)/\((l.map fun x=>(rB 1 (out x)).raw.length).foldr (·+·) 0)<=t/\((l.map wt).foldr (·+·) 0)<=51*t
theorem Jw (l:List Nat)(n:Nat):(l++[n]).foldr (·+·) 0=l.foldr (·+·) 0+n:=by
 induction l with
 | nil=>simp
 | cons a l ih=>simp only[List.cons_append,List.foldr_cons,ih];omega
theorem z1p {l i:List UInt8}{xs:List α}{d:Int}(hl:l.length<=1000000)(h:yf rd l d=.ok (xs,i))(ih:∀t x,t.length<=l.length->rd t (d-1)=.ok x->0<=d-1/\may x (d-1)=true/\fit x/\(out x).length<=t.length/\wt x<=100+51*t.length) :
  0<=d/\zp itk i d=true/\∃t,t+i.length=l.length/\LInv out may wt fit (d-1) xs t:=by
 unfold yf at h
 obtain⟨h0,rs,h1,h2,h3,h4,h5⟩:=kp h;have h6:=jz itk rs;rw[h4,<-h2]at h6;refine⟨h0,h5,tlen itk rs,h6,?_⟩;have:=xa (d:=d) l.length (fun o t=>LInv out may wt fit (d-1) o t) (fun o t r o' hi hr hk ht hst=>?_) rs [] xs 0 h3 ⟨(fun x hx=>by cases hx),by simp,by simp⟩ (by omega) h1
 ·rwa [Nat.zero_add]at this
 ·unfold yc at hst
  cases hx:rd r.s (d-1)with
  | error c=>rw[hx]at hst;cases hst
  | ok x =>
   rw[hx]at hst
   simp only[Except.ok.injEq]at hst
   subst hst;have hk2:r.ty=2:=by unfold itk at hk;exact(of_decide_eq_true hk).2
   have hb:=((Ja hr).1 hk2).2;obtain⟨g1,g2,g3,g4,g5⟩:=ih r.s x (by omega) hx;refine⟨fun y hy=>?_,?_,?_⟩
   ·rcases List.mem_append.1 hy with hy|hy
    ·exact hi.1 y hy
    ·rw[List.mem_singleton.1 hy];exact⟨g1,g2,g3⟩
   ·rw[List.map_append,List.map_cons,List.map_nil,Jw,Jc (by omega)]
    have:=hi.2.1;have:=z8y g4 (by omega);omega
   ·rw[List.map_append,List.map_cons,List.map_nil,Jw]
    have:=hi.2.2;have:=(zu r.s.length).1;omega
end
theorem z4h:∀(l:List Val),(y3 1 l).length=(l.map fun x=>(rB 1 (vout x)).raw.length).foldr (·+·) 0
 | []=>by rw[y3];rfl
 | x::l=>by rw[y3,List.length_append,z4h l];rfl
theorem z50:∀(l:List KV),(zx 1 l).length=(l.map fun x=>(rB 1 (kout x)).raw.length).foldr (·+·) 0
 | []=>by rw[zx];rfl
 | x::l=>by rw[zx,List.length_append,z50 l];rfl
theorem z93:∀(l:List Val),vsw l=(l.map vw).foldr (·+·) 0
 | []=>by rw[vsw];rfl
 | x::l=>by rw[vsw,z93 l];rfl
theorem z9a:∀(l:List KV),ksw l=(l.map kw).foldr (·+·) 0
 | []=>by rw[ksw];rfl
 | x::l=>by rw[ksw,z9a l];rfl
theorem z6k {d:Int}:∀{l:List Val},(∀x∈l,0<=d-1/\vmay x (d-1)=true/\vfit x)->qt l d=true/\Z7 l
 | [],_=>by rw[qt,Z7];exact⟨rfl,trivial⟩
 | x::l,h=>by
  have h1:=h x (List.mem_cons_self ..);have h2:=z6k (l:=l) fun y hy=>h y (List.mem_cons_of_mem _ hy)
  rw[qt,Z7,h1.2.1,h2.1,decide_eq_true (by omega:1<=d)];exact⟨rfl,h1.2.2,h2.2⟩
theorem z60 {d:Int}:∀{l:List KV},(∀x∈l,0<=d-1/\kmay x (d-1)=true/\kfit x)->xk l d=true/\qs l
 | [],_=>by rw[xk,qs];exact⟨rfl,trivial⟩
 | x::l,h=>by
  have h1:=h x (List.mem_cons_self ..);have h2:=z60 (l:=l) fun y hy=>h y (List.mem_cons_of_mem _ hy)
  rw[xk,qs,h1.2.1,h2.1,decide_eq_true (by omega:1<=d)];exact⟨rfl,h1.2.2,h2.2⟩
def OInv (o:One)(t:Nat):Prop :=
 o=one0∨(vtk o.r=true/\(o.r.num=1->xb o.r.s=true)/\o.r.n<2^64/\(o.r.ty=2->bl o.r.s.length<=t/\bl o.ps.flatten.length<=t)/\(o.r.ty=0->1+(vput o.r.n).length<=t)/\(o.r.ty=1->9<=t))
theorem z2x {r:Rec}(h:vtk r=true):((r.num=1∨r.num=5∨r.num=6∨r.num=7)/\r.ty=2)∨((r.num=2∨r.num=3)/\r.ty=0)∨(r.num=4/\r.ty=1):=of_decide_eq_true h
theorem z86 {d:Int}{N:Nat}(hN:N<=1000000)(o:One)(t:Nat)(r:Rec)(o':One)(hi:OInv o t)(hr:zt d r)(hk:vtk r=true)(ht:t+r.raw.length<=N)(h:yw o r=.ok o'):OInv o' (t+r.raw.length):=by
 have hb:=Ja hr
 have hf:r.n<2^64:=by
  rcases z2x hk with h1|h1|h1
  ·rw[(hb.1 h1.2).1];decide
  ·exact(hb.2.1 h1.2).1
  ·exact(hb.2.2 h1.2).1
 have hty:=z2x hk;unfold yw at h
 split at h
 ·cases h
 ·rename_i hn
  simp only[Except.ok.injEq]at h
  subst h;refine .inr ⟨hk,fun h1=>?_,hf,fun h2=>?_,fun h0=>?_,fun h0=>?_⟩
  ·show xb r.s=true
   cases hu:xb r.s
   ·exact absurd ⟨h1,hu⟩ hn
   ·rfl
  ·have h3:r.ty=2:=h2
   have h4:=(hb.1 h3).2;have h5:bl r.s.length<=r.raw.length:=by unfold bl;omega
   refine⟨by show bl r.s.length<=_;omega,?_⟩
   show bl (if r.num=o.r.num then o.ps++[r.s]else [r.s]).flatten.length<=_
   split
   ·rename_i he
    rcases hi with rfl|⟨k1,k2,k3,k4,k5,k6⟩
    ·simp only[one0,List.nil_append,List.flatten_cons,List.flatten_nil,List.append_nil];omega
    ·have h6:o.r.ty=2:=by have:=z2x k1;omega
     have h7:=(k4 h6).2;rw[List.flatten_append,List.length_append]
     simp only[List.flatten_cons,List.flatten_nil,List.append_nil]
     have:bl o.ps.flatten.length ≥ o.ps.flatten.length+1:=by unfold bl;omega
     have:=zbu (a:=o.ps.flatten.length) (b:=r.s.length) (by omega);omega
   ·simp only[List.flatten_cons,List.flatten_nil,List.append_nil];omega
  ·have h3:r.ty=0:=h0
   have:=(hb.2.1 h3).2
   show 1+(vput r.n).length<=_
   omega
  ·have h3:r.ty=1:=h0
   have:=(hb.2.2 h3).2;omega
def KInv (st:List UInt8 × List (List UInt8))(t:Nat):Prop :=
 xb st.1=true/\(krec st.1).length+(if st.2=[]then 0 else bl st.2.flatten.length)<=t/\st.1.length+st.2.flatten.length<=t
theorem krec_bl (s:List UInt8):(krec s).length<=bl s.length:=by
 unfold krec
 split
 ·simp
 ·rw[Jc (by omega)];exact Nat.le_refl _
theorem z8h {d:Int}{N:Nat}(hN:N<=1000000)(st:List UInt8 × List (List UInt8))(t:Nat)(r:Rec)(st':List UInt8 × List (List UInt8))(hi:KInv st t)(hr:zt d r)(hk:ktk r=true)(ht:t+r.raw.length<=N)(h:yl st r=.ok st'):KInv st' (t+r.raw.length):=by
 have hty:(r.num=1∨r.num=2)/\r.ty=2:=of_decide_eq_true hk;have hb:=((Ja hr).1 hty.2).2;have h5:bl r.s.length<=r.raw.length:=by unfold bl;omega
 have h6:=krec_bl r.s;obtain⟨i1,i2,i3⟩:=hi;unfold yl at h
 split at h
 ·split at h
  ·rename_i hu
   simp only[Except.ok.injEq]at h
   subst h;refine⟨hu,?_,?_⟩
   ·show(krec r.s).length+(if st.2=[]then 0 else bl st.2.flatten.length)<=_
    omega
   ·show r.s.length+st.2.flatten.length<=_
    omega
  ·cases h
 ·simp only[Except.ok.injEq]at h
  subst h;refine⟨i1,?_,?_⟩
  ·show(krec st.1).length+(if st.2++[r.s]=[]then 0 else bl (st.2++[r.s]).flatten.length)<=_
   rw[if_neg (by simp),List.flatten_append,List.length_append]
   simp only[List.flatten_cons,List.flatten_nil,List.append_nil]
   by_cases he:st.2=[]
   ·rw[he]at i2 ⊢
    rw[if_pos rfl]at i2
    simp only[List.flatten_nil,List.length_nil,Nat.zero_add]
    omega
   ·rw[if_neg he]at i2
    have:=zbu (a:=st.2.flatten.length) (b:=r.s.length) (by omega);omega
  ·show st.1.length+(st.2++[r.s]).flatten.length<=_
   rw[List.flatten_append,List.length_append]
   simp only[List.flatten_cons,List.flatten_nil,List.append_nil]
   omega
theorem z1h:∀(f:Nat),(∀l d x,l.length<=1000000->zn f l d=.ok x->0<=d/\vmay x d=true/\vfit x/\(vout x).length<=l.length/\vw x<=60+51*l.length)/\(∀l d x,l.length<=1000000->zm f l d=.ok x->0<=d/\kmay x d=true/\kfit x/\(kout x).length<=l.length/\kw x<=100+51*l.length)
 | 0=>⟨fun l d x _ h=>(by rw[zn]at h;cases h),fun l d x _ h=>(by rw[zm]at h;cases h)⟩
 | f + 1 => by
  obtain⟨iv,ik⟩:=z1h f;refine⟨fun l d x hl h=>?_,fun l d x hl h=>?_⟩
  ·rw [zn]at h
   cases hm:zq vtk yw one0 l d with
   | error c=>rw[hm]at h;cases h
   | ok y =>
    obtain⟨o,u⟩:=y;rw[hm]at h;dsimp only at h;obtain⟨h0,rs,h1,h2,h3,h4,h5⟩:=kp hm;have h6:=jz vtk rs;rw[h4,<-h2]at h6;have h7:=xa (d:=d) l.length OInv (z86 hl) rs one0 o 0 h3 (.inl rfl) (by omega) h1;rw[Nat.zero_add]at h7;refine⟨h0,?_⟩;obtain⟨t,ht⟩:=nmd (tlen vtk rs)
    rw[ht]at h6 h7;clear hm h1 h2 h3 h4 ht rs
    rcases h7 with rfl|⟨k1,k2,k3,k4,k5,k6⟩
    ·unfold zz one0 at h
     dsimp only at h;rw[if_neg (by decide),if_neg (by decide),if_neg (by decide),if_neg (by decide),if_neg (by decide)]at h
     simp only[Except.ok.injEq]at h
     subst h;refine⟨?_,?_,?_,?_⟩
     ·rw[vmay,h5];rfl
     ·rw[vfit,Z7,qs];exact⟨by omega,by omega,by simp,by simp,by omega,trivial,trivial⟩
     ·rw[vout];show(([]:List UInt8)++u).length<=_;rw[List.nil_append];omega
     ·rw[vw,vsw,ksw];simp;omega
    ·have e1:∀(k:Nat) (s:List UInt8),(k=1∨k=7)->o.r.num=k->(k=1->xb s=true)->bl s.length<=t->x=.mk (k:Int) s false 0 [] [] [] u->vmay x d=true/\vfit x/\(vout x).length<=l.length/\vw x<=60+51*l.length:=fun k s hk hn hu hb hx=>by
      subst hx;have hb':s.length<=bl s.length:=by unfold bl;omega
      refine⟨?_,?_,?_,?_⟩
      ·rw[vmay,h5]
       rcases hk with rfl|rfl
       ·rw[hu rfl];simp[vpl]
       ·simp[vpl]
      ·rw[vfit,Z7,qs];exact⟨by omega,by omega,by omega,by simp,by omega,trivial,trivial⟩
      ·rw[vout,List.length_append]
       have:(vrec (k:Int) s false 0 (y3 1 []) (zx 1 []) []).length=bl s.length:=by
        unfold vrec;rw[if_pos (by omega),Int.toNat_natCast,Jc (by omega)]
        rfl
       omega
      ·rw[vw,vsw,ksw];simp;omega
     have e2:∀(k n:Nat) (b:Bool) (c:Nat),(k=2/\n=0/\c=2)∨(k=3/\b=false/\n<2^64/\c=1+(vput n).length)∨(k=4/\b=false/\n<2^64/\c=9)->c<=t->x=.mk (k:Int) [] b n [] [] [] u->vmay x d=true/\vfit x/\(vout x).length<=l.length/\vw x<=60+51*l.length:=fun k n b c hk hc hx=>by
      subst hx;refine⟨?_,?_,?_,?_⟩
      ·rw[vmay,h5]
       rcases hk with ⟨rfl,rfl,_⟩|⟨rfl,rfl,_⟩|⟨rfl,rfl,_⟩<;>simp[vpl]
      ·rw[vfit,Z7,qs];exact⟨by omega,by omega,by simp,by simp,by omega,trivial,trivial⟩
      ·rw[vout,List.length_append]
       have:(vrec (k:Int) [] b n (y3 1 []) (zx 1 []) []).length=c:=by
        unfold vrec
        rcases hk with ⟨rfl,rfl,rfl⟩|⟨rfl,rfl,_,rfl⟩|⟨rfl,rfl,_,rfl⟩
        ·rw[if_neg (by decide),if_pos (by decide),zdw (by omega)]
         cases b<;>rfl
        ·rw[if_neg (by decide),if_neg (by decide),if_pos (by decide),zdw (by omega)]
        ·rw[if_neg (by decide),if_neg (by decide),if_neg (by decide),if_pos (by decide),rF_len (by omega)]
       omega
      ·rw[vw,vsw,ksw];simp;omega
     unfold zz at h
     rcases z2x k1 with ⟨hn,ht⟩|⟨hn,ht⟩|⟨hn,ht⟩
     ·have k4:=k4 ht
      rcases hn with hn|hn|hn|hn
      ·rw[hn]at h k2
       rw[if_pos (by decide)]at h
       simp only[Except.ok.injEq]at h
       exact e1 1 o.r.s (.inl rfl) hn (fun _=>k2 rfl) k4.1 h.symm
      ·rw [hn]at h
       rw[if_neg (by decide),if_neg (by decide),if_neg (by decide),if_pos rfl]at h
       cases hr:yf (zn f) o.ps.flatten (d-1)with
       | error c=>rw[hr]at h;cases h
       | ok z =>
        obtain⟨xs,i⟩:=z;rw[hr]at h
        simp only[Except.ok.injEq]at h
        subst h;have hb:o.ps.flatten.length+2<=bl o.ps.flatten.length:=by unfold bl;have:=(zu o.ps.flatten.length).1;omega
        obtain ⟨g1,g2,q,g3,g4,g5,g6⟩:=z1p (out:=vout) (may:=vmay) (wt:=vw) (fit:=vfit) (by omega) hr (fun t x ht hx=>by
         obtain⟨a1,a2,a3,a4,a5⟩:=iv t _ x (by omega) hx;exact⟨a1,a2,a3,a4,by omega⟩)
        obtain⟨m1,m2⟩:=z6k g4;rw[<-z4h]at g5;rw[<-z93]at g6;refine⟨?_,?_,?_,?_⟩
        ·rw[vmay,m1,g2,h5,xk,decide_eq_true (by omega:1<=d)]
         simp[vpl]
        ·rw[vfit,qs];exact⟨by omega,by omega,by simp,by omega,by omega,m2,trivial⟩
        ·rw[vout,List.length_append]
         have:(vrec ((5:Nat):Int) [] false 0 (y3 1 xs) (zx 1 []) i).length=bl ((y3 1 xs).length+i.length):=by
          unfold vrec;rw[if_neg (by decide),if_neg (by decide),if_neg (by decide),if_neg (by decide),if_pos (by decide),Jc (by omega),List.length_append]
          rfl
         rw[this];have:=z44 (a:=(y3 1 xs).length+i.length) (b:=o.ps.flatten.length) (by omega) (by omega);omega
        ·rw[vw,ksw];simp;omega
      ·rw [hn]at h
       rw[if_neg (by decide),if_neg (by decide),if_neg (by decide),if_neg (by decide),if_pos rfl]at h
       cases hr:yf (zm f) o.ps.flatten (d-1)with
       | error c=>rw[hr]at h;cases h
       | ok z =>
        obtain⟨xs,i⟩:=z;rw[hr]at h
        simp only[Except.ok.injEq]at h
        subst h;have hb:o.ps.flatten.length+2<=bl o.ps.flatten.length:=by unfold bl;have:=(zu o.ps.flatten.length).1;omega
        obtain⟨g1,g2,q,g3,g4,g5,g6⟩:=z1p (out:=kout) (may:=kmay) (wt:=kw) (fit:=kfit) (by omega) hr (fun t x ht hx=>ik t _ x (by omega) hx);obtain⟨m1,m2⟩:=z60 g4;rw[<-z50]at g5;rw[<-z9a]at g6;refine⟨?_,?_,?_,?_⟩
        ·rw[vmay,m1,g2,h5,qt,decide_eq_true (by omega:1<=d)]
         simp[vpl]
        ·rw[vfit,Z7];exact⟨by omega,by omega,by simp,by omega,by omega,trivial,m2⟩
        ·rw[vout,List.length_append]
         have:(vrec ((6:Nat):Int) [] false 0 (y3 1 []) (zx 1 xs) i).length=bl ((zx 1 xs).length+i.length):=by
          unfold vrec;rw[if_neg (by decide),if_neg (by decide),if_neg (by decide),if_neg (by decide),if_neg (by decide),if_pos (by decide),Jc (by omega),List.length_append]
          rfl
         rw[this];have:=z44 (a:=(zx 1 xs).length+i.length) (b:=o.ps.flatten.length) (by omega) (by omega);omega
        ·rw[vw,vsw];simp;omega
      ·rw[hn]at h
       rw[if_pos (by decide)]at h
       simp only[Except.ok.injEq]at h
       exact e1 7 o.r.s (.inr rfl) hn (fun h=>by omega) k4.1 h.symm
     ·have k5:=k5 ht
      rcases hn with hn|hn
      ·rw[hn]at h
       rw[if_neg (by decide),if_pos rfl]at h
       simp only[Except.ok.injEq]at h
       have:=(zu o.r.n).1;exact e2 2 0 _ 2 (.inl ⟨rfl,rfl,rfl⟩) (by omega) h.symm
      ·rw[hn]at h
       rw[if_neg (by decide),if_neg (by decide),if_pos (by decide)]at h
       simp only[Except.ok.injEq]at h
       exact e2 3 _ _ _ (.inr (.inl ⟨rfl,rfl,k3,rfl⟩)) k5 h.symm
     ·have k6:=k6 ht
      rw[hn]at h;rw[if_neg (by decide),if_neg (by decide),if_pos (by decide)]at h
      simp only[Except.ok.injEq]at h
      exact e2 4 _ _ _ (.inr (.inr ⟨rfl,rfl,k3,rfl⟩)) k6 h.symm
  ·rw [zm]at h
   cases hm:zq ktk yl ([],[]) l d with
   | error c=>rw[hm]at h;cases h
   | ok y =>
    obtain⟨st,u⟩:=y;rw[hm]at h;dsimp only at h;obtain⟨h0,rs,h1,h2,h3,h4,h5⟩:=kp hm;have h6:=jz ktk rs;rw[h4,<-h2]at h6;have h7:=xa (d:=d) l.length KInv (z8h hl) rs ([],[]) st 0 h3 ⟨rfl,by simp[krec],by simp⟩ (by omega) h1;rw[Nat.zero_add]at h7;refine⟨h0,?_⟩;obtain⟨t,ht⟩:=nmd (tlen ktk rs)
    rw[ht]at h6 h7;clear hm h1 h2 h3 h4 ht rs;obtain⟨i1,i2,i3⟩:=h7
    split at h
    ·rename_i he
     simp only[Except.ok.injEq]at h
     subst h;rw[if_pos he]at i2;refine⟨?_,?_,?_,?_⟩
     ·rw[kmay,i1,h5];rfl
     ·rw[kfit,Val.zero,vfit,Z7,qs];exact⟨by omega,by omega,by omega,by omega,by simp,by simp,by simp,trivial,trivial⟩
     ·rw[kout,List.length_append];simp;omega
     ·rw[kw,Val.zero,vw,vsw,ksw];simp;omega
    ·rename_i he
     cases hr:zn f st.2.flatten (d-1)with
     | error c=>rw[hr]at h;cases h
     | ok v =>
      rw[hr]at h
      simp only[Except.ok.injEq]at h
      subst h;rw[if_neg he]at i2;have hb:st.2.flatten.length+2<=bl st.2.flatten.length:=by unfold bl;have:=(zu st.2.flatten.length).1;omega
      obtain⟨a1,a2,a3,a4,a5⟩:=iv _ _ v (by omega) hr;refine⟨?_,?_,?_,?_⟩
      ·rw[kmay,i1,h5,a2,decide_eq_true (by omega:1<=d)];rfl
      ·rw[kfit];exact⟨by omega,by omega,a3⟩
      ·rw[kout,List.length_append,List.length_append,if_pos rfl,Jc (by omega)]
       have:=z44 a4 (by omega);unfold bl at this i2 hb
       omega
      ·rw[kw];omega
end Go.Proofs.YtmlghmjjlpioeaaGreatDoor
