/-
  Attributes: what is written is read again.
-/
import Derived.Test.YtficgfemmijaaaaGreatValOut
namespace Go.Proofs.YtficgfemmijaaaaGreat
open Go.RowKit
open Lib (hid)
theorem rF_is {num n:Nat}(h1:1≤num)(h2:num≤536870911)(hn:n<2 ^ 64)(d:Int):IsRec d (rF num n):=txt_isrec (txt_fixed h1 h2 hn) d
theorem mread_fold_no {σ:Type}{tk:Rec→Bool}{step:σ→Rec→Except Nat σ}{st:σ}{rs:List Rec}{u:List UInt8}{d:Int}{c:Nat}(hd:0≤d)(h:∀ r∈rs,∀ d,IsRec d r)(hf:mfold tk step st rs = .error c) :
  ∃ c,mread tk step st (rs.flatMap Rec.raw++u) d = .error c:=by
 have h1:=recs_wall rs d (fun r hr=>h r hr d);unfold mread;rw[if_neg (by omega),wall_append _ u (Nat.le_refl _) h1]
 cases wall u d with
 | error c2=>exact ⟨c2,rfl⟩
 | ok us =>
  dsimp only;rw[mfold_append,hf];exact ⟨c,rfl⟩
section
variable {α:Type} {rd:List UInt8→Int→Except Nat α} {out:α→List UInt8}
theorem lfold_ok {d:Int}:∀ (l xs:List α),(∀ x∈l,rd (out x) d = .ok x)→mfold itk (lstep rd d) xs (l.map fun x=>rB 1 (out x)) = .ok (xs++l)
 | [],xs,_=>by simp[mfold]
 | x::l,xs,h=>by
  rw[List.map_cons,mfold];have h1:=h x (List.mem_cons_self ..);have ht:itk (rB 1 (out x))=true:=rfl;rw[if_pos ht];unfold lstep;rw[show (rB 1 (out x)).s=out x from rfl,h1];dsimp only;have:=lfold_ok l (xs++[x]) (fun y hy=>h y (List.mem_cons_of_mem _ hy));unfold lstep at this
  rw[this,List.append_assoc]
  rfl
theorem lfold_no {d:Int}:∀ (l xs:List α),(∀ x∈l,rd (out x) d = .ok x∨∃ c,rd (out x) d = .error c)→(∃ x∈l,∃ c,rd (out x) d = .error c)→∃ c,mfold itk (lstep rd d) xs (l.map fun x=>rB 1 (out x)) = .error c
 | [],xs,_,h=>by obtain ⟨x,hx,_⟩:=h;cases hx
 | x::l,xs,h,he=>by
  rw[List.map_cons,mfold];have ht:itk (rB 1 (out x))=true:=rfl;rw[if_pos ht]
  rcases h x (List.mem_cons_self ..) with h1|⟨c,h1⟩
  ·have hl:lstep rd d xs (rB 1 (out x)) = .ok (xs++[x]):=by unfold lstep;rw[show (rB 1 (out x)).s=out x from rfl,h1]
   rw[hl];refine lfold_no l _ (fun y hy=>h y (List.mem_cons_of_mem _ hy)) ?_;obtain ⟨y,hy,c,hc⟩:=he
   rcases List.mem_cons.1 hy with rfl|hy
   ·rw[h1] at hc;cases hc
   ·exact ⟨y,hy,c,hc⟩
  ·have hl:lstep rd d xs (rB 1 (out x)) = .error c:=by unfold lstep;rw[show (rB 1 (out x)).s=out x from rfl,h1]
   rw[hl];exact ⟨c,rfl⟩
theorem items_rec {l:List α}(hs:∀ x∈l,(out x).length<2 ^ 64):∀ r∈(l.map fun x=>rB 1 (out x)),∀ d,IsRec d r:=fun r hr d=>by
 obtain ⟨x,hx,rfl⟩:=List.mem_map.1 hr;exact rB_is (by omega) (by omega) (hs x hx) d
theorem items_all (l:List α):((l.map fun x=>rB 1 (out x)).all fun r=>itk r)=true:=by
 rw[List.all_eq_true];intro r hr;obtain ⟨x,hx,rfl⟩:=List.mem_map.1 hr
 rfl
theorem lread_ok {l:List α}{i:List UInt8}{d:Int}(hd:0≤d)(h:∀ x∈l,rd (out x) (d - 1) = .ok x)(hs:∀ x∈l,(out x).length<2 ^ 64)(hi:munkOk itk i d=true):lread rd ((l.map fun x=>rB 1 (out x)).flatMap Rec.raw++i) d = .ok (l,i):=by
 unfold lread;have hf:=lfold_ok (rd:=rd) (out:=out) (d:=d - 1) l [] h;rw[List.nil_append] at hf;exact mread_put_ok hd (items_rec hs) hf (items_all l) hi
theorem lread_no {l:List α}{i:List UInt8}{d d':Int}(hle:d'≤d)(h:∀ x∈l,rd (out x) (d' - 1) = .ok x∨∃ c,rd (out x) (d' - 1) = .error c)(hs:∀ x∈l,(out x).length<2 ^ 64)(hi:munkOk itk i d=true)(hn:d' < 0∨munkOk itk i d'=false∨∃ x∈l,∃ c,rd (out x) (d' - 1) = .error c):∃ c,lread rd ((l.map fun x=>rB 1 (out x)).flatMap Rec.raw++i) d' = .error c:=by
 unfold lread
 by_cases h0:d' < 0
 ·exact ⟨6,by unfold mread;rw[if_pos h0]⟩
 by_cases he:∃ x∈l,∃ c,rd (out x) (d' - 1) = .error c
 ·obtain ⟨c,hc⟩:=lfold_no l [] h he
  exact mread_fold_no (by omega) (items_rec hs) hc
 ·have hok:∀ x∈l,rd (out x) (d' - 1) = .ok x:=fun x hx=>by
   rcases h x hx with h1|⟨c,h1⟩
   ·exact h1
   ·exact absurd ⟨x,hx,c,h1⟩ he
  have hf:=lfold_ok (rd:=rd) (out:=out) (d:=d' - 1) l [] hok;rw[List.nil_append] at hf;refine mread_put_no (items_rec hs) hf (items_all l) hi hle ?_
  rcases hn with hn|hn|hn
  ·exact .inl hn
  ·exact .inr hn
  ·exact absurd hn he
end
theorem vouts_flat (l:List Val):vouts 1 l=(l.map fun x=>rB 1 (vout x)).flatMap Rec.raw:=by
 induction l with
 | nil=>rw[vouts];rfl
 | cons x l ih=>rw[vouts,ih,List.map_cons,List.flatMap_cons]
theorem kouts_flat (l:List KV):kouts 1 l=(l.map fun x=>rB 1 (kout x)).flatMap Rec.raw:=by
 induction l with
 | nil=>rw[kouts];rfl
 | cons x l ih=>rw[kouts,ih,List.map_cons,List.flatMap_cons]
theorem vread_rec {f:Nat}{r:Rec}{u:List UInt8}{d:Int}(hd:0≤d)(hr:∀ d,IsRec d r)(hk:vtk r=true)(ho:r.num=1→uvalid r.s=true)(hu:munkOk vtk u d=true):vread (f+1) (r.raw++u) d=stands (vread f) (kread f) (oput one0 r) (d - 1) u:=by
 rw[vread]
 have hf:mfold vtk ostep one0 [r] = .ok (oput one0 r):=by
  rw[mfold,if_pos hk]
  have:ostep one0 r = .ok (oput one0 r):=by
   unfold ostep;rw[if_neg (fun h=>by rw[ho h.1] at h;cases h.2)]
  rw[this]
  rfl
 have:=mread_put_ok (rs:=[r]) (u:=u) hd (fun x hx=>by rw[List.mem_singleton.1 hx];exact hr) hf (by simp[hk]) hu;rw[List.flatMap_singleton] at this;rw[this]
theorem vread_none {f:Nat}{u:List UInt8}{d:Int}(hd:0≤d)(hu:munkOk vtk u d=true):vread (f+1) u d=stands (vread f) (kread f) one0 (d - 1) u:=by
 rw[vread];have:=mread_put_ok (tk:=vtk) (step:=ostep) (st:=one0) (st':=one0) (rs:=[]) (u:=u) hd (fun x hx=>by cases hx) rfl rfl hu;rw[List.flatMap_nil,List.nil_append] at this;rw[this]
theorem vsw_mem {l:List Val}{x:Val}(h:x∈l):vw x≤vsw l:=by
 induction l with
 | nil=>cases h
 | cons y l ih =>
  rw[vsw]
  rcases List.mem_cons.1 h with rfl|h
  ·omega
  ·have:=ih h;omega
theorem ksw_mem {l:List KV}{x:KV}(h:x∈l):kw x≤ksw l:=by
 induction l with
 | nil=>cases h
 | cons y l ih =>
  rw[ksw]
  rcases List.mem_cons.1 h with rfl|h
  ·omega
  ·have:=ih h;omega
theorem vnone_zero {v:Val}(h:vnone v=true):v=Val.zero:=by
 cases v with|mk k s b n l m i u =>
 rw[vnone] at h;unfold vpl at h
 simp only[Bool.and_eq_true,Bool.or_eq_true,decide_eq_true_eq,Bool.not_eq_true',List.isEmpty_iff] at h
 obtain ⟨⟨hk,hu⟩,⟨⟨⟨⟨⟨_,hS⟩,hB⟩,hN⟩,hL⟩,hM⟩,hI⟩:=h;have e1:s=[]:=by rcases hS with h|h;omega;exact h
 have e2:b=false:=by rcases hB with h|h;omega;exact h
 have e3:n=0:=by rcases hN with h|h;omega;exact h
 have e4:l=[]:=by rcases hL with h|h;omega;exact List.eq_nil_of_length_eq_zero h
 have e5:m=[]:=by rcases hM with h|h;omega;exact List.eq_nil_of_length_eq_zero h
 have e6:i=[]:=by rcases hI with h|h;omega;exact h
 subst hk hu e1 e2 e3 e4 e5 e6
 rfl
def krecs (key:List UInt8)(has:Bool)(t:List UInt8):List Rec:=(if key=[] then [] else [rB 1 key])++(if has then [rB 2 t] else [])
theorem krecs_raw (key:List UInt8)(has:Bool)(t:List UInt8):(krecs key has t).flatMap Rec.raw=krec key++(if has then (rB 2 t).raw else []):=by
 unfold krecs krec;rw[List.flatMap_append]
 congr 1
 ·split<;>simp
 ·cases has<;>simp
theorem krecs_is {key:List UInt8}{has:Bool}{t:List UInt8}(h1:key.length<2 ^ 64)(h2:t.length<2 ^ 64):∀ r∈krecs key has t,∀ d,IsRec d r:=fun r hr d=>by
 unfold krecs at hr
 rcases List.mem_append.1 hr with h|h
 ·split at h
  ·cases h
  ·rw[List.mem_singleton.1 h];exact rB_is (by omega) (by omega) h1 d
 ·cases has with
  | false=>cases h
  | true=>rw[List.mem_singleton.1 h];exact rB_is (by omega) (by omega) h2 d
theorem krecs_all (key:List UInt8)(has:Bool)(t:List UInt8):((krecs key has t).all fun r=>ktk r)=true:=by
 rw[List.all_eq_true];intro r hr;unfold krecs at hr
 rcases List.mem_append.1 hr with h|h
 ·split at h
  ·cases h
  ·rw[List.mem_singleton.1 h];rfl
 ·cases has with
  | false=>cases h
  | true=>rw[List.mem_singleton.1 h];rfl
theorem krecs_fold {key:List UInt8}{has:Bool}{t:List UInt8}(hk:uvalid key=true):mfold ktk kstep ([],[]) (krecs key has t) = .ok (key,if has then [t] else []):=by
 have h2:∀ k:List UInt8,mfold ktk kstep (k,[]) (if has=true then [rB 2 t] else []) = .ok (k,if has then [t] else []):=fun k=>by
  cases has with
  | false=>rfl
  | true=>rfl
 unfold krecs;rw[mfold_append]
 by_cases h:key=[]
 ·rw[if_pos h,mfold]
  dsimp only;rw[h2,h]
 ·rw[if_neg h,mfold,if_pos (show ktk (rB 1 key)=true from rfl)]
  have e:kstep ([],[]) (rB 1 key) = .ok (key,[]):=by
   unfold kstep;rw[if_pos (show (rB 1 key).num=1 from rfl),if_pos (show uvalid (rB 1 key).s=true from hk)]
   rfl
  rw[e];dsimp only;rw[mfold];dsimp only;exact h2 key
theorem stands5 {f:Nat}{o:One}{d:Int}{u:List UInt8}(h:o.r.num=5){xs:List Val}{i:List UInt8}(hr:lread (vread f) o.ps.flatten d = .ok (xs,i)):stands (vread f) (kread f) o d u = .ok (.mk 5 [] false 0 xs [] i u):=by
 unfold stands;rw[if_neg (by omega),if_neg (by omega),if_neg (by omega),if_pos h,hr,h]
 rfl
theorem stands6 {f:Nat}{o:One}{d:Int}{u:List UInt8}(h:o.r.num=6){xs:List KV}{i:List UInt8}(hr:lread (kread f) o.ps.flatten d = .ok (xs,i)):stands (vread f) (kread f) o d u = .ok (.mk 6 [] false 0 [] xs i u):=by
 unfold stands;rw[if_neg (by omega),if_neg (by omega),if_neg (by omega),if_neg (by omega),if_pos h,hr,h]
 rfl
theorem stands5_no {f c:Nat}{o:One}{d:Int}{u:List UInt8}(h:o.r.num=5)(hr:lread (vread f) o.ps.flatten d = .error c):stands (vread f) (kread f) o d u = .error c:=by
 unfold stands;rw[if_neg (by omega),if_neg (by omega),if_neg (by omega),if_pos h,hr]
theorem stands6_no {f c:Nat}{o:One}{d:Int}{u:List UInt8}(h:o.r.num=6)(hr:lread (kread f) o.ps.flatten d = .error c):stands (vread f) (kread f) o d u = .error c:=by
 unfold stands;rw[if_neg (by omega),if_neg (by omega),if_neg (by omega),if_neg (by omega),if_pos h,hr]
mutual
theorem vback:∀ (x:Val) (d:Int) (f:Nat),vfit x→vw x≤1000000→vmay x d=true→0≤d→(vout x).length<f→vread f (vout x) d = .ok x
 | .mk k s b n l m i u,d,f,hfit,hw,hm,hd,hf=>by
  cases f with
  | zero=>omega
  | succ f =>
  rw[vfit] at hfit;obtain ⟨_,hn,hs,hi,_,hfl,hfm⟩:=hfit;rw[vw] at hw;rw[vmay] at hm
  simp only[Bool.and_eq_true,Bool.or_eq_true,decide_eq_true_eq,Bool.not_eq_true',decide_eq_false_iff_not] at hm
  obtain ⟨⟨⟨hp,ht⟩,hlm⟩,hu⟩:=hm;unfold vpl at hp
  simp only[Bool.and_eq_true,Bool.or_eq_true,decide_eq_true_eq,Bool.not_eq_true',List.isEmpty_iff] at hp
  obtain ⟨⟨⟨⟨⟨⟨hk,hS⟩,hB⟩,hN⟩,hL⟩,hM⟩,hI⟩:=hp;have hbool:∀ q:Nat,(!decide (q=0))=true∨(!decide (q=0))=false:=fun q=>by cases (!decide (q=0))<;>simp
  rw[vout] at hf ⊢
  rcases (by omega:k=0∨k=1∨k=2∨k=3∨k=4∨k=5∨k=6∨k=7) with rfl|rfl|rfl|rfl|rfl|rfl|rfl|rfl
  ·have e1:s=[]:=by rcases hS with h|h;omega;exact h
   have e2:b=false:=by rcases hB with h|h;omega;exact h
   have e3:n=0:=by rcases hN with h|h;omega;exact h
   have e4:l=[]:=by rcases hL with h|h;omega;exact List.eq_nil_of_length_eq_zero h
   have e5:m=[]:=by rcases hM with h|h;omega;exact List.eq_nil_of_length_eq_zero h
   have e6:i=[]:=by rcases hI with h|h;omega;exact h
   subst e1 e2 e3 e4 e5 e6;rw[show vrec 0 [] false 0 (vouts 1 []) (kouts 1 []) []=[] by simp[vrec],List.nil_append,vread_none hd hu]
   rfl
  ·have e2:b=false:=by rcases hB with h|h;omega;exact h
   have e3:n=0:=by rcases hN with h|h;omega;exact h
   have e4:l=[]:=by rcases hL with h|h;omega;exact List.eq_nil_of_length_eq_zero h
   have e5:m=[]:=by rcases hM with h|h;omega;exact List.eq_nil_of_length_eq_zero h
   have e6:i=[]:=by rcases hI with h|h;omega;exact h
   subst e2 e3 e4 e5 e6;rw[show vrec 1 s false 0 (vouts 1 []) (kouts 1 []) []=(rB 1 s).raw by simp[vrec],vread_rec hd (fun d=>rB_is (by omega) (by omega) (by omega) d) rfl (fun _=>by rcases ht with h|h;exact absurd rfl h;exact h) hu]
   rfl
  ·have e1:s=[]:=by rcases hS with h|h;omega;exact h
   have e3:n=0:=by rcases hN with h|h;omega;exact h
   have e4:l=[]:=by rcases hL with h|h;omega;exact List.eq_nil_of_length_eq_zero h
   have e5:m=[]:=by rcases hM with h|h;omega;exact List.eq_nil_of_length_eq_zero h
   have e6:i=[]:=by rcases hI with h|h;omega;exact h
   subst e1 e3 e4 e5 e6;rw[show vrec 2 [] b 0 (vouts 1 []) (kouts 1 []) []=(rN 2 (if b then 1 else 0)).raw by simp[vrec],vread_rec hd (fun d=>rN_is (by omega) (by omega) (by cases b<;>simp) d) rfl (fun h=>by cases h) hu]
   cases b<;>rfl
  ·have e1:s=[]:=by rcases hS with h|h;omega;exact h
   have e2:b=false:=by rcases hB with h|h;omega;exact h
   have e4:l=[]:=by rcases hL with h|h;omega;exact List.eq_nil_of_length_eq_zero h
   have e5:m=[]:=by rcases hM with h|h;omega;exact List.eq_nil_of_length_eq_zero h
   have e6:i=[]:=by rcases hI with h|h;omega;exact h
   subst e1 e2 e4 e5 e6;rw[show vrec 3 [] false n (vouts 1 []) (kouts 1 []) []=(rN 3 n).raw by simp[vrec],vread_rec hd (fun d=>rN_is (by omega) (by omega) (by omega) d) rfl (fun h=>by cases h) hu]
   rfl
  ·have e1:s=[]:=by rcases hS with h|h;omega;exact h
   have e2:b=false:=by rcases hB with h|h;omega;exact h
   have e4:l=[]:=by rcases hL with h|h;omega;exact List.eq_nil_of_length_eq_zero h
   have e5:m=[]:=by rcases hM with h|h;omega;exact List.eq_nil_of_length_eq_zero h
   have e6:i=[]:=by rcases hI with h|h;omega;exact h
   subst e1 e2 e4 e5 e6;rw[show vrec 4 [] false n (vouts 1 []) (kouts 1 []) []=(rF 4 n).raw by simp[vrec],vread_rec hd (fun d=>rF_is (by omega) (by omega) (by omega) d) rfl (fun h=>by cases h) hu]
   rfl
  ·have e1:s=[]:=by rcases hS with h|h;omega;exact h
   have e2:b=false:=by rcases hB with h|h;omega;exact h
   have e3:n=0:=by rcases hN with h|h;omega;exact h
   have e5:m=[]:=by rcases hM with h|h;omega;exact List.eq_nil_of_length_eq_zero h
   subst e1 e2 e3 e5;have hl:=vouts_le 1 (by omega) l;have e0:vrec 5 [] false 0 (vouts 1 l) (kouts 1 []) i=(rB 5 (vouts 1 l++i)).raw:=by simp[vrec]
   rw[e0] at hf ⊢
   have hlen:(vouts 1 l++i).length<f:=by
    rw[List.length_append] at hf
    have:(rB 5 (vouts 1 l++i)).raw.length=(vput (8 * 5+2)).length+((vput (vouts 1 l++i).length).length+(vouts 1 l++i).length):=by
     show (vput (8 * 5+2)++(vput (vouts 1 l++i).length++(vouts 1 l++i))).length=_
     rw[List.length_append,List.length_append]
    have h9:=(vput_length (8 * 5+2)).1;omega
   rw[vread_rec hd (fun d=>rB_is (by omega) (by omega) (by rw[List.length_append];omega) d) rfl (fun h=>by cases h) hu]
   have hlm2:1≤d∧(vmays l (d - 1)=true∧kmays [] (d - 1)=true)∧munkOk itk i (d - 1)=true:=by
    rcases hlm with h|h
    ·exact absurd (.inl rfl) h
    ·exact h
   have hrd:=lread_ok (rd:=vread f) (out:=vout) (l:=l) (i:=i) (d:=d - 1) (by omega) (vbacks l (d - 1) f hfl (by omega) hlm2.2.1.1 (by rw[List.length_append] at hlen;omega)) (fun x hx=>by
    have:=vsw_mem hx;have:=vout_le x;have:=vw_vb x;omega) hlm2.2.2
   rw[←vouts_flat] at hrd;exact stands5 (o:=oput one0 (rB 5 (vouts 1 l++i))) rfl (by rw[show (oput one0 (rB 5 (vouts 1 l++i))).ps.flatten=vouts 1 l++i by simp[oput,one0,rB]];exact hrd)
  ·have e1:s=[]:=by rcases hS with h|h;omega;exact h
   have e2:b=false:=by rcases hB with h|h;omega;exact h
   have e3:n=0:=by rcases hN with h|h;omega;exact h
   have e4:l=[]:=by rcases hL with h|h;omega;exact List.eq_nil_of_length_eq_zero h
   subst e1 e2 e3 e4;have hl:=kouts_le 1 (by omega) m;have e0:vrec 6 [] false 0 (vouts 1 []) (kouts 1 m) i=(rB 6 (kouts 1 m++i)).raw:=by simp[vrec]
   rw[e0] at hf ⊢
   have hlen:(kouts 1 m++i).length<f:=by
    rw[List.length_append] at hf
    have:(rB 6 (kouts 1 m++i)).raw.length=(vput (8 * 6+2)).length+((vput (kouts 1 m++i).length).length+(kouts 1 m++i).length):=by
     show (vput (8 * 6+2)++(vput (kouts 1 m++i).length++(kouts 1 m++i))).length=_
     rw[List.length_append,List.length_append]
    have h9:=(vput_length (8 * 6+2)).1;omega
   rw[vread_rec hd (fun d=>rB_is (by omega) (by omega) (by rw[List.length_append];omega) d) rfl (fun h=>by cases h) hu]
   have hlm2:1≤d∧(vmays [] (d - 1)=true∧kmays m (d - 1)=true)∧munkOk itk i (d - 1)=true:=by
    rcases hlm with h|h
    ·exact absurd (.inr rfl) h
    ·exact h
   have hrd:=lread_ok (rd:=kread f) (out:=kout) (l:=m) (i:=i) (d:=d - 1) (by omega) (kbacks m (d - 1) f hfm (by omega) hlm2.2.1.2 (by rw[List.length_append] at hlen;omega)) (fun x hx=>by
    have:=ksw_mem hx;have:=kout_le x;have:=kw_kb x;omega) hlm2.2.2
   rw[←kouts_flat] at hrd;exact stands6 (o:=oput one0 (rB 6 (kouts 1 m++i))) rfl (by rw[show (oput one0 (rB 6 (kouts 1 m++i))).ps.flatten=kouts 1 m++i by simp[oput,one0,rB]];exact hrd)
  ·have e2:b=false:=by rcases hB with h|h;omega;exact h
   have e3:n=0:=by rcases hN with h|h;omega;exact h
   have e4:l=[]:=by rcases hL with h|h;omega;exact List.eq_nil_of_length_eq_zero h
   have e5:m=[]:=by rcases hM with h|h;omega;exact List.eq_nil_of_length_eq_zero h
   have e6:i=[]:=by rcases hI with h|h;omega;exact h
   subst e2 e3 e4 e5 e6;rw[show vrec 7 s false 0 (vouts 1 []) (kouts 1 []) []=(rB 7 s).raw by simp[vrec],vread_rec hd (fun d=>rB_is (by omega) (by omega) (by omega) d) rfl (fun h=>by cases h) hu]
   rfl
theorem kback:∀ (x:KV) (d:Int) (f:Nat),kfit x→kw x≤1000000→kmay x d=true→0≤d→(kout x).length<f→kread f (kout x) d = .ok x
 | .mk key has v u,d,f,hfit,hw,hm,hd,hf=>by
  cases f with
  | zero=>omega
  | succ f =>
  rw[kfit] at hfit;obtain ⟨hs,_,hfv⟩:=hfit;rw[kw] at hw;rw[kmay] at hm
  simp only[Bool.and_eq_true] at hm
  obtain ⟨⟨hk,hv⟩,hu⟩:=hm;rw[kout] at hf ⊢;have hvl:=vout_le v;have hvb:=vw_vb v;have hrd:=mread_put_ok (tk:=ktk) (step:=kstep) (st:=([],[])) (rs:=krecs key has (vout v)) (u:=u) hd (krecs_is (by omega) (by omega)) (krecs_fold hk) (krecs_all _ _ _) hu;rw[krecs_raw] at hrd;rw[kread,hrd]
  cases has with
  | false =>
   simp only[Bool.false_eq_true,if_false] at hv
   rw[vnone_zero hv]
   rfl
  | true =>
   simp only[if_true,Bool.and_eq_true,decide_eq_true_eq] at hv
   have hlen:(vout v).length<f:=by
    rw[List.length_append,List.length_append,if_pos rfl] at hf
    have:(rB 2 (vout v)).raw.length=(vput (8 * 2+2)).length+((vput (vout v).length).length+(vout v).length):=by
     show (vput (8 * 2+2)++(vput (vout v).length++vout v)).length=_
     rw[List.length_append,List.length_append]
    have h9:=(vput_length (8 * 2+2)).1;omega
   have hb:=vback v (d - 1) f hfv (by omega) hv.2 (by omega) hlen
   simp only[if_true]
   rw[if_neg (by simp),show [vout v].flatten=vout v by simp,hb]
theorem vbacks:∀ (l:List Val) (d:Int) (f:Nat),vsfit l→vsw l≤1000000→vmays l d=true→(vouts 1 l).length<f→∀ x∈l,vread f (vout x) (d - 1) = .ok x
 | [],_,_,_,_,_,_=>fun x hx=>by cases hx
 | y::l,d,f,hfit,hw,hm,hf=>fun x hx=>by
  rw[vsfit] at hfit;rw[vsw] at hw;rw[vmays] at hm
  simp only[Bool.and_eq_true,decide_eq_true_eq] at hm
  rw[vouts,List.length_append] at hf
  have hy:vread f (vout y) (d - 1) = .ok y:=vback y (d - 1) f hfit.1 (by omega) hm.1.2 (by omega) (by
   have:(rB 1 (vout y)).raw.length=(vput (8 * 1+2)).length+((vput (vout y).length).length+(vout y).length):=by
    show (vput (8 * 1+2)++(vput (vout y).length++vout y)).length=_
    rw[List.length_append,List.length_append]
   omega)
  have hl:=vbacks l d f hfit.2 (by omega) hm.2 (by omega)
  rcases List.mem_cons.1 hx with rfl|h
  ·exact hy
  ·exact hl x h
theorem kbacks:∀ (l:List KV) (d:Int) (f:Nat),ksfit l→ksw l≤1000000→kmays l d=true→(kouts 1 l).length<f→∀ x∈l,kread f (kout x) (d - 1) = .ok x
 | [],_,_,_,_,_,_=>fun x hx=>by cases hx
 | y::l,d,f,hfit,hw,hm,hf=>fun x hx=>by
  rw[ksfit] at hfit;rw[ksw] at hw;rw[kmays] at hm
  simp only[Bool.and_eq_true,decide_eq_true_eq] at hm
  rw[kouts,List.length_append] at hf
  have hy:kread f (kout y) (d - 1) = .ok y:=kback y (d - 1) f hfit.1 (by omega) hm.1.2 (by omega) (by
   have:(rB 1 (kout y)).raw.length=(vput (8 * 1+2)).length+((vput (kout y).length).length+(kout y).length):=by
    show (vput (8 * 1+2)++(vput (kout y).length++kout y)).length=_
    rw[List.length_append,List.length_append]
   omega)
  have hl:=kbacks l d f hfit.2 (by omega) hm.2 (by omega)
  rcases List.mem_cons.1 hx with rfl|h
  ·exact hy
  ·exact hl x h
end
theorem vread_rec_no {f:Nat}{r:Rec}{u:List UInt8}{d d':Int}(hr:∀ d,IsRec d r)(hk:vtk r=true)(ho:r.num=1→uvalid r.s=true)(hu:munkOk vtk u d=true)(hle:d'≤d)(hn:d' < 0∨munkOk vtk u d'=false):∃ c,vread (f+1) (r.raw++u) d' = .error c:=by
 have hf:mfold vtk ostep one0 [r] = .ok (oput one0 r):=by
  rw[mfold,if_pos hk]
  have:ostep one0 r = .ok (oput one0 r):=by
   unfold ostep;rw[if_neg (fun h=>by rw[ho h.1] at h;cases h.2)]
  rw[this]
  rfl
 obtain ⟨c,h⟩:=mread_put_no (rs:=[r]) (u:=u) (fun x hx=>by rw[List.mem_singleton.1 hx];exact hr) hf (by simp[hk]) hu hle hn;rw[List.flatMap_singleton] at h;exact ⟨c,by rw[vread,h]⟩
theorem vread_none_no {f:Nat}{u:List UInt8}{d d':Int}(hu:munkOk vtk u d=true)(hle:d'≤d)(hn:d' < 0∨munkOk vtk u d'=false):∃ c,vread (f+1) u d' = .error c:=by
 obtain ⟨c,h⟩:=mread_put_no (tk:=vtk) (step:=ostep) (st:=one0) (st':=one0) (rs:=[]) (u:=u) (fun x hx=>by cases hx) rfl rfl hu hle hn;rw[List.flatMap_nil,List.nil_append] at h;exact ⟨c,by rw[vread,h]⟩
theorem vmays_no {l:List Val}{d:Int}(h:vmays l (d - 1)=false):∃ x∈l,vmayD x (d - 2)=false:=by
 rw[vmays_all] at h;obtain ⟨x,hx,h2⟩:=List.all_eq_false.1 h;exact ⟨x,hx,by simpa using h2⟩
theorem kmays_no {l:List KV}{d:Int}(h:kmays l (d - 1)=false):∃ x∈l,kmayD x (d - 2)=false:=by
 rw[kmays_all] at h;obtain ⟨x,hx,h2⟩:=List.all_eq_false.1 h;exact ⟨x,hx,by simpa using h2⟩
mutual
theorem vback_no:∀ (x:Val) (d d':Int) (f:Nat),vfit x→vw x≤1000000→vmay x d=true→d'≤d→vmayD x d'=false→(vout x).length<f→∃ c,vread f (vout x) d' = .error c
 | .mk k s b n l m i u,d,d',f,hfit,hw,hm,hle,hno,hf=>by
  cases f with
  | zero=>omega
  | succ f =>
  rw[vfit] at hfit;obtain ⟨_,hn,hs,hi,_,hfl,hfm⟩:=hfit;rw[vw] at hw;rw[vmayD,vmay] at hno;rw[vmay] at hm
  simp only[Bool.and_eq_true] at hm
  obtain ⟨⟨⟨hp0,ht0⟩,hlm⟩,hu⟩:=hm;rw[hp0,ht0] at hno;have hp:=hp0;have ht:=ht0
  simp only[Bool.or_eq_true,Bool.not_eq_true',decide_eq_false_iff_not] at ht
  unfold vpl at hp
  simp only[Bool.and_eq_true,Bool.or_eq_true,decide_eq_true_eq,Bool.not_eq_true',List.isEmpty_iff] at hp
  obtain ⟨⟨⟨⟨⟨⟨hk,hS⟩,hB⟩,hN⟩,hL⟩,hM⟩,hI⟩:=hp;rw[vout] at hf ⊢
  have hplain:¬(k=5∨k=6)→d' < 0∨munkOk vtk u d'=false:=fun h=>by
   rw[decide_eq_false h] at hno
   by_cases h0:d' < 0
   ·exact .inl h0
   ·rw[decide_eq_true (by omega)] at hno
    exact .inr (by simpa using hno)
  rcases (by omega:k=0∨k=1∨k=2∨k=3∨k=4∨k=5∨k=6∨k=7) with rfl|rfl|rfl|rfl|rfl|rfl|rfl|rfl
  ·rw[show vrec 0 s b n (vouts 1 l) (kouts 1 m) i=[] by simp[vrec],List.nil_append]
   exact vread_none_no hu hle (hplain (by omega))
  ·rw[show vrec 1 s b n (vouts 1 l) (kouts 1 m) i=(rB 1 s).raw by simp[vrec]]
   exact vread_rec_no (fun d=>rB_is (by omega) (by omega) (by omega) d) rfl (fun _=>by rcases ht with h|h;exact absurd rfl h;exact h) hu hle (hplain (by omega))
  ·rw[show vrec 2 s b n (vouts 1 l) (kouts 1 m) i=(rN 2 (if b then 1 else n)).raw by simp[vrec]]
   exact vread_rec_no (fun d=>rN_is (by omega) (by omega) (by cases b<;>simp<;>omega) d) rfl (fun h=>by cases h) hu hle (hplain (by omega))
  ·rw[show vrec 3 s b n (vouts 1 l) (kouts 1 m) i=(rN 3 n).raw by simp[vrec]]
   exact vread_rec_no (fun d=>rN_is (by omega) (by omega) (by omega) d) rfl (fun h=>by cases h) hu hle (hplain (by omega))
  ·rw[show vrec 4 s b n (vouts 1 l) (kouts 1 m) i=(rF 4 n).raw by simp[vrec]]
   exact vread_rec_no (fun d=>rF_is (by omega) (by omega) (by omega) d) rfl (fun h=>by cases h) hu hle (hplain (by omega))
  ·have e5:m=[]:=by rcases hM with h|h;omega;exact List.eq_nil_of_length_eq_zero h
   subst e5;have hl:=vouts_le 1 (by omega) l;have e0:vrec 5 s b n (vouts 1 l) (kouts 1 []) i=(rB 5 (vouts 1 l++i)).raw:=by simp[vrec]
   rw[e0] at hf ⊢;have hr:∀ d,IsRec d (rB 5 (vouts 1 l++i)):=fun d=>rB_is (by omega) (by omega) (by rw[List.length_append];omega) d
   by_cases hun:d' < 0∨munkOk vtk u d'=false
   ·exact vread_rec_no hr rfl (fun h=>by cases h) hu hle hun
   have h0:0≤d':=by omega
   have hu2:munkOk vtk u d'=true:=by
    cases h:munkOk vtk u d' with
    | true=>rfl
    | false=>exact absurd (.inr h) hun
   rw[vread_rec h0 hr rfl (fun h=>by cases h) hu2]
   have hlen:(vouts 1 l++i).length<f:=by
    rw[List.length_append] at hf
    have:(rB 5 (vouts 1 l++i)).raw.length=(vput (8 * 5+2)).length+((vput (vouts 1 l++i).length).length+(vouts 1 l++i).length):=by
     show (vput (8 * 5+2)++(vput (vouts 1 l++i).length++(vouts 1 l++i))).length=_
     rw[List.length_append,List.length_append]
    have h9:=(vput_length (8 * 5+2)).1;omega
   have hlm2:1≤d∧(vmays l (d - 1)=true∧kmays [] (d - 1)=true)∧munkOk itk i (d - 1)=true:=by
    simpa using hlm
   have hno2:¬1≤d'∨vmays l (d' - 1)=false∨munkOk itk i (d' - 1)=false:=by
    rw[hu2,decide_eq_true h0] at hno
    by_cases h1:1≤d'
    ·right
     rw[decide_eq_true h1] at hno;have h2:vmays l (d' - 1)=true→munkOk itk i (d' - 1)=false:=by simpa [kmays] using hno
     cases hh:vmays l (d' - 1) with
     | true=>exact .inr (h2 hh)
     | false=>exact .inl rfl
    ·exact .inl h1
   obtain ⟨c,hc⟩:=lread_no (rd:=vread f) (out:=vout) (l:=l) (i:=i) (d:=d - 1) (d':=d' - 1) (by omega) (fun x hx=>by
    have hb:=vbacks_any l (d - 1) (d' - 1) f hfl (by omega) hlm2.2.1.1 (by omega) (by rw[List.length_append] at hlen;omega) x hx
    cases hh:vmayD x (d' - 1 - 1) with
    | true=>exact .inl (hb.1 hh)
    | false=>exact .inr (hb.2 hh)) (fun x hx=>by
    have:=vsw_mem hx;have:=vout_le x;have:=vw_vb x;omega) hlm2.2.2 (by
    rcases hno2 with h|h|h
    ·exact .inl (by omega)
    ·obtain ⟨x,hx,h2⟩:=vmays_no h
     have hb:=vbacks_any l (d - 1) (d' - 1) f hfl (by omega) hlm2.2.1.1 (by omega) (by rw[List.length_append] at hlen;omega) x hx;exact .inr (.inr ⟨x,hx,hb.2 (by rw[show d' - 1 - 1=d' - 2 by omega];exact h2)⟩)
    ·exact .inr (.inl h))
   rw[←vouts_flat] at hc;exact ⟨c,stands5_no (o:=oput one0 (rB 5 (vouts 1 l++i))) rfl (by rw[show (oput one0 (rB 5 (vouts 1 l++i))).ps.flatten=vouts 1 l++i by simp[oput,one0,rB]];exact hc)⟩
  ·have e5:l=[]:=by rcases hL with h|h;omega;exact List.eq_nil_of_length_eq_zero h
   subst e5;have hl:=kouts_le 1 (by omega) m;have e0:vrec 6 s b n (vouts 1 []) (kouts 1 m) i=(rB 6 (kouts 1 m++i)).raw:=by simp[vrec]
   rw[e0] at hf ⊢;have hr:∀ d,IsRec d (rB 6 (kouts 1 m++i)):=fun d=>rB_is (by omega) (by omega) (by rw[List.length_append];omega) d
   by_cases hun:d' < 0∨munkOk vtk u d'=false
   ·exact vread_rec_no hr rfl (fun h=>by cases h) hu hle hun
   have h0:0≤d':=by omega
   have hu2:munkOk vtk u d'=true:=by
    cases h:munkOk vtk u d' with
    | true=>rfl
    | false=>exact absurd (.inr h) hun
   rw[vread_rec h0 hr rfl (fun h=>by cases h) hu2]
   have hlen:(kouts 1 m++i).length<f:=by
    rw[List.length_append] at hf
    have:(rB 6 (kouts 1 m++i)).raw.length=(vput (8 * 6+2)).length+((vput (kouts 1 m++i).length).length+(kouts 1 m++i).length):=by
     show (vput (8 * 6+2)++(vput (kouts 1 m++i).length++(kouts 1 m++i))).length=_
     rw[List.length_append,List.length_append]
    have h9:=(vput_length (8 * 6+2)).1;omega
   have hlm2:1≤d∧(vmays [] (d - 1)=true∧kmays m (d - 1)=true)∧munkOk itk i (d - 1)=true:=by
    simpa using hlm
   have hno2:¬1≤d'∨kmays m (d' - 1)=false∨munkOk itk i (d' - 1)=false:=by
    rw[hu2,decide_eq_true h0] at hno
    by_cases h1:1≤d'
    ·right
     rw[decide_eq_true h1] at hno;have h2:kmays m (d' - 1)=true→munkOk itk i (d' - 1)=false:=by simpa [vmays] using hno
     cases hh:kmays m (d' - 1) with
     | true=>exact .inr (h2 hh)
     | false=>exact .inl rfl
    ·exact .inl h1
   obtain ⟨c,hc⟩:=lread_no (rd:=kread f) (out:=kout) (l:=m) (i:=i) (d:=d - 1) (d':=d' - 1) (by omega) (fun x hx=>by
    have hb:=kbacks_any m (d - 1) (d' - 1) f hfm (by omega) hlm2.2.1.2 (by omega) (by rw[List.length_append] at hlen;omega) x hx
    cases hh:kmayD x (d' - 1 - 1) with
    | true=>exact .inl (hb.1 hh)
    | false=>exact .inr (hb.2 hh)) (fun x hx=>by
    have:=ksw_mem hx;have:=kout_le x;have:=kw_kb x;omega) hlm2.2.2 (by
    rcases hno2 with h|h|h
    ·exact .inl (by omega)
    ·obtain ⟨x,hx,h2⟩:=kmays_no h
     have hb:=kbacks_any m (d - 1) (d' - 1) f hfm (by omega) hlm2.2.1.2 (by omega) (by rw[List.length_append] at hlen;omega) x hx;exact .inr (.inr ⟨x,hx,hb.2 (by rw[show d' - 1 - 1=d' - 2 by omega];exact h2)⟩)
    ·exact .inr (.inl h))
   rw[←kouts_flat] at hc;exact ⟨c,stands6_no (o:=oput one0 (rB 6 (kouts 1 m++i))) rfl (by rw[show (oput one0 (rB 6 (kouts 1 m++i))).ps.flatten=kouts 1 m++i by simp[oput,one0,rB]];exact hc)⟩
  ·rw[show vrec 7 s b n (vouts 1 l) (kouts 1 m) i=(rB 7 s).raw by simp[vrec]]
   exact vread_rec_no (fun d=>rB_is (by omega) (by omega) (by omega) d) rfl (fun h=>by cases h) hu hle (hplain (by omega))
theorem kback_no:∀ (x:KV) (d d':Int) (f:Nat),kfit x→kw x≤1000000→kmay x d=true→d'≤d→kmayD x d'=false→(kout x).length<f→∃ c,kread f (kout x) d' = .error c
 | .mk key has v u,d,d',f,hfit,hw,hm,hle,hno,hf=>by
  cases f with
  | zero=>omega
  | succ f =>
  rw[kfit] at hfit;obtain ⟨hs,_,hfv⟩:=hfit;rw[kw] at hw;rw[kmayD,kmay] at hno;rw[kmay] at hm
  simp only[Bool.and_eq_true] at hm
  obtain ⟨⟨hk,hv⟩,hu⟩:=hm;rw[kout] at hf ⊢;have hvl:=vout_le v;have hvb:=vw_vb v
  by_cases hun:d' < 0∨munkOk ktk u d'=false
  ·obtain ⟨c,h⟩:=mread_put_no (tk:=ktk) (step:=kstep) (st:=([],[])) (rs:=krecs key has (vout v)) (u:=u) (krecs_is (by omega) (by omega)) (krecs_fold hk) (krecs_all _ _ _) hu hle hun
   rw[krecs_raw] at h;exact ⟨c,by rw[kread,h]⟩
  have h0:0≤d':=by omega
  have hu2:munkOk ktk u d'=true:=by
   cases h:munkOk ktk u d' with
   | true=>rfl
   | false=>exact absurd (.inr h) hun
  have hrd:=mread_put_ok (tk:=ktk) (step:=kstep) (st:=([],[])) (rs:=krecs key has (vout v)) (u:=u) h0 (krecs_is (by omega) (by omega)) (krecs_fold hk) (krecs_all _ _ _) hu2;rw[krecs_raw] at hrd;rw[kread,hrd];rw[hk,hu2,decide_eq_true h0] at hno
  cases has with
  | false =>
   simp only[Bool.false_eq_true,if_false] at hv hno
   rw[hv] at hno
   cases hno
  | true =>
   simp only[if_true,Bool.and_eq_true,decide_eq_true_eq] at hv
   have hlen:(vout v).length<f:=by
    rw[List.length_append,List.length_append,if_pos rfl] at hf
    have:(rB 2 (vout v)).raw.length=(vput (8 * 2+2)).length+((vput (vout v).length).length+(vout v).length):=by
     show (vput (8 * 2+2)++(vput (vout v).length++vout v)).length=_
     rw[List.length_append,List.length_append]
    have h9:=(vput_length (8 * 2+2)).1;omega
   have hno2:vmayD v (d' - 1)=false:=by
    rw[vmayD,show decide (0≤d' - 1)=decide (1≤d') by congr 1;exact propext ⟨fun h=>by omega,fun h=>by omega⟩]
    simpa using hno
   obtain ⟨c,hc⟩:=vback_no v (d - 1) (d' - 1) f hfv (by omega) hv.2 (by omega) hno2 hlen
   simp only[if_true]
   rw[if_neg (by simp),show [vout v].flatten=vout v by simp,hc];exact ⟨c,rfl⟩
theorem vbacks_any:∀ (l:List Val) (d d':Int) (f:Nat),vsfit l→vsw l≤1000000→vmays l d=true→d'≤d→(vouts 1 l).length<f→∀ x∈l,(vmayD x (d' - 1)=true→vread f (vout x) (d' - 1) = .ok x)∧(vmayD x (d' - 1)=false→∃ c,vread f (vout x) (d' - 1) = .error c)
 | [],_,_,_,_,_,_,_,_=>fun x hx=>by cases hx
 | y::l,d,d',f,hfit,hw,hm,hle,hf=>fun x hx=>by
  rw[vsfit] at hfit;rw[vsw] at hw;rw[vmays] at hm
  simp only[Bool.and_eq_true,decide_eq_true_eq] at hm
  rw[vouts,List.length_append] at hf
  have hlen:(vout y).length<f:=by
   have:(rB 1 (vout y)).raw.length=(vput (8 * 1+2)).length+((vput (vout y).length).length+(vout y).length):=by
    show (vput (8 * 1+2)++(vput (vout y).length++vout y)).length=_
    rw[List.length_append,List.length_append]
   omega
  have hy:=vback_no y (d - 1) (d' - 1) f hfit.1 (by omega) hm.1.2 (by omega);have hl:=vbacks_any l d d' f hfit.2 (by omega) hm.2 hle (by omega)
  rcases List.mem_cons.1 hx with rfl|h
  ·refine ⟨fun h=>?_,fun h=>hy h hlen⟩
   rw[vmayD] at h
   simp only[Bool.and_eq_true,decide_eq_true_eq] at h
   exact vback _ _ f hfit.1 (by omega) h.2 h.1 hlen
  ·exact hl x h
theorem kbacks_any:∀ (l:List KV) (d d':Int) (f:Nat),ksfit l→ksw l≤1000000→kmays l d=true→d'≤d→(kouts 1 l).length<f→∀ x∈l,(kmayD x (d' - 1)=true→kread f (kout x) (d' - 1) = .ok x)∧(kmayD x (d' - 1)=false→∃ c,kread f (kout x) (d' - 1) = .error c)
 | [],_,_,_,_,_,_,_,_=>fun x hx=>by cases hx
 | y::l,d,d',f,hfit,hw,hm,hle,hf=>fun x hx=>by
  rw[ksfit] at hfit;rw[ksw] at hw;rw[kmays] at hm
  simp only[Bool.and_eq_true,decide_eq_true_eq] at hm
  rw[kouts,List.length_append] at hf
  have hlen:(kout y).length<f:=by
   have:(rB 1 (kout y)).raw.length=(vput (8 * 1+2)).length+((vput (kout y).length).length+(kout y).length):=by
    show (vput (8 * 1+2)++(vput (kout y).length++kout y)).length=_
    rw[List.length_append,List.length_append]
   omega
  have hy:=kback_no y (d - 1) (d' - 1) f hfit.1 (by omega) hm.1.2 (by omega);have hl:=kbacks_any l d d' f hfit.2 (by omega) hm.2 hle (by omega)
  rcases List.mem_cons.1 hx with rfl|h
  ·refine ⟨fun h=>?_,fun h=>hy h hlen⟩
   rw[kmayD] at h
   simp only[Bool.and_eq_true,decide_eq_true_eq] at h
   exact kback _ _ f hfit.1 (by omega) h.2 h.1 hlen
  ·exact hl x h
end
open Go.RowKit
theorem vgl_inv:∀ (f k m:Nat) (l:List UInt8) {v e:Nat},vgetGo (f+1) k m l = .ok (v,e)→∃ n j,e=k+j∧v=m+n * 128 ^ k∧(vputF f n).length≤j
 | f,k,m,[],v,e,h=>by simp[vgetGo] at h
 | 0,k,m,c::r,v,e,h=>by
  simp only[vgetGo] at h
  split at h
  ·simp at h
  ·split at h
   ·simp at h
    obtain ⟨rfl,rfl⟩:=h;exact ⟨c.toNat,1,rfl,rfl,by simp[vputF]⟩
   ·simp at h
 | f + 1,k,m,c::r,v,e,h=>by
  rw[vgetGo,if_neg (by omega)] at h
  split at h
  ·rename_i hc
   simp at h
   obtain ⟨rfl,rfl⟩:=h;exact ⟨c.toNat,1,rfl,rfl,by rw[vputF,if_pos hc];simp⟩
  ·rename_i hc
   obtain ⟨n,j,rfl,rfl,h4⟩:=vgl_inv f (k+1) _ r h;have hb:=c.toNat_lt;refine ⟨c.toNat - 128+128 * n,j+1,by omega,?_,?_⟩
   ·rw[Nat.pow_succ,Nat.add_mul,Nat.add_assoc]
    congr 2
    rw[Nat.mul_comm (128 ^ k),←Nat.mul_assoc,Nat.mul_comm n]
   ·rw[vputF]
    split
    ·simp
    ·rw[show (c.toNat - 128+128 * n) / 128=n by omega]
     simp
     omega
theorem wv_min {l:List UInt8}{n j:Nat}(h:wv l = .ok (n,j)):(vput n).length≤j:=by
 obtain ⟨m,i,rfl,rfl,h3⟩:=vgl_inv 9 0 0 l h
 show (vputF 9 _).length≤_
 rw[show 0+m * 128 ^ 0=m by simp];omega
theorem vputF_lt:∀ (f n k:Nat),n<128 ^ (k+1)→(vputF f n).length≤k+1
 | 0,n,k,_=>by simp[vputF]
 | f+1,n,k,h=>by
  rw[vputF]
  split
  ·simp
  ·rename_i hn
   match k,h with
   | 0,h=>omega
   | k+1,h =>
    have:=vputF_lt f (n / 128) k (by rw[Nat.pow_succ] at h;omega)
    simp
    omega
theorem lt_vputF:∀ (f n:Nat),(vputF f n).length≤f→n<128 ^ (vputF f n).length
 | 0,n,h=>by simp[vputF] at h
 | f+1,n,h=>by
  rw[vputF] at h ⊢
  split
  ·rename_i hn;simpa using hn
  ·rename_i hn
   rw[if_neg hn] at h;have:=lt_vputF f (n / 128) (by simpa using h);rw[List.length_cons,Nat.pow_succ];omega
theorem vl_lt {n:Nat}(h:n<9223372036854775808):n<128 ^ (vput n).length:=by
 refine lt_vputF 9 n ?_;have:=vputF_lt 9 n 8 (by omega);exact this
theorem vl_mono {a b:Nat}(h:a≤b)(hb:b<9223372036854775808):(vput a).length≤(vput b).length:=by
 have h1:=vl_lt hb;have h2:=(vput_length b).1;obtain ⟨k,hk⟩:∃ k,(vput b).length=k+1:=⟨_,(Nat.succ_pred_eq_of_pos h2).symm⟩
 rw[hk] at h1 ⊢;exact vputF_lt 9 a k (Nat.lt_of_le_of_lt h h1)
theorem vl_add {a b:Nat}(h:a+b<9223372036854775808):(vput (a+b)).length≤(vput a).length+(vput b).length:=by
 have h1:=vl_lt (n:=a) (by omega);have h2:=vl_lt (n:=b) (by omega);have h3:=(vput_length a).1;have h4:=(vput_length b).1;obtain ⟨p,hp⟩:∃ k,(vput a).length=k+1:=⟨_,(Nat.succ_pred_eq_of_pos h3).symm⟩
 obtain ⟨q,hq⟩:∃ k,(vput b).length=k+1:=⟨_,(Nat.succ_pred_eq_of_pos h4).symm⟩
 rw[hp] at h1 ⊢;rw[hq] at h2 ⊢;rw[show p+1+(q+1)=(p+q+1)+1 by omega];refine vputF_lt 9 _ _ ?_;have h5:128 ^ (p+1) * 128 ^ (q+1)=128 ^ (p+q+1+1):=by rw[←Nat.pow_add];congr 1;omega
 rw[←h5];have h6:2≤128 ^ (p+1):=by rw[Nat.pow_succ];have:0<128 ^ p:=Nat.pow_pos (by decide);omega
 have h7:2≤128 ^ (q+1):=by rw[Nat.pow_succ];have:0<128 ^ q:=Nat.pow_pos (by decide);omega
 generalize 128 ^ (p+1)=A at *
 generalize 128 ^ (q+1)=B at *
 have h8:A * B=(A - 2) * (B - 2)+2 * (A - 2)+2 * (B - 2)+4:=by
  obtain ⟨A,rfl⟩:∃ x,A=x+2:=⟨A - 2,by omega⟩
  obtain ⟨B,rfl⟩:∃ x,B=x+2:=⟨B - 2,by omega⟩
  simp only[Nat.add_sub_cancel,Nat.add_mul,Nat.mul_add]
  omega
 rw[h8]
 generalize (A - 2) * (B - 2)=Z at *
 omega
theorem rec_big {d:Int}{r:Rec}(h:IsRec d r):(r.ty=2→r.n=0∧1+(vput r.s.length).length+r.s.length≤r.raw.length)∧(r.ty=0→r.n<2 ^ 64∧1+(vput r.n).length≤r.raw.length)∧(r.ty=1→r.n<2 ^ 64∧9≤r.raw.length):=by
 have h1:=h [];rw[List.append_nil] at h1;unfold wnx at h1
 cases hh:whd r.raw with
 | error c=>rw[hh] at h1;cases h1
 | ok x =>
  obtain ⟨num,ty,j⟩:=x;have hb:=whd_bounds hh;rw[hh] at h1;dsimp only at h1
  split at h1
  ·cases h1
  ·split at h1
   ·cases hg:wgroup (r.raw.drop j) [num] d with
    | error c=>rw[hg] at h1;cases h1
    | ok k =>
     rw[hg] at h1
     simp only[Except.ok.injEq,Prod.mk.injEq] at h1
     have e:r.ty=3:=by rw[←h1.1]
     rw[e];exact ⟨fun h=>by omega,fun h=>by omega,fun h=>by omega⟩
   ·cases hbd:wbd (r.raw.drop j) ty with
    | error c=>rw[hbd] at h1;cases h1
    | ok y =>
     obtain ⟨n,s,m⟩:=y;rw[hbd] at h1
     simp only[Except.ok.injEq,Prod.mk.injEq] at h1
     obtain ⟨h1,h3⟩:=h1;have e1:r.ty=ty:=by rw[←h1]
     have e2:r.s=s:=by rw[←h1]
     have e3:r.n=n:=by rw[←h1]
     rw[e1,e2,e3];unfold wbd at hbd
     refine ⟨fun ht=>?_,fun ht=>?_,fun ht=>?_⟩
     ·subst ht
      rw[if_neg (by decide),if_neg (by decide)] at hbd
      cases hv:wv (r.raw.drop j) with
      | error c=>rw[hv] at hbd;cases hbd
      | ok z =>
       obtain ⟨a,i⟩:=z;have hm:=wv_min hv;rw[hv] at hbd;dsimp only at hbd;rw[if_neg (by decide)] at hbd
       split at hbd
       ·cases hbd
       ·simp only[Except.ok.injEq,Prod.mk.injEq] at hbd
        obtain ⟨rfl,rfl,rfl⟩:=hbd;have hl:(List.take a (List.drop i (List.drop j r.raw))).length=a:=by simp only[List.length_take,List.length_drop] at *;omega
        rw[hl];exact ⟨rfl,by omega⟩
     ·subst ht
      rw[if_neg (by decide),if_neg (by decide)] at hbd
      cases hv:wv (r.raw.drop j) with
      | error c=>rw[hv] at hbd;cases hbd
      | ok z =>
       obtain ⟨a,i⟩:=z;have hm:=wv_min hv;rw[hv] at hbd;dsimp only at hbd;rw[if_pos rfl] at hbd
       simp only[Except.ok.injEq,Prod.mk.injEq] at hbd
       obtain ⟨rfl,_,rfl⟩:=hbd;exact ⟨(wv_bounds hv).2.2.2,by omega⟩
     ·subst ht
      rw[if_pos rfl] at hbd
      split at hbd
      ·cases hbd
      ·simp only[Except.ok.injEq,Prod.mk.injEq] at hbd
       refine ⟨?_,by omega⟩;rw[←hbd.1];have h8:(List.take 8 (List.drop j r.raw)).length=8:=by simp only[List.length_take,List.length_drop] at *;omega
       have:=wlit_lt (List.take 8 (List.drop j r.raw))
       rwa [h8] at this
theorem munk_may {tk:Rec→Bool}{l:List UInt8}{d:Int}{rs:List Rec}(h:wall l d = .ok rs):munkOk tk (munk tk rs) d=true:=by
 have h1:=wall_recs _ (Nat.le_refl _) h;have h2:=recs_wall (mrest tk rs) d (fun r hr=>h1 r (List.mem_filter.1 hr).1);unfold munkOk munk;rw[h2]
 show ((mrest tk rs).all fun r=>!tk r)=true
 rw[List.all_eq_true];intro r hr;exact (List.mem_filter.1 hr).2
theorem mread_inv {σ:Type}{tk:Rec→Bool}{step:σ→Rec→Except Nat σ}{st st':σ}{l u:List UInt8}{d:Int}(h:mread tk step st l d = .ok (st',u)) :
  0≤d∧∃ rs,mfold tk step st rs = .ok st'∧u=munk tk rs∧(∀ r∈rs,IsRec d r)∧rs.flatMap Rec.raw=l∧munkOk tk u d=true:=by
 unfold mread at h
 split at h
 ·cases h
 ·cases hw:wall l d with
  | error c=>rw[hw] at h;cases h
  | ok rs =>
   rw[hw] at h;dsimp only at h
   cases hf:mfold tk step st rs with
   | error c=>rw[hf] at h;cases h
   | ok o =>
    rw[hf] at h
    simp only[Except.ok.injEq,Prod.mk.injEq] at h
    obtain ⟨rfl,rfl⟩:=h;exact ⟨by omega,rs,hf,rfl,wall_recs _ (Nat.le_refl _) hw,(wall_raws _ (Nat.le_refl _) hw).1,munk_may hw⟩
def tlen (tk:Rec→Bool)(rs:List Rec):Nat:=((rs.filter tk).flatMap Rec.raw).length
theorem tlen_munk (tk:Rec→Bool):∀ (rs:List Rec),tlen tk rs+(munk tk rs).length=(rs.flatMap Rec.raw).length
 | []=>by simp[tlen,munk,mrest]
 | r::rs=>by
  have:=tlen_munk tk rs;unfold tlen munk mrest at this ⊢
  rw[List.filter_cons,List.filter_cons,List.flatMap_cons,List.length_append]
  cases tk r
  ·simp only[Bool.not_false,if_true,Bool.false_eq_true,if_false,List.flatMap_cons,List.length_append];omega
  ·simp only[Bool.not_true,if_true,Bool.false_eq_true,if_false,List.flatMap_cons,List.length_append];omega
theorem mfold_tlen {σ:Type}{tk:Rec→Bool}{step:σ→Rec→Except Nat σ}{d:Int}(N:Nat)(I:σ→Nat→Prop)(hs:∀ o t r o',I o t→IsRec d r→tk r=true→t+r.raw.length≤N→step o r = .ok o'→I o' (t+r.raw.length)):∀ (rs:List Rec) (o o':σ) (t:Nat),(∀ r∈rs,IsRec d r)→I o t→t+tlen tk rs≤N→mfold tk step o rs = .ok o'→I o' (t+tlen tk rs)
 | [],o,o',t,_,h,_,hf=>by
  simp only[mfold,Except.ok.injEq] at hf
  subst hf;exact h
 | r::rs,o,o',t,hr,h,ht,hf=>by
  have h2:=fun z hz=>hr z (List.mem_cons_of_mem _ hz)
  rw[mfold] at hf
  have e:tlen tk (r::rs)=(if tk r then r.raw.length else 0)+tlen tk rs:=by
   unfold tlen;rw[List.filter_cons]
   split
   ·rw[List.flatMap_cons,List.length_append]
   ·rw[Nat.zero_add]
  rw[e] at ht ⊢
  split at hf
  ·rename_i hk
   rw[if_pos hk] at ht ⊢
   cases hst:step o r with
   | error c=>rw[hst] at hf;cases hf
   | ok o1 =>
    rw[hst] at hf;have:=mfold_tlen N I hs rs o1 o' (t+r.raw.length) h2 (hs o t r o1 h (hr r (List.mem_cons_self ..)) hk (by omega) hst) (by omega) hf;rw[←Nat.add_assoc];exact this
  ·rename_i hk
   rw[if_neg hk] at ht ⊢;rw[Nat.zero_add] at ht ⊢;exact mfold_tlen N I hs rs o o' t h2 h ht hf
theorem rB_len {num:Nat}(h:num≤15)(s:List UInt8):(rB num s).raw.length=1+(vput s.length).length+s.length:=by
 show (vput (8 * num+2)++(vput s.length++s)).length=_
 have:(vput (8 * num+2)).length=1:=by
  show (vputF 9 (8 * num+2)).length=1
  rw[vputF,if_pos (by omega)];rfl
 rw[List.length_append,List.length_append,this];omega
theorem rN_len {num:Nat}(h:num≤15)(n:Nat):(rN num n).raw.length=1+(vput n).length:=by
 show (vput (8 * num+0)++vput n).length=_
 have:(vput (8 * num+0)).length=1:=by
  show (vputF 9 (8 * num+0)).length=1
  rw[vputF,if_pos (by omega)];rfl
 rw[List.length_append,this]
theorem rF_len {num:Nat}(h:num≤15)(n:Nat):(rF num n).raw.length=9:=by
 show (vput (8 * num+1)++eight 8 n).length=_
 have:(vput (8 * num+1)).length=1:=by
  show (vputF 9 (8 * num+1)).length=1
  rw[vputF,if_pos (by omega)];rfl
 rw[List.length_append,this,eight_len]
def bl (n:Nat):Nat:=1+(vput n).length+n
theorem bl_mono {a b:Nat}(h:a≤b)(hb:b≤1000000):bl a≤bl b:=by unfold bl;have:=vl_mono h (by omega);omega
theorem bl_add {a b:Nat}(h:a+b≤1000000):bl (a+b)+1≤bl a+bl b:=by unfold bl;have:=vl_add (a:=a) (b:=b) (by omega);omega
section
variable {α:Type} {rd:List UInt8→Int→Except Nat α} {out:α→List UInt8} {may:α→Int→Bool} {wt:α→Nat} {fit:α→Prop}
def LInv (out:α→List UInt8)(may:α→Int→Bool)(wt:α→Nat)(fit:α→Prop)(d:Int)(l:List α)(t:Nat):Prop :=
 (∀ x∈l,0≤d∧may x d=true∧fit x)∧((l.map fun x=>(rB 1 (out x)).raw.length).foldr (·+·) 0)≤t∧((l.map wt).foldr (·+·) 0)≤51 * t
theorem foldr_snoc (l:List Nat)(n:Nat):(l++[n]).foldr (·+·) 0=l.foldr (·+·) 0+n:=by
 induction l with
 | nil=>simp
 | cons a l ih=>simp only[List.cons_append,List.foldr_cons,ih];omega
theorem lread_twice {l i:List UInt8}{xs:List α}{d:Int}(hl:l.length≤1000000)(h:lread rd l d = .ok (xs,i))(ih:∀ t x,t.length≤l.length→rd t (d - 1) = .ok x→0≤d - 1∧may x (d - 1)=true∧fit x∧(out x).length≤t.length∧wt x≤100+51 * t.length) :
  0≤d∧munkOk itk i d=true∧∃ t,t+i.length=l.length∧LInv out may wt fit (d - 1) xs t:=by
 unfold lread at h
 obtain ⟨h0,rs,h1,h2,h3,h4,h5⟩:=mread_inv h;have h6:=tlen_munk itk rs;rw[h4,←h2] at h6;refine ⟨h0,h5,tlen itk rs,h6,?_⟩;have:=mfold_tlen (d:=d) l.length (fun o t=>LInv out may wt fit (d - 1) o t) (fun o t r o' hi hr hk ht hst=>?_) rs [] xs 0 h3 ⟨(fun x hx=>by cases hx),by simp,by simp⟩ (by omega) h1
 ·rwa [Nat.zero_add] at this
 ·unfold lstep at hst
  cases hx:rd r.s (d - 1) with
  | error c=>rw[hx] at hst;cases hst
  | ok x =>
   rw[hx] at hst
   simp only[Except.ok.injEq] at hst
   subst hst;have hk2:r.ty=2:=by unfold itk at hk;exact (of_decide_eq_true hk).2
   have hb:=((rec_big hr).1 hk2).2;obtain ⟨g1,g2,g3,g4,g5⟩:=ih r.s x (by omega) hx;refine ⟨fun y hy=>?_,?_,?_⟩
   ·rcases List.mem_append.1 hy with hy|hy
    ·exact hi.1 y hy
    ·rw[List.mem_singleton.1 hy];exact ⟨g1,g2,g3⟩
   ·rw[List.map_append,List.map_cons,List.map_nil,foldr_snoc,rB_len (by omega)]
    have:=hi.2.1;have:=vl_mono g4 (by omega);omega
   ·rw[List.map_append,List.map_cons,List.map_nil,foldr_snoc]
    have:=hi.2.2;have:=(vput_length r.s.length).1;omega
end
theorem vouts_sum:∀ (l:List Val),(vouts 1 l).length=(l.map fun x=>(rB 1 (vout x)).raw.length).foldr (·+·) 0
 | []=>by rw[vouts];rfl
 | x::l=>by rw[vouts,List.length_append,vouts_sum l];rfl
theorem kouts_sum:∀ (l:List KV),(kouts 1 l).length=(l.map fun x=>(rB 1 (kout x)).raw.length).foldr (·+·) 0
 | []=>by rw[kouts];rfl
 | x::l=>by rw[kouts,List.length_append,kouts_sum l];rfl
theorem vsw_sum:∀ (l:List Val),vsw l=(l.map vw).foldr (·+·) 0
 | []=>by rw[vsw];rfl
 | x::l=>by rw[vsw,vsw_sum l];rfl
theorem ksw_sum:∀ (l:List KV),ksw l=(l.map kw).foldr (·+·) 0
 | []=>by rw[ksw];rfl
 | x::l=>by rw[ksw,ksw_sum l];rfl
theorem vmays_of {d:Int}:∀ {l:List Val},(∀ x∈l,0≤d - 1∧vmay x (d - 1)=true∧vfit x)→vmays l d=true∧vsfit l
 | [],_=>by rw[vmays,vsfit];exact ⟨rfl,trivial⟩
 | x::l,h=>by
  have h1:=h x (List.mem_cons_self ..);have h2:=vmays_of (l:=l) fun y hy=>h y (List.mem_cons_of_mem _ hy)
  rw[vmays,vsfit,h1.2.1,h2.1,decide_eq_true (by omega:1≤d)];exact ⟨rfl,h1.2.2,h2.2⟩
theorem kmays_of {d:Int}:∀ {l:List KV},(∀ x∈l,0≤d - 1∧kmay x (d - 1)=true∧kfit x)→kmays l d=true∧ksfit l
 | [],_=>by rw[kmays,ksfit];exact ⟨rfl,trivial⟩
 | x::l,h=>by
  have h1:=h x (List.mem_cons_self ..);have h2:=kmays_of (l:=l) fun y hy=>h y (List.mem_cons_of_mem _ hy)
  rw[kmays,ksfit,h1.2.1,h2.1,decide_eq_true (by omega:1≤d)];exact ⟨rfl,h1.2.2,h2.2⟩
def OInv (o:One)(t:Nat):Prop :=
 o=one0∨(vtk o.r=true∧(o.r.num=1→uvalid o.r.s=true)∧o.r.n<2 ^ 64∧(o.r.ty=2→bl o.r.s.length≤t∧bl o.ps.flatten.length≤t)∧(o.r.ty=0→1+(vput o.r.n).length≤t)∧(o.r.ty=1→9≤t))
theorem vtk_ty {r:Rec}(h:vtk r=true):((r.num=1∨r.num=5∨r.num=6∨r.num=7)∧r.ty=2)∨((r.num=2∨r.num=3)∧r.ty=0)∨(r.num=4∧r.ty=1):=of_decide_eq_true h
theorem ostep_twice {d:Int}{N:Nat}(hN:N≤1000000)(o:One)(t:Nat)(r:Rec)(o':One)(hi:OInv o t)(hr:IsRec d r)(hk:vtk r=true)(ht:t+r.raw.length≤N)(h:ostep o r = .ok o'):OInv o' (t+r.raw.length):=by
 have hb:=rec_big hr
 have hf:r.n<2 ^ 64:=by
  rcases vtk_ty hk with h1|h1|h1
  ·rw[(hb.1 h1.2).1];decide
  ·exact (hb.2.1 h1.2).1
  ·exact (hb.2.2 h1.2).1
 have hty:=vtk_ty hk;unfold ostep at h
 split at h
 ·cases h
 ·rename_i hn
  simp only[Except.ok.injEq] at h
  subst h;refine .inr ⟨hk,fun h1=>?_,hf,fun h2=>?_,fun h0=>?_,fun h0=>?_⟩
  ·show uvalid r.s=true
   cases hu:uvalid r.s
   ·exact absurd ⟨h1,hu⟩ hn
   ·rfl
  ·have h3:r.ty=2:=h2
   have h4:=(hb.1 h3).2;have h5:bl r.s.length≤r.raw.length:=by unfold bl;omega
   refine ⟨by show bl r.s.length≤_;omega,?_⟩
   show bl (if r.num=o.r.num then o.ps++[r.s] else [r.s]).flatten.length≤_
   split
   ·rename_i he
    rcases hi with rfl|⟨k1,k2,k3,k4,k5,k6⟩
    ·simp only[one0,List.nil_append,List.flatten_cons,List.flatten_nil,List.append_nil];omega
    ·have h6:o.r.ty=2:=by have:=vtk_ty k1;omega
     have h7:=(k4 h6).2;rw[List.flatten_append,List.length_append]
     simp only[List.flatten_cons,List.flatten_nil,List.append_nil]
     have:bl o.ps.flatten.length ≥ o.ps.flatten.length+1:=by unfold bl;omega
     have:=bl_add (a:=o.ps.flatten.length) (b:=r.s.length) (by omega);omega
   ·simp only[List.flatten_cons,List.flatten_nil,List.append_nil];omega
  ·have h3:r.ty=0:=h0
   have:=(hb.2.1 h3).2
   show 1+(vput r.n).length≤_
   omega
  ·have h3:r.ty=1:=h0
   have:=(hb.2.2 h3).2;omega
def KInv (st:List UInt8 × List (List UInt8))(t:Nat):Prop :=
 uvalid st.1=true∧(krec st.1).length+(if st.2=[] then 0 else bl st.2.flatten.length)≤t∧st.1.length+st.2.flatten.length≤t
theorem krec_bl (s:List UInt8):(krec s).length≤bl s.length:=by
 unfold krec
 split
 ·simp
 ·rw[rB_len (by omega)];exact Nat.le_refl _
theorem kstep_twice {d:Int}{N:Nat}(hN:N≤1000000)(st:List UInt8 × List (List UInt8))(t:Nat)(r:Rec)(st':List UInt8 × List (List UInt8))(hi:KInv st t)(hr:IsRec d r)(hk:ktk r=true)(ht:t+r.raw.length≤N)(h:kstep st r = .ok st'):KInv st' (t+r.raw.length):=by
 have hty:(r.num=1∨r.num=2)∧r.ty=2:=of_decide_eq_true hk;have hb:=((rec_big hr).1 hty.2).2;have h5:bl r.s.length≤r.raw.length:=by unfold bl;omega
 have h6:=krec_bl r.s;obtain ⟨i1,i2,i3⟩:=hi;unfold kstep at h
 split at h
 ·split at h
  ·rename_i hu
   simp only[Except.ok.injEq] at h
   subst h;refine ⟨hu,?_,?_⟩
   ·show (krec r.s).length+(if st.2=[] then 0 else bl st.2.flatten.length)≤_
    omega
   ·show r.s.length+st.2.flatten.length≤_
    omega
  ·cases h
 ·simp only[Except.ok.injEq] at h
  subst h;refine ⟨i1,?_,?_⟩
  ·show (krec st.1).length+(if st.2++[r.s]=[] then 0 else bl (st.2++[r.s]).flatten.length)≤_
   rw[if_neg (by simp),List.flatten_append,List.length_append]
   simp only[List.flatten_cons,List.flatten_nil,List.append_nil]
   by_cases he:st.2=[]
   ·rw[he] at i2 ⊢
    rw[if_pos rfl] at i2
    simp only[List.flatten_nil,List.length_nil,Nat.zero_add]
    omega
   ·rw[if_neg he] at i2
    have:=bl_add (a:=st.2.flatten.length) (b:=r.s.length) (by omega);omega
  ·show st.1.length+(st.2++[r.s]).flatten.length≤_
   rw[List.flatten_append,List.length_append]
   simp only[List.flatten_cons,List.flatten_nil,List.append_nil]
   omega
theorem vread_twice:∀ (f:Nat),(∀ l d x,l.length≤1000000→vread f l d = .ok x→0≤d∧vmay x d=true∧vfit x∧(vout x).length≤l.length∧vw x≤60+51 * l.length)∧(∀ l d x,l.length≤1000000→kread f l d = .ok x→0≤d∧kmay x d=true∧kfit x∧(kout x).length≤l.length∧kw x≤100+51 * l.length)
 | 0=>⟨fun l d x _ h=>(by rw[vread] at h;cases h),fun l d x _ h=>(by rw[kread] at h;cases h)⟩
 | f + 1 => by
  obtain ⟨iv,ik⟩:=vread_twice f;refine ⟨fun l d x hl h=>?_,fun l d x hl h=>?_⟩
  ·rw [vread] at h
   cases hm:mread vtk ostep one0 l d with
   | error c=>rw[hm] at h;cases h
   | ok y =>
    obtain ⟨o,u⟩:=y;rw[hm] at h;dsimp only at h;obtain ⟨h0,rs,h1,h2,h3,h4,h5⟩:=mread_inv hm;have h6:=tlen_munk vtk rs;rw[h4,←h2] at h6;have h7:=mfold_tlen (d:=d) l.length OInv (ostep_twice hl) rs one0 o 0 h3 (.inl rfl) (by omega) h1;rw[Nat.zero_add] at h7;refine ⟨h0,?_⟩;obtain ⟨t,ht⟩:∃ t,tlen vtk rs=t:=⟨_,rfl⟩
    rw[ht] at h6 h7;clear hm h1 h2 h3 h4 ht rs
    rcases h7 with rfl|⟨k1,k2,k3,k4,k5,k6⟩
    ·unfold stands one0 at h
     dsimp only at h;rw[if_neg (by decide),if_neg (by decide),if_neg (by decide),if_neg (by decide),if_neg (by decide)] at h
     simp only[Except.ok.injEq] at h
     subst h;refine ⟨?_,?_,?_,?_⟩
     ·rw[vmay,h5];rfl
     ·rw[vfit,vsfit,ksfit];exact ⟨by omega,by omega,by simp,by simp,by omega,trivial,trivial⟩
     ·rw[vout];show (([]:List UInt8)++u).length≤_;rw[List.nil_append];omega
     ·rw[vw,vsw,ksw];simp;omega
    ·have e1:∀ (k:Nat) (s:List UInt8),(k=1∨k=7)→o.r.num=k→(k=1→uvalid s=true)→bl s.length≤t→x = .mk (k:Int) s false 0 [] [] [] u→vmay x d=true∧vfit x∧(vout x).length≤l.length∧vw x≤60+51 * l.length:=fun k s hk hn hu hb hx=>by
      subst hx;have hb':s.length≤bl s.length:=by unfold bl;omega
      refine ⟨?_,?_,?_,?_⟩
      ·rw[vmay,h5]
       rcases hk with rfl|rfl
       ·rw[hu rfl];simp[vpl]
       ·simp[vpl]
      ·rw[vfit,vsfit,ksfit];exact ⟨by omega,by omega,by omega,by simp,by omega,trivial,trivial⟩
      ·rw[vout,List.length_append]
       have:(vrec (k:Int) s false 0 (vouts 1 []) (kouts 1 []) []).length=bl s.length:=by
        unfold vrec;rw[if_pos (by omega),Int.toNat_natCast,rB_len (by omega)]
        rfl
       omega
      ·rw[vw,vsw,ksw];simp;omega
     have e2:∀ (k n:Nat) (b:Bool) (c:Nat),(k=2∧n=0∧c=2)∨(k=3∧b=false∧n<2 ^ 64∧c=1+(vput n).length)∨(k=4∧b=false∧n<2 ^ 64∧c=9)→c≤t→x = .mk (k:Int) [] b n [] [] [] u→vmay x d=true∧vfit x∧(vout x).length≤l.length∧vw x≤60+51 * l.length:=fun k n b c hk hc hx=>by
      subst hx;refine ⟨?_,?_,?_,?_⟩
      ·rw[vmay,h5]
       rcases hk with ⟨rfl,rfl,_⟩|⟨rfl,rfl,_⟩|⟨rfl,rfl,_⟩<;>simp[vpl]
      ·rw[vfit,vsfit,ksfit];exact ⟨by omega,by omega,by simp,by simp,by omega,trivial,trivial⟩
      ·rw[vout,List.length_append]
       have:(vrec (k:Int) [] b n (vouts 1 []) (kouts 1 []) []).length=c:=by
        unfold vrec
        rcases hk with ⟨rfl,rfl,rfl⟩|⟨rfl,rfl,_,rfl⟩|⟨rfl,rfl,_,rfl⟩
        ·rw[if_neg (by decide),if_pos (by decide),rN_len (by omega)]
         cases b<;>rfl
        ·rw[if_neg (by decide),if_neg (by decide),if_pos (by decide),rN_len (by omega)]
        ·rw[if_neg (by decide),if_neg (by decide),if_neg (by decide),if_pos (by decide),rF_len (by omega)]
       omega
      ·rw[vw,vsw,ksw];simp;omega
     unfold stands at h
     rcases vtk_ty k1 with ⟨hn,ht⟩|⟨hn,ht⟩|⟨hn,ht⟩
     ·have k4:=k4 ht
      rcases hn with hn|hn|hn|hn
      ·rw[hn] at h k2
       rw[if_pos (by decide)] at h
       simp only[Except.ok.injEq] at h
       exact e1 1 o.r.s (.inl rfl) hn (fun _=>k2 rfl) k4.1 h.symm
      ·rw [hn] at h
       rw[if_neg (by decide),if_neg (by decide),if_neg (by decide),if_pos rfl] at h
       cases hr:lread (vread f) o.ps.flatten (d - 1) with
       | error c=>rw[hr] at h;cases h
       | ok z =>
        obtain ⟨xs,i⟩:=z;rw[hr] at h
        simp only[Except.ok.injEq] at h
        subst h;have hb:o.ps.flatten.length+2≤bl o.ps.flatten.length:=by unfold bl;have:=(vput_length o.ps.flatten.length).1;omega
        obtain ⟨g1,g2,q,g3,g4,g5,g6⟩:=lread_twice (out:=vout) (may:=vmay) (wt:=vw) (fit:=vfit) (by omega) hr (fun t x ht hx=>by
         obtain ⟨a1,a2,a3,a4,a5⟩:=iv t _ x (by omega) hx;exact ⟨a1,a2,a3,a4,by omega⟩)
        obtain ⟨m1,m2⟩:=vmays_of g4;rw[←vouts_sum] at g5;rw[←vsw_sum] at g6;refine ⟨?_,?_,?_,?_⟩
        ·rw[vmay,m1,g2,h5,kmays,decide_eq_true (by omega:1≤d)]
         simp[vpl]
        ·rw[vfit,ksfit];exact ⟨by omega,by omega,by simp,by omega,by omega,m2,trivial⟩
        ·rw[vout,List.length_append]
         have:(vrec ((5:Nat):Int) [] false 0 (vouts 1 xs) (kouts 1 []) i).length=bl ((vouts 1 xs).length+i.length):=by
          unfold vrec;rw[if_neg (by decide),if_neg (by decide),if_neg (by decide),if_neg (by decide),if_pos (by decide),rB_len (by omega),List.length_append]
          rfl
         rw[this];have:=bl_mono (a:=(vouts 1 xs).length+i.length) (b:=o.ps.flatten.length) (by omega) (by omega);omega
        ·rw[vw,ksw];simp;omega
      ·rw [hn] at h
       rw[if_neg (by decide),if_neg (by decide),if_neg (by decide),if_neg (by decide),if_pos rfl] at h
       cases hr:lread (kread f) o.ps.flatten (d - 1) with
       | error c=>rw[hr] at h;cases h
       | ok z =>
        obtain ⟨xs,i⟩:=z;rw[hr] at h
        simp only[Except.ok.injEq] at h
        subst h;have hb:o.ps.flatten.length+2≤bl o.ps.flatten.length:=by unfold bl;have:=(vput_length o.ps.flatten.length).1;omega
        obtain ⟨g1,g2,q,g3,g4,g5,g6⟩:=lread_twice (out:=kout) (may:=kmay) (wt:=kw) (fit:=kfit) (by omega) hr (fun t x ht hx=>ik t _ x (by omega) hx);obtain ⟨m1,m2⟩:=kmays_of g4;rw[←kouts_sum] at g5;rw[←ksw_sum] at g6;refine ⟨?_,?_,?_,?_⟩
        ·rw[vmay,m1,g2,h5,vmays,decide_eq_true (by omega:1≤d)]
         simp[vpl]
        ·rw[vfit,vsfit];exact ⟨by omega,by omega,by simp,by omega,by omega,trivial,m2⟩
        ·rw[vout,List.length_append]
         have:(vrec ((6:Nat):Int) [] false 0 (vouts 1 []) (kouts 1 xs) i).length=bl ((kouts 1 xs).length+i.length):=by
          unfold vrec;rw[if_neg (by decide),if_neg (by decide),if_neg (by decide),if_neg (by decide),if_neg (by decide),if_pos (by decide),rB_len (by omega),List.length_append]
          rfl
         rw[this];have:=bl_mono (a:=(kouts 1 xs).length+i.length) (b:=o.ps.flatten.length) (by omega) (by omega);omega
        ·rw[vw,vsw];simp;omega
      ·rw[hn] at h
       rw[if_pos (by decide)] at h
       simp only[Except.ok.injEq] at h
       exact e1 7 o.r.s (.inr rfl) hn (fun h=>by omega) k4.1 h.symm
     ·have k5:=k5 ht
      rcases hn with hn|hn
      ·rw[hn] at h
       rw[if_neg (by decide),if_pos rfl] at h
       simp only[Except.ok.injEq] at h
       have:=(vput_length o.r.n).1;exact e2 2 0 _ 2 (.inl ⟨rfl,rfl,rfl⟩) (by omega) h.symm
      ·rw[hn] at h
       rw[if_neg (by decide),if_neg (by decide),if_pos (by decide)] at h
       simp only[Except.ok.injEq] at h
       exact e2 3 _ _ _ (.inr (.inl ⟨rfl,rfl,k3,rfl⟩)) k5 h.symm
     ·have k6:=k6 ht
      rw[hn] at h;rw[if_neg (by decide),if_neg (by decide),if_pos (by decide)] at h
      simp only[Except.ok.injEq] at h
      exact e2 4 _ _ _ (.inr (.inr ⟨rfl,rfl,k3,rfl⟩)) k6 h.symm
  ·rw [kread] at h
   cases hm:mread ktk kstep ([],[]) l d with
   | error c=>rw[hm] at h;cases h
   | ok y =>
    obtain ⟨st,u⟩:=y;rw[hm] at h;dsimp only at h;obtain ⟨h0,rs,h1,h2,h3,h4,h5⟩:=mread_inv hm;have h6:=tlen_munk ktk rs;rw[h4,←h2] at h6;have h7:=mfold_tlen (d:=d) l.length KInv (kstep_twice hl) rs ([],[]) st 0 h3 ⟨rfl,by simp[krec],by simp⟩ (by omega) h1;rw[Nat.zero_add] at h7;refine ⟨h0,?_⟩;obtain ⟨t,ht⟩:∃ t,tlen ktk rs=t:=⟨_,rfl⟩
    rw[ht] at h6 h7;clear hm h1 h2 h3 h4 ht rs;obtain ⟨i1,i2,i3⟩:=h7
    split at h
    ·rename_i he
     simp only[Except.ok.injEq] at h
     subst h;rw[if_pos he] at i2;refine ⟨?_,?_,?_,?_⟩
     ·rw[kmay,i1,h5];rfl
     ·rw[kfit,Val.zero,vfit,vsfit,ksfit];exact ⟨by omega,by omega,by omega,by omega,by simp,by simp,by simp,trivial,trivial⟩
     ·rw[kout,List.length_append];simp;omega
     ·rw[kw,Val.zero,vw,vsw,ksw];simp;omega
    ·rename_i he
     cases hr:vread f st.2.flatten (d - 1) with
     | error c=>rw[hr] at h;cases h
     | ok v =>
      rw[hr] at h
      simp only[Except.ok.injEq] at h
      subst h;rw[if_neg he] at i2;have hb:st.2.flatten.length+2≤bl st.2.flatten.length:=by unfold bl;have:=(vput_length st.2.flatten.length).1;omega
      obtain ⟨a1,a2,a3,a4,a5⟩:=iv _ _ v (by omega) hr;refine ⟨?_,?_,?_,?_⟩
      ·rw[kmay,i1,h5,a2,decide_eq_true (by omega:1≤d)];rfl
      ·rw[kfit];exact ⟨by omega,by omega,a3⟩
      ·rw[kout,List.length_append,List.length_append,if_pos rfl,rB_len (by omega)]
       have:=bl_mono a4 (by omega);unfold bl at this i2 hb
       omega
      ·rw[kw];omega
end Go.Proofs.YtficgfemmijaaaaGreat
