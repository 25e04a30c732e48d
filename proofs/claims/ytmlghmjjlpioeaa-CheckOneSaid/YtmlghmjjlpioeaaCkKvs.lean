/-
  append of a list of attributes; what is told of a point that was Fine when one thing of it is changed.
-/
import Derived.Test.YtmlghmjjlpioeaaCkExp
import Derived.Test.YtmlghmjjlpioeaaCkHist
import Derived.Laws.OwnMore
namespace Go.Proofs.Ytmlghmjjlpioeaa
open Go.RowKit
open Lib (hid)
theorem flatk_at {m:Nat}:∀ (css:List (List Value)),(∀ c∈css,c.length=m)→∀ j (hj:j<css.length) k,k<m→css.flatten[m * j+k]? = css[j][k]?
 | [],_,j,hj,_,_=>by simp at hj
 | c::cs,h,0,_,k,hk=>by
  have h1:=h c (by simp)
  rw[List.flatten_cons,Nat.mul_zero,Nat.zero_add,List.getElem?_append_left (by omega)];rfl
 | c::cs,h,j+1,hj,k,hk=>by
  have h1:=h c (by simp)
  have h2:=flatk_at cs (fun x hx=>h x (by simp[hx])) j (by simpa using hj) k hk
  rw[List.flatten_cons,List.getElem?_append_right (by rw[h1,Nat.mul_add];omega),show m * (j+1)+k - c.length=m * j+k by rw[h1,Nat.mul_add];omega,h2];rfl
theorem flatk_len {m:Nat}:∀ (css:List (List Value)),(∀ c∈css,c.length=m)→css.flatten.length=css.length * m
 | [],_=>by simp
 | c::cs,h=>by
  have h1:=h c (by simp)
  have h2:=flatk_len cs (fun x hx=>h x (by simp[hx]))
  rw[List.flatten_cons,List.length_append,h1,h2,List.length_cons,Nat.add_mul];omega
theorem kcell_one {w:World}{P:Nat→Prop}{x:KV}{c:List Value}(h:KRel w P x c):∀ u∈c,u.oneCell'=true:=by
 obtain ⟨K0,h0,k,S1,b0,n,l1,ln,lc1,m1,mn,mc1,I0,U0,U1,rfl⟩:=h.form
 intro u hu
 simp only[List.mem_cons,List.not_mem_nil,or_false] at hu
 rcases hu with rfl|rfl|rfl|rfl|rfl|rfl|rfl|rfl|rfl|rfl|rfl<;>rfl
theorem krels_css {w:World}{P:Nat→Prop}{l:List KV}{g off:Nat}(h:KRels w P l (some ⟨g,off,none⟩) 0):∃ css:List (List Value),css.length=l.length∧(∀ j (h1:j<l.length) (h2:j<css.length),KRel w P l[j] css[j])∧∀ i u,css.flatten[i]? = some u→w.cell? ⟨g,off+i,none⟩=some u:=by
 have hx:∀ j:Fin l.length,∃ cs,Cells w g (off+11 * j) cs∧KRel w P l[j] cs:=fun j=>by
  obtain ⟨g',o',cs,he,_,hc,hr⟩:=krels_at0 h j j.2
  simp only[Option.some.injEq,Addr.mk.injEq] at he
  obtain ⟨rfl,rfl,_⟩:=he
  exact ⟨cs,hc,hr⟩
 refine ⟨List.ofFn fun j=>Classical.choose (hx j),by simp,fun j h1 h2=>?_,fun i u hu=>?_⟩
 ·rw[List.getElem_ofFn]
  exact (Classical.choose_spec (hx ⟨j,h1⟩)).2
 ·have hl:∀ c∈(List.ofFn fun j=>Classical.choose (hx j)),c.length=11:=fun c hc=>by
   obtain ⟨j,rfl⟩:=List.mem_ofFn.1 hc
   exact (Classical.choose_spec (hx j)).2.len
  have hi:=(List.getElem?_eq_some_iff.1 hu).1
  rw[flatk_len _ hl,List.length_ofFn] at hi
  have hj:i / 11<l.length:=by omega
  have e:=flatk_at _ hl (i / 11) (by simpa using hj) (i % 11) (by omega)
  rw[show 11 * (i / 11)+i % 11=i by omega,hu,List.getElem_ofFn] at e
  have hc:=(Classical.choose_spec (hx ⟨i / 11,hj⟩)).1 (i % 11) (by rw[(Classical.choose_spec (hx ⟨i / 11,hj⟩)).2.len];omega)
  rw[show off+11 * (i / 11)+i % 11=off+i by omega] at hc
  rw[hc]
  rw[List.getElem?_eq_getElem (by rw[(Classical.choose_spec (hx ⟨i / 11,hj⟩)).2.len];omega)] at e
  exact e.symm
theorem wpList_app_kvs {P:Program} {w:World} {ops:Array Oper} {rest:List Oper} {o:Oper} {a:Act} {Q:Exit→Act→World→Prop} (s x:Operand) (t:TypeId) (hg:o.guard=none)
  (ho:o.op = .call { callee := .builtin .append,args:=#[s,x],argTypes:=#[t,t] })
  {base:Nat} {e:TypeId} {z:Value} {bytes:Nat} (he:Elem P t e z 11 bytes)
  {v:Value} {n:Nat} {xs:List Value} (hown:w.ownsRow base e 11 v n xs) (hs:a.eval s=v)
  {R:Nat→Prop} {ao:Option Addr} {cap:Nat} {l:List KV} (hu:KRels w R l ao 0) (hx:a.eval x = .slice ao l.length cap)
  (h63:n+l.length≤maxLen) (hbytes:(n+l.length) * bytes≤140737488355328) (hbase:base≤w.heap.size)
  (h:∀ (v':Value) (w':World) (css:List (List Value)),css.length=l.length→(∀ j (h1:j<l.length) (h2:j<css.length),KRel w R l[j] css[j])→w'.ownsRow base e 11 v' (n+l.length) (xs++css.flatten)→w.grownBy w' v.ownBlock→(∀ k,v'.ownBlock=some k→v.ownBlock=some k∨w.heap.size≤k)→wpList P ops Q rest (a.put o.dst v') w'):wpList P ops Q (o::rest) a w:=by
 by_cases hl:l=[]
 ·subst hl
  have key:∀ c:Nat,a.eval x = .slice none 0 c→wpList P ops Q (o::rest) a w:=fun c hx=>by
   obtain ⟨ht,hi0,hzs⟩:=he
   obtain ⟨i,hi,hz,hsize,hby⟩:=info_parts hi0
   refine wpList_plain hg fun K hK=>?_
   have hr:(Builtin.append_ #[t,t] o.type #[v,.slice none 0 c]).run P w = .ok v w:=by
    rcases hown.2 with ⟨rfl,rfl⟩|⟨g,cap,cur,rfl,_,_,hnc,_⟩
    ·simp[Builtin.append_,run_underlying ht,sizeOf,typeInfo,hi,Builtin.lenOf,Builtin.firstCells]
    ·simp[Builtin.append_,run_underlying ht,sizeOf,typeInfo,hi,Builtin.lenOf,Builtin.firstCells,hnc,storeCells]
   unfold Oper.wp execOp
   simp only[ho,resolve,invoke,builtin,Sem.run_bind,Sem.run_pure,Result.andThen_ok,List.map_toArray,List.map_cons,List.map_nil,hs,hx,hr]
   exact hK _ _ (h v w [] rfl (fun j h1=>by simp at h1) (by simpa using hown) ⟨rfl,rfl,rfl,Nat.le_refl _,fun _ _ _=>rfl⟩ (fun k hk => .inl hk))
  cases ao with
  | none=>exact key cap hx
  | some AD =>
   obtain ⟨ht,hi0,hzs⟩:=he
   obtain ⟨i,hi,hz,hsize,hby⟩:=info_parts hi0
   refine wpList_append_own_at w hg s x t ho base e i z 11 bytes ht hi hz hsize hby hzs (by decide) v n xs hs hown AD 0 cap [] hx rfl (fun j y hy=>by simp at hy) (fun y hy=>by simp at hy) h63 hbytes hbase fun v' w' h2 h3 _ h5=>?_
   refine h v' w' [] rfl (fun j h1=>by simp at h1) (by simpa using h2) h3 (fun k hk=>?_)
   rcases h5 with h5|h5
   ·exact .inl (h5 ▸ hk)
   ·rw[h5] at hk;exact .inr (by have:=Option.some.inj hk;omega)
 ·obtain ⟨g,off,cs,rfl,_⟩:=krels_at0 hu 0 (List.length_pos_iff.2 hl)
  obtain ⟨css,hc1,hc2,hc3⟩:=krels_css hu
  have hlen:∀ c∈css,c.length=11:=fun c hc=>by
   obtain ⟨i,hi,rfl⟩:=List.getElem_of_mem hc
   exact (hc2 i (by omega) hi).len
  obtain ⟨ht,hi0,hzs⟩:=he
  obtain ⟨i,hi,hz,hsize,hby⟩:=info_parts hi0
  refine wpList_append_own_at w hg s x t ho base e i z 11 bytes ht hi hz hsize hby hzs (by decide) v n xs hs hown ⟨g,off,none⟩ l.length cap css.flatten hx (by rw[flatk_len _ hlen,hc1]) (fun j y hy=>?_) (fun y hy=>?_) h63 hbytes hbase fun v' w' h2 h3 _ h5=>?_
  ·have hadd:(⟨g,off,none⟩:Addr).add j=⟨g,off+j,none⟩:=by unfold Addr.add;split<;>simp_all
   rw[hadd];exact hc3 j y hy
  ·obtain ⟨c,hc,hy⟩:=List.mem_flatten.1 hy
   obtain ⟨i,hi,rfl⟩:=List.getElem_of_mem hc
   exact kcell_one (hc2 i (by omega) hi) y hy
  ·refine h v' w' css hc1 hc2 h2 h3 (fun k hk=>?_)
   rcases h5 with h5|h5
   ·exact .inl (h5 ▸ hk)
   ·rw[h5] at hk;exact .inr (by have:=Option.some.inj hk;omega)
theorem ksfit_app:∀ {a b:List KV},ksfit a→ksfit b→ksfit (a++b)
 | [],_,_,h=>h
 | x::a,b,h,g=>by
  rw[ksfit] at h
  rw[List.cons_append,ksfit]
  exact ⟨h.1,ksfit_app h.2 g⟩
theorem kslim_app:∀ {a b:List KV},kslim a→kslim b→kslim (a++b)
 | [],_,_,h=>h
 | x::a,b,h,g=>by
  rw[kslim] at h
  rw[List.cons_append,kslim]
  exact ⟨h.1,kslim_app h.2 g⟩
theorem pointR_fine {s t:Nat}{b:Bool}(h:pointR s t b=0):t≠0∧¬t<s∧b=false:=by
 unfold pointR at h
 split at h
 ·cases h
 ·rename_i h0
  split at h
  ·cases h
  ·rename_i h1
   split at h
   ·cases h
   ·rename_i h2
    exact ⟨h0,h1,by simpa using h2⟩
theorem hist_fine {a t k pn mn gn f:Nat}{ph mh gh:Bool}{nc nb:List Nat}{es:List Ex}{l:List KV}{u:List UInt8}(h:histR ((a,(t,(k,((ph,pn),(nc,(nb,(es,(l,(f,((mh,mn),(gh,gn))))))))))),u)=0):pointR a t (dup l)=0∧histT k nc nb=false:=by
 have h:(if pointR a t (dup l)=0 then (if histT k nc nb=true then 8 else if riseB nb=false then 9 else if apartB mh mn gh gn=true then 11 else 0) else pointR a t (dup l))=0:=h
 by_cases h0:pointR a t (dup l)=0
 ·rw[if_pos h0] at h
  refine ⟨h0,?_⟩
  cases hh:histT k nc nb with
  | false=>rfl
  | true=>rw[hh,if_pos rfl] at h;cases h
 ·rw[if_neg h0] at h;exact absurd h h0
theorem dup_qq (l:List KV)(x y:KV)(h:kkey x=kkey y):dup (l++[x,y])=true:=by
 unfold dup
 rw[Bool.not_eq_true',decide_eq_false_iff_not,List.map_append]
 intro hn
 have:=(List.nodup_append.1 hn).2.1
 simp[h] at this
theorem exp_fine {a t k zc vp f vm vg th:Nat}{sc:Int}{bp bm bg gp gn:Bool}{pb nb:Bk}{pu nu u:List UInt8}{es:List Ex}{l:List KV}(h:expR ((l,(a,(t,(k,((bp,vp),(sc,(zc,((gp,pb,pu),((gn,nb,nu),(f,(es,((bm,vm),((bg,vg),th))))))))))))),u)=0):pointR a t (dup l)=0∧([[zc],pb.cs,nb.cs]:List (List Nat)).flatten.sum=k:=by
 have h:(if pointR a t (dup l)=0 then (if ([[zc],pb.cs,nb.cs]:List (List Nat)).flatten.sum=k then (if expS sc pb nb=true then 10 else if expG bm vm bg vg th=true then 11 else 0) else 8) else pointR a t (dup l))=0:=h
 by_cases h0:pointR a t (dup l)=0
 ·rw[if_pos h0] at h
  refine ⟨h0,?_⟩
  by_cases h1:([[zc],pb.cs,nb.cs]:List (List Nat)).flatten.sum=k
  ·exact h1
  ·rw[if_neg h1] at h;cases h
 ·rw[if_neg h0] at h;exact absurd h h0
theorem wpList_app_lit {P:Program} {w:World} {ops:Array Oper} {rest:List Oper} {o:Oper} {a:Act} {Q:Exit→Act→World→Prop} (hgd:o.guard=none) (s x:Operand) (t:TypeId)
  (ho:o.op = .call { callee := .builtin .append,args:=#[s,x],argTypes:=#[t,t] })
  {base:Nat} {e:TypeId} {z:Value} {size bytes:Nat} (he:Elem P t e z size bytes) (hsz:0<size)
  {v:Value} {n:Nat} {xs:List Value} (hown:w.ownsRow base e size v n xs) (hs:a.eval s=v)
  {cs:List Value} {m c:Nat} (hm:0<m) (hx:a.eval x = .slice (some ⟨w.heap.size,0,none⟩) m c) (hcs:cs.length=m * size) (h1:∀ u∈cs,u.oneCell'=true)
  (h63:n+m≤maxLen) (hbytes:(n+m) * bytes≤140737488355328) (hbase:base≤w.heap.size)
  (h:∀ (g cap:Nat) (w':World),w'.ownsRow base e size (.slice (some ⟨g,0,none⟩) (n+m) cap) (n+m) (xs++cs)→(w.alloc (.cells cs.toArray e)).grownBy w' v.ownBlock→(v.ownBlock=some g∨w.heap.size≤g)→wpList P ops Q rest (a.put o.dst (.slice (some ⟨g,0,none⟩) (n+m) cap)) w'):wpList P ops Q (o::rest) a (w.alloc (.cells cs.toArray e)):=by
 obtain ⟨ht,hi0,hzs⟩:=he
 obtain ⟨i,hi,hz,hsize,hby⟩:=info_parts hi0
 refine wpList_append_own_at (w.alloc (.cells cs.toArray e)) hgd s x t ho base e i z size bytes ht hi hz hsize hby hzs hsz v n xs hs (hown.alloc _) ⟨w.heap.size,0,none⟩ m c cs hx hcs ?_ h1 h63 hbytes (by simp;omega) fun v' w' h2 h3 _ h5=>?_
 ·intro j u hj
  have hadd:(⟨w.heap.size,0,none⟩:Addr).add j=⟨w.heap.size,j,none⟩:=by unfold Addr.add;split<;>simp_all
  rw[hadd,World.cell?_alloc_at _ _ _ _ rfl]
  simpa using hj
 ·obtain ⟨g,cap,rfl,_⟩:=own_some h2 (by omega)
  refine h g cap w' h2 h3 ?_
  rcases h5 with h5|h5
  ·exact .inl h5.symm
  ·simp[Value.ownBlock] at h5
   exact .inr (by omega)
theorem hi_re {w:World}{P:Nat→Prop}{a t k pn mn gn f:Nat}{ph mh gh:Bool}{nc nb:List Nat}{es:List Ex}{l:List KV}{u:List UInt8}{lo nco nbo eo:Option Addr}{lc ncc nbc ec:Nat}{XU:ByteArray}(h:hiCel.R w P ((a,(t,(k,((ph,pn),(nc,(nb,(es,(l,(f,((mh,mn),(gh,gn))))))))))),u) [.slice lo l.length lc,.int .u64 (a:Int),.int .u64 (t:Int),.int .u64 (k:Int),.bool ph,.int .u64 (pn:Int),.bool mh,.int .u64 (mn:Int),.bool gh,.int .u64 (gn:Int),.slice nco nc.length ncc,.slice nbo nb.length nbc,.slice eo es.length ec,.int .u32 (f:Int),.string XU])(a' t' k':Nat):hiCel.R w P ((a',(t',(k',((ph,pn),(nc,(nb,(es,(l,(f,((mh,mn),(gh,gn))))))))))),u) [.slice lo l.length lc,.int .u64 (a':Int),.int .u64 (t':Int),.int .u64 (k':Int),.bool ph,.int .u64 (pn:Int),.bool mh,.int .u64 (mn:Int),.bool gh,.int .u64 (gn:Int),.slice nco nc.length ncc,.slice nbo nb.length nbc,.slice eo es.length ec,.int .u32 (f:Int),.string XU]:=by
 obtain ⟨lo1,lc1,nco1,ncc1,nbo1,nbc1,eo1,ec1,he,h1,h2,h3,h4⟩:=h
 simp only[List.cons.injEq,Value.slice.injEq,strV,Value.string.injEq,true_and,and_true] at he
 obtain ⟨⟨rfl,rfl⟩,⟨rfl,rfl⟩,⟨rfl,rfl⟩,⟨rfl,rfl⟩,rfl⟩:=he
 exact ⟨_,_,_,_,_,_,_,_,rfl,h1,h2,h3,h4⟩
theorem hi_rel {w:World}{P:Nat→Prop}{a t k pn mn gn f:Nat}{ph mh gh:Bool}{nc nb:List Nat}{es:List Ex}{l:List KV}{u:List UInt8}{lo nco nbo eo:Option Addr}{lc ncc nbc ec:Nat}{XU:ByteArray}(h:hiCel.R w P ((a,(t,(k,((ph,pn),(nc,(nb,(es,(l,(f,((mh,mn),(gh,gn))))))))))),u) [.slice lo l.length lc,.int .u64 (a:Int),.int .u64 (t:Int),.int .u64 (k:Int),.bool ph,.int .u64 (pn:Int),.bool mh,.int .u64 (mn:Int),.bool gh,.int .u64 (gn:Int),.slice nco nc.length ncc,.slice nbo nb.length nbc,.slice eo es.length ec,.int .u32 (f:Int),.string XU]){Q:Nat→Prop}{l':List KV}{lo':Option Addr}{lc':Nat}(hk:KRels w Q l' lo' 0)(hPQ:∀ k,P k→Q k):hiCel.R w Q ((a,(t,(k,((ph,pn),(nc,(nb,(es,(l',(f,((mh,mn),(gh,gn))))))))))),u) [.slice lo' l'.length lc',.int .u64 (a:Int),.int .u64 (t:Int),.int .u64 (k:Int),.bool ph,.int .u64 (pn:Int),.bool mh,.int .u64 (mn:Int),.bool gh,.int .u64 (gn:Int),.slice nco nc.length ncc,.slice nbo nb.length nbc,.slice eo es.length ec,.int .u32 (f:Int),.string XU]:=by
 obtain ⟨lo1,lc1,nco1,ncc1,nbo1,nbc1,eo1,ec1,he,h1,h2,h3,h4⟩:=h
 simp only[List.cons.injEq,Value.slice.injEq,strV,Value.string.injEq,true_and,and_true] at he
 obtain ⟨⟨rfl,rfl⟩,⟨rfl,rfl⟩,⟨rfl,rfl⟩,⟨rfl,rfl⟩,rfl⟩:=he
 have hu:=Upd.refl (fun _=>False) w
 exact ⟨_,_,_,_,_,_,_,_,rfl,hk,CRels.upd hu (fun _ _ h=>h) hPQ h2,CRels.upd hu (fun _ _ h=>h) hPQ h3,CRels.upd hu (fun _ _ h=>h) hPQ h4⟩
theorem hi_kr {w:World}{P:Nat→Prop}{a t k pn mn gn f:Nat}{ph mh gh:Bool}{nc nb:List Nat}{es:List Ex}{l:List KV}{u:List UInt8}{lo nco nbo eo:Option Addr}{lc ncc nbc ec:Nat}{XU:ByteArray}(h:hiCel.R w P ((a,(t,(k,((ph,pn),(nc,(nb,(es,(l,(f,((mh,mn),(gh,gn))))))))))),u) [.slice lo l.length lc,.int .u64 (a:Int),.int .u64 (t:Int),.int .u64 (k:Int),.bool ph,.int .u64 (pn:Int),.bool mh,.int .u64 (mn:Int),.bool gh,.int .u64 (gn:Int),.slice nco nc.length ncc,.slice nbo nb.length nbc,.slice eo es.length ec,.int .u32 (f:Int),.string XU]):KRels w P l lo 0:=by
 obtain ⟨lo1,lc1,nco1,ncc1,nbo1,nbc1,eo1,ec1,he,h1,h2,h3,h4⟩:=h
 simp only[List.cons.injEq,Value.slice.injEq,strV,Value.string.injEq,true_and,and_true] at he
 obtain ⟨⟨rfl,rfl⟩,⟨rfl,rfl⟩,⟨rfl,rfl⟩,⟨rfl,rfl⟩,rfl⟩:=he
 exact h1
theorem xp_re {w:World}{P:Nat→Prop}{a t k zc vp f vm vg th:Nat}{sc:Int}{bp bm bg gp gn:Bool}{pb nb:Bk}{pu nu u:List UInt8}{es:List Ex}{l:List KV}{lo po no eo:Option Addr}{lc pc nc ec:Nat}{Xpu Xnu Xu:ByteArray}(h:xpCel.R w P ((l,(a,(t,(k,((bp,vp),(sc,(zc,((gp,pb,pu),((gn,nb,nu),(f,(es,((bm,vm),((bg,vg),th))))))))))))),u) [.slice lo l.length lc,.int .u64 (a:Int),.int .u64 (t:Int),.int .u64 (k:Int),.bool bp,.int .u64 (vp:Int),.bool bm,.int .u64 (vm:Int),.bool bg,.int .u64 (vg:Int),.int .i32 sc,.int .u64 (zc:Int),.bool gp,.int .i32 pb.off,.slice po pb.cs.length pc,.string Xpu,.bool gn,.int .i32 nb.off,.slice no nb.cs.length nc,.string Xnu,.slice eo es.length ec,.int .u32 (f:Int),.int .u64 (th:Int),.string Xu])(k':Nat)(sc':Int):xpCel.R w P ((l,(a,(t,(k',((bp,vp),(sc',(zc,((gp,pb,pu),((gn,nb,nu),(f,(es,((bm,vm),((bg,vg),th))))))))))))),u) [.slice lo l.length lc,.int .u64 (a:Int),.int .u64 (t:Int),.int .u64 (k':Int),.bool bp,.int .u64 (vp:Int),.bool bm,.int .u64 (vm:Int),.bool bg,.int .u64 (vg:Int),.int .i32 sc',.int .u64 (zc:Int),.bool gp,.int .i32 pb.off,.slice po pb.cs.length pc,.string Xpu,.bool gn,.int .i32 nb.off,.slice no nb.cs.length nc,.string Xnu,.slice eo es.length ec,.int .u32 (f:Int),.int .u64 (th:Int),.string Xu]:=by
 obtain ⟨lo1,lc1,po1,pc1,no1,nc1,eo1,ec1,he,h1,h2,h3,h4⟩:=h
 simp only[List.cons.injEq,Value.slice.injEq,strV,Value.string.injEq,true_and,and_true] at he
 obtain ⟨⟨rfl,rfl⟩,⟨rfl,rfl⟩,rfl,⟨rfl,rfl⟩,rfl,⟨rfl,rfl⟩,rfl⟩:=he
 exact ⟨_,_,_,_,_,_,_,_,rfl,h1,h2,h3,h4⟩
theorem hi_argre {a t k pn mn gn f:Nat}{ph mh gh:Bool}{nc nb:List Nat}{es:List Ex}{l:List KV}{u:List UInt8}{a' t' k':Nat}(h:hi_arg ((a,(t,(k,((ph,pn),(nc,(nb,(es,(l,(f,((mh,mn),(gh,gn))))))))))),u))(ha:a' < 18446744073709551616)(ht:t' < 18446744073709551616)(hk:k' < 18446744073709551616):hi_arg ((a',(t',(k',((ph,pn),(nc,(nb,(es,(l,(f,((mh,mn),(gh,gn))))))))))),u):=⟨ha,ht,hk,h.2.2.2⟩
theorem hi_argl {a t k pn mn gn f:Nat}{ph mh gh:Bool}{nc nb:List Nat}{es:List Ex}{l:List KV}{u:List UInt8}{l':List KV}(h:hi_arg ((a,(t,(k,((ph,pn),(nc,(nb,(es,(l,(f,((mh,mn),(gh,gn))))))))))),u))(h1:ksfit l')(h2:kslim l')(h3:l'.length≤9223372036854775807):hi_arg ((a,(t,(k,((ph,pn),(nc,(nb,(es,(l',(f,((mh,mn),(gh,gn))))))))))),u):=by
 obtain ⟨a1,a2,a3,a4,a5,a6,a7,a8,a9,a10,_,_,_,a14⟩:=h
 exact ⟨a1,a2,a3,a4,a5,a6,a7,a8,a9,a10,h1,h2,h3,a14⟩
theorem xp_argre {a t k zc vp f vm vg th:Nat}{sc:Int}{bp bm bg gp gn:Bool}{pb nb:Bk}{pu nu u:List UInt8}{es:List Ex}{l:List KV}{k':Nat}{sc':Int}(h:xp_arg ((l,(a,(t,(k,((bp,vp),(sc,(zc,((gp,pb,pu),((gn,nb,nu),(f,(es,((bm,vm),((bg,vg),th))))))))))))),u))(hk:k' < 18446744073709551616)(hs:-2147483648≤sc'∧sc'≤2147483647):xp_arg ((l,(a,(t,(k',((bp,vp),(sc',(zc,((gp,pb,pu),((gn,nb,nu),(f,(es,((bm,vm),((bg,vg),th))))))))))))),u):=by
 obtain ⟨a1,a2,a3,a4,a5,_,a7,_,a9⟩:=h
 exact ⟨a1,a2,a3,a4,a5,hk,a7,hs,a9⟩
theorem hist_4 {k pn mn gn f:Nat}{ph mh gh:Bool}{nc nb:List Nat}{es:List Ex}{l:List KV}{u:List UInt8}:histR ((0,(0,(k,((ph,pn),(nc,(nb,(es,(l,(f,((mh,mn),(gh,gn))))))))))),u)=4:=rfl
theorem hist_5 {t k pn mn gn f:Nat}{ph mh gh:Bool}{nc nb:List Nat}{es:List Ex}{l:List KV}{u:List UInt8}{v:Nat}(h0:t≠0)(h:t<v):histR ((v,(t,(k,((ph,pn),(nc,(nb,(es,(l,(f,((mh,mn),(gh,gn))))))))))),u)=5:=by
 have e:pointR v t (dup l)=5:=by unfold pointR;rw[if_neg h0,if_pos h]
 show (if pointR v t (dup l)=0 then _ else pointR v t (dup l))=5
 rw[e];rfl
theorem hist_6 {a t k pn mn gn f:Nat}{ph mh gh:Bool}{nc nb:List Nat}{es:List Ex}{l:List KV}{u:List UInt8}(h0:t≠0)(h:¬t<a)(hd:dup l=true):histR ((a,(t,(k,((ph,pn),(nc,(nb,(es,(l,(f,((mh,mn),(gh,gn))))))))))),u)=6:=by
 have e:pointR a t (dup l)=6:=by unfold pointR;rw[if_neg h0,if_neg h,if_pos hd]
 show (if pointR a t (dup l)=0 then _ else pointR a t (dup l))=6
 rw[e];rfl
theorem hist_8 {a t k pn mn gn f:Nat}{ph mh gh:Bool}{nc nb:List Nat}{es:List Ex}{l:List KV}{u:List UInt8}(h0:pointR a t (dup l)=0)(h:histT k nc nb=true):histR ((a,(t,(k,((ph,pn),(nc,(nb,(es,(l,(f,((mh,mn),(gh,gn))))))))))),u)=8:=by
 show (if pointR a t (dup l)=0 then (if histT k nc nb=true then 8 else if riseB nb=false then 9 else if apartB mh mn gh gn=true then 11 else 0) else pointR a t (dup l))=8
 rw[if_pos h0,if_pos h]
theorem histT_next {k k':Nat}{nc nb:List Nat}(h:histT k nc nb=false)(hn:0<nc.length)(hk:k'≠k):histT k' nc nb=true:=by
 unfold histT at h ⊢
 rw[decide_eq_true (.inl hn:0<nc.length∨0<nb.length),Bool.true_and] at h ⊢
 by_cases hm:nc.length=nb.length+1
 ·rw[decide_eq_false (by omega:¬nc.length≠nb.length+1),Bool.false_or] at h ⊢
  have hs:nc.sum=k:=by simpa using h
  rw[hs,decide_eq_false (by omega:¬k=k')];rfl
 ·rw[decide_eq_true hm] at h;cases h
theorem exp_8 {a t k zc vp f vm vg th:Nat}{sc:Int}{bp bm bg gp gn:Bool}{pb nb:Bk}{pu nu u:List UInt8}{es:List Ex}{l:List KV}(h0:pointR a t (dup l)=0)(h:¬([[zc],pb.cs,nb.cs]:List (List Nat)).flatten.sum=k):expR ((l,(a,(t,(k,((bp,vp),(sc,(zc,((gp,pb,pu),((gn,nb,nu),(f,(es,((bm,vm),((bg,vg),th))))))))))))),u)=8:=by
 show (if pointR a t (dup l)=0 then (if ([[zc],pb.cs,nb.cs]:List (List Nat)).flatten.sum=k then (if expS sc pb nb=true then 10 else if expG bm vm bg vg th=true then 11 else 0) else 8) else pointR a t (dup l))=8
 rw[if_pos h0,if_neg h]
theorem exp_10 {a t k zc vp f vm vg th:Nat}{sc:Int}{bp bm bg gp gn:Bool}{pb nb:Bk}{pu nu u:List UInt8}{es:List Ex}{l:List KV}(h0:pointR a t (dup l)=0)(h:([[zc],pb.cs,nb.cs]:List (List Nat)).flatten.sum=k)(hs:expS sc pb nb=true):expR ((l,(a,(t,(k,((bp,vp),(sc,(zc,((gp,pb,pu),((gn,nb,nu),(f,(es,((bm,vm),((bg,vg),th))))))))))))),u)=10:=by
 show (if pointR a t (dup l)=0 then (if ([[zc],pb.cs,nb.cs]:List (List Nat)).flatten.sum=k then (if expS sc pb nb=true then 10 else if expG bm vm bg vg th=true then 11 else 0) else 8) else pointR a t (dup l))=10
 rw[if_pos h0,if_pos h,if_pos hs]
def qq:KV := .mk [113] false Val.zero []
def qcell:List Value:=[.string ⟨#[113]⟩,.bool false,.int .i64 0,.string ⟨#[]⟩,.bool false,.int .u64 0,.slice none 0 0,.slice none 0 0,.string ⟨#[]⟩,.string ⟨#[]⟩,.string ⟨#[]⟩]
theorem qq_rel (w:World)(P:Nat→Prop):KRel w P qq qcell:=by
 unfold qq
 rw[KRel]
 refine ⟨[.int .i64 0,.string ⟨#[]⟩,.bool false,.int .u64 0,.slice none 0 0,.slice none 0 0,.string ⟨#[]⟩,.string ⟨#[]⟩],?_,rfl⟩
 unfold Val.zero
 rw[VRel]
 exact ⟨none,0,none,0,rfl,by rw[VRels];trivial,by rw[KRels];trivial⟩
theorem qq_fit:ksfit [qq,qq]:=by
 have h:kfit qq:=by
  unfold qq;rw[kfit]
  refine ⟨by simp,by simp,?_⟩
  unfold Val.zero;rw[vfit]
  refine ⟨by omega,by omega,by simp,by simp,by simp,?_⟩
  first|exact ⟨by rw[vsfit];trivial,by rw[ksfit];trivial⟩|(rw[vsfit,ksfit];simp)
 rw[ksfit,ksfit,ksfit]
 exact ⟨h,h,trivial⟩
theorem qq_lim:kslim [qq,qq]:=by
 have h:klim qq:=by
  unfold qq;rw[klim]
  unfold Val.zero;rw[vlim]
  exact ⟨by simp,by simp,by rw[vslim];trivial,by rw[kslim];trivial⟩
 rw[kslim,kslim,kslim]
 exact ⟨h,h,trivial⟩
theorem upd_from {B:Nat}{a b:World}(h:Below B a b):Upd (fun k=>B≤k) a b:=Upd.of_below h (fun k _ hk=>by have hk:¬B≤k:=hk;omega)
theorem krels_qq {w0 w:World} {B base:Nat} {l:List KV} {R:Nat→Prop} {css:List (List Value)} {T:TypeId} {g cap:Nat} (hb:Below B w0 w) (hR:∀ k,R k→k<B) (hc:css.length=l.length) (hr:∀ j (h1:j<l.length) (h2:j<css.length),KRel w0 R l[j] css[j])
  (ho:w.ownsRow base T 11 (.slice (some ⟨g,0,none⟩) (l.length+2) cap) (l.length+2) (css.flatten++(qcell++qcell))):KRels w (fun _=>True) (l++[qq,qq]) (some ⟨g,0,none⟩) 0:=by
 have hl:(l++[qq,qq]).length=l.length+2:=by simp
 refine KRel_own (cap:=cap) (css:=css++[qcell,qcell]) (base:=base) (T:=T) ?_ (by simp[hc]) (fun j h1 h2=>?_) (fun _ _=>trivial)
 ·rw[hl]
  have e:(css++[qcell,qcell]).flatten=css.flatten++(qcell++qcell):=by simp
  rw[e];exact ho
 ·by_cases hj:j<l.length
  ·rw[List.getElem_append_left hj,List.getElem_append_left (by omega)]
   exact KRel.upd (upd_from hb) (fun k hk h=>by have:=hR k hk;have h:B≤k:=h;omega) (fun _ _=>trivial) _ _ (hr j hj (by omega))
  ·rw[List.getElem_append_right (by omega),List.getElem_append_right (by omega)]
   have hq:∀ i (a1:i < [qq,qq].length) (a2:i < [qcell,qcell].length),KRel w (fun _=>True) [qq,qq][i] [qcell,qcell][i]:=fun i a1 a2=>by
    match i,a1,a2 with
    | 0,_,_=>exact qq_rel _ _
    | 1,_,_=>exact qq_rel _ _
   have e:j - css.length=j - l.length:=by rw[hc]
   have:=hq (j - l.length) (by simp at h1 ⊢;omega) (by simp at h1 ⊢;omega)
   simp only[hc]
   exact this
end Go.Proofs.Ytmlghmjjlpioeaa
