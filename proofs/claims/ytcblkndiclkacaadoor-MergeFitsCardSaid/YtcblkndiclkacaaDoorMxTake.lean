/-
  FmA, MxTake
-/
import Derived.Test.YtcblkndiclkacaaDoorMgFirst
import Derived.Test.YtcblkndiclkacaaDoorFrXp
namespace Go.Proofs.YtcblkndiclkacaaDoor.Fm
def stk (x j:Nat):Nat:=if x % 2^j=0 then x / 2^j else x / 2^j / 2 * 2+1
def g (f:Nat):Nat:=f/4+(if f%4=3∨(f%4=2∧f/4%2=1) then 1 else 0)
def rne (S k:Nat):Nat:=g (stk (4*S) k)
def inf:Nat:=2047 * 2^52
def rk (S:Nat):Nat:=S.log2 - 52
def rnd (S:Nat):Nat:=min (rk S * 2^52+rne S (rk S)) inf
def dec (x:Nat):Nat:=if x<2^52 then x else (x % 2^52+2^52) * 2^(x/2^52 - 1)
end Go.Proofs.YtcblkndiclkacaaDoor.Fm
namespace Go.Proofs.YtcblkndiclkacaaDoor.Fm
def K (S j m:Nat):Prop:=m<2^64∧m=stk (1024*S) j∧(2^61≤m∨m*2^j=1024*S)
end Go.Proofs.YtcblkndiclkacaaDoor.Fm
namespace Go.Proofs.YtcblkndiclkacaaDoor
open Go.RowKit
theorem wp_app1x {P:Program} {w:World} {o:Oper} {a:Act} {K:Act→World→Prop} {Q:Exit→Act→World→Prop} (s x:Operand) (t:TypeId)
  (ho:o.op = .call { callee := .builtin .append,args:=#[s,x],argTypes:=#[t,t] })
  {base:Nat} {e:TypeId} {z:Value} {size bytes:Nat} (he:Elem P t e z size bytes) (hsz:0<size)
  {v:Value} {n:Nat} {xs:List Value} (hown:w.ownsRow base e size v n xs) (hs:a.eval s=v)
  {A c:Nat} {cs:List Value} {T:TypeId} {fr:Nat × Nat} (hx:a.eval x = .slice (some ⟨A,0,none⟩) 1 c) (hA:w.heap[A]? = some (.cells cs.toArray T fr)) (hcs:cs.length=size) (h1:∀ u∈cs,u.oneCell'=true)
  (h63:n+1≤maxLen) (hbytes:(n+1) * bytes≤140737488355328) (hbase:base≤w.heap.size)
  (h:∀ v' w',w'.ownsRow base e size v' (n+1) (xs++cs)→w.grownBy w' v.ownBlock→(v'.ownBlock=v.ownBlock∨v'.ownBlock=some w.heap.size)→K (a.put o.dst v') w'):o.wp P a w K Q:=by
 obtain ⟨ht,hi0,hzs⟩:=he
 obtain ⟨i,hi,hz,hsize,hby⟩:=info_parts hi0
 obtain ⟨v',w',hr,h2,h3,h4,h5⟩:=run_append_own_at (P:=P) w base t o.type e i z size bytes ht hi hz hsize hby hzs hsz v n xs hown ⟨A,0,none⟩ 1 c cs (by simp[hcs]) (fun j y hy=>by
  have hadd:(⟨A,0,none⟩:Addr).add j=⟨A,j,none⟩:=by unfold Addr.add;split<;>simp_all
  rw[hadd]
  exact row_cell hA (by simpa using hy)) h1 h63 hbytes hbase
 unfold Oper.wp execOp
 simp only[ho,resolve,invoke,builtin,Sem.run_bind,Sem.run_pure,Result.andThen_ok,List.map_toArray,List.map_cons,List.map_nil,hs,hx,hr]
 exact h _ _ h2 h3 h5
def ptCel:Cel Pt where
 R w P x cs:=∃ bo cap U,cs=[.int .i32 x.off,.slice bo x.cs.length cap,.string U,.int .i64 (x.sh:Int)]∧CRels natCel w P x.cs bo
 size:=4
 len:=by rintro w P x cs ⟨bo,cap,U,rfl,_⟩;rfl
 upd:=by rintro w w' S P Q x cs hu hs hq ⟨bo,cap,U,h,h0⟩;exact ⟨bo,cap,U,h,CRels.upd hu hs hq h0⟩
 lt:=by rintro w P x cs ⟨bo,cap,U,h,h0⟩;exact ⟨bo,cap,U,h,CRels.lt h0⟩
theorem parts_of {w:World} {P:Nat→Prop} {ps:List Pt} {lo:Option Addr} (h:CRels ptCel w P ps lo):PartsAt w lo ps:=fun j hj=>by
 obtain ⟨g,off,cs,h1,_,h3,h4,bo,cap,U,rfl,h5⟩:=h j hj
 have h4':∀ i (h:i<4),w.cell? ⟨g,off+ptCel.size * j+i,none⟩=some ([.int .i32 ps[j].off,.slice bo ps[j].cs.length cap,.string U,.int .i64 (ps[j].sh:Int)]:List Value)[i]:=fun i hi=>h4 i (by simpa using hi)
 have e:off+ptCel.size * j=off+j * 4:=by show off+4 * j=_;omega
 rw[e] at h4'
 exact ⟨g,off,bo,cap,U,h1,h3,h4' 0 (by decide),h4' 1 (by decide),h4' 2 (by decide),h4' 3 (by decide),nats_of_rels h5⟩
theorem Tryd.elPart:Elem Tryd.prog 88 77 (.agg #[.int .i32 0,.slice none 0 0,.string ⟨#[]⟩,.int .i64 0]) 4 56:=⟨Tryd.underlying88,by kernel_rfl,by decide⟩
def SdAt (base:Nat) (v:Value) (ps:List Pt) (w:World):Prop:=∃ css:List (List Value),w.ownsRow base 77 4 v ps.length css.flatten∧css.length=ps.length∧∀ j (h1:j<ps.length) (h2:j<css.length),ptCel.R w (fun k=>k<base) ps[j] css[j]
theorem SdAt.upd {S:Nat→Prop} {base:Nat} {v:Value} {ps:List Pt} {w w':World} (h:SdAt base v ps w) (hu:Upd S w w') (hs:∀ k,S k→base≤k) (hv:∀ k,v.ownBlock=some k→¬S k):SdAt base v ps w':=by
 obtain ⟨css,h1,h2,h3⟩:=h
 exact ⟨css,hu.own h1 hv,h2,fun j a b=>ptCel.upd hu (fun k hk hh=>by have:=hs k hh;omega) (fun _ h=>h) (h3 j a b)⟩
theorem SdAt.nil (base:Nat) (w:World):SdAt base (.slice none 0 0) [] w:=⟨[],World.ownsRow_nil _ _ _ _,rfl,fun j h=>by simp at h⟩
theorem SdAt.slice {base:Nat} {v:Value} {ps:List Pt} {w:World} (h:SdAt base v ps w):∃ lo cap,v = .slice lo ps.length cap:=by
 obtain ⟨css,h1,_⟩:=h
 rcases h1.2 with ⟨rfl,h⟩|⟨g,cap,cur,rfl,_⟩
 ·exact ⟨none,0,by rw[h]⟩
 ·exact ⟨_,_,rfl⟩
theorem SdAt.parts {base:Nat} {lo:Option Addr} {cap:Nat} {ps:List Pt} {w:World} (h:SdAt base (.slice lo ps.length cap) ps w):PartsAt w lo ps:=by
 obtain ⟨css,h1,h2,h3⟩:=h
 exact parts_of (P:=fun k=>(Value.slice lo ps.length cap).ownBlock=some k∨k<base) (CRels.own h1 h2 (fun j a b=>ptCel.upd (Upd.refl (fun _=>False) w) (fun _ _ h=>h) (fun _ h => .inr h) (h3 j a b)) (fun k hk => .inl hk))
end Go.Proofs.YtcblkndiclkacaaDoor
