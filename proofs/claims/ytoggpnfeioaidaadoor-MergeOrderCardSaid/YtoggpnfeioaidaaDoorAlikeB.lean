/-
  Attributes alike or not; what is read is no longer than what it is read from.
-/
import Derived.Test.YtoggpnfeioaidaaDoorVal
import Derived.Test.YtoggpnfeioaidaaDoorValTake
import Derived.Test.YtoggpnfeioaidaaDoorMsgMath
import Derived.Test.YtoggpnfeioaidaaDoorWireRA
import Derived.Test.YtoggpnfeioaidaaDoorMsgRead
import Derived.Test.YtoggpnfeioaidaaDoorGet
import Derived.Test.YtoggpnfeioaidaaDoorMsgWrite
import Derived.Test.YtoggpnfeioaidaaDoorOrd
set_option maxRecDepth 1000000
set_option maxHeartbeats 16000000
namespace Go.Proofs.YtoggpnfeioaidaaDoor
open Go.RowKit
mutual
def vlim:Val→Prop
  | .mk _ _ _ _ l m _ _=>l.length≤9223372036854775807∧m.length≤9223372036854775807∧vslim l∧kslim m
def klim:KV→Prop
  | .mk _ _ v _=>vlim v
def vslim:List Val→Prop
  | []=>True
  | x::xs=>vlim x∧vslim xs
def kslim:List KV→Prop
  | []=>True
  | x::xs=>klim x∧kslim xs
end
theorem vslim_at:∀ {l:List Val},vslim l→∀ x∈l,vlim x
  | [],_,x,hx=>by cases hx
  | y::ys,h,x,hx=>by
    rw[vslim] at h
    rcases List.mem_cons.1 hx with h1|h1
    · exact h1 ▸ h.1
    · exact vslim_at h.2 x h1
theorem kslim_at:∀ {l:List KV},kslim l→∀ x∈l,klim x
  | [],_,x,hx=>by cases hx
  | y::ys,h,x,hx=>by
    rw[kslim] at h
    rcases List.mem_cons.1 hx with h1|h1
    · exact h1 ▸ h.1
    · exact kslim_at h.2 x h1
theorem vslim_of:∀ {l:List Val},(∀ x∈l,vlim x)→vslim l
  | [],_=>by rw[vslim];trivial
  | y::ys,h=>by
    rw[vslim]
    exact ⟨h y (List.mem_cons_self ..),vslim_of fun x hx=>h x (List.mem_cons_of_mem _ hx)⟩
theorem kslim_of:∀ {l:List KV},(∀ x∈l,klim x)→kslim l
  | [],_=>by rw[kslim];trivial
  | y::ys,h=>by
    rw[kslim]
    exact ⟨h y (List.mem_cons_self ..),kslim_of fun x hx=>h x (List.mem_cons_of_mem _ hx)⟩
theorem vrels_at {w:World} {P:Nat→Prop}:∀ {l:List Val} {lo:Option Addr} {i:Nat},VRels w P l lo i→∀ j (h:j<l.length),∃ g off cs,lo=some ⟨g,off,none⟩∧g<w.heap.size∧Cells w g (off+8 * (i+j)) cs∧VRel w P l[j] cs
  | [],_,_,_,j,h=>by simp at h
  | x :: xs,lo,i,hr,j,h=>by
    rw[VRels] at hr
    obtain ⟨⟨g,off,cs,h1,h2,h3,h4,h5⟩,h6⟩:=hr
    cases j with
    | zero=>exact ⟨g,off,cs,h1,h3,h4,h5⟩
    | succ j =>
      obtain ⟨g',off',cs',h1',h2',h3',h4'⟩:=vrels_at h6 j (by simpa using h)
      exact ⟨g',off',cs',h1',h2',by rw[show i+(j+1)=i+1+j by omega];exact h3',h4'⟩
theorem krels_at {w:World} {P:Nat→Prop}:∀ {l:List KV} {lo:Option Addr} {i:Nat},KRels w P l lo i→∀ j (h:j<l.length),∃ g off cs,lo=some ⟨g,off,none⟩∧g<w.heap.size∧Cells w g (off+11 * (i+j)) cs∧KRel w P l[j] cs
  | [],_,_,_,j,h=>by simp at h
  | x :: xs,lo,i,hr,j,h=>by
    rw[KRels] at hr
    obtain ⟨⟨g,off,cs,h1,h2,h3,h4,h5⟩,h6⟩:=hr
    cases j with
    | zero=>exact ⟨g,off,cs,h1,h3,h4,h5⟩
    | succ j =>
      obtain ⟨g',off',cs',h1',h2',h3',h4'⟩:=krels_at h6 j (by simpa using h)
      exact ⟨g',off',cs',h1',h2',by rw[show i+(j+1)=i+1+j by omega];exact h3',h4'⟩
theorem vrels_at0 {w:World} {P:Nat→Prop} {l:List Val} {lo:Option Addr} (h:VRels w P l lo 0) (j:Nat) (hj:j<l.length):∃ g off cs,lo=some ⟨g,off,none⟩∧g<w.heap.size∧Cells w g (off+8 * j) cs∧VRel w P l[j] cs:=by
  have:=vrels_at h j hj
  rwa [Nat.zero_add] at this
theorem krels_at0 {w:World} {P:Nat→Prop} {l:List KV} {lo:Option Addr} (h:KRels w P l lo 0) (j:Nat) (hj:j<l.length):∃ g off cs,lo=some ⟨g,off,none⟩∧g<w.heap.size∧Cells w g (off+11 * j) cs∧KRel w P l[j] cs:=by
  have:=krels_at h j hj
  rwa [Nat.zero_add] at this
noncomputable def alike {α:Type} (x y:α):Bool:=@decide (x=y) (Classical.propDecidable _)
theorem VRels.below {w w':World} {P:Nat→Prop} {l:List Val} {lo:Option Addr} {i:Nat} (h:VRels w P l lo i) (hb:Below w.heap.size w w'):VRels w' P l lo i:=VRels.upd (Upd.of_new (S:=fun _=>False) hb) (fun _ _ h=>h) (fun _ h=>h) l lo i h
theorem KRels.below {w w':World} {P:Nat→Prop} {l:List KV} {lo:Option Addr} {i:Nat} (h:KRels w P l lo i) (hb:Below w.heap.size w w'):KRels w' P l lo i:=KRels.upd (Upd.of_new (S:=fun _=>False) hb) (fun _ _ h=>h) (fun _ h=>h) l lo i h
theorem VRel.below {w w':World} {P:Nat→Prop} {x:Val} {c:List Value} (h:VRel w P x c) (hb:Below w.heap.size w w'):VRel w' P x c:=VRel.upd (Upd.of_new (S:=fun _=>False) hb) (fun _ _ h=>h) (fun _ h=>h) x c h
theorem Cells.below {w w':World} {g off:Nat} {cs:List Value} (h:Cells w g off cs) (hb:Below w.heap.size w w') (hg:g<w.heap.size):Cells w' g off cs:=h.upd (Upd.of_new (S:=fun _=>False) hb) hg (fun h=>h)
theorem cells8 {w:World} {g o j:Nat} {c0 c1 c2 c3 c4 c5 c6 c7:Value} (h:Cells w g (o+8 * j) [c0,c1,c2,c3,c4,c5,c6,c7]):w.cell? ⟨g,o+j * 8,none⟩=some c0∧w.cell? ⟨g,o+j * 8+1,none⟩=some c1∧w.cell? ⟨g,o+j * 8+2,none⟩=some c2∧w.cell? ⟨g,o+j * 8+3,none⟩=some c3∧w.cell? ⟨g,o+j * 8+4,none⟩=some c4∧w.cell? ⟨g,o+j * 8+5,none⟩=some c5∧w.cell? ⟨g,o+j * 8+6,none⟩=some c6∧w.cell? ⟨g,o+j * 8+7,none⟩=some c7 :=
  ⟨by have:=h 0 (by simp);rw[show o+j * 8=o+8 * j+0 by omega,this];rfl,by have:=h 1 (by simp);rw[show o+j * 8+1=o+8 * j+1 by omega,this];rfl,by have:=h 2 (by simp);rw[show o+j * 8+2=o+8 * j+2 by omega,this];rfl,by have:=h 3 (by simp);rw[show o+j * 8+3=o+8 * j+3 by omega,this];rfl,by have:=h 4 (by simp);rw[show o+j * 8+4=o+8 * j+4 by omega,this];rfl,by have:=h 5 (by simp);rw[show o+j * 8+5=o+8 * j+5 by omega,this];rfl,by have:=h 6 (by simp);rw[show o+j * 8+6=o+8 * j+6 by omega,this];rfl,by have:=h 7 (by simp);rw[show o+j * 8+7=o+8 * j+7 by omega,this];rfl⟩
theorem cells11 {w:World} {g o j:Nat} {c0 c1 c2 c3 c4 c5 c6 c7 c8 c9 c10:Value} (h:Cells w g (o+11 * j) [c0,c1,c2,c3,c4,c5,c6,c7,c8,c9,c10]):w.cell? ⟨g,o+j * 11,none⟩=some c0∧w.cell? ⟨g,o+j * 11+1,none⟩=some c1∧w.cell? ⟨g,o+j * 11+2,none⟩=some c2∧w.cell? ⟨g,o+j * 11+3,none⟩=some c3∧w.cell? ⟨g,o+j * 11+4,none⟩=some c4∧w.cell? ⟨g,o+j * 11+5,none⟩=some c5∧w.cell? ⟨g,o+j * 11+6,none⟩=some c6∧w.cell? ⟨g,o+j * 11+7,none⟩=some c7∧w.cell? ⟨g,o+j * 11+8,none⟩=some c8∧w.cell? ⟨g,o+j * 11+9,none⟩=some c9∧w.cell? ⟨g,o+j * 11+10,none⟩=some c10 :=
  ⟨by have:=h 0 (by simp);rw[show o+j * 11=o+11 * j+0 by omega,this];rfl,by have:=h 1 (by simp);rw[show o+j * 11+1=o+11 * j+1 by omega,this];rfl,by have:=h 2 (by simp);rw[show o+j * 11+2=o+11 * j+2 by omega,this];rfl,by have:=h 3 (by simp);rw[show o+j * 11+3=o+11 * j+3 by omega,this];rfl,by have:=h 4 (by simp);rw[show o+j * 11+4=o+11 * j+4 by omega,this];rfl,by have:=h 5 (by simp);rw[show o+j * 11+5=o+11 * j+5 by omega,this];rfl,by have:=h 6 (by simp);rw[show o+j * 11+6=o+11 * j+6 by omega,this];rfl,by have:=h 7 (by simp);rw[show o+j * 11+7=o+11 * j+7 by omega,this];rfl,by have:=h 8 (by simp);rw[show o+j * 11+8=o+11 * j+8 by omega,this];rfl,by have:=h 9 (by simp);rw[show o+j * 11+9=o+11 * j+9 by omega,this];rfl,by have:=h 10 (by simp);rw[show o+j * 11+10=o+11 * j+10 by omega,this];rfl⟩
open Go.RowKit
open Go.RowKit
def CRels {α:Type} (C:Cel α) (w:World) (P:Nat→Prop) (l:List α) (lo:Option Addr):Prop:=∀ j (hj:j<l.length),∃ g off cs,lo=some ⟨g,off,none⟩∧P g∧g<w.heap.size∧Cells w g (off+C.size * j) cs∧C.R w P l[j] cs
theorem CRels.nil {α:Type} (C:Cel α) (w:World) (P:Nat→Prop) (lo:Option Addr):CRels C w P [] lo:=fun j hj=>by simp at hj
theorem CRels.upd {α:Type} {C:Cel α} {S:Nat→Prop} {w w':World} {P Q:Nat→Prop} (hu:Upd S w w') (hs:∀ k,P k→¬S k) (hq:∀ k,P k→Q k) {l:List α} {lo:Option Addr} (h:CRels C w P l lo):CRels C w' Q l lo:=fun j hj=>by
  obtain ⟨g,off,cs,h1,h2,h3,h4,h5⟩:=h j hj
  exact ⟨g,off,cs,h1,hq g h2,Nat.lt_of_lt_of_le h3 hu.size,h4.upd hu h3 (hs g h2),C.upd hu hs hq h5⟩
theorem CRels.below {α:Type} {C:Cel α} {w w':World} {P:Nat→Prop} {l:List α} {lo:Option Addr} (h:CRels C w P l lo) (hb:Below w.heap.size w w'):CRels C w' P l lo:=CRels.upd (Upd.of_new (S:=fun _=>False) hb) (fun _ _ h=>h) (fun _ h=>h) h
theorem CRels.lt {α:Type} {C:Cel α} {w:World} {P:Nat→Prop} {l:List α} {lo:Option Addr} (h:CRels C w P l lo):CRels C w (fun k=>P k∧k<w.heap.size) l lo:=fun j hj=>by
  obtain ⟨g,off,cs,h1,h2,h3,h4,h5⟩:=h j hj
  exact ⟨g,off,cs,h1,⟨h2,h3⟩,h3,h4,C.lt h5⟩
theorem flat_len {css:List (List Value)} {n:Nat} (h:∀ c∈css,c.length=n):css.flatten.length=n * css.length:=by
  induction css with
  | nil=>rfl
  | cons c l ih =>
    rw[List.flatten_cons,List.length_append,ih (fun x hx=>h x (List.mem_cons_of_mem _ hx)),h c (List.mem_cons_self ..),List.length_cons,Nat.mul_add,Nat.mul_one,Nat.add_comm]
theorem flat_at {css:List (List Value)} {n:Nat} (h:∀ c∈css,c.length=n) (j i:Nat) (hj:j<css.length) (hi:i<n):css.flatten[n * j+i]? = css[j][i]?:=by
  induction css generalizing j with
  | nil=>simp at hj
  | cons c l ih =>
    have hc:=h c (List.mem_cons_self ..)
    rw[List.flatten_cons]
    cases j with
    | zero =>
      rw[Nat.mul_zero,Nat.zero_add,List.getElem?_append_left (by omega)]
      rfl
    | succ j =>
      have e:n * (j+1)+i=n * j+i+n:=by rw[Nat.mul_add,Nat.mul_one];omega
      rw[e,List.getElem?_append_right (by omega),hc,Nat.add_sub_cancel]
      exact ih (fun x hx=>h x (List.mem_cons_of_mem _ hx)) j (by simpa using hj)
theorem CRels.own {α:Type} {C:Cel α} {w:World} {base:Nat} {T:TypeId} {lo:Option Addr} {cap:Nat} {xs:List α} {css:List (List Value)} {P:Nat→Prop} (ho:w.ownsRow base T C.size (.slice lo xs.length cap) xs.length css.flatten) (hl:css.length=xs.length) (hr:∀ j (h1:j<xs.length) (h2:j<css.length),C.R w P xs[j] css[j]) (hP:∀ k,(Value.slice lo xs.length cap).ownBlock=some k→P k):CRels C w P xs lo:=fun j hj=>by
  obtain ⟨g,cg,hv,hb,hg,_,_⟩:=own_some ho (by omega)
  simp only[Value.slice.injEq] at hv
  obtain ⟨rfl,_,rfl⟩:=hv
  have hln:∀ c∈css,c.length=C.size:=fun c hc=>by
    obtain ⟨i,hi,rfl⟩:=List.getElem_of_mem hc
    exact C.len (hr i (by omega) hi)
  have hfl:=flat_len hln
  refine ⟨g,0,css[j],rfl,hP g rfl,hg,fun i hi=>?_,hr j hj (by omega)⟩
  have hcl:=hln css[j] (List.getElem_mem _)
  have hb2:C.size * j+i<css.flatten.length:=by
    rw[hfl]
    have h1:C.size * (j+1)≤C.size * css.length:=Nat.mul_le_mul_left _ (by omega)
    rw[Nat.mul_add,Nat.mul_one] at h1
    omega
  rw[Nat.zero_add,ho.cellAt (C.size * j+i) (by rw[←hl,Nat.mul_comm css.length,←hfl];omega),flat_at hln j i (by omega) (by omega),List.getElem?_eq_getElem hi]
open Go.RowKit
mutual
def vw:Val→Nat
 | .mk _ s _ _ l m i u=>60+s.length+i.length+u.length+vsw l+ksw m
def kw:KV→Nat
 | .mk key _ v u=>40+key.length+u.length+vw v
def vsw:List Val→Nat
 | []=>0
 | x::xs=>vw x+vsw xs
def ksw:List KV→Nat
 | []=>0
 | x::xs=>kw x+ksw xs
end
mutual
def vfit:Val→Prop
 | .mk k s _ n l m i u=>(-9223372036854775808≤k∧k≤9223372036854775807)∧n<18446744073709551616∧s.length≤9223372036854775807∧i.length≤9223372036854775807∧u.length≤9223372036854775807∧vsfit l∧ksfit m
def kfit:KV→Prop
 | .mk key _ v u=>key.length≤9223372036854775807∧u.length≤9223372036854775807∧vfit v
def vsfit:List Val→Prop
 | []=>True
 | x::xs=>vfit x∧vsfit xs
def ksfit:List KV→Prop
 | []=>True
 | x::xs=>kfit x∧ksfit xs
end
theorem vsfit_at:∀ {l:List Val},vsfit l→∀ x∈l,vfit x
 | [],_,x,hx=>by cases hx
 | y::ys,h,x,hx=>by
  rw[vsfit] at h
  rcases List.mem_cons.1 hx with h1|h1
  ·exact h1 ▸ h.1
  ·exact vsfit_at h.2 x h1
theorem ksfit_at:∀ {l:List KV},ksfit l→∀ x∈l,kfit x
 | [],_,x,hx=>by cases hx
 | y::ys,h,x,hx=>by
  rw[ksfit] at h
  rcases List.mem_cons.1 hx with h1|h1
  ·exact h1 ▸ h.1
  ·exact ksfit_at h.2 x h1
theorem vsfit_of:∀ {l:List Val},(∀ x∈l,vfit x)→vsfit l
 | [],_=>by rw[vsfit];trivial
 | y::ys,h=>by
  rw[vsfit]
  exact ⟨h y (List.mem_cons_self ..),vsfit_of fun x hx=>h x (List.mem_cons_of_mem _ hx)⟩
theorem ksfit_of:∀ {l:List KV},(∀ x∈l,kfit x)→ksfit l
 | [],_=>by rw[ksfit];trivial
 | y::ys,h=>by
  rw[ksfit]
  exact ⟨h y (List.mem_cons_self ..),ksfit_of fun x hx=>h x (List.mem_cons_of_mem _ hx)⟩
theorem vsw_app:∀ (a b:List Val),vsw (a++b)=vsw a+vsw b
 | [],b=>by rw[vsw];simp
 | x::a,b=>by rw[List.cons_append,vsw,vsw,vsw_app a b];omega
theorem ksw_app:∀ (a b:List KV),ksw (a++b)=ksw a+ksw b
 | [],b=>by rw[ksw];simp
 | x::a,b=>by rw[List.cons_append,ksw,ksw,ksw_app a b];omega
theorem vsw_one (x:Val):vsw [x]=vw x:=by rw[vsw,vsw];rfl
theorem ksw_one (x:KV):ksw [x]=kw x:=by rw[ksw,ksw];rfl
def RoomOk (a:Int) (n:Nat) (r:Int):Prop:=r = -1∨0≤r∧r+(n:Int)≤a
theorem RoomOk.then {a b c:Int} {n m:Nat} (h:RoomOk a n b) (g:RoomOk b m c):RoomOk a (n+m) c:=by
 unfold RoomOk at *
 omega
theorem RoomOk.le {a b:Int} {n:Nat} (h:RoomOk a n b) (ha : -1≤a∧a≤1000000) : -1≤b∧b≤1000000:=by
 unfold RoomOk at h
 omega
theorem roomtake_any (a:Int) (b:Nat) (w:World) (ha : -1≤a∧a≤1000000) (hb:b≤9223372036854775807) :
  Calls Tryd.prog 36 #[.int .i64 a,.int .i64 (b:Int)] w fun e w'=>w=w'∧∃ r:Int,e = .returned (.int .i64 r)∧Hid (RoomOk a (20+b) r):=by
 have q1:IntKind.i64.wrap (a - 20)=a - 20:=IntWalk.i64_in _ (by omega)
 by_cases h1:a<0
 ·have d1:decide (a<0)=true:=decide_eq_true h1
  go_enter Tryd.func36,Tryd.ntmps36
  go_wp2_with fail
  go_ret
  exact ⟨rfl,-1,rfl,Lib.hid (.inl rfl)⟩
 ·have d1:decide (a<0)=false:=decide_eq_false h1
  by_cases h2:(b:Int)>a - 20
  ·have d2:decide ((b:Int)>a - 20)=true:=decide_eq_true h2
   clear h1 h2
   go_enter Tryd.func36,Tryd.ntmps36
   go_wp2_with fail
   go_ret
   exact ⟨rfl,-1,rfl,Lib.hid (.inl rfl)⟩
  ·have d2:decide ((b:Int)>a - 20)=false:=decide_eq_false h2
   have q2:IntKind.i64.wrap (a - (b:Int))=a - b:=IntWalk.i64_in _ (by omega)
   have q3:IntKind.i64.wrap (a - (b:Int) - 20)=a - b - 20:=IntWalk.i64_in _ (by omega)
   have H1:=Lib.hid h1
   have H2:=Lib.hid h2
   clear h1 h2
   go_enter Tryd.func36,Tryd.ntmps36
   go_wp2_with fail
   go_ret
   exact ⟨rfl,_,rfl,Lib.hid (.inr ⟨by have:=H2.out;omega,by omega⟩)⟩
def Cells1 (w:World) (g o:Nat) (c:List Value):Prop:=Cells w g o c
def Row8 (w:World) (g:Nat) (c:List Value):Prop:=w.heap[g]? = some (.cells c.toArray 129 (0,0))
def RmPost (room:Int) (n:Nat) (w:World) (e:Ending) (w':World):Prop:=Below w.heap.size w w'∧∃ r:Int,e = .returned (.int .i64 r)∧Hid (RoomOk room n r)
def RmV (x:Val):Prop:=∀ (ca:List Value) (P:Nat→Prop) (w:World) (deep room:Int),vlim x→vfit x→VRel w P x ca → -1≤deep∧deep≤1000 → -1≤room∧room≤1000000→Calls Tryd.prog 59 #[.agg ca.toArray,.int .i64 deep,.int .i64 room] w (RmPost room (vw x) w)
def RmK (x:KV):Prop:=match x with | .mk _ _ v _=>RmV v
def RmKs (l:List KV):Prop:=∀ (lo:Option Addr) (lc:Nat) (P:Nat→Prop) (w:World) (deep room:Int),l.length≤9223372036854775807→kslim l→ksfit l→KRels w P l lo 0 → -1≤deep∧deep≤1000 → -1≤room∧room≤1000000→Calls Tryd.prog 38 #[.slice lo l.length lc,.int .i64 deep,.int .i64 room] w (RmPost room (ksw l) w)
theorem rmkeys_step (l:List KV) (hk:Hid (∀ x∈l,RmK x)):RmKs l:=by
 intro lo lc P w deep room hl hlim hfit ha hde hro
 have HA:=Lib.hid ha
 have HLIM:=Lib.hid hlim
 have HFIT:=Lib.hid hfit
 have HRO:=Lib.hid hro
 have HDE:=Lib.hid hde
 clear ha hlim hfit hro
 have HDL:Hid (deep<0∧0<l.length∨(0<l.length→0≤deep)):=Lib.hid (by omega)
 by_cases h1:deep<0
 ·have d1:decide (deep<0)=true:=decide_eq_true h1
  by_cases h2:0<l.length
  ·clear h1 HDL
   go_enter Tryd.func38,Tryd.ntmps38
   go_wp2_with fail
   go_ret
   exact ⟨Below.refl _ _,-1,rfl,Lib.hid (.inl rfl)⟩
  ·obtain rfl:l=[]:=List.eq_nil_of_length_eq_zero (by omega)
   clear h1 h2 HDL
   go_enter Tryd.func38,Tryd.ntmps38
   go_wp2_with fail
   go_loopg [2,7] 0 (fun k r i wr=>r = .int .i64 room∧i = .int .i64 0∧wr=w)
   case atStart=>exact ⟨rfl,rfl,rfl⟩
   case round =>
    obtain ⟨rfl,rfl,rfl⟩:=hrel
    go_wp2_with fail
    go_ret
    exact ⟨Below.refl _ _,room,rfl,Lib.hid (by rw[ksw];unfold RoomOk;have:=HRO.out;omega)⟩
 ·have d1:decide (deep<0)=false:=decide_eq_false h1
  have HDL:Hid (0<l.length→0≤deep):=Lib.hid (fun _=>by omega)
  clear h1
  go_enter Tryd.func38,Tryd.ntmps38
  go_wp2_with fail
  go_loopg [2,7] l.length (fun k r i wr=>∃ (j:Nat) (rm:Int),r = .int .i64 rm∧i = .int .i64 (j:Int)∧j+k=l.length∧Below w.heap.size w wr∧Hid (RoomOk room (ksw (l.take j)) rm))
  case atStart=>exact ⟨0,room,rfl,rfl,by omega,Below.refl _ _,Lib.hid (by rw[List.take_zero,ksw];unfold RoomOk;have:=HRO.out;omega)⟩
  case round =>
   obtain ⟨j,rm,rfl,rfl,hj,hbr,HRM⟩:=hrel
   have HBR:=Lib.hid hbr
   have HJ:=Lib.hid hj
   have HRB:=Lib.hid (HRM.out.le HRO.out)
   clear hbr hj hde
   by_cases hlt:j<l.length
   ·by_cases hrm:0≤rm
    ·have d4:decide (rm ≥ 0)=true:=decide_eq_true hrm
     have HDD:Hid (0≤deep):=Lib.hid (HDL.out (by omega))
     obtain ⟨ga,oa,ca,rfl,hga,hca,hra⟩:=krels_at0 (HA.out.below HBR.out) j hlt
     have hmem:=List.getElem_mem hlt
     obtain ⟨x,hx⟩:∃ x,l[j]=x:=⟨_,rfl⟩
     have HKX:=hk.out x (hx ▸ hmem)
     have HLX:=kslim_at HLIM.out x (hx ▸ hmem)
     have HFX:=ksfit_at HFIT.out x (hx ▸ hmem)
     have HTK:Hid (ksw (l.take (j+1))=ksw (l.take j)+kw x):=Lib.hid (by rw[List.take_succ_eq_append_getElem hlt,ksw_app,hx,ksw_one])
     rw[hx] at hra
     clear hx hmem hrm
     cases x with|mk key has v u =>
     rw[KRel] at hra
     obtain ⟨cv,hrv,rfl⟩:=hra
     rw[klim] at HLX
     rw[kfit] at HFX
     have HVL:=Lib.hid HLX
     have HVF:=Lib.hid HFX.2.2
     obtain ⟨KA,hKA⟩:∃ X:ByteArray,(⟨key.toArray⟩:ByteArray)=X:=⟨_,rfl⟩
     obtain ⟨UA,hUA⟩:∃ X:ByteArray,(⟨u.toArray⟩:ByteArray)=X:=⟨_,rfl⟩
     have hks:KA.size=key.length:=by rw[←hKA];simp[ByteArray.size]
     have hus:UA.size=u.length:=by rw[←hUA];simp[ByteArray.size]
     have HKS:=Lib.hid hks
     have HUS:=Lib.hid hus
     have hkb:KA.size≤9223372036854775807:=by rw[hks];exact HFX.1
     have hub:UA.size≤9223372036854775807:=by rw[hus];exact HFX.2.1
     have HRV:=Lib.hid hrv
     obtain ⟨k1,S1,b1,n1,l1,ln1,lc1,m1,mn1,mc1,I1,U1,rfl⟩:=hrv.form
     have HCA:Hid (Cells wr ga (oa+11 * j) [.string KA,.bool has,.int .i64 k1,.string S1,.bool b1,.int .u64 n1,.slice l1 ln1 lc1,.slice m1 mn1 mc1,.string I1,.string U1,.string UA]):=Lib.hid (by rw[←hKA,←hUA];exact hca)
     have HKW:Hid (kw (.mk key has v u)=40+key.length+u.length+vw v):=Lib.hid (by rw[kw])
     have HRX:=Lib.hid (show RmV v from HKX)
     clear hKA hUA hks hus hca hrv HLX HFX HKX
     go_wp2_with fail
     have ek:∀ a:World,Cells1 a ga (oa+11 * j) [.string KA,.bool has,.int .i64 k1,.string S1,.bool b1,.int .u64 n1,.slice l1 ln1 lc1,.slice m1 mn1 mc1,.string I1,.string U1,.string UA]→a.cell? ⟨ga,oa+j * 11,none⟩=some (.string KA):=fun a ha=>by have:=ha 0 (by simp);rw[show oa+j * 11=oa+11 * j+0 by omega,this];rfl
     have eu:∀ a:World,Cells1 a ga (oa+11 * j) [.string KA,.bool has,.int .i64 k1,.string S1,.bool b1,.int .u64 n1,.slice l1 ln1 lc1,.slice m1 mn1 mc1,.string I1,.string U1,.string UA]→a.cell? ⟨ga,oa+j * 11+10,none⟩=some (.string UA):=fun a ha=>by have:=ha 10 (by simp);rw[show oa+j * 11+10=oa+11 * j+10 by omega,this];rfl
     obtain ⟨D,hD⟩:∃ D,wr.drew=D:=⟨_,rfl⟩
     have HBD:Hid (Below wr.heap.size wr D):=Lib.hid (by rw[←hD];exact (Below.refl _ _).drew)
     have hS:Cells1 D ga (oa+11 * j) [.string KA,.bool has,.int .i64 k1,.string S1,.bool b1,.int .u64 n1,.slice l1 ln1 lc1,.slice m1 mn1 mc1,.string I1,.string U1,.string UA]:=HCA.out.below HBD.out hga
     have hne:Nonempty {w':World // Cells1 w' ga (oa+11 * j) [.string KA,.bool has,.int .i64 k1,.string S1,.bool b1,.int .u64 n1,.slice l1 ln1 lc1,.slice m1 mn1 mc1,.string I1,.string U1,.string UA]}:=⟨⟨_,hS⟩⟩
     refine wp_region_seq (S:=fun w'=>Cells1 w' ga (oa+11 * j) [.string KA,.bool has,.int .i64 k1,.string S1,.bool b1,.int .u64 n1,.slice l1 ln1 lc1,.slice m1 mn1 mc1,.string I1,.string U1,.string UA]) [(0,true),(1,true),(2,true),(3,true),(4,true),(5,true),(6,true),(8,true),(9,true),(10,true),(11,true),(12,true),(13,true),(7,false),(14,false),(15,true)] (by kernel_rfl) (by kernel_rfl) (by kernel_rfl) (by kernel_rfl) (by rw[hD];exact hS) ?_
     rw[hD]
     clear hD
     iterate 3 (refine seq_take _ rfl (fun K2 hK=>?_);go_simp;(first|refine hK _ ?_|refine ⟨_,fun _ _=>rfl,hK _ ?_⟩);clear hK K2)
     refine seq_take _ rfl (fun K2 hK=>?_);go_simp;(first|refine hK _ ?_|refine ⟨.pointer (some ⟨ga,oa+j * 11,none⟩),fun _ _=>if_pos (by omega),hK _ ?_⟩);clear hK K2
     refine seq_take _ rfl (fun K2 hK=>?_);go_simp;(first|refine hK _ ?_|refine ⟨_,fun _ _=>rfl,hK _ ?_⟩);clear hK K2
     refine seq_take _ rfl (fun K2 hK=>?_);go_simp
     refine ⟨.string KA,fun a ha=>by rw[ek a ha];rfl,hK _ ?_⟩;clear hK K2
     refine seq_take _ rfl (fun K2 hK=>?_);go_simp;(first|refine hK _ ?_|refine ⟨_,fun _ _=>rfl,hK _ ?_⟩);clear hK K2
     iterate 2 (refine seq_take _ rfl (fun K2 hK=>?_);go_simp;(first|refine hK _ ?_|refine ⟨_,fun _ _=>rfl,hK _ ?_⟩);clear hK K2)
     refine seq_take _ rfl (fun K2 hK=>?_);go_simp;(first|refine hK _ ?_|refine ⟨.pointer (some ⟨ga,oa+j * 11,none⟩),fun _ _=>if_pos (by omega),hK _ ?_⟩);clear hK K2
     refine seq_take _ rfl (fun K2 hK=>?_);go_simp;(first|refine hK _ ?_|refine ⟨_,fun _ _=>rfl,hK _ ?_⟩);clear hK K2
     refine seq_take _ rfl (fun K2 hK=>?_);go_simp
     refine ⟨.string UA,fun a ha=>by rw[eu a ha];rfl,hK _ ?_⟩;clear hK K2
     refine seq_take _ rfl (fun K2 hK=>?_);go_simp;(first|refine hK _ ?_|refine ⟨_,fun _ _=>rfl,hK _ ?_⟩);clear hK K2
     refine seq_come _ rfl (fun K2 hK=>?_);go_simp
     refine (roomtake_any rm KA.size D HRB.out hkb).mono ?_;rintro e w4 ⟨rfl,r1,rfl,HR1⟩
     have HB1:=Lib.hid (HR1.out.le HRB.out)
     go_simp;refine hK.out _ _ hS ?_;clear hK K2
     refine seq_come _ rfl (fun K2 hK=>?_);go_simp
     refine (roomtake_any r1 UA.size D HB1.out hub).mono ?_;rintro e w4 ⟨rfl,r2,rfl,HR2⟩
     have HB2:=Lib.hid (HR2.out.le HB1.out)
     go_simp;refine hK.out _ _ hS ?_;clear hK K2
     refine seq_take _ rfl (fun K2 hK=>?_);go_simp;(first|refine hK _ ?_|refine ⟨_,fun _ _=>rfl,hK _ ?_⟩);clear hK K2
     refine seq_done ?_
     have HCD:=Lib.hid (HCA.out.below HBD.out hga)
     clear ek eu hne hS hkb hub
     obtain ⟨ev0,ev1,ev2,ev3,ev4,ev5,ev6,ev7,ev8,ev9,ev10⟩:=cells11 HCD.out
     go_wp2_with fail
     refine (HRX.out [.int .i64 k1,.string S1,.bool b1,.int .u64 n1,.slice l1 ln1 lc1,.slice m1 mn1 mc1,.string I1,.string U1] P D deep r2 HVL.out HVF.out (HRV.out.below HBD.out) (by have:=HDD.out;have:=HDE.out;omega) HB2.out).mono ?_;intro e w5 hpost
     obtain ⟨hb5,r3,rfl,HR3⟩:=hpost
     have HBW:=Lib.hid (below_step HBR.out (below_step HBD.out hb5))
     clear hb5 ev0 ev1 ev2 ev3 ev4 ev5 ev6 ev7 ev8 ev9 ev10
     go_wp2_with fail
     have hj:=HJ.out
     go_roundg (gk - 1)
     case measure=>omega
     case rel=>exact ⟨j+1,r3,rfl,by simp,by omega,HBW.out,Lib.hid (by
      have h1:=((HRM.out.then HR1.out).then HR2.out).then HR3.out
      have h2:=HKW.out
      have h3:=HTK.out
      have h4:=HKS.out
      have h5:=HUS.out
      unfold RoomOk at h1 ⊢
      omega)⟩
    ·have d4:decide (rm ≥ 0)=false:=decide_eq_false hrm
     have hrm1:rm = -1:=by have:=HRB.out;omega
     clear hrm
     go_wp2_with fail
     go_ret
     exact ⟨HBR.out,rm,rfl,Lib.hid (.inl hrm1)⟩
   ·have hjn:j=l.length:=by have:=HJ.out;omega
    have HRE:Hid (RoomOk room (ksw l) rm):=Lib.hid (by have h:=HRM.out;rwa [hjn,List.take_length] at h)
    clear hjn
    go_wp2_with fail
    go_ret
    exact ⟨HBR.out,rm,rfl,HRE⟩
theorem rmval_step (k:Int) (s:List UInt8) (b0:Bool) (n:Nat) (l:List Val) (m:List KV) (i u:List UInt8) (hv:Hid (∀ x∈l,RmV x)) (hk:Hid (RmKs m)):RmV (.mk k s b0 n l m i u):=by
 intro ca P w deep room hlim hfit ha hde hro
 rw[VRel] at ha
 rw[vlim] at hlim
 rw[vfit] at hfit
 obtain ⟨hl1,hl2,hl3,hl4⟩:=hlim
 obtain ⟨_,_,hf1,hf2,hf3,hf4,hf5⟩:=hfit
 obtain ⟨lo,lc,mo,mc,rfl,hal,ham⟩:=ha
 have HAL:=Lib.hid hal
 have HAM:=Lib.hid ham
 have HLV:=Lib.hid hl3
 have HLK:=Lib.hid hl4
 have HFV:=Lib.hid hf4
 have HFK:=Lib.hid hf5
 have HRO:=Lib.hid hro
 have HDE:=Lib.hid hde
 clear hal ham hl3 hl4 hf4 hf5 hro
 obtain ⟨SA,hSA⟩:∃ X:ByteArray,(⟨s.toArray⟩:ByteArray)=X:=⟨_,rfl⟩
 obtain ⟨IA,hIA⟩:∃ X:ByteArray,(⟨i.toArray⟩:ByteArray)=X:=⟨_,rfl⟩
 obtain ⟨UA,hUA⟩:∃ X:ByteArray,(⟨u.toArray⟩:ByteArray)=X:=⟨_,rfl⟩
 have hss:SA.size=s.length:=by rw[←hSA];simp[ByteArray.size]
 have his:IA.size=i.length:=by rw[←hIA];simp[ByteArray.size]
 have hus:UA.size=u.length:=by rw[←hUA];simp[ByteArray.size]
 have HSS:=Lib.hid hss
 have HIS:=Lib.hid his
 have HUS:=Lib.hid hus
 have hsb:SA.size≤9223372036854775807:=by omega
 have hib:IA.size≤9223372036854775807:=by omega
 have hub:UA.size≤9223372036854775807:=by omega
 show Calls Tryd.prog _ #[.agg #[.int .i64 k,.string ⟨s.toArray⟩,.bool b0,.int .u64 (n:Int),.slice lo l.length lc,.slice mo m.length mc,.string ⟨i.toArray⟩,.string ⟨u.toArray⟩],.int .i64 deep,.int .i64 room] w _
 rw[hSA,hIA,hUA]
 have HVW:Hid (vw (.mk k s b0 n l m i u)=60+s.length+i.length+u.length+vsw l+ksw m):=Lib.hid (by rw[vw])
 clear hSA hIA hUA hss his hus hf1 hf2 hf3
 have HB0:Hid (Below w.heap.size w (w.alloc (.cells #[.int .i64 k,.string SA,.bool b0,.int .u64 (n:Int),.slice lo l.length lc,.slice mo m.length mc,.string IA,.string UA] 129))):=Lib.hid (below_new _ _)
 by_cases hd:deep<0
 ·have d1:decide (deep<0)=true:=decide_eq_true hd
  clear hd
  go_enter Tryd.func59,Tryd.ntmps59
  go_wp2_with fail
  go_ret
  exact ⟨HB0.out,-1,rfl,Lib.hid (.inl rfl)⟩
 ·have d1:decide (deep<0)=false:=decide_eq_false hd
  have HDD:Hid (0≤deep):=Lib.hid (by omega)
  have q1:IntKind.i64.wrap (deep - 1)=deep - 1:=IntWalk.i64_in _ (by omega)
  clear hd hde
  obtain ⟨W,hW⟩:∃ W,w.alloc (.cells #[.int .i64 k,.string SA,.bool b0,.int .u64 (n:Int),.slice lo l.length lc,.slice mo m.length mc,.string IA,.string UA] 129)=W:=⟨_,rfl⟩
  rw[hW] at HB0
  have HX0:Hid (W.heap[w.heap.size]? = some (.cells #[.int .i64 k,.string SA,.bool b0,.int .u64 (n:Int),.slice lo l.length lc,.slice mo m.length mc,.string IA,.string UA] 129 (0,0))):=Lib.hid (by rw[←hW];exact heap_alloc_new w _)
  have HW:=Lib.hid hW
  clear hW
  go_enter Tryd.func59,Tryd.ntmps59
  go_wp2_with fail
  rw[HW.out]
  obtain ⟨D,hD⟩:∃ D,W.drew=D:=⟨_,rfl⟩
  have HBD:Hid (Below W.heap.size W D):=Lib.hid (by rw[←hD];exact (Below.refl _ _).drew)
  have hS:Row8 D w.heap.size [.int .i64 k,.string SA,.bool b0,.int .u64 (n:Int),.slice lo l.length lc,.slice mo m.length mc,.string IA,.string UA]:=(HBD.out.block _ (row_lt HX0.out)).trans HX0.out
  have hne:Nonempty {w':World // Row8 w' w.heap.size [.int .i64 k,.string SA,.bool b0,.int .u64 (n:Int),.slice lo l.length lc,.slice mo m.length mc,.string IA,.string UA]}:=⟨⟨_,hS⟩⟩
  have e1:∀ a:World,Row8 a w.heap.size [.int .i64 k,.string SA,.bool b0,.int .u64 (n:Int),.slice lo l.length lc,.slice mo m.length mc,.string IA,.string UA]→a.cell? ⟨w.heap.size,1,none⟩=some (.string SA):=fun a ha=>row_cell ha (j:=1) rfl
  have e6:∀ a:World,Row8 a w.heap.size [.int .i64 k,.string SA,.bool b0,.int .u64 (n:Int),.slice lo l.length lc,.slice mo m.length mc,.string IA,.string UA]→a.cell? ⟨w.heap.size,6,none⟩=some (.string IA):=fun a ha=>row_cell ha (j:=6) rfl
  have e7:∀ a:World,Row8 a w.heap.size [.int .i64 k,.string SA,.bool b0,.int .u64 (n:Int),.slice lo l.length lc,.slice mo m.length mc,.string IA,.string UA]→a.cell? ⟨w.heap.size,7,none⟩=some (.string UA):=fun a ha=>row_cell ha (j:=7) rfl
  refine wp_region_seq (S:=fun w'=>Row8 w' w.heap.size [.int .i64 k,.string SA,.bool b0,.int .u64 (n:Int),.slice lo l.length lc,.slice mo m.length mc,.string IA,.string UA]) [(0,true),(1,true),(2,true),(3,true),(5,true),(6,true),(7,true),(9,true),(10,true),(11,true),(4,false),(8,false),(12,false),(13,true)] (by kernel_rfl) (by kernel_rfl) (by kernel_rfl) (by kernel_rfl) (by rw[hD];exact hS) ?_
  rw[hD]
  clear hD
  iterate 2 (refine seq_take _ rfl (fun K2 hK=>?_);go_simp;(first|refine hK _ ?_|refine ⟨_,fun _ _=>rfl,hK _ ?_⟩);clear hK K2)
  refine seq_take _ rfl (fun K2 hK=>?_);go_simp
  refine ⟨.string SA,fun a ha=>by rw[e1 a ha];rfl,hK _ ?_⟩;clear hK K2
  iterate 2 (refine seq_take _ rfl (fun K2 hK=>?_);go_simp;(first|refine hK _ ?_|refine ⟨_,fun _ _=>rfl,hK _ ?_⟩);clear hK K2)
  refine seq_take _ rfl (fun K2 hK=>?_);go_simp
  refine ⟨.string IA,fun a ha=>by rw[e6 a ha];rfl,hK _ ?_⟩;clear hK K2
  iterate 2 (refine seq_take _ rfl (fun K2 hK=>?_);go_simp;(first|refine hK _ ?_|refine ⟨_,fun _ _=>rfl,hK _ ?_⟩);clear hK K2)
  refine seq_take _ rfl (fun K2 hK=>?_);go_simp
  refine ⟨.string UA,fun a ha=>by rw[e7 a ha];rfl,hK _ ?_⟩;clear hK K2
  refine seq_take _ rfl (fun K2 hK=>?_);go_simp;(first|refine hK _ ?_|refine ⟨_,fun _ _=>rfl,hK _ ?_⟩);clear hK K2
  refine seq_come _ rfl (fun K2 hK=>?_);go_simp
  refine (roomtake_any room SA.size D HRO.out hsb).mono ?_;rintro e w4 ⟨rfl,r1,rfl,HR1⟩
  have HB1:=Lib.hid (HR1.out.le HRO.out)
  go_simp;refine hK.out _ _ hS ?_;clear hK K2
  refine seq_come _ rfl (fun K2 hK=>?_);go_simp
  refine (roomtake_any r1 IA.size D HB1.out hib).mono ?_;rintro e w4 ⟨rfl,r2,rfl,HR2⟩
  have HB2:=Lib.hid (HR2.out.le HB1.out)
  go_simp;refine hK.out _ _ hS ?_;clear hK K2
  refine seq_come _ rfl (fun K2 hK=>?_);go_simp
  refine (roomtake_any r2 UA.size D HB2.out hub).mono ?_;rintro e w4 ⟨rfl,r3,rfl,HR3⟩
  have HB3:=Lib.hid (HR3.out.le HB2.out)
  go_simp;refine hK.out _ _ hS ?_;clear hK K2
  refine seq_take _ rfl (fun K2 hK=>?_);go_simp;(first|refine hK _ ?_|refine ⟨_,fun _ _=>rfl,hK _ ?_⟩);clear hK K2
  refine seq_done ?_
  have HXD:Hid (D.heap[w.heap.size]? = some (.cells #[.int .i64 k,.string SA,.bool b0,.int .u64 (n:Int),.slice lo l.length lc,.slice mo m.length mc,.string IA,.string UA] 129 (0,0))):=Lib.hid hS
  have HBWD:=Lib.hid (below_step HB0.out HBD.out)
  have HR4:Hid (RoomOk room (60+s.length+i.length+u.length) r3):=Lib.hid (by
   have h1:=(HR1.out.then HR2.out).then HR3.out
   have h2:=HSS.out
   have h3:=HIS.out
   have h4:=HUS.out
   unfold RoomOk at h1 ⊢
   omega)
  clear e1 e6 e7 hne hS hsb hib hub HR1 HR2 HR3
  go_wp2_with fail
  go_loopg [2,7] l.length (fun k r i wr=>∃ (j:Nat) (rm:Int),r = .int .i64 rm∧i = .int .i64 (j:Int)∧j+k=l.length∧Below D.heap.size D wr∧Hid (RoomOk r3 (vsw (l.take j)) rm))
  case atStart=>exact ⟨0,r3,rfl,rfl,by omega,Below.refl _ _,Lib.hid (by rw[List.take_zero,vsw];unfold RoomOk;have:=HB3.out;omega)⟩
  case round =>
   obtain ⟨j,rm,rfl,rfl,hj,hbr,HRM⟩:=hrel
   have HBR:=Lib.hid hbr
   have HJ:=Lib.hid hj
   have HRB:=Lib.hid (HRM.out.le HB3.out)
   have HWB:=Lib.hid (below_step HBWD.out hbr)
   have HXR:=Lib.hid ((hbr.block _ (row_lt HXD.out)).trans HXD.out)
   have hx4:wr.cell? ⟨w.heap.size,4,none⟩=some (.slice lo l.length lc):=row_cell HXR.out (j:=4) rfl
   have hx5:wr.cell? ⟨w.heap.size,5,none⟩=some (.slice mo m.length mc):=row_cell HXR.out (j:=5) rfl
   clear hbr hj
   by_cases hgo:j<l.length∧0≤rm
   ·obtain ⟨hlt,hrm⟩:=hgo
    have d4:decide (rm ≥ 0)=true:=decide_eq_true hrm
    obtain ⟨ga,oa,ca,rfl,hga,hca,hra⟩:=vrels_at0 (HAL.out.below HWB.out) j hlt
    have hmem:=List.getElem_mem hlt
    obtain ⟨x,hx⟩:∃ x,l[j]=x:=⟨_,rfl⟩
    have HVX:=Lib.hid (hv.out x (hx ▸ hmem))
    have HLX:=Lib.hid (vslim_at HLV.out x (hx ▸ hmem))
    have HFX:=Lib.hid (vsfit_at HFV.out x (hx ▸ hmem))
    have HTK:Hid (vsw (l.take (j+1))=vsw (l.take j)+vw x):=Lib.hid (by rw[List.take_succ_eq_append_getElem hlt,vsw_app,hx,vsw_one])
    rw[hx] at hra
    have HRA:=Lib.hid hra
    obtain ⟨k1,S1,b1,n1,l1,ln1,lc1,m1,mn1,mc1,I1,U1,rfl⟩:=hra.form
    have HCA:=Lib.hid hca
    clear hx hmem hrm hra hca
    obtain ⟨ev0,ev1,ev2,ev3,ev4,ev5,ev6,ev7⟩:=cells8 HCA.out
    go_wp2_with fail
    refine (HVX.out [.int .i64 k1,.string S1,.bool b1,.int .u64 n1,.slice l1 ln1 lc1,.slice m1 mn1 mc1,.string I1,.string U1] P wr (deep - 1) rm HLX.out HFX.out HRA.out (by have:=HDD.out;have:=HDE.out;omega) HRB.out).mono ?_;intro e w5 hpost
    obtain ⟨hb5,r5,rfl,HR5⟩:=hpost
    have HBW:=Lib.hid (below_step HBR.out hb5)
    clear hb5 ev0 ev1 ev2 ev3 ev4 ev5 ev6 ev7
    go_wp2_with fail
    have hj:=HJ.out
    go_roundg (gk - 1)
    case measure=>omega
    case rel=>exact ⟨j+1,r5,rfl,by simp,by omega,HBW.out,Lib.hid (by
     have h1:=HRM.out.then HR5.out
     rwa [←HTK.out] at h1)⟩
   ·have HRE:Hid (RoomOk r3 (vsw l) rm):=Lib.hid (by
     have h:=HRM.out
     by_cases hlt:j<l.length
     ·have h2:=HRB.out
      exact .inl (by omega)
     ·have hjn:j=l.length:=by have:=HJ.out;omega
      rwa [hjn,List.take_length] at h)
    have HFIN:Hid (∀ e w',RmPost rm (ksw m) wr e w'→RmPost room (vw (.mk k s b0 n l m i u)) w e w'):=Lib.hid (fun e w' h=>by
     obtain ⟨h1,r,h2,h3⟩:=h
     refine ⟨below_step HWB.out h1,r,h2,Lib.hid ?_⟩
     rw[HVW.out]
     exact (HR4.out.then HRE.out).then h3.out)
    have HKS:=Lib.hid (hk.out mo mc P wr (deep - 1) rm hl2 HLK.out HFK.out (HAM.out.below HWB.out) (by have:=HDD.out;have:=HDE.out;omega) HRB.out)
    by_cases hlt:j<l.length
    ·have d4:decide (rm ≥ 0)=false:=decide_eq_false (fun h=>hgo ⟨hlt,h⟩)
     clear hgo
     go_wp2_with fail
     refine HKS.out.mono ?_;intro e w5 hpost
     have HP:=Lib.hid (HFIN.out _ _ hpost)
     obtain ⟨_,r5,rfl,_⟩:=hpost
     go_wp2_with fail
     go_ret
     exact HP.out
    ·clear hgo
     go_wp2_with fail
     refine HKS.out.mono ?_;intro e w5 hpost
     have HP:=Lib.hid (HFIN.out _ _ hpost)
     obtain ⟨_,r5,rfl,_⟩:=hpost
     go_wp2_with fail
     go_ret
     exact HP.out
theorem room_all:∀ n:Nat,(∀ x:Val,SizeOf.sizeOf x<n→RmV x)∧(∀ x:KV,SizeOf.sizeOf x<n→RmK x)∧(∀ l:List KV,SizeOf.sizeOf l<n→RmKs l)
 | 0=>⟨fun _ h=>by omega,fun _ h=>by omega,fun _ h=>by omega⟩
 | n+1=>by
  obtain ⟨i1,i2,i3⟩:=room_all n
  refine ⟨fun x h=>?_,fun x h=>?_,fun l h=>?_⟩
  ·cases x with|mk k s b n0 l m i u =>
   simp only[Val.mk.sizeOf_spec] at h
   exact rmval_step k s b n0 l m i u (Lib.hid fun x hx=>i1 x (by have:=List.sizeOf_lt_of_mem hx;omega)) (Lib.hid (i3 m (by omega)))
  ·cases x with|mk key has v u =>
   simp only[KV.mk.sizeOf_spec] at h
   exact i1 v (by omega)
  ·exact rmkeys_step l (Lib.hid fun x hx=>i2 x (by have:=List.sizeOf_lt_of_mem hx;omega))
theorem roomks_any (l:List KV):RmKs l:=(room_all (SizeOf.sizeOf l+1)).2.2 l (by omega)
end Go.Proofs.YtoggpnfeioaidaaDoor
