/-
  Attributes alike or not; what is read is no longer than what it is read from.
-/
import Derived.Test.YtmlghmjjlpioeaaGreatDoorValTake
import Derived.Test.YtmlghmjjlpioeaaGreatDoorRefMsg
namespace Go.Proofs.YtmlghmjjlpioeaaGreatDoor
open Go.RowKit
open Lib (hid)
mutual
def vlim:Val->Prop
  | .mk _ _ _ _ l m _ _=>l.length<=9223372036854775807/\m.length<=9223372036854775807/\Kr l/\Yi m
def klim:KV->Prop
  | .mk _ _ v _=>vlim v
def Kr:List Val->Prop
  | []=>True
  | x::xs=>vlim x/\Kr xs
def Yi:List KV->Prop
  | []=>True
  | x::xs=>klim x/\Yi xs
end
theorem z7q:∀{l:List Val},Kr l->∀x∈l,vlim x
  | [],_,x,hx=>by cases hx
  | y::ys,h,x,hx=>by
    rw[Kr]at h
    rcases List.mem_cons.1 hx with h1|h1
    · exact h1 ▸ h.1
    · exact z7q h.2 x h1
theorem z6x:∀{l:List KV},Yi l->∀x∈l,klim x
  | [],_,x,hx=>by cases hx
  | y::ys,h,x,hx=>by
    rw[Yi]at h
    rcases List.mem_cons.1 hx with h1|h1
    · exact h1 ▸ h.1
    · exact z6x h.2 x h1
theorem z5r {w:World}{P:Nat->Prop}:∀{l:List Val} {lo:Option Addr} {i:Nat},yv w P l lo i->∀j (h:j<l.length),∃g off cs,lo=some ⟨g,off,none⟩/\g<w.heap.size/\j6 w g (off+8*(i+j)) cs/\VRel w P l[j] cs
  | [],_,_,_,j,h=>by simp at h
  | x :: xs,lo,i,hr,j,h=>by
    rw[yv]at hr;obtain⟨⟨g,off,cs,h1,h2,h3,h4,h5⟩,h6⟩:=hr
    cases j with
    | zero=>exact⟨g,off,cs,h1,h3,h4,h5⟩
    | succ j =>
      obtain⟨g',off',cs',h1',h2',h3',h4'⟩:=z5r h6 j (by simpa using h);exact⟨g',off',cs',h1',h2',by rw[show i+(j+1)=i+1+j by omega];exact h3',h4'⟩
theorem z6t {w:World}{P:Nat->Prop}:∀{l:List KV} {lo:Option Addr} {i:Nat},y7 w P l lo i->∀j (h:j<l.length),∃g off cs,lo=some ⟨g,off,none⟩/\g<w.heap.size/\j6 w g (off+11*(i+j)) cs/\KRel w P l[j] cs
  | [],_,_,_,j,h=>by simp at h
  | x :: xs,lo,i,hr,j,h=>by
    rw[y7]at hr;obtain⟨⟨g,off,cs,h1,h2,h3,h4,h5⟩,h6⟩:=hr
    cases j with
    | zero=>exact⟨g,off,cs,h1,h3,h4,h5⟩
    | succ j =>
      obtain⟨g',off',cs',h1',h2',h3',h4'⟩:=z6t h6 j (by simpa using h);exact⟨g',off',cs',h1',h2',by rw[show i+(j+1)=i+1+j by omega];exact h3',h4'⟩
theorem z4c {w:World}{P:Nat->Prop}{l:List Val}{lo:Option Addr}(h:yv w P l lo 0)(j:Nat)(hj:j<l.length):∃g off cs,lo=some ⟨g,off,none⟩/\g<w.heap.size/\j6 w g (off+8*j) cs/\VRel w P l[j] cs:=by
  have:=z5r h j hj
  rwa [Nat.zero_add]at this
theorem z4e {w:World}{P:Nat->Prop}{l:List KV}{lo:Option Addr}(h:y7 w P l lo 0)(j:Nat)(hj:j<l.length):∃g off cs,lo=some ⟨g,off,none⟩/\g<w.heap.size/\j6 w g (off+11*j) cs/\KRel w P l[j] cs:=by
  have:=z6t h j hj
  rwa [Nat.zero_add]at this
noncomputable def alike {α:Type} (x y:α):Bool:=@decide (x=y) (Classical.propDecidable _)
theorem yh {α:Type}{x y:α}(h:x=y):alike x y=true:=by unfold alike;exact @decide_eq_true _ (Classical.propDecidable _) h
theorem zr {α:Type}{x y:α}(h:¬x=y):alike x y=false:=by unfold alike;exact @decide_eq_false _ (Classical.propDecidable _) h
theorem qr {α:Type}{x y:α}:alike x y=true↔x=y:=by unfold alike;exact @decide_eq_true_iff _ (Classical.propDecidable _)
def SV (F:Nat)(x:Val):Prop:=∀(y:Val) (ca cb:List Value) (P Q:Nat->Prop) (w:World),vlim x->VRel w P x ca->VRel w Q y cb->Calls Tryz.prog F #[.agg ca.toArray,.agg cb.toArray] w fun e w'=>e=.returned (.bool (alike x y))/\Below w.heap.size w w'
def SK (F:Nat)(x:KV):Prop:=∀(y:KV) (ca cb:List Value) (P Q:Nat->Prop) (w:World),klim x->KRel w P x ca->KRel w Q y cb->Calls Tryz.prog F #[.agg ca.toArray,.agg cb.toArray] w fun e w'=>e=.returned (.bool (alike x y))/\Below w.heap.size w w'
def SKs (F:Nat)(l:List KV):Prop:=∀(m:List KV) (lo mo:Option Addr) (lc mc:Nat) (P Q:Nat->Prop) (w:World),l.length<=9223372036854775807->Yi l->y7 w P l lo 0->y7 w Q m mo 0->Calls Tryz.prog F #[.slice lo l.length lc,.slice mo m.length mc] w fun e w'=>e=.returned (.bool (alike l m))/\Below w.heap.size w w'
theorem yv.below {w w':World}{P:Nat->Prop}{l:List Val}{lo:Option Addr}{i:Nat}(h:yv w P l lo i)(hb:Below w.heap.size w w'):yv w' P l lo i:=yv.upd (Upd.of_new (S:=fun _=>False) hb) (fun _ _ h=>h) (fun _ h=>h) l lo i h
theorem y7.below {w w':World}{P:Nat->Prop}{l:List KV}{lo:Option Addr}{i:Nat}(h:y7 w P l lo i)(hb:Below w.heap.size w w'):y7 w' P l lo i:=y7.upd (Upd.of_new (S:=fun _=>False) hb) (fun _ _ h=>h) (fun _ h=>h) l lo i h
theorem VRel.below {w w':World}{P:Nat->Prop}{x:Val}{c:List Value}(h:VRel w P x c)(hb:Below w.heap.size w w'):VRel w' P x c:=VRel.upd (Upd.of_new (S:=fun _=>False) hb) (fun _ _ h=>h) (fun _ h=>h) x c h
theorem KRel.below {w w':World}{P:Nat->Prop}{x:KV}{c:List Value}(h:KRel w P x c)(hb:Below w.heap.size w w'):KRel w' P x c:=KRel.upd (Upd.of_new (S:=fun _=>False) hb) (fun _ _ h=>h) (fun _ h=>h) x c h
theorem j6.below {w w':World}{g off:Nat}{cs:List Value}(h:j6 w g off cs)(hb:Below w.heap.size w w')(hg:g<w.heap.size):j6 w' g off cs:=h.upd (Upd.of_new (S:=fun _=>False) hb) hg (fun h=>h)
theorem Xt {X Y:ByteArray}{s t:List UInt8}(hX:X.data.toList=s)(hY:Y.data.toList=t)(h:¬s=t):(X.toList != Y.toList)=true/\(X.toList == Y.toList)=false:=by
  have:(X.toList == Y.toList)=false:=by
    rw[beq_eq_false_iff_ne,ByteArray.toList_eq,ByteArray.toList_eq,hX,hY];exact h
  exact⟨by rw[bne,this];rfl,this⟩
theorem z1w {X Y:ByteArray}{s t:List UInt8}(hX:X.data.toList=s)(hY:Y.data.toList=t)(h:¬s=t):¬X.toList=Y.toList:=by
  rw[ByteArray.toList_eq,ByteArray.toList_eq,hX,hY];exact h
theorem Zk {X Y:ByteArray}{s t:List UInt8}(hX:X.data.toList=s)(hY:Y.data.toList=t)(h:s=t):X=Y:=ByteArray.ext (Array.ext' (by rw[hX,hY,h]))
def Two (w:World)(ga oa:Nat)(ca:List Value)(gb ob:Nat)(cb:List Value):Prop:=j6 w ga oa ca/\j6 w gb ob cb
def Four (w:World)(ga oa:Nat)(ca:List Value)(gb ob:Nat)(cb:List Value)(ba:Nat)(ra:List Value)(bb:Nat)(rb:List Value)(T:TypeId):Prop:=j6 w ga oa ca/\j6 w gb ob cb/\w.heap[ba]?=some (.cells ra.toArray T (0,0))/\w.heap[bb]?=some (.cells rb.toArray T (0,0))
def y2 {α:Type}(C:Cel α)(w:World)(P:Nat->Prop)(l:List α)(lo:Option Addr):Prop:=∀j (hj:j<l.length),∃g off cs,lo=some ⟨g,off,none⟩/\P g/\g<w.heap.size/\j6 w g (off+C.size*j) cs/\C.R w P l[j] cs
theorem y2.nil {α:Type}(C:Cel α)(w:World)(P:Nat->Prop)(lo:Option Addr):y2 C w P [] lo:=fun j hj=>by simp at hj
theorem y2.upd {α:Type}{C:Cel α}{S:Nat->Prop}{w w':World}{P Q:Nat->Prop}(hu:Upd S w w')(hs:∀k,P k->¬S k)(hq:∀k,P k->Q k){l:List α}{lo:Option Addr}(h:y2 C w P l lo):y2 C w' Q l lo:=fun j hj=>by
  obtain⟨g,off,cs,h1,h2,h3,h4,h5⟩:=h j hj;exact⟨g,off,cs,h1,hq g h2,Nat.lt_of_lt_of_le h3 hu.size,h4.upd hu h3 (hs g h2),C.upd hu hs hq h5⟩
theorem y2.below {α:Type}{C:Cel α}{w w':World}{P:Nat->Prop}{l:List α}{lo:Option Addr}(h:y2 C w P l lo)(hb:Below w.heap.size w w'):y2 C w' P l lo:=y2.upd (Upd.of_new (S:=fun _=>False) hb) (fun _ _ h=>h) (fun _ h=>h) h
theorem y2.lt {α:Type}{C:Cel α}{w:World}{P:Nat->Prop}{l:List α}{lo:Option Addr}(h:y2 C w P l lo):y2 C w (fun k=>P k/\k<w.heap.size) l lo:=fun j hj=>by
  obtain⟨g,off,cs,h1,h2,h3,h4,h5⟩:=h j hj;exact⟨g,off,cs,h1,⟨h2,h3⟩,h3,h4,C.lt h5⟩
theorem ze3 {css:List (List Value)}{n:Nat}(h:∀c∈css,c.length=n):css.flatten.length=n*css.length:=by
  induction css with
  | nil=>rfl
  | cons c l ih =>
    rw[List.flatten_cons,List.length_append,ih (fun x hx=>h x (List.mem_cons_of_mem _ hx)),h c (List.mem_cons_self ..),List.length_cons,Nat.mul_add,Nat.mul_one,Nat.add_comm]
theorem flat_at {css:List (List Value)}{n:Nat}(h:∀c∈css,c.length=n)(j i:Nat)(hj:j<css.length)(hi:i<n):css.flatten[n*j+i]?=css[j][i]?:=by
  induction css generalizing j with
  | nil=>simp at hj
  | cons c l ih =>
    have hc:=h c (List.mem_cons_self ..);rw[List.flatten_cons]
    cases j with
    | zero =>
      rw[Nat.mul_zero,Nat.zero_add,List.getElem?_append_left (by omega)]
      rfl
    | succ j =>
      have e:n*(j+1)+i=n*j+i+n:=by rw[Nat.mul_add,Nat.mul_one];omega
      rw[e,List.getElem?_append_right (by omega),hc,Nat.add_sub_cancel];exact ih (fun x hx=>h x (List.mem_cons_of_mem _ hx)) j (by simpa using hj)
theorem y2.own {α:Type}{C:Cel α}{w:World}{base:Nat}{T:TypeId}{lo:Option Addr}{cap:Nat}{xs:List α}{css:List (List Value)}{P:Nat->Prop}(ho:w.ownsRow base T C.size (.slice lo xs.length cap) xs.length css.flatten)(hl:css.length=xs.length)(hr:∀j (h1:j<xs.length) (h2:j<css.length),C.R w P xs[j] css[j])(hP:∀k,(Value.slice lo xs.length cap).ownBlock=some k->P k):y2 C w P xs lo:=fun j hj=>by
  obtain⟨g,cg,hv,hb,hg,_,_⟩:=yj ho (by omega)
  simp only[Value.slice.injEq]at hv
  obtain⟨rfl,_,rfl⟩:=hv
  have hln:∀c∈css,c.length=C.size:=fun c hc=>by
    obtain⟨i,hi,rfl⟩:=List.getElem_of_mem hc;exact C.len (hr i (by omega) hi)
  have hfl:=ze3 hln;refine⟨g,0,css[j],rfl,hP g rfl,hg,fun i hi=>?_,hr j hj (by omega)⟩;have hcl:=hln css[j] (List.getElem_mem _)
  have hb2:C.size*j+i<css.flatten.length:=by
    rw[hfl];have h1:C.size*(j+1)<=C.size*css.length:=Nat.mul_le_mul_left _ (by omega);rw[Nat.mul_add,Nat.mul_one]at h1;omega
  rw[Nat.zero_add,ho.cellAt (C.size*j+i) (by rw[<-hl,Nat.mul_comm css.length,<-hfl];omega),flat_at hln j i (by omega) (by omega),List.getElem?_eq_getElem hi]
theorem y2.of_ls {α:Type}{C:Cel α}{T:TypeId}{base:Nat}{lo:Option Addr}{cap:Nat}{xs:List α}{P:Nat->Prop}{w:World}(h:LsAt C T base (.slice lo xs.length cap) xs P w):y2 C w P xs lo:=by
  obtain⟨css,Q,h1,h2,h3,_,rfl⟩:=h;exact y2.own h1 h2 (fun j a b=>C.upd (Upd.refl (fun _=>False) w) (fun _ _ h=>h) (fun k hk => .inr hk) (h3 j a b)) (fun k hk => .inl hk)
mutual
def vw:Val->Nat
 | .mk _ s _ _ l m i u=>60+s.length+i.length+u.length+vsw l+ksw m
def kw:KV->Nat
 | .mk key _ v u=>40+key.length+u.length+vw v
def vsw:List Val->Nat
 | []=>0
 | x::xs=>vw x+vsw xs
def ksw:List KV->Nat
 | []=>0
 | x::xs=>kw x+ksw xs
end
mutual
def vfit:Val->Prop
 | .mk k s _ n l m i u=>(-9223372036854775808<=k/\k<=9223372036854775807)/\n<18446744073709551616/\s.length<=9223372036854775807/\i.length<=9223372036854775807/\u.length<=9223372036854775807/\Z7 l/\qs m
def kfit:KV->Prop
 | .mk key _ v u=>key.length<=9223372036854775807/\u.length<=9223372036854775807/\vfit v
def Z7:List Val->Prop
 | []=>True
 | x::xs=>vfit x/\Z7 xs
def qs:List KV->Prop
 | []=>True
 | x::xs=>kfit x/\qs xs
end
end Go.Proofs.YtmlghmjjlpioeaaGreatDoor
