/-
  message.Writer: messages within: Open, Close.
-/
import Derived.Test.YtjbingoliffjiaaGreatDoorMsgWrite
import Derived.Deep.Cut
import Derived.Test.YtjbingoliffjiaaGreatDoorUtf2
import Derived.Test.YtjbingoliffjiaaGreatDoorMsgRead
namespace Go.Proofs.YtjbingoliffjiaaGreatDoor
open Go.RowKit
open Lib (hid)
structure Hole where
  num:Nat
  part:Nat
  size:Nat
def hcells (h:Hole):List Value:=[.int .i64 (h.num:Int),.int .i64 (h.part:Int),.int .i64 (h.size:Int)]
def WrH (p:Nat)(d:Int)(ps:List (List UInt8))(hs:List Hole)(b:Bool)(P:Nat→Prop)(w:World):Prop:=∃ (vo:Value) (P0:Nat→Prop),WrAt p d vo ps b P0 w∧w.ownsRow (p+1) 258 3 vo hs.length (hs.flatMap hcells)∧(∀ k,vo.ownBlock=some k→¬P0 k)∧P=fun k=>P0 k∨vo.ownBlock=some k
def WopPost (p:Nat)(d:Int)(ps:List (List UInt8))(hs:List Hole)(b:Bool)(P:Nat→Prop)(w:World)(e:Ending)(w':World):Prop :=
  e = .returned (.tuple #[])∧Upd P w w'∧∃ P',WrH p d ps hs b P' w'∧∀ k,P' k→P k∨w.heap.size≤k
theorem wh_below {p:Nat}{d:Int}{ps:List (List UInt8)}{hs:List Hole}{b:Bool}{P:Nat→Prop}{w w':World}(h:WrH p d ps hs b P w)(hb:Below w.heap.size w w'):WrH p d ps hs b P w':=by
  obtain ⟨vo,P0,h1,h2,h3,rfl⟩:=h
  exact ⟨vo,P0,wr_below h1 hb,own_below h2 hb,h3,rfl⟩
theorem wh_lift {p:Nat}{d':Int}{vo:Value}{ps':List (List UInt8)}{hs:List Hole}{b':Bool}{P0:Nat→Prop}{w w':World}{e:Ending}(hv:w.ownsRow (p+1) 258 3 vo hs.length (hs.flatMap hcells))(hd:∀ k,vo.ownBlock=some k→¬P0 k)(g:WrPost p d' vo ps' b' P0 w e w'):WopPost p d' ps' hs b' (fun k=>P0 k∨vo.ownBlock=some k) w e w':=by
  obtain ⟨g1,g2,P',g3,g4⟩:=g
  refine ⟨g1,g2.mono (fun k _ h => .inl h),_,⟨vo,P',g3,g2.own hv hd,fun k hk hp=>?_,rfl⟩,fun k hk=>?_⟩
  · rcases g4 k hp with h|h
    · exact hd k hk h
    · have:=(hv.lt k hk).2;omega
  · rcases hk with h|h
    · exact (g4 k h).imp .inl id
    · exact .inl (.inr h)
theorem vput_le10 (n:Nat):(vput n).length≤10:=(vput_length n).2
open Go.RowKit
def WvPost (p:Nat)(d:Int)(ps:List (List UInt8))(hs:List Hole)(b:Bool)(P:Nat→Prop)(w:World)(may:Bool)(t:List UInt8)(nl nf:Nat)(e:Ending)(w':World):Prop :=
  ∃ qs,WopPost p d (ps++qs) hs (b||!may) P w e w'∧((b||!may)=false→qs.flatten=t)∧qs.length≤nl∧qs.flatten.length≤nf
structure WSo (p:Nat) (d:Int) (ps:List (List UInt8)) (hs:List Hole) (b:Bool) (P:Nat→Prop) (w:World) (may:Bool) (t:List UInt8) (nl nf:Nat) (qs:List (List UInt8)) (P1:Nat→Prop) (w1:World):Prop where
  upd:Upd P w w1
  wr:WrH p d (ps++qs) hs (b||!may) P1 w1
  new:∀ k,P1 k→P k∨w.heap.size≤k
  bytes:(b||!may)=false→qs.flatten=t
  len:qs.length≤nl
  size:qs.flatten.length≤nf
section
variable {p:Nat} {d:Int} {ps:List (List UInt8)} {hs:List Hole} {b:Bool} {P:Nat→Prop} {w:World}
theorem WSo.start (h:WrH p d ps hs b P w):WSo p d ps hs b P w true [] 0 0 [] P w:=⟨Upd.refl _ _,by simpa using h,fun _ h => .inl h,fun _=>rfl,by simp,by simp⟩
theorem WSo.below {may:Bool}{t:List UInt8}{nl nf:Nat}{qs:List (List UInt8)}{P1:Nat→Prop}{w1 w2:World}(h:WSo p d ps hs b P w may t nl nf qs P1 w1)(hb:Below w1.heap.size w1 w2):WSo p d ps hs b P w may t nl nf qs P1 w2 :=
  ⟨h.upd.trans (Upd.of_new hb),wh_below h.wr hb,h.new,h.bytes,h.len,h.size⟩
theorem WSo.next {may m2:Bool}{t t2:List UInt8}{nl nf l2 f2:Nat}{qs:List (List UInt8)}{P1:Nat→Prop}{w1 w2:World}{e:Ending}(h:WSo p d ps hs b P w may t nl nf qs P1 w1)(g:WvPost p d (ps++qs) hs (b||!may) P1 w1 m2 t2 l2 f2 e w2) :
    ∃ qs2 P2,e = .returned (.tuple #[])∧WSo p d ps hs b P w (may&&m2) (t++t2) (nl+l2) (nf+f2) (qs++qs2) P2 w2:=by
  obtain ⟨qs2,⟨g1,g2,P2,g3,g4⟩,g5,g6,g7⟩:=g
  have hb:(b||!may||!m2)=(b||!(may&&m2)):=by cases b<;>cases may<;>cases m2<;>rfl
  rw[hb] at g3 g5
  refine ⟨qs2,P2,g1,h.upd.trans' g2 (fun k hk hp=>?_),by rw[←List.append_assoc];exact g3,fun k hk=>?_,fun hf=>?_,?_,?_⟩
  · rcases h.new k hp with h|h
    · exact h
    · omega
  · rcases g4 k hk with h'|h'
    · exact h.new k h'
    · exact .inr (by have:=h.upd.size;omega)
  · have h1:(b||!may)=false:=by revert hf;cases b<;>cases may<;>simp
    rw[List.flatten_append,h.bytes h1,g5 hf]
  · rw[List.length_append];have:=h.len;omega
  · rw[List.flatten_append,List.length_append];have:=h.size;omega
theorem WSo.done {may:Bool}{t:List UInt8}{nl nf:Nat}{qs:List (List UInt8)}{P1:Nat→Prop}{w1:World}(h:WSo p d ps hs b P w may t nl nf qs P1 w1):WvPost p d ps hs b P w may t nl nf (.returned (.tuple #[])) w1 :=
  ⟨qs,⟨rfl,h.upd,P1,h.wr,h.new⟩,h.bytes,h.len,h.size⟩
theorem WvPost.le {may:Bool}{t:List UInt8}{nl nf l2 f2:Nat}{e:Ending}{w':World}(h:WvPost p d ps hs b P w may t nl nf e w')(h1:nl≤l2)(h2:nf≤f2):WvPost p d ps hs b P w may t l2 f2 e w':=by
  obtain ⟨qs,g1,g2,g3,g4⟩:=h
  exact ⟨qs,g1,g2,by omega,by omega⟩
theorem wv_lift {F:FuncId}{args:Array Value}{g:Bool}{ts:List (List UInt8)}(h:WrH p d ps hs b P w)(hc:∀ vo P0,WrAt p d vo ps b P0 w→Calls Tryz.prog F args w (WrPost p d vo (wps (b||!g) ps ts) (b||!g) P0 w)):Calls Tryz.prog F args w (WvPost p d ps hs b P w g ts.flatten ts.length ts.flatten.length):=by
  obtain ⟨vo,P0,h1,h2,h3,rfl⟩:=h
  refine (hc vo P0 h1).mono ?_
  intro e w' hpost
  have hl:=wh_lift h2 h3 hpost
  cases hb:(b||!g) with
  | true =>
    rw[hb] at hl
    exact ⟨[],by rw[List.append_nil,hb];exact hl,(fun h=>by rw[hb] at h;cases h),by simp,by simp⟩
  | false =>
    rw[hb] at hl
    exact ⟨ts,by rw[hb];exact hl,fun _=>rfl,Nat.le_refl _,Nat.le_refl _⟩
theorem wv_put (t:List UInt8)(h:WrH p d ps hs b P w)(hl:ps.length≤1000000)(hf:ps.flatten.length+t.length≤100000000):Calls Tryz.prog 65 #[.pointer (some ⟨p,0,none⟩),strV t] w (WvPost p d ps hs b P w true t 1 t.length):=by
  have:=wv_lift (F:=65) (args:=#[.pointer (some ⟨p,0,none⟩),strV t]) (g:=true) (ts:=[t]) h (fun vo P0 h1=>by simpa using wput_any p d vo ps b P0 t w (hid h1) hl hf)
  simpa using this
theorem wv_rest (X:ByteArray) (u:List UInt8) (tk:Rec→Bool) (FT:Nat) (h:WrH p d ps hs b P w) (hX:X=⟨u.toArray⟩) (hu:u.length≤1000000) (hl:ps.length≤1000000) (hf:ps.flatten.length≤10000000)
    (hET:∀ args w,(callFunc FT args).run Tryz.prog w = .ok (.enter FT args) w)
    (hT:∀ (r:Rec) (w:World),Calls Tryz.prog FT #[.int .i64 (r.num:Int),.int .i64 (r.ty:Int)] w fun e w'=>e = .returned (.bool (tk r))∧w=w') :
    Calls Tryz.prog 72 #[.pointer (some ⟨p,0,none⟩),.string X,.func (.func FT) #[] #[]] w (WvPost p d ps hs b P w (munkOk tk u d) u 1 u.length):=by
  have:=wv_lift (F:=72) (args:=#[.pointer (some ⟨p,0,none⟩),.string X,.func (.func FT) #[] #[]]) (g:=munkOk tk u d) (ts:=[u]) h (fun vo P0 h1=>wrest_any p d vo ps b P0 X u tk FT w (hid h1) (hid hX) hu hl hf hET hT (hid rfl))
  simpa using this
end
open Go.RowKit
theorem ec_in8 {w:World}{n:Int}{v:Value}{c:Nat}(h:EC w v c):EC (w.alloc (.cells #[.int .i64 n,v] 156)) (.iface 154 (.pointer (some ⟨w.heap.size,0,none⟩))) c:=by
  obtain ⟨ws,h⟩:=h
  exact ⟨(false,n)::ws,w.heap.size,v,rfl,by simp,heap_alloc_new w _,isErr_below ((Below.refl _ _).alloc (Nat.le_refl _) _) h⟩
section
variable {p:Nat} {d:Int} {ps:List (List UInt8)} {hs:List Hole} {b:Bool} {P:Nat→Prop} {w:World}
end
open Go.RowKit
structure WSx (p:Nat) (d:Int) (ps:List (List UInt8)) (hs:List Hole) (b:Bool) (P:Nat→Prop) (w:World) (may:Bool) (t:List UInt8) (nl nf:Nat) (qs:List (List UInt8)) (P1:Nat→Prop) (bx:Nat) (X:Array Value) (T:TypeId) (w1:World):Prop where
  so:WSo p d ps hs b P w may t nl nf qs P1 w1
  out:¬P1 bx
  row:w1.heap[bx]? = some (.cells X T (0,0))
section
variable {p:Nat} {d:Int} {ps:List (List UInt8)} {hs:List Hole} {b:Bool} {P:Nat→Prop} {w:World} {bx:Nat} {X:Array Value} {T:TypeId}
theorem WSx.start {w1:World}(h:WrH p d ps hs b P w)(hb:Below w.heap.size w w1)(hr:w1.heap[bx]? = some (.cells X T (0,0)))(ho:¬P bx):WSx p d ps hs b P w true [] 0 0 [] P bx X T w1 :=
  ⟨(WSo.start h).below hb,ho,hr⟩
theorem WSx.next {may m2:Bool}{t t2:List UInt8}{nl nf l2 f2:Nat}{qs:List (List UInt8)}{P1:Nat→Prop}{w1 w2:World}{e:Ending}(h:WSx p d ps hs b P w may t nl nf qs P1 bx X T w1)(g:WvPost p d (ps++qs) hs (b||!may) P1 w1 m2 t2 l2 f2 e w2) :
    ∃ qs2 P2,e = .returned (.tuple #[])∧WSx p d ps hs b P w (may&&m2) (t++t2) (nl+l2) (nf+f2) qs2 P2 bx X T w2:=by
  have hlt:=row_lt h.row
  obtain ⟨qs2,⟨g1,g2,P2,g3,g4⟩,g5,g6,g7⟩:=g
  have hb:(b||!may||!m2)=(b||!(may&&m2)):=by cases b<;>cases may<;>cases m2<;>rfl
  rw[hb] at g3 g5
  refine ⟨qs++qs2,P2,g1,⟨h.so.upd.trans' g2 (fun k hk hp=>?_),by rw[←List.append_assoc];exact g3,fun k hk=>?_,fun hf=>?_,?_,?_⟩,fun hp=>?_,(g2.block bx hlt h.out).trans h.row⟩
  · rcases h.so.new k hp with h|h
    · exact h
    · omega
  · rcases g4 k hk with h'|h'
    · exact h.so.new k h'
    · exact .inr (by have:=h.so.upd.size;omega)
  · have h1:(b||!may)=false:=by revert hf;cases b<;>cases may<;>simp
    rw[List.flatten_append,h.so.bytes h1,g5 hf]
  · rw[List.length_append];have:=h.so.len;omega
  · rw[List.flatten_append,List.length_append];have:=h.so.size;omega
  · rcases g4 bx hp with h'|h'
    · exact h.out h'
    · omega
theorem WSx.cell {may:Bool}{t:List UInt8}{nl nf:Nat}{qs:List (List UInt8)}{P1:Nat→Prop}{w1:World}(h:WSx p d ps hs b P w may t nl nf qs P1 bx X T w1){j:Nat}{v:Value}(hj:X[j]? = some v):w1.cell? ⟨bx,j,none⟩=some v:=row_cell h.row hj
end
def MarPost (ok:Bool)(t:List UInt8)(w:World)(e:Ending)(w':World):Prop:=Below w.heap.size w w'∧if ok=true then e = .returned (.tuple #[.string ⟨t.toArray⟩,.nilIface]) else ∃ v,e = .returned (.tuple #[.string ⟨#[]⟩,v])∧EC w' v 8
theorem wh_new {p:Nat}{d:Int}{b:Bool}{P:Nat→Prop}{w:World}(h:WrAt p d (.slice none 0 0) [] b P w):WrH p d [] [] b P w:=by
 refine ⟨.slice none 0 0,P,h,World.ownsRow_nil _ _ _ _,fun k hk=>(by cases hk),?_⟩
 funext k
 simp[Value.ownBlock]
end Go.Proofs.YtjbingoliffjiaaGreatDoor
