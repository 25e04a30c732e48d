/-
  strings.Builder: its check of copies, WriteString and String, over this program.
-/
import Derived.Test.YtoggpnfeioaidaaDoorGet
import Derived.Lib.Builder
import Derived.Lib.AppendStr
import Derived.Lib.UnsafeStr
import Derived.Laws.Externs
import Derived.Laws.IdiomCopy
import Derived.Shelf.Strings.Builder1
import Derived.ProofKit
import Derived.Test.YtoggpnfeioaidaaDoorErrNew
import Derived.Deep.LoopGhost
import Derived.Deep.QuietTactic
import Derived.Laws.AppendOwnNone
import Derived.Test.YtoggpnfeioaidaaDoorMsgRead
import Derived.Test.YtoggpnfeioaidaaDoorMsgMath
import Derived.Test.YtoggpnfeioaidaaDoorOrd
set_option maxRecDepth 1000000
set_option maxHeartbeats 16000000
namespace Go.Proofs.YtoggpnfeioaidaaDoor
open Go.RowKit Go.Shelf
open Go.ChangeShapes Go.WideShapes Go.ChangeAt Go.RowKit
def Nats (k:IntKind) (w:World) (ao:Option Addr) (l:List Nat):Prop :=
 l≠[]→∃ b off,ao=some ⟨b,off,none⟩∧b<w.heap.size∧∀ j (h:j<l.length),w.cell? ⟨b,off+j,none⟩=some (.int k ((l[j]:Nat):Int))
theorem Nats.below {k:IntKind} {w w':World} {ao:Option Addr} {l:List Nat} (h:Nats k w ao l) (hb:Below w.heap.size w w'):Nats k w' ao l:=fun hn=>by
 obtain ⟨b,off,e,hlt,hc⟩:=h hn
 exact ⟨b,off,e,Nat.lt_of_lt_of_le hlt hb.size,fun j hj=>(hb.cell (p:=⟨b,off+j,none⟩) hlt).trans (hc j hj)⟩
theorem Nats.at {k:IntKind} {w:World} {ao:Option Addr} {l:List Nat} (h:Nats k w ao l) {i:Nat} (hi:i<l.length):∃ b off n,Hid (n=l[i])∧ao=some ⟨b,off,none⟩∧b<w.heap.size∧w.cell? ⟨b,off+i,none⟩=some (.int k ((n:Nat):Int)):=by
 obtain ⟨b,off,e,hlt,hc⟩:=h (by intro e;subst e;simp at hi)
 exact ⟨b,off,l[i],Lib.hid rfl,e,hlt,hc i hi⟩
open Go.RowKit
theorem nats_of_own {w:World} {base:Nat} {e:TypeId} {ao:Option Addr} {cap:Nat} {l:List Nat} (h:w.ownsRow base e 1 (.slice ao l.length cap) l.length (l.map fun n:Nat => .int .u64 (n:Int))):Nats .u64 w ao l:=fun hn=>by
 obtain ⟨g,cap',hv,_,h2,_⟩:=own_some h (List.length_pos_iff.2 hn)
 simp only[Value.slice.injEq] at hv
 obtain ⟨rfl,_,rfl⟩:=hv
 refine ⟨g,0,rfl,h2,fun j hj=>?_⟩
 rw[Nat.zero_add,h.cellAt j (by omega)]
 simp[List.getElem?_eq_getElem hj]
theorem nums_same (ao bo:Option Addr) (cap bcap:Nat) (l:List Nat) (w:World) (ha:Nats .u64 w ao l) (hb:Nats .u64 w bo l) (hl:l.length≤1000000000) :
  Calls Tryd.prog 14 #[.slice ao l.length cap,.slice bo l.length bcap] w fun e w'=>e = .returned (.bool true)∧Below w.heap.size w w':=by
 go_enter Tryd.func14,Tryd.ntmps14
 go_wp2
 go_loopg [5] l.length (fun k i wr=>∃ j:Nat,j+k=l.length∧i = .int .i64 j∧Below w.heap.size w wr)
 case atStart=>exact ⟨0,by omega,rfl,Below.refl _ _⟩
 case round =>
  obtain ⟨j,hj,rfl,hbr⟩:=hrel
  by_cases hlt:j<l.length
  ·obtain ⟨b,off,n,HN,rfl,hbl,hc⟩:=(ha.below hbr).at hlt
   obtain ⟨b2,off2,n2,HN2,rfl,hbl2,hc2⟩:=(hb.below hbr).at hlt
   obtain rfl:n2=n:=by rw[HN.out,HN2.out]
   have hi1:(j:Int)<(l.length:Int):=by omega
   have hi0:(0:Int)≤(j:Int):=by omega
   have HJ:=Lib.hid hj
   clear hj
   go_wp2_with fail
   go_quiet (fail)
   go_wp2
   have hj:=HJ.out
   go_roundg (gk - 1)
   case measure=>omega
   case rel=>exact ⟨j+1,by omega,by simp,hbr.trans ⟨rfl,rfl,rfl,Nat.le_refl _,fun _ _=>rfl⟩⟩
  ·go_wp2
   go_ret
   exact ⟨rfl,hbr⟩
open Go.ChangeShapes Go.WideShapes Go.ChangeAt Go.RowKit
def nvals (l:List Nat):List Value:=l.map fun n:Nat => .int .u64 (n:Int)
theorem wpList_unguard {P:Program} {w:World} {ops:Array Oper} {rest:List Oper} {o:Oper} {a:Act} {Q:Exit→Act→World→Prop} (hw:Region.wanted o (yielded ops a.tmps)=true)
  (h:wpList P ops Q ({ o with guard:=none }::rest) a w):wpList P ops Q (o::rest) a w:=by
 unfold wpList at h ⊢
 rw[if_pos hw]
 rw[if_pos (by rfl)] at h
 exact h
open Go.RowKit
open Go.RowKit
open Go.RowKit
open Go.RowKit
end Go.Proofs.YtoggpnfeioaidaaDoor
