/-
  merge.edge.plus: a sum of two counts; the first one beyond 64 bits is kept.
-/
import Derived.Test.YtcblkndiclkacaaDoorMgEnds
import Derived.Test.YtcblkndiclkacaaDoorErrNew
import Derived.Test.YtcblkndiclkacaaDoorMsgRead
set_option maxRecDepth 1000000
set_option maxHeartbeats 16000000
namespace Go.Proofs.YtcblkndiclkacaaDoor
open Go.RowKit
def EdgeRow (lim c:Nat) (e:Bool) (w:World):Prop:=∃ v,w.heap[c]? = some (.cells #[v] 96 (0,0))∧if e=true then ∃ (q:Nat) (m:Int),lim≤q∧v = .iface 139 (.pointer (some ⟨q,0,none⟩))∧w.heap[q]? = some (.cells #[.int .i64 m,.iface 31 (.int .i64 9)] 141 (0,0)) else v = .nilIface
theorem EdgeRow.no {lim c:Nat} {w:World} (h:w.heap[c]? = some (.cells #[.nilIface] 96 (0,0))):EdgeRow lim c false w:=⟨_,h,by rw[if_neg (by decide)]⟩
theorem EdgeRow.row_no {lim c:Nat} {w:World} (h:EdgeRow lim c false w):w.heap[c]? = some (.cells #[.nilIface] 96 (0,0)):=by
 obtain ⟨v,hv,he⟩:=h
 rw[if_neg (by decide)] at he
 rw[hv,he]
theorem EdgeRow.row_yes {lim c:Nat} {w:World} (h:EdgeRow lim c true w):∃ (q:Nat) (m:Int),lim≤q∧w.heap[c]? = some (.cells #[.iface 139 (.pointer (some ⟨q,0,none⟩))] 96 (0,0))∧w.heap[q]? = some (.cells #[.int .i64 m,.iface 31 (.int .i64 9)] 141 (0,0)):=by
 obtain ⟨v,hv,he⟩:=h
 rw[if_pos rfl] at he
 obtain ⟨q,m,h1,rfl,h2⟩:=he
 exact ⟨q,m,h1,hv,h2⟩
theorem EdgeRow.upd {S:Nat→Prop} {lim c:Nat} {e:Bool} {w w':World} (h:EdgeRow lim c e w) (hu:Upd S w w') (hc:¬S c) (hS:∀ k,S k→k<lim):EdgeRow lim c e w':=by
 obtain ⟨v,hv,he⟩:=h
 refine ⟨v,(hu.block c (row_lt hv) hc).trans hv,?_⟩
 cases e with
 | false=>exact he
 | true =>
  rw[if_pos rfl] at he ⊢
  obtain ⟨q,m,h1,h2,h3⟩:=he
  exact ⟨q,m,h1,h2,(hu.block q (row_lt h3) (fun hk=>by have:=hS q hk;omega)).trans h3⟩
theorem field_ec {w:World} {q:Nat} {m:Int} (h:w.heap[q]? = some (.cells #[.int .i64 m,.iface 31 (.int .i64 9)] 141 (0,0))):EC w (.iface 139 (.pointer (some ⟨q,0,none⟩))) 9 :=
 ⟨[(false,m)],q,_,rfl,row_lt h,h,rfl⟩
def usum (x y:Nat):Nat:=(x+y) % 18446744073709551616
theorem usum_wrap (x y:Nat):IntKind.u64.wrap ((x:Int)+(y:Int))=(usum x y:Int):=by
 unfold usum
 show ((x:Int)+(y:Int)) % 18446744073709551616=_
 omega
theorem plus_any (m:Int) (x y:Nat) (hx:x<18446744073709551616) (hy:y<18446744073709551616) (lim c:Nat) (e:Bool) (w:World) (hl:lim≤w.heap.size) (HR:Hid (EdgeRow lim c e w)) {e':Bool} (HE:Hid ((e||decide (18446744073709551616≤x+y))=e')) :
  Calls Tryd.prog 43 #[.pointer (some ⟨c,0,none⟩),.int .i64 m,.int .u64 (x:Int),.int .u64 (y:Int)] w fun E w'=>E = .returned (.int .u64 (usum x y:Int))∧Upd (fun k=>k=c) w w'∧EdgeRow lim c e' w':=by
 have q1:=usum_wrap x y
 obtain ⟨z,HZ⟩:∃ z,Hid (usum x y=z):=⟨_,Lib.hid rfl⟩
 rw[HZ.out] at q1 ⊢
 by_cases ho:18446744073709551616≤x+y
 ·have d1:decide ((z:Int)<(x:Int))=true:=decide_eq_true (by have:=HZ.out;unfold usum at this;omega)
  have d2:decide (z<x)=true:=decide_eq_true (by have:=HZ.out;unfold usum at this;omega)
  have HX:Hid (e'=true):=Lib.hid (by rw[←HE.out,decide_eq_true ho];simp)
  clear ho
  cases e with
  | true =>
   obtain ⟨q,m',hq,hr,hf⟩:=HR.out.row_yes
   have hc0:w.cell? ⟨c,0,none⟩=some (.iface 139 (.pointer (some ⟨q,0,none⟩))):=row_cell hr (j:=0) rfl
   have HQ:=Lib.hid (And.intro hq (And.intro hr hf))
   clear hq hr hf
   go_enter Tryd.func43,Tryd.ntmps43
   go_wp2_with fail
   go_ret
   exact ⟨rfl,Upd.refl _ _,by rw[HX.out];exact HR.out⟩
  | false =>
   have hr:=HR.out.row_no
   have hc0:w.cell? ⟨c,0,none⟩=some .nilIface:=row_cell hr (j:=0) rfl
   have hcl:=row_lt hr
   have HRR:=Lib.hid hr
   clear hr
   go_enter Tryd.func43,Tryd.ntmps43
   go_wp2_with fail
   refine (in_any m _ _ w).mono ?_;rintro E w1 ⟨rfl,hw1⟩
   have hr1:w1.heap[c]? = some (.cells #[.nilIface] 96 (0,0)):=by rw[hw1];exact (Below.heap_alloc _ _ _ hcl).trans HRR.out
   have hq1:w1.heap[w.heap.size]? = some (.cells #[.int .i64 m,.iface 31 (.int .i64 9)] 141 (0,0)):=by rw[hw1];exact heap_alloc_new w _
   have HU:Hid (Upd (fun k=>k=c) w w1):=Lib.hid (by rw[hw1];exact Upd.alloc _ _ _)
   clear hw1
   have hfz:w1.frozen? ⟨c,0,none⟩=false:=row_thaw hr1 0
   have hc1:w1.cell? ⟨c,0,none⟩=some .nilIface:=row_cell hr1 (j:=0) rfl
   have HR1:=Lib.hid (And.intro hr1 hq1)
   obtain ⟨b,HB⟩:∃ b,Hid (w.heap.size=b):=⟨_,Lib.hid rfl⟩
   rw[HB.out] at HR1 ⊢
   clear hr1 hq1 hc0
   have hu2:=Upd.set w1 ⟨c,0,none⟩ (.iface 139 (.pointer (some ⟨b,0,none⟩)))
   have HU2:=Lib.hid hu2
   clear hu2
   go_wp2_with fail
   go_ret
   refine ⟨rfl,HU.out.trans HU2.out,?_⟩
   rw[HX.out]
   refine ⟨_,row_set HR1.out.1 0 _,?_⟩
   rw[if_pos rfl]
   have hb:=HB.out
   exact ⟨b,m,by omega,rfl,(HU2.out.block b (row_lt HR1.out.2) (show ¬b=c by omega)).trans HR1.out.2⟩
 ·have d1:decide ((z:Int)<(x:Int))=false:=decide_eq_false (by have:=HZ.out;unfold usum at this;omega)
  have d2:decide (z<x)=false:=decide_eq_false (by have:=HZ.out;unfold usum at this;omega)
  have HX:Hid (e'=e):=Lib.hid (by rw[←HE.out,decide_eq_false ho];simp)
  clear ho
  go_enter Tryd.func43,Tryd.ntmps43
  go_wp2_with fail
  go_ret
  exact ⟨rfl,Upd.refl _ _,by rw[HX.out];exact HR.out⟩
end Go.Proofs.YtcblkndiclkacaaDoor
