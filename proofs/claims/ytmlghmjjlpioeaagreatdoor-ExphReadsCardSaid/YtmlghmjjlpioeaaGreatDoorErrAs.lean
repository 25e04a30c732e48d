/-
  errors.as and errors.As over a chain of wraps.
-/
import Derived.Test.YtmlghmjjlpioeaaGreatDoorErrFacts
import Derived.Deep.LoopGhost
set_option maxRecDepth 1000000
set_option maxHeartbeats 16000000
namespace Go.Proofs.YtmlghmjjlpioeaaGreatDoor
open Go.RowKit Go.Extern.Stop Go.Stop Go.Extern
def z3k (b:Bool):TypeId:=if b then 162 else 139
def z16 (b:Bool):TypeId:=if b then 166 else 141
def isErr (w:World):List (Bool × Int)->Value->Value->Prop
 | [],v,r=>v=r
 | (b,n)::ws,v,r=>∃a e,v=.iface (z3k b) (.pointer (some ⟨a,0,none⟩))/\a<w.heap.size/\w.heap[a]?=some (.cells #[.int .i64 n,e] (z16 b) (0,0))/\isErr w ws e r
def k9 (c:Int):Value := .iface 103 (.int .i64 c)
def Yf (r:Value):Prop:=(∃c,r=k9 c)
structure Yk (w w':World) (t:Nat) (T:TypeId) (u:Value):Prop where
 os:w'.os=w.os
 tape:w'.tape=w.tape
 output:w'.output=w.output
 size:w.heap.size<=w'.heap.size
 block:∀k,k<w.heap.size->k≠t->w'.heap[k]?=w.heap[k]?
 cell:w'.heap[t]?=some (.cells #[u] T (0,0))
theorem Kh {w w':World}(hk:∀(k:Nat) (o:Obj),w.heap[k]?=some o->(∃(b:Bool) (n:Int) (e:Value),o=Obj.cells #[Value.int .i64 n,e] (z16 b) (0,0))->w'.heap[k]?=some o)(hs:w.heap.size<=w'.heap.size) :
  ∀{ws:List (Bool × Int)} {v r:Value},isErr w ws v r->isErr w' ws v r
 | [],_,_,h=>h
 | (b,n)::_,_,_,⟨a,e,hv,ha,hh,hr⟩=>⟨a,e,hv,Nat.lt_of_lt_of_le ha hs,hk a _ hh ⟨b,n,e,rfl⟩,Kh hk hs hr⟩
theorem jf {w w':World}(hb:Below w.heap.size w w'):∀{ws:List (Bool × Int)} {v r:Value},isErr w ws v r->isErr w' ws v r :=
 Kh (fun k _ h _=>(hb.block k (Array.getElem?_eq_some_iff.1 h).1).trans h) hb.size
theorem z3c {w:World}{t:Nat}{T:TypeId}{old:Value}(ht:w.heap[t]?=some (.cells #[old] T (0,0)))(o o':Obj)(u:Value) :
  Yk w (((w.setCell ⟨t,0,none⟩ u).alloc o).alloc o') t T u:=by
 have hlt:t<w.heap.size:=(Array.getElem?_eq_some_iff.1 ht).1;have hs:(w.setCell ⟨t,0,none⟩ u).heap.size=w.heap.size:=by simp[World.setCell]
 refine⟨rfl,rfl,rfl,by simp;omega,fun k hk hne=>?_,?_⟩
 ·rw[Below.heap_alloc _ _ _ (by simp;omega),Below.heap_alloc _ _ _ (by omega),Below.heap_setCell _ _ _ _ hne]
 ·rw[Below.heap_alloc _ _ _ (by simp;omega),Below.heap_alloc _ _ _ (by omega),heap_setCell_same _ t 0 _ _ _ ht];rfl
theorem zad {w:World}{t:Nat}{T:TypeId}{old:Value}(ht:w.heap[t]?=some (.cells #[old] T (0,0)))(o:Obj):Yk w (w.alloc o) t T old :=
 ⟨rfl,rfl,rfl,by simp,fun k hk _=>Below.heap_alloc _ _ _ hk,(Below.heap_alloc _ _ _ (Array.getElem?_eq_some_iff.1 ht).1).trans ht⟩
theorem kj {w w':World}{t:Nat}{T:TypeId}{u:Value}{o:Obj}(h:Yk (w.alloc o) w' t T u):Yk w w' t T u :=
 ⟨h.os,h.tape,h.output,Nat.le_trans (by simp) h.size,fun k hk hne=>(h.block k (by simp;omega) hne).trans (Below.heap_alloc _ _ _ hk),h.cell⟩
theorem Qg {w w':World}{T:TypeId}{u:Value}{o:Obj}(h:Yk (w.alloc o) w' w.heap.size T u):Below w.heap.size w w' :=
 ⟨h.os,h.tape,h.output,Nat.le_trans (by simp) h.size,fun k hk=>(h.block k (by simp;omega) (by omega)).trans (Below.heap_alloc _ _ _ hk)⟩
theorem z5z {r:Value}(h:Yf r):∃T x,r=.iface T x:=by
 obtain⟨c,rfl⟩:=h;exact⟨_,_,rfl⟩
theorem q6 {w:World}{ws:List (Bool × Int)}{v r:Value}(h:isErr w ws v r)(hr:Yf r):∃T x,v=.iface T x:=by
 cases ws with
 | nil=>obtain⟨T,x,rfl⟩:=z5z hr;exact⟨_,_,h⟩
 | cons y ws=>obtain⟨a,e,hv,_⟩:=h;exact⟨_,_,hv⟩
def Xx (b:Bool):List (Bool × Int)->Option (Int × List (Bool × Int))
 | []=>none
 | (c,n)::ws=>if c=b then some (n,ws)else Xx b ws
theorem z6h (a:Nat)(n:Int)(e:Value)(w:World)(h:w.heap[a]?=some (.cells #[.int .i64 n,e] 166 (0,0))) :
  Calls Tryz.prog 207 #[.pointer (some ⟨a,0,none⟩)] w fun r w'=>r=.returned e/\w=w':=by
 have hc:w.cell? ⟨a,1,none⟩=some e:=by rw[cell_of_row w a 1 _ _ _ h];rfl
 clear h;go_enter Tryz.func207,Tryz.ntmps207
 go_wp2
 go_ret;exact⟨rfl,rfl⟩
theorem z0u (a:Nat)(n:Int)(e:Value)(w:World)(h:w.heap[a]?=some (.cells #[.int .i64 n,e] 141 (0,0))) :
  Calls Tryz.prog 205 #[.pointer (some ⟨a,0,none⟩)] w fun r w'=>r=.returned e/\w=w':=by
 have hc:w.cell? ⟨a,1,none⟩=some e:=by rw[cell_of_row w a 1 _ _ _ h];rfl
 clear h;go_enter Tryz.func205,Tryz.ntmps205
 go_wp2
 go_ret;exact⟨rfl,rfl⟩
def z0o (ws:List (Bool × Int))(r:Value)(t:Nat)(_:Value)(_ w:World)(e:Ending)(w':World):Prop:=ws=ws/\∀c,r=k9 c->e=.returned (.bool true)/\Yk w w' t 103 (.int .i64 c)
theorem as_code (ws:List (Bool × Int)) (v r:Value) (tg:Value) (p t:Nat) (w0 w:World) (he:isErr w0 ws v r) (hb0:Below w0.heap.size w0 w) (hroot:Yf r) (old:Value)
  (ht:w.heap[t]?=some (.cells #[old] 103 (0,0))) (hp:w.heap[p]?=some (.cells #[.pointer (some ⟨t,0,none⟩)] 167 (0,0))) :
  Calls Tryz.prog 116 #[v,tg,.agg #[.pointer (some ⟨2,167,none⟩),.pointer (some ⟨p,0,none⟩),.int .u64 150],.iface 261 (.agg #[.pointer (some ⟨2,103,none⟩)])] w
   (z0o ws r t old w0 w):=by
 go_enter Tryz.func116,Tryz.ntmps116;have h25:=@run_callFunc_extern Tryz.prog 120 _ ReflectliteType.typeOf Tryz.func120 (by kernel_rfl) (by kernel_rfl) (by kernel_rfl) (by kernel_rfl);have h63:=@run_callFunc_extern Tryz.prog 213 _ (ReflectliteType.relation "AssignableTo" ReflectliteType.assignableTo) Tryz.func213 (by kernel_rfl) (by kernel_rfl) (by kernel_rfl) (by kernel_rfl)
 have mA:=Tryz.methodAssignableTo;have kktCode:=Tryz.typeOfCode;have kkaCode:=Tryz.assignableCodeCode;have kkiCode:=Tryz.isAsCode;have kkuCode:=Tryz.isUnCode;have kklCode:=Tryz.isUnlCode;have kktWhere:=Tryz.typeOfWhere;have kkaWhere:=Tryz.assignableWhereCode;have kkiWhere:=Tryz.isAsWhere;have kkuWhere:=Tryz.isUnWhere;have kkmWhere:=Tryz.unwrapWhere;have kktField:=Tryz.typeOfField;have kkaField:=Tryz.assignableFieldCode;have kkiField:=Tryz.isAsField;have kkuField:=Tryz.isUnField;have kkmField:=Tryz.unwrapField;have HT:=Lib.hid ht;have HP:=Lib.hid hp;have HROOT:=Lib.hid hroot;have HB:=Lib.hid hb0;clear ht hp hroot hb0
 go_wp2
 go_loopg [0] ws.length (fun k v wr=>∃ws',ws'.length<=k/\isErr w0 ws' v r/\(∀e w',z0o ws' r t old w0 w e w'->z0o ws r t old w0 w e w')/\wr=w.alloc (.cells #[.pointer (some ⟨2,167,none⟩),.pointer (some ⟨p,0,none⟩),.int .u64 150] 219))
 case atStart=>exact⟨ws,Nat.le_refl _,he,fun _ _ h=>h,rfl⟩
 case round =>
  clear he;obtain⟨ws',hk,hr,hpost,rfl⟩:=hrel;have HK:=Lib.hid hpost;clear hpost
  match ws',hk,hr,HK with
  | [],hk,hr,HK =>
   rcases HROOT.out with ⟨c,hc⟩
   ·obtain rfl:u0=r:=hr
    rw[k9] at hc;subst hc;have hlt:t<w.heap.size:=(Array.getElem?_eq_some_iff.1 HT.out).1;have hpl:p<w.heap.size:=(Array.getElem?_eq_some_iff.1 HP.out).1;have h34:=@run_callFunc_extern Tryz.prog 145 _ (ReflectliteValue.method (ReflectliteValue.valueError "reflectlite.Value.Elem" 0) ReflectliteValue.elem) Tryz.func145 (by kernel_rfl) (by kernel_rfl) (by kernel_rfl) (by kernel_rfl)
    have h35:=@run_callFunc_extern Tryz.prog 146 _ ReflectliteValue.set Tryz.func146 (by kernel_rfl) (by kernel_rfl) (by kernel_rfl) (by kernel_rfl);have h27:=@run_callFunc_extern Tryz.prog 113 _ (fun args=>ReflectliteValue.unpack (args.getD 0 (.tuple #[]))) Tryz.func113 (by kernel_rfl) (by kernel_rfl) (by kernel_rfl) (by kernel_rfl);have h40:=Tryz.valueOfCode;have h41:=Tryz.elemVPCode ⟨p,0,none⟩ ⟨t,0,none⟩ (w.alloc (.cells #[.pointer (some ⟨2,167,none⟩),.pointer (some ⟨p,0,none⟩),.int .u64 150] 219)) (by rw[World.cell?_alloc_lt _ _ ⟨p,0,none⟩ hpl,cell_of_row w p 0 _ _ _ HP.out];rfl)
    have h42:=Tryz.setCode ⟨t,0,none⟩ ⟨w.heap.size+1,0,none⟩ c old ((w.alloc (.cells #[.pointer (some ⟨2,167,none⟩),.pointer (some ⟨p,0,none⟩),.int .u64 150] 219)).alloc (.cells #[.int .i64 c] 103))
     (by rw[World.cell?_alloc_at _ _ _ _ (by simp)];rfl)
     (by rw[World.cell?_alloc_lt _ _ ⟨t,0,none⟩ (by simp;omega),World.cell?_alloc_lt _ _ ⟨t,0,none⟩ hlt,cell_of_row w t 0 _ _ _ HT.out];rfl)
     (by rw[World.frozen?_alloc_old _ _ ⟨t,0,none⟩ (by simp;omega),World.frozen?_alloc_old _ _ ⟨t,0,none⟩ (Nat.ne_of_lt hlt)];exact frozen_of_row w t 0 _ _ HT.out)
    go_wp2
    go_ret;exact HK.out _ _ ⟨rfl,fun d hd=>by injection hd with _ hd;injection hd with _ hd;subst hd;exact⟨rfl,z3c HT.out _ _ _⟩⟩
  | (true,n)::ws',hk,hr,HK =>
   obtain⟨a,x,hv,ha,hh,hr'⟩:=hr;obtain⟨T,y,rfl⟩:=q6 hr' HROOT.out;rw[show z3k true=162 from rfl]at hv;subst hv;have hh2:(w.alloc (.cells #[.pointer (some ⟨2,167,none⟩),.pointer (some ⟨p,0,none⟩),.int .u64 150] 219)).heap[a]?=some (.cells #[.int .i64 n,.iface T y] 166 (0,0)):=(Below.heap_alloc _ _ _ (Nat.lt_of_lt_of_le ha HB.out.size)).trans ((HB.out.block a ha).trans hh);have HH:=Lib.hid hh2;have HR:=Lib.hid hr';clear hh2 hh hr';go_wp2_with (go_at_call 207;refine(z6h a n _ _ HH.out).mono ?_;rintro e w' ⟨rfl,rfl⟩)
   go_roundg (gk-1)
   case measure=>simp at hk;omega
   case rel=>exact⟨ws',by simp at hk;omega,HR.out,fun e w' h=>HK.out e w' ⟨rfl,h.2⟩,rfl⟩
  | (false,n)::ws',hk,hr,HK =>
   obtain⟨a,x,hv,ha,hh,hr'⟩:=hr;obtain⟨T,y,rfl⟩:=q6 hr' HROOT.out;rw[show z3k false=139 from rfl]at hv;subst hv;have hh2:(w.alloc (.cells #[.pointer (some ⟨2,167,none⟩),.pointer (some ⟨p,0,none⟩),.int .u64 150] 219)).heap[a]?=some (.cells #[.int .i64 n,.iface T y] 141 (0,0)):=(Below.heap_alloc _ _ _ (Nat.lt_of_lt_of_le ha HB.out.size)).trans ((HB.out.block a ha).trans hh);have HH:=Lib.hid hh2;have HR:=Lib.hid hr';clear hh2 hh hr';go_wp2_with (go_at_call 205;refine(z0u a n _ _ HH.out).mono ?_;rintro e w' ⟨rfl,rfl⟩)
   go_roundg (gk-1)
   case measure=>simp at hk;omega
   case rel=>exact⟨ws',by simp at hk;omega,HR.out,fun e w' h=>HK.out e w' ⟨rfl,h.2⟩,rfl⟩
theorem zap (ws:List (Bool × Int)) (v r:Value) (t:Nat) (w0 w:World) (he:isErr w0 ws v r) (hb0:Below w0.heap.size w0 w) (hroot:Yf r) (old:Value) (ht:w.heap[t]?=some (.cells #[old] 103 (0,0)))
  (hg:w.cell? ⟨0,0,none⟩=some (.iface 261 (.agg #[.pointer (some ⟨2,35,none⟩)]))) :
  Calls Tryz.prog 75 #[v,.iface 167 (.pointer (some ⟨t,0,none⟩))] w (z0o ws r t old w0 w):=by
 obtain ⟨T,x,rfl⟩:=q6 he hroot;have h6:=@run_callFunc_extern Tryz.prog 113 _ (fun args=>ReflectliteValue.unpack (args.getD 0 (.tuple #[]))) Tryz.func113 (by kernel_rfl) (by kernel_rfl) (by kernel_rfl) (by kernel_rfl);have h7:=@run_callFunc_extern Tryz.prog 114 _ (ReflectliteValue.methodAny (ReflectliteValue.valueError "reflectlite.Value.Type" 0) (fun t _ _ _=>ReflectliteType.toType t)) Tryz.func114 (by kernel_rfl) (by kernel_rfl) (by kernel_rfl) (by kernel_rfl)
 have h8:=@run_callFunc_extern Tryz.prog 115 _ (ReflectliteValue.method (ReflectliteValue.valueError "reflectlite.Value.IsNil" 0) ReflectliteValue.isNil) Tryz.func115 (by kernel_rfl) (by kernel_rfl) (by kernel_rfl) (by kernel_rfl)
 have h27:=@run_callFunc_extern Tryz.prog 200 _ (ReflectliteType.abiMethod fun t=>do pure (.int .u8 (←Rtype.kind t))) Tryz.func200 (by kernel_rfl) (by kernel_rfl) (by kernel_rfl) (by kernel_rfl);have h37:=@run_callFunc_extern Tryz.prog 215 _ (ReflectliteType.method ReflectliteType.elem) Tryz.func215 (by kernel_rfl) (by kernel_rfl) (by kernel_rfl) (by kernel_rfl);have h38:=@run_callFunc_extern Tryz.prog 216 _ (ReflectliteType.relation "Implements" ReflectliteType.implements_) Tryz.func216 (by kernel_rfl) (by kernel_rfl) (by kernel_rfl) (by kernel_rfl)
 have kk1:=Tryz.valueOfPCode;have kk2:=Tryz.typePCode;have kk3:=Tryz.methodKind;have kk4:=Tryz.methodElem;have kk5:=Tryz.methodImplements;have kk6:=Tryz.kindPCode;have kk7:=Tryz.kindCode;have kk8:=Tryz.elemPCode;have kk9:=Tryz.implementsCode
 have hlt:0<w.heap.size:=by
  rcases Nat.eq_zero_or_pos w.heap.size with h0|h
  ·simp[World.cell?,h0]at hg
  ·exact h
 have h10:=Tryz.isNilPCode ⟨w.heap.size,0,none⟩ ⟨t,0,none⟩ ((w.alloc (.cells #[.pointer (some ⟨t,0,none⟩)] 167)).alloc (.cells #[.pointer (some ⟨2,167,none⟩),.pointer (some ⟨w.heap.size,0,none⟩),.int .u64 150] 219)) (by simp)
 have h11:((w.alloc (.cells #[.pointer (some ⟨t,0,none⟩)] 167)).alloc (.cells #[.pointer (some ⟨2,167,none⟩),.pointer (some ⟨w.heap.size,0,none⟩),.int .u64 150] 219)).cell? ⟨0,0,none⟩=some (.iface 261 (.agg #[.pointer (some ⟨2,35,none⟩)])):=by
  rw[World.cell?_alloc_lt _ _ ⟨0,0,none⟩ (by simp),World.cell?_alloc_lt _ _ ⟨0,0,none⟩ hlt];exact hg
 have htl:t<w.heap.size:=(Array.getElem?_eq_some_iff.1 ht).1
 have HT:Hid (((w.alloc (.cells #[.pointer (some ⟨t,0,none⟩)] 167)).alloc (.cells #[.pointer (some ⟨2,167,none⟩),.pointer (some ⟨w.heap.size,0,none⟩),.int .u64 150] 219)).heap[t]?=some (.cells #[old] 103 (0,0))) :=
  Lib.hid (by rw[Below.heap_alloc _ _ _ (by simp;omega),Below.heap_alloc _ _ _ htl];exact ht)
 have HP:Hid (((w.alloc (.cells #[.pointer (some ⟨t,0,none⟩)] 167)).alloc (.cells #[.pointer (some ⟨2,167,none⟩),.pointer (some ⟨w.heap.size,0,none⟩),.int .u64 150] 219)).heap[w.heap.size]?=some (.cells #[.pointer (some ⟨t,0,none⟩)] 167 (0,0))) :=
  Lib.hid (by rw[Below.heap_alloc _ _ _ (by simp)];exact heap_alloc_new w _)
 have HE:=Lib.hid he;have HB:=Lib.hid ((hb0.alloc hb0.size (.cells #[.pointer (some ⟨t,0,none⟩)] 167)).alloc (by have:=hb0.size;simp;omega) (.cells #[.pointer (some ⟨2,167,none⟩),.pointer (some ⟨w.heap.size,0,none⟩),.int .u64 150] 219));have HROOT:=Lib.hid hroot;clear ht hg hroot he hb0;go_enter Tryz.func75,Tryz.ntmps75;go_wp2_with fail
 go_at_call 116
 refine(as_code ws _ r _ w.heap.size t w0 _ HE.out HB.out HROOT.out old HT.out HP.out).mono ?_;intro e w' hpost;have HPOST:=Lib.hid hpost;clear hpost;obtain⟨c,hc⟩:=HROOT.out;obtain⟨rfl,hu⟩:=HPOST.out.2 c hc
 go_wp2
 go_ret;exact⟨rfl,fun d hd=>by rw[hc]at hd;injection hd with _ hd;injection hd with _ hd;subst hd;exact⟨rfl,kj (kj hu)⟩⟩
def Y6 (ws:List (Bool × Int))(r:Value)(t:Nat)(old:Value)(w0 w:World)(e:Ending)(w':World):Prop :=
 match Xx true ws with
 | none=>e=.returned (.bool false)/\Yk w w' t 162 old
 | some (n,rest)=>∃a x,e=.returned (.bool true)/\Yk w w' t 162 (.pointer (some ⟨a,0,none⟩))/\a<w0.heap.size/\w0.heap[a]?=some (.cells #[.int .i64 n,x] 166 (0,0))/\isErr w0 rest x r
theorem zg3 (ws:List (Bool × Int)) (v r:Value) (tg:Value) (p t:Nat) (w0 w:World) (he:isErr w0 ws v r) (hb0:Below w0.heap.size w0 w) (hroot:Yf r) (old:Value)
  (ht:w.heap[t]?=some (.cells #[old] 162 (0,0))) (hp:w.heap[p]?=some (.cells #[.pointer (some ⟨t,0,none⟩)] 164 (0,0))) :
  Calls Tryz.prog 116 #[v,tg,.agg #[.pointer (some ⟨2,164,none⟩),.pointer (some ⟨p,0,none⟩),.int .u64 150],.iface 261 (.agg #[.pointer (some ⟨2,162,none⟩)])] w
   (Y6 ws r t old w0 w):=by
 go_enter Tryz.func116,Tryz.ntmps116;have h25:=@run_callFunc_extern Tryz.prog 120 _ ReflectliteType.typeOf Tryz.func120 (by kernel_rfl) (by kernel_rfl) (by kernel_rfl) (by kernel_rfl);have h63:=@run_callFunc_extern Tryz.prog 213 _ (ReflectliteType.relation "AssignableTo" ReflectliteType.assignableTo) Tryz.func213 (by kernel_rfl) (by kernel_rfl) (by kernel_rfl) (by kernel_rfl)
 have mA:=Tryz.methodAssignableTo;have kktCode:=Tryz.typeOfCode;have kkaCode:=Tryz.assignableCodeWhere;have kkiCode:=Tryz.isAsCode;have kkuCode:=Tryz.isUnCode;have kklCode:=Tryz.isUnlCode;have kktWhere:=Tryz.typeOfWhere;have kkaWhere:=Tryz.assignableWhereWhere;have kkiWhere:=Tryz.isAsWhere;have kkuWhere:=Tryz.isUnWhere;have kkmWhere:=Tryz.unwrapWhere;have kktField:=Tryz.typeOfField;have kkaField:=Tryz.assignableFieldWhere;have kkiField:=Tryz.isAsField;have kkuField:=Tryz.isUnField;have kkmField:=Tryz.unwrapField;have HT:=Lib.hid ht;have HP:=Lib.hid hp;have HROOT:=Lib.hid hroot;have HB:=Lib.hid hb0;clear ht hp hroot hb0
 go_wp2
 go_loopg [0] ws.length (fun k v wr=>∃ws',ws'.length<=k/\isErr w0 ws' v r/\(∀e w',Y6 ws' r t old w0 w e w'->Y6 ws r t old w0 w e w')/\wr=w.alloc (.cells #[.pointer (some ⟨2,164,none⟩),.pointer (some ⟨p,0,none⟩),.int .u64 150] 219))
 case atStart=>exact⟨ws,Nat.le_refl _,he,fun _ _ h=>h,rfl⟩
 case round =>
  clear he;obtain⟨ws',hk,hr,hpost,rfl⟩:=hrel;have HK:=Lib.hid hpost;clear hpost
  match ws',hk,hr,HK with
  | [],hk,hr,HK =>
   rcases HROOT.out with ⟨c,hc⟩
   ·obtain rfl:u0=r:=hr
    rw[k9]at hc;subst hc
    go_wp2
    go_ret;exact HK.out _ _ ⟨rfl,zad HT.out _⟩
  | (true,n)::ws',hk,hr,HK =>
   obtain ⟨a,x,hv,ha,hh,hr'⟩:=hr;obtain ⟨T,y,rfl⟩:=q6 hr' HROOT.out;rw[show z3k true=162 from rfl] at hv;subst hv;have HH:=Lib.hid hh;have HR:=Lib.hid hr';clear hh hr';have hlt:t<w.heap.size:=(Array.getElem?_eq_some_iff.1 HT.out).1;have hpl:p<w.heap.size:=(Array.getElem?_eq_some_iff.1 HP.out).1;have h34:=@run_callFunc_extern Tryz.prog 145 _ (ReflectliteValue.method (ReflectliteValue.valueError "reflectlite.Value.Elem" 0) ReflectliteValue.elem) Tryz.func145 (by kernel_rfl) (by kernel_rfl) (by kernel_rfl) (by kernel_rfl)
   have h35:=@run_callFunc_extern Tryz.prog 146 _ ReflectliteValue.set Tryz.func146 (by kernel_rfl) (by kernel_rfl) (by kernel_rfl) (by kernel_rfl);have h27:=@run_callFunc_extern Tryz.prog 113 _ (fun args=>ReflectliteValue.unpack (args.getD 0 (.tuple #[]))) Tryz.func113 (by kernel_rfl) (by kernel_rfl) (by kernel_rfl) (by kernel_rfl);have h40:=Tryz.valueOfWhere;have h41:=Tryz.elemVPWhere ⟨p,0,none⟩ ⟨t,0,none⟩ (w.alloc (.cells #[.pointer (some ⟨2,164,none⟩),.pointer (some ⟨p,0,none⟩),.int .u64 150] 219)) (by rw[World.cell?_alloc_lt _ _ ⟨p,0,none⟩ hpl,cell_of_row w p 0 _ _ _ HP.out];rfl)
   have h42:=Tryz.setWhere ⟨t,0,none⟩ ⟨w.heap.size+1,0,none⟩ ⟨a,0,none⟩ old ((w.alloc (.cells #[.pointer (some ⟨2,164,none⟩),.pointer (some ⟨p,0,none⟩),.int .u64 150] 219)).alloc (.cells #[.pointer (some ⟨a,0,none⟩)] 162))
    (by rw[World.cell?_alloc_at _ _ _ _ (by simp)];rfl)
    (by rw[World.cell?_alloc_lt _ _ ⟨t,0,none⟩ (by simp;omega),World.cell?_alloc_lt _ _ ⟨t,0,none⟩ hlt,cell_of_row w t 0 _ _ _ HT.out];rfl)
    (by rw[World.frozen?_alloc_old _ _ ⟨t,0,none⟩ (by simp;omega),World.frozen?_alloc_old _ _ ⟨t,0,none⟩ (Nat.ne_of_lt hlt)];exact frozen_of_row w t 0 _ _ HT.out)
   go_wp2
   go_ret;exact HK.out _ _ ⟨a,_,rfl,z3c HT.out _ _ _,ha,HH.out,HR.out⟩
  | (false,n)::ws',hk,hr,HK =>
   obtain⟨a,x,hv,ha,hh,hr'⟩:=hr;obtain⟨T,y,rfl⟩:=q6 hr' HROOT.out;rw[show z3k false=139 from rfl]at hv;subst hv;have hh2:(w.alloc (.cells #[.pointer (some ⟨2,164,none⟩),.pointer (some ⟨p,0,none⟩),.int .u64 150] 219)).heap[a]?=some (.cells #[.int .i64 n,.iface T y] 141 (0,0)):=(Below.heap_alloc _ _ _ (Nat.lt_of_lt_of_le ha HB.out.size)).trans ((HB.out.block a ha).trans hh);have HH:=Lib.hid hh2;have HR:=Lib.hid hr';clear hh2 hh hr';go_wp2_with (go_at_call 205;refine(z0u a n _ _ HH.out).mono ?_;rintro e w' ⟨rfl,rfl⟩)
   go_roundg (gk-1)
   case measure=>simp at hk;omega
   case rel=>exact⟨ws',by simp at hk;omega,HR.out,fun e w' h=>HK.out e w' h,rfl⟩
theorem z8l (ws:List (Bool × Int)) (v r:Value) (t:Nat) (w0 w:World) (he:isErr w0 ws v r) (hb0:Below w0.heap.size w0 w) (hroot:Yf r) (old:Value) (ht:w.heap[t]?=some (.cells #[old] 162 (0,0)))
  (hg:w.cell? ⟨0,0,none⟩=some (.iface 261 (.agg #[.pointer (some ⟨2,35,none⟩)]))) :
  Calls Tryz.prog 75 #[v,.iface 164 (.pointer (some ⟨t,0,none⟩))] w (Y6 ws r t old w0 w):=by
 obtain ⟨T,x,rfl⟩:=q6 he hroot;have h6:=@run_callFunc_extern Tryz.prog 113 _ (fun args=>ReflectliteValue.unpack (args.getD 0 (.tuple #[]))) Tryz.func113 (by kernel_rfl) (by kernel_rfl) (by kernel_rfl) (by kernel_rfl);have h7:=@run_callFunc_extern Tryz.prog 114 _ (ReflectliteValue.methodAny (ReflectliteValue.valueError "reflectlite.Value.Type" 0) (fun t _ _ _=>ReflectliteType.toType t)) Tryz.func114 (by kernel_rfl) (by kernel_rfl) (by kernel_rfl) (by kernel_rfl)
 have h8:=@run_callFunc_extern Tryz.prog 115 _ (ReflectliteValue.method (ReflectliteValue.valueError "reflectlite.Value.IsNil" 0) ReflectliteValue.isNil) Tryz.func115 (by kernel_rfl) (by kernel_rfl) (by kernel_rfl) (by kernel_rfl)
 have h27:=@run_callFunc_extern Tryz.prog 200 _ (ReflectliteType.abiMethod fun t=>do pure (.int .u8 (←Rtype.kind t))) Tryz.func200 (by kernel_rfl) (by kernel_rfl) (by kernel_rfl) (by kernel_rfl);have h37:=@run_callFunc_extern Tryz.prog 215 _ (ReflectliteType.method ReflectliteType.elem) Tryz.func215 (by kernel_rfl) (by kernel_rfl) (by kernel_rfl) (by kernel_rfl);have h38:=@run_callFunc_extern Tryz.prog 216 _ (ReflectliteType.relation "Implements" ReflectliteType.implements_) Tryz.func216 (by kernel_rfl) (by kernel_rfl) (by kernel_rfl) (by kernel_rfl)
 have kk1:=Tryz.valueOfPWhere;have kk2:=Tryz.typePWhere;have kk3:=Tryz.methodKind;have kk4:=Tryz.methodElem;have kk5:=Tryz.methodImplements;have kk6:=Tryz.kindPWhere;have kk7:=Tryz.kindWhere;have kk8:=Tryz.elemPWhere;have kk9:=Tryz.implementsWhere
 have hlt:0<w.heap.size:=by
  rcases Nat.eq_zero_or_pos w.heap.size with h0|h
  ·simp[World.cell?,h0]at hg
  ·exact h
 have h10:=Tryz.isNilPWhere ⟨w.heap.size,0,none⟩ ⟨t,0,none⟩ ((w.alloc (.cells #[.pointer (some ⟨t,0,none⟩)] 164)).alloc (.cells #[.pointer (some ⟨2,164,none⟩),.pointer (some ⟨w.heap.size,0,none⟩),.int .u64 150] 219)) (by simp)
 have h11:((w.alloc (.cells #[.pointer (some ⟨t,0,none⟩)] 164)).alloc (.cells #[.pointer (some ⟨2,164,none⟩),.pointer (some ⟨w.heap.size,0,none⟩),.int .u64 150] 219)).cell? ⟨0,0,none⟩=some (.iface 261 (.agg #[.pointer (some ⟨2,35,none⟩)])):=by
  rw[World.cell?_alloc_lt _ _ ⟨0,0,none⟩ (by simp),World.cell?_alloc_lt _ _ ⟨0,0,none⟩ hlt];exact hg
 have htl:t<w.heap.size:=(Array.getElem?_eq_some_iff.1 ht).1
 have HT:Hid (((w.alloc (.cells #[.pointer (some ⟨t,0,none⟩)] 164)).alloc (.cells #[.pointer (some ⟨2,164,none⟩),.pointer (some ⟨w.heap.size,0,none⟩),.int .u64 150] 219)).heap[t]?=some (.cells #[old] 162 (0,0))) :=
  Lib.hid (by rw[Below.heap_alloc _ _ _ (by simp;omega),Below.heap_alloc _ _ _ htl];exact ht)
 have HP:Hid (((w.alloc (.cells #[.pointer (some ⟨t,0,none⟩)] 164)).alloc (.cells #[.pointer (some ⟨2,164,none⟩),.pointer (some ⟨w.heap.size,0,none⟩),.int .u64 150] 219)).heap[w.heap.size]?=some (.cells #[.pointer (some ⟨t,0,none⟩)] 164 (0,0))) :=
  Lib.hid (by rw[Below.heap_alloc _ _ _ (by simp)];exact heap_alloc_new w _)
 have HE:=Lib.hid he;have HB:=Lib.hid ((hb0.alloc hb0.size (.cells #[.pointer (some ⟨t,0,none⟩)] 164)).alloc (by have:=hb0.size;simp;omega) (.cells #[.pointer (some ⟨2,164,none⟩),.pointer (some ⟨w.heap.size,0,none⟩),.int .u64 150] 219));have HROOT:=Lib.hid hroot;clear ht hg hroot he hb0;go_enter Tryz.func75,Tryz.ntmps75;go_wp2_with fail
 go_at_call 116
 refine(zg3 ws _ r _ w.heap.size t w0 _ HE.out HB.out HROOT.out old HT.out HP.out).mono ?_;intro e w' hpost;have HPOST:=Lib.hid hpost;clear hpost;have hp:=HPOST.out;unfold Y6 at hp
 cases hf:Xx true ws with
 | none =>
  rw[hf]at hp;obtain⟨rfl,hu⟩:=hp;have HF:=Lib.hid hf;have HU:=Lib.hid hu;clear hf hu
  go_wp2
  go_ret;unfold Y6;rw[HF.out];exact⟨rfl,kj (kj HU.out)⟩
 | some y =>
  obtain⟨n,rest⟩:=y;rw[hf]at hp;obtain⟨a,x,rfl,hu,ha,hh,hr⟩:=hp;have HF:=Lib.hid hf;have HU:=Lib.hid hu;have HX:=Lib.hid (And.intro ha (And.intro hh hr));clear hf hu ha hh hr
  go_wp2
  go_ret;unfold Y6;rw[HF.out];exact⟨a,x,rfl,kj (kj HU.out),HX.out⟩
theorem zaz {ws:List (Bool × Int)}{c:Int}{t:Nat}{old:Value}{w0 w w':World}{e:Ending}(h:z0o ws (k9 c) t old w0 w e w'):e=.returned (.bool true)/\Yk w w' t 103 (.int .i64 c) :=
 h.2 c rfl
end Go.Proofs.YtmlghmjjlpioeaaGreatDoor