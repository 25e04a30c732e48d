/-
  MxIs, ValOut
-/
import Derived.Test.YtcblkndiclkacaaDoorErrAs
import Derived.Test.YtcblkndiclkacaaDoorErrNew
import Derived.Deep.LoopGhost
import Derived.Lib.IfaceEq
import Derived.LaidEql
import Derived.Test.YtcblkndiclkacaaDoorValPlain
import Derived.Test.YtcblkndiclkacaaDoorMsgOpen
import Derived.Test.YtcblkndiclkacaaDoorAlikeB
set_option maxRecDepth 1000000
set_option maxHeartbeats 16000000
namespace Go.Proofs.YtcblkndiclkacaaDoor
open Go.RowKit Go.Extern.Stop Go.Stop Go.Extern
theorem Tryd.methodComparable (h:Value) (w:World):(Go.method 328 164 (.agg #[h]) "Comparable").run Tryd.prog w = .ok (133,.agg #[h]) w:=by kernel_rfl
theorem Tryd.comparableOther (w:World):(ReflectliteType.method (fun t=>do Rtype.noPackHeld "Comparable" t;(fun i:TypeInfo=>Value.bool i.comparable) <$> typeInfo t) #[.agg #[.pointer (some ⟨2,195,none⟩)]]).run Tryd.prog w = .ok (.bool true) w:=by kernel_rfl
theorem is_other (ws:List (Bool × Int)) (v:Value) (p:Addr) (w:World) (he:isErr w ws v (.iface 195 (.pointer (some p)))) :
  Calls Tryd.prog 92 #[v,.iface 195 (.pointer (some p)),.bool true] w fun e w'=>e = .returned (.bool true)∧w=w':=by
 have hroot:isRoot (.iface 195 (.pointer (some p))) := .inr ⟨_,rfl⟩
 have kkt1:=fun (v:Value) (w:World)=>run_eql_iface_types (P:=Tryd.prog) (ti:=28) 118 195 v (.pointer (some p)) Tryd.underlying28 (by decide) w
 have kkt2:=fun (v:Value) (w:World)=>run_eql_iface_types (P:=Tryd.prog) (ti:=28) 139 195 v (.pointer (some p)) Tryd.underlying28 (by decide) w
 have kkt3:∀ w:World,(binOp .eql 28 (.iface 195 (.pointer (some p))) (.iface 195 (.pointer (some p)))).run Tryd.prog w = .ok (.bool true) w:=fun w=>by
  have h1:(Tryd.prog.info? 195).map (·.comparable)=some true:=by kernel_rfl
  have h2:(Tryd.prog.info? 216).isSome=true:=by kernel_rfl
  cases hi:Tryd.prog.info? 195 with
  | none=>rw[hi] at h1;simp at h1
  | some i =>
   rw[hi] at h1
   cases hj:Tryd.prog.info? 216 with
   | none=>rw[hj] at h2;simp at h2
   | some j=>exact run_eql_iface_ptr_same (i:=i) (j:=j) w p Tryd.underlying28 Tryd.underlying195 hi (by simpa using h1) hj
 have kki2:=Tryd.isIsWhere
 have kki3:=Tryd.isIsField
 have kku2:=Tryd.isUnWhere
 have kku3:=Tryd.isUnField
 have kkm1:=Tryd.unwrapWhere
 have kkm2:=Tryd.unwrapField
 have HE:=Lib.hid he
 have HROOT:=Lib.hid hroot
 clear he hroot
 go_enter Tryd.func92,Tryd.ntmps92
 go_wp2
 go_loopg [0] ws.length (fun k v wr=>∃ ws',ws'.length≤k∧isErr w ws' v (.iface 195 (.pointer (some p)))∧wr=w)
 case atStart=>exact ⟨ws,Nat.le_refl _,HE.out,rfl⟩
 case round =>
  obtain ⟨ws',hk,hr,rfl⟩:=hrel
  match ws',hk,hr with
  | [],hk,hr =>
   obtain rfl:u0=_:=hr
   go_wp2
   go_ret
   exact ⟨rfl,rfl⟩
  | (true,n)::ws',hk,hr =>
   obtain ⟨a,x,hv,ha,hh,hr'⟩:=hr
   obtain ⟨T,y,rfl⟩:=isErr_iface hr' HROOT.out
   rw[show wrapT true=118 from rfl] at hv
   subst hv
   have HH:=Lib.hid (show wr.heap[a]? = some (.cells #[.int .i64 n,.iface T y] 120 (0,0)) from hh)
   have HR:=Lib.hid hr'
   clear hh hr'
   go_wp2_with (go_at_call 124;refine (unwrap_where a n _ _ HH.out).mono ?_;rintro e w' ⟨rfl,rfl⟩)
   go_roundg (gk - 1)
   case measure=>simp at hk;omega
   case rel=>exact ⟨ws',by simp at hk;omega,HR.out,rfl⟩
  | (false,n)::ws',hk,hr =>
   obtain ⟨a,x,hv,ha,hh,hr'⟩:=hr
   obtain ⟨T,y,rfl⟩:=isErr_iface hr' HROOT.out
   rw[show wrapT false=139 from rfl] at hv
   subst hv
   have HH:=Lib.hid (show wr.heap[a]? = some (.cells #[.int .i64 n,.iface T y] 141 (0,0)) from hh)
   have HR:=Lib.hid hr'
   clear hh hr'
   go_wp2_with (go_at_call 129;refine (unwrap_field a n _ _ HH.out).mono ?_;rintro e w' ⟨rfl,rfl⟩)
   go_roundg (gk - 1)
   case measure=>simp at hk;omega
   case rel=>exact ⟨ws',by simp at hk;omega,HR.out,rfl⟩
theorem is_apart (ws:List (Bool × Int)) (v:Value) (c:Int) (p:Addr) (w:World) (he:isErr w ws v (codeV c)) :
  Calls Tryd.prog 92 #[v,.iface 195 (.pointer (some p)),.bool true] w fun e w'=>e = .returned (.bool false)∧w=w':=by
 have hroot:isRoot (codeV c) := .inl ⟨_,rfl⟩
 have kkt1:=fun (v:Value) (w:World)=>run_eql_iface_types (P:=Tryd.prog) (ti:=28) 118 195 v (.pointer (some p)) Tryd.underlying28 (by decide) w
 have kkt2:=fun (v:Value) (w:World)=>run_eql_iface_types (P:=Tryd.prog) (ti:=28) 139 195 v (.pointer (some p)) Tryd.underlying28 (by decide) w
 have kkt3:=fun (v:Value) (w:World)=>run_eql_iface_types (P:=Tryd.prog) (ti:=28) 31 195 v (.pointer (some p)) Tryd.underlying28 (by decide) w
 have kki1:=Tryd.isIsCode
 have kki2:=Tryd.isIsWhere
 have kki3:=Tryd.isIsField
 have kki4:=Tryd.isIsOther
 have kku1:=Tryd.isUnCode
 have kku2:=Tryd.isUnWhere
 have kku3:=Tryd.isUnField
 have kku4:=Tryd.isUnOther
 have kkl1:=Tryd.isUnlCode
 have kkl2:=Tryd.isUnlOther
 have kkm1:=Tryd.unwrapWhere
 have kkm2:=Tryd.unwrapField
 have HE:=Lib.hid he
 have HROOT:=Lib.hid hroot
 clear he hroot
 go_enter Tryd.func92,Tryd.ntmps92
 go_wp2
 go_loopg [0] ws.length (fun k v wr=>∃ ws',ws'.length≤k∧isErr w ws' v (codeV c)∧wr=w)
 case atStart=>exact ⟨ws,Nat.le_refl _,HE.out,rfl⟩
 case round =>
  obtain ⟨ws',hk,hr,rfl⟩:=hrel
  match ws',hk,hr with
  | [],hk,hr =>
   obtain rfl:u0=codeV c:=hr
   rw[codeV]
   go_wp2
   go_ret
   exact ⟨rfl,rfl⟩
  | (true,n)::ws',hk,hr =>
   obtain ⟨a,x,hv,ha,hh,hr'⟩:=hr
   obtain ⟨T,y,rfl⟩:=isErr_iface hr' HROOT.out
   rw[show wrapT true=118 from rfl] at hv
   subst hv
   have HH:=Lib.hid (show wr.heap[a]? = some (.cells #[.int .i64 n,.iface T y] 120 (0,0)) from hh)
   have HR:=Lib.hid hr'
   clear hh hr'
   go_wp2_with (go_at_call 124;refine (unwrap_where a n _ _ HH.out).mono ?_;rintro e w' ⟨rfl,rfl⟩)
   go_roundg (gk - 1)
   case measure=>simp at hk;omega
   case rel=>exact ⟨ws',by simp at hk;omega,HR.out,rfl⟩
  | (false,n)::ws',hk,hr =>
   obtain ⟨a,x,hv,ha,hh,hr'⟩:=hr
   obtain ⟨T,y,rfl⟩:=isErr_iface hr' HROOT.out
   rw[show wrapT false=139 from rfl] at hv
   subst hv
   have HH:=Lib.hid (show wr.heap[a]? = some (.cells #[.int .i64 n,.iface T y] 141 (0,0)) from hh)
   have HR:=Lib.hid hr'
   clear hh hr'
   go_wp2_with (go_at_call 129;refine (unwrap_field a n _ _ HH.out).mono ?_;rintro e w' ⟨rfl,rfl⟩)
   go_roundg (gk - 1)
   case measure=>simp at hk;omega
   case rel=>exact ⟨ws',by simp at hk;omega,HR.out,rfl⟩
theorem errIs_other (ws:List (Bool × Int)) (v:Value) (p:Addr) (w:World) (he:isErr w ws v (.iface 195 (.pointer (some p)))) :
  Calls Tryd.prog 70 #[v,.iface 195 (.pointer (some p))] w fun e w'=>e = .returned (.bool true)∧w=w':=by
 obtain ⟨T,x,rfl⟩:=isErr_iface he (.inr ⟨_,rfl⟩)
 have h25:=@run_callFunc_extern Tryd.prog 87 _ ReflectliteType.typeOf Tryd.func87 (by kernel_rfl) (by kernel_rfl) (by kernel_rfl) (by kernel_rfl)
 have h64:=@run_callFunc_extern Tryd.prog 133 _ (ReflectliteType.method fun t=>do Rtype.noPackHeld "Comparable" t;pure (.bool (←typeInfo t).comparable)) Tryd.func133 (by kernel_rfl) (by kernel_rfl) (by kernel_rfl) (by kernel_rfl)
 have kkt:=Tryd.typeOfOther
 have kka:=Tryd.methodComparable
 have kkb:=Tryd.comparableOther
 have HE:=Lib.hid he
 clear he
 go_enter Tryd.func70,Tryd.ntmps70
 go_wp2_with (go_at_call 92;refine (is_other ws _ p w HE.out).mono ?_;rintro e w' ⟨rfl,rfl⟩)
 go_ret
 exact ⟨rfl,rfl⟩
theorem errIs_apart (ws:List (Bool × Int)) (v:Value) (c:Int) (p:Addr) (w:World) (he:isErr w ws v (codeV c)) :
  Calls Tryd.prog 70 #[v,.iface 195 (.pointer (some p))] w fun e w'=>e = .returned (.bool false)∧w=w':=by
 obtain ⟨T,x,rfl⟩:=isErr_iface he (.inl ⟨_,rfl⟩)
 have h25:=@run_callFunc_extern Tryd.prog 87 _ ReflectliteType.typeOf Tryd.func87 (by kernel_rfl) (by kernel_rfl) (by kernel_rfl) (by kernel_rfl)
 have h64:=@run_callFunc_extern Tryd.prog 133 _ (ReflectliteType.method fun t=>do Rtype.noPackHeld "Comparable" t;pure (.bool (←typeInfo t).comparable)) Tryd.func133 (by kernel_rfl) (by kernel_rfl) (by kernel_rfl) (by kernel_rfl)
 have kkt:=Tryd.typeOfOther
 have kka:=Tryd.methodComparable
 have kkb:=Tryd.comparableOther
 have HE:=Lib.hid he
 clear he
 go_enter Tryd.func70,Tryd.ntmps70
 go_wp2_with (go_at_call 92;refine (is_apart ws _ c p w HE.out).mono ?_;rintro e w' ⟨rfl,rfl⟩)
 go_ret
 exact ⟨rfl,rfl⟩
theorem errIs_none (p:Addr) (w:World):Calls Tryd.prog 70 #[.nilIface,.iface 195 (.pointer (some p))] w fun e w'=>e = .returned (.bool false)∧w=w':=by
 go_enter Tryd.func70,Tryd.ntmps70
 have kkn:=fun (w:World)=>run_eql_iface_nil_left (P:=Tryd.prog) (w:=w) (ti:=28) 195 (.pointer (some p)) Tryd.underlying28
 go_wp2
 go_ret
 exact ⟨rfl,rfl⟩
open Go.RowKit
def rF (num n:Nat):Rec:=⟨num,1,n,[],vput (8 * num+1)++eight 8 n⟩
def vrec (k:Int) (s:List UInt8) (b:Bool) (n:Nat) (L M i:List UInt8):List UInt8 :=
 if k=1∨k=7 then (rB k.toNat s).raw
 else if k=2 then (rN 2 (if b then 1 else n)).raw
 else if k=3 then (rN 3 n).raw
 else if k=4 then (rF 4 n).raw
 else if k=5 then (rB 5 (L++i)).raw
 else if k=6 then (rB 6 (M++i)).raw
 else []
def krec (key:List UInt8):List UInt8:=if key=[] then [] else (rB 1 key).raw
mutual
def vout:Val→List UInt8
 | .mk k s b n l m i u=>vrec k s b n (vouts 1 l) (kouts 1 m) i++u
def kout:KV→List UInt8
 | .mk key has v u=>(krec key++(if has then (rB 2 (vout v)).raw else []))++u
def vouts:Nat→List Val→List UInt8
 | _,[]=>[]
 | num,x::xs=>(rB num (vout x)).raw++vouts num xs
def kouts:Nat→List KV→List UInt8
 | _,[]=>[]
 | num,x::xs=>(rB num (kout x)).raw++kouts num xs
end
def vnone:Val→Bool
 | .mk k s b n l m i u=>decide (k=0)&&u.isEmpty&&vpl k s.isEmpty b n l.length m.length i.isEmpty
mutual
def vmay:Val→Int→Bool
 | .mk k s b n l m i u,d=>(vpl k s.isEmpty b n l.length m.length i.isEmpty&&(!decide (k=1)||uvalid s)&&(!decide (k=5∨k=6)||(decide (1≤d)&&((vmays l (d - 1)&&kmays m (d - 1))&&munkOk itk i (d - 1)))))&&munkOk vtk u d
def kmay:KV→Int→Bool
 | .mk key has v u,d=>(uvalid key&&(if has then decide (1≤d)&&vmay v (d - 1) else vnone v))&&munkOk ktk u d
def vmays:List Val→Int→Bool
 | [],_=>true
 | x::xs,d=>(decide (1≤d)&&vmay x (d - 1))&&vmays xs d
def kmays:List KV→Int→Bool
 | [],_=>true
 | x::xs,d=>(decide (1≤d)&&kmay x (d - 1))&&kmays xs d
end
open Go.RowKit
end Go.Proofs.YtcblkndiclkacaaDoor
