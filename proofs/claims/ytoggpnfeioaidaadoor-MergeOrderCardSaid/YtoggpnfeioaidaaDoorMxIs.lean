/-
  FldH, MxIs
-/
import Derived.Test.YtoggpnfeioaidaaDoorFld
import Derived.Test.YtoggpnfeioaidaaDoorErrAs
import Derived.Test.YtoggpnfeioaidaaDoorErrNew
import Derived.Deep.LoopGhost
import Derived.Lib.IfaceEq
import Derived.LaidEql
set_option maxRecDepth 1000000
set_option maxHeartbeats 16000000
namespace Go.Proofs.YtoggpnfeioaidaaDoor
open Go.RowKit
def optF (num:Nat):Fld where
 σ:=Bool × Nat
 z:=(false,0)
 tk r:=decide (r.num=num∧r.ty=1)
 step _ _ r := .ok (true,r.n)
 out s:=if s.1=true then [rF num s.2] else []
 may _ s:=s.1||decide (s.2=0)
 fit s:=s.2<18446744073709551616
 wt _:=0
 w0:=0
 inv _ s _:=(s.1=true∨s.2=0)∧s.2<18446744073709551616
def fstep (xs:List Nat) (r:Rec):Except Nat (List Nat):=if r.ty≠2 then .ok (xs++[r.n]) else if r.s.length % 8=0 then .ok (xs++fixs r.s (r.s.length / 8)) else .error 1
def numsF (num:Nat):Fld where
 σ:=List Nat
 z:=[]
 tk r:=decide (r.num=num∧(r.ty=1∨r.ty=2))
 step _ s r:=fstep s r
 out s:=if s=[] then [] else [rB num (eights s)]
 may _ _:=true
 fit s:=∀ n∈s,n<18446744073709551616
 wt s:=8 * s.length
 w0:=0
 inv _ s t:=(∀ n∈s,n<18446744073709551616)∧8 * s.length≤t
open Go.RowKit Go.Extern.Stop Go.Stop Go.Extern
theorem Tryd.methodComparable (h:Value) (w:World):(Go.method 298 147 (.agg #[h]) "Comparable").run Tryd.prog w = .ok (104,.agg #[h]) w:=by kernel_rfl
theorem Tryd.comparableOther (w:World):(ReflectliteType.method (fun t=>do Rtype.noPackHeld "Comparable" t;(fun i:TypeInfo=>Value.bool i.comparable) <$> typeInfo t) #[.agg #[.pointer (some ⟨2,165,none⟩)]]).run Tryd.prog w = .ok (.bool true) w:=by kernel_rfl
theorem is_other (ws:List (Bool × Int)) (v:Value) (p:Addr) (w:World) (he:isErr w ws v (.iface 165 (.pointer (some p)))) :
  Calls Tryd.prog 63 #[v,.iface 165 (.pointer (some p)),.bool true] w fun e w'=>e = .returned (.bool true)∧w=w':=by
 have hroot:isRoot (.iface 165 (.pointer (some p))) := .inr ⟨_,rfl⟩
 have kkt1:=fun (v:Value) (w:World)=>run_eql_iface_types (P:=Tryd.prog) (ti:=39) 90 165 v (.pointer (some p)) Tryd.underlying39 (by decide) w
 have kkt2:=fun (v:Value) (w:World)=>run_eql_iface_types (P:=Tryd.prog) (ti:=39) 97 165 v (.pointer (some p)) Tryd.underlying39 (by decide) w
 have kkt3:∀ w:World,(binOp .eql 39 (.iface 165 (.pointer (some p))) (.iface 165 (.pointer (some p)))).run Tryd.prog w = .ok (.bool true) w:=fun w=>by
  have h1:(Tryd.prog.info? 165).map (·.comparable)=some true:=by kernel_rfl
  have h2:(Tryd.prog.info? 186).isSome=true:=by kernel_rfl
  cases hi:Tryd.prog.info? 165 with
  | none=>rw[hi] at h1;simp at h1
  | some i =>
   rw[hi] at h1
   cases hj:Tryd.prog.info? 186 with
   | none=>rw[hj] at h2;simp at h2
   | some j=>exact run_eql_iface_ptr_same (i:=i) (j:=j) w p Tryd.underlying39 Tryd.underlying165 hi (by simpa using h1) hj
 have kki2:=Tryd.isIsWhere
 have kki3:=Tryd.isIsField
 have kku2:=Tryd.isUnWhere
 have kku3:=Tryd.isUnField
 have kkm1:=Tryd.unwrapWhere
 have kkm2:=Tryd.unwrapField
 have HE:=Lib.hid he
 have HROOT:=Lib.hid hroot
 clear he hroot
 go_enter Tryd.func63,Tryd.ntmps63
 go_wp2
 go_loopg [0] ws.length (fun k v wr=>∃ ws',ws'.length≤k∧isErr w ws' v (.iface 165 (.pointer (some p)))∧wr=w)
 case atStart=>exact ⟨ws,Nat.le_refl _,HE.out,rfl⟩
 case round =>
  obtain ⟨ws',hk,hr,rfl⟩:=hrel
  match ws',hk,hr with
  | [],hk,hr =>
   obtain rfl:u0=_:=hr
   go_wp2
   go_ret
   exact ⟨rfl,rfl⟩
  | (true,n)::ws',hk,hr =>
   obtain ⟨a,x,hv,ha,hh,hr'⟩:=hr
   obtain ⟨T,y,rfl⟩:=isErr_iface hr' HROOT.out
   rw[show wrapT true=90 from rfl] at hv
   subst hv
   have HH:=Lib.hid (show wr.heap[a]? = some (.cells #[.int .i64 n,.iface T y] 92 (0,0)) from hh)
   have HR:=Lib.hid hr'
   clear hh hr'
   go_wp2_with (go_at_call 95;refine (unwrap_where a n _ _ HH.out).mono ?_;rintro e w' ⟨rfl,rfl⟩)
   go_roundg (gk - 1)
   case measure=>simp at hk;omega
   case rel=>exact ⟨ws',by simp at hk;omega,HR.out,rfl⟩
  | (false,n)::ws',hk,hr =>
   obtain ⟨a,x,hv,ha,hh,hr'⟩:=hr
   obtain ⟨T,y,rfl⟩:=isErr_iface hr' HROOT.out
   rw[show wrapT false=97 from rfl] at hv
   subst hv
   have HH:=Lib.hid (show wr.heap[a]? = some (.cells #[.int .i64 n,.iface T y] 99 (0,0)) from hh)
   have HR:=Lib.hid hr'
   clear hh hr'
   go_wp2_with (go_at_call 97;refine (unwrap_field a n _ _ HH.out).mono ?_;rintro e w' ⟨rfl,rfl⟩)
   go_roundg (gk - 1)
   case measure=>simp at hk;omega
   case rel=>exact ⟨ws',by simp at hk;omega,HR.out,rfl⟩
theorem is_apart (ws:List (Bool × Int)) (v:Value) (c:Int) (p:Addr) (w:World) (he:isErr w ws v (codeV c)) :
  Calls Tryd.prog 63 #[v,.iface 165 (.pointer (some p)),.bool true] w fun e w'=>e = .returned (.bool false)∧w=w':=by
 have hroot:isRoot (codeV c) := .inl ⟨_,rfl⟩
 have kkt1:=fun (v:Value) (w:World)=>run_eql_iface_types (P:=Tryd.prog) (ti:=39) 90 165 v (.pointer (some p)) Tryd.underlying39 (by decide) w
 have kkt2:=fun (v:Value) (w:World)=>run_eql_iface_types (P:=Tryd.prog) (ti:=39) 97 165 v (.pointer (some p)) Tryd.underlying39 (by decide) w
 have kkt3:=fun (v:Value) (w:World)=>run_eql_iface_types (P:=Tryd.prog) (ti:=39) 59 165 v (.pointer (some p)) Tryd.underlying39 (by decide) w
 have kki1:=Tryd.isIsCode
 have kki2:=Tryd.isIsWhere
 have kki3:=Tryd.isIsField
 have kki4:=Tryd.isIsOther
 have kku1:=Tryd.isUnCode
 have kku2:=Tryd.isUnWhere
 have kku3:=Tryd.isUnField
 have kku4:=Tryd.isUnOther
 have kkl1:=Tryd.isUnlCode
 have kkl2:=Tryd.isUnlOther
 have kkm1:=Tryd.unwrapWhere
 have kkm2:=Tryd.unwrapField
 have HE:=Lib.hid he
 have HROOT:=Lib.hid hroot
 clear he hroot
 go_enter Tryd.func63,Tryd.ntmps63
 go_wp2
 go_loopg [0] ws.length (fun k v wr=>∃ ws',ws'.length≤k∧isErr w ws' v (codeV c)∧wr=w)
 case atStart=>exact ⟨ws,Nat.le_refl _,HE.out,rfl⟩
 case round =>
  obtain ⟨ws',hk,hr,rfl⟩:=hrel
  match ws',hk,hr with
  | [],hk,hr =>
   obtain rfl:u0=codeV c:=hr
   rw[codeV]
   go_wp2
   go_ret
   exact ⟨rfl,rfl⟩
  | (true,n)::ws',hk,hr =>
   obtain ⟨a,x,hv,ha,hh,hr'⟩:=hr
   obtain ⟨T,y,rfl⟩:=isErr_iface hr' HROOT.out
   rw[show wrapT true=90 from rfl] at hv
   subst hv
   have HH:=Lib.hid (show wr.heap[a]? = some (.cells #[.int .i64 n,.iface T y] 92 (0,0)) from hh)
   have HR:=Lib.hid hr'
   clear hh hr'
   go_wp2_with (go_at_call 95;refine (unwrap_where a n _ _ HH.out).mono ?_;rintro e w' ⟨rfl,rfl⟩)
   go_roundg (gk - 1)
   case measure=>simp at hk;omega
   case rel=>exact ⟨ws',by simp at hk;omega,HR.out,rfl⟩
  | (false,n)::ws',hk,hr =>
   obtain ⟨a,x,hv,ha,hh,hr'⟩:=hr
   obtain ⟨T,y,rfl⟩:=isErr_iface hr' HROOT.out
   rw[show wrapT false=97 from rfl] at hv
   subst hv
   have HH:=Lib.hid (show wr.heap[a]? = some (.cells #[.int .i64 n,.iface T y] 99 (0,0)) from hh)
   have HR:=Lib.hid hr'
   clear hh hr'
   go_wp2_with (go_at_call 97;refine (unwrap_field a n _ _ HH.out).mono ?_;rintro e w' ⟨rfl,rfl⟩)
   go_roundg (gk - 1)
   case measure=>simp at hk;omega
   case rel=>exact ⟨ws',by simp at hk;omega,HR.out,rfl⟩
theorem errIs_other (ws:List (Bool × Int)) (v:Value) (p:Addr) (w:World) (he:isErr w ws v (.iface 165 (.pointer (some p)))) :
  Calls Tryd.prog 43 #[v,.iface 165 (.pointer (some p))] w fun e w'=>e = .returned (.bool true)∧w=w':=by
 obtain ⟨T,x,rfl⟩:=isErr_iface he (.inr ⟨_,rfl⟩)
 have h25:=@run_callFunc_extern Tryd.prog 62 _ ReflectliteType.typeOf Tryd.func62 (by kernel_rfl) (by kernel_rfl) (by kernel_rfl) (by kernel_rfl)
 have h64:=@run_callFunc_extern Tryd.prog 104 _ (ReflectliteType.method fun t=>do Rtype.noPackHeld "Comparable" t;pure (.bool (←typeInfo t).comparable)) Tryd.func104 (by kernel_rfl) (by kernel_rfl) (by kernel_rfl) (by kernel_rfl)
 have kkt:=Tryd.typeOfOther
 have kka:=Tryd.methodComparable
 have kkb:=Tryd.comparableOther
 have HE:=Lib.hid he
 clear he
 go_enter Tryd.func43,Tryd.ntmps43
 go_wp2_with (go_at_call 63;refine (is_other ws _ p w HE.out).mono ?_;rintro e w' ⟨rfl,rfl⟩)
 go_ret
 exact ⟨rfl,rfl⟩
theorem errIs_apart (ws:List (Bool × Int)) (v:Value) (c:Int) (p:Addr) (w:World) (he:isErr w ws v (codeV c)) :
  Calls Tryd.prog 43 #[v,.iface 165 (.pointer (some p))] w fun e w'=>e = .returned (.bool false)∧w=w':=by
 obtain ⟨T,x,rfl⟩:=isErr_iface he (.inl ⟨_,rfl⟩)
 have h25:=@run_callFunc_extern Tryd.prog 62 _ ReflectliteType.typeOf Tryd.func62 (by kernel_rfl) (by kernel_rfl) (by kernel_rfl) (by kernel_rfl)
 have h64:=@run_callFunc_extern Tryd.prog 104 _ (ReflectliteType.method fun t=>do Rtype.noPackHeld "Comparable" t;pure (.bool (←typeInfo t).comparable)) Tryd.func104 (by kernel_rfl) (by kernel_rfl) (by kernel_rfl) (by kernel_rfl)
 have kkt:=Tryd.typeOfOther
 have kka:=Tryd.methodComparable
 have kkb:=Tryd.comparableOther
 have HE:=Lib.hid he
 clear he
 go_enter Tryd.func43,Tryd.ntmps43
 go_wp2_with (go_at_call 63;refine (is_apart ws _ c p w HE.out).mono ?_;rintro e w' ⟨rfl,rfl⟩)
 go_ret
 exact ⟨rfl,rfl⟩
theorem errIs_none (p:Addr) (w:World):Calls Tryd.prog 43 #[.nilIface,.iface 165 (.pointer (some p))] w fun e w'=>e = .returned (.bool false)∧w=w':=by
 go_enter Tryd.func43,Tryd.ntmps43
 have kkn:=fun (w:World)=>run_eql_iface_nil_left (P:=Tryd.prog) (w:=w) (ti:=39) 165 (.pointer (some p)) Tryd.underlying39
 go_wp2
 go_ret
 exact ⟨rfl,rfl⟩
end Go.Proofs.YtoggpnfeioaidaaDoor
