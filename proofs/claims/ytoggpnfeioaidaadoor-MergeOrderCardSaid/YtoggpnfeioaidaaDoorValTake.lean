/-
  message.Parts: Add, Has, Bytes.
-/
import Derived.Test.YtoggpnfeioaidaaDoorMsgRead
import Derived.Test.YtoggpnfeioaidaaDoorUtf2
import Derived.Test.YtoggpnfeioaidaaDoorErrNew
import Derived.Test.YtoggpnfeioaidaaDoorGet
import Derived.Test.YtoggpnfeioaidaaDoorVal
import Derived.Deep.Cut
import Derived.Test.YtoggpnfeioaidaaDoorOrd
import Derived.IntWalk
import Derived.Deep.MidRow
namespace Go.Proofs.YtoggpnfeioaidaaDoor
open Go.RowKit
open Go.RowKit
open Go.RowKit
open Go.RowKit
open Go.RowKit
open Go.RowKit
theorem VRel.form {w:World} {P:Nat→Prop}:∀ {x:Val} {c:List Value},VRel w P x c→∃ (k:Int) (S:ByteArray) (b0:Bool) (n:Int) (lo:Option Addr) (ln lc:Nat) (mo:Option Addr) (mn mc:Nat) (I U:ByteArray),c=[.int .i64 k,.string S,.bool b0,.int .u64 n,.slice lo ln lc,.slice mo mn mc,.string I,.string U]
 | .mk _ _ _ _ _ _ _ _,c,h=>by
  rw[VRel] at h
  obtain ⟨lo,lc,mo,mc,rfl,_⟩:=h
  exact ⟨_,_,_,_,_,_,_,_,_,_,_,_,rfl⟩
theorem KRel.form {w:World} {P:Nat→Prop}:∀ {x:KV} {c:List Value},KRel w P x c→∃ (K0:ByteArray) (h0:Bool) (k:Int) (S:ByteArray) (b0:Bool) (n:Int) (lo:Option Addr) (ln lc:Nat) (mo:Option Addr) (mn mc:Nat) (I U U0:ByteArray),c=[.string K0,.bool h0,.int .i64 k,.string S,.bool b0,.int .u64 n,.slice lo ln lc,.slice mo mn mc,.string I,.string U,.string U0]
 | .mk _ _ _ _,c,h=>by
  rw[KRel] at h
  obtain ⟨cs,h1,rfl⟩:=h
  obtain ⟨k,S,b0,n,lo,ln,lc,mo,mn,mc,I,U,rfl⟩:=h1.form
  exact ⟨_,_,_,_,_,_,_,_,_,_,_,_,_,_,_,rfl⟩
structure Cel (α:Type) where
 R:World→(Nat→Prop)→α→List Value→Prop
 size:Nat
 len:∀ {w P x cs},R w P x cs→cs.length=size
 upd:∀ {w w' S P Q x cs},Upd S w w'→(∀ k,P k→¬S k)→(∀ k,P k→Q k)→R w P x cs→R w' Q x cs
 lt:∀ {w P x cs},R w P x cs→R w (fun k=>P k∧k<w.heap.size) x cs
theorem Tryd.elVL:Elem Tryd.prog 127 129 (.agg #[.int .i64 0,.string ⟨#[]⟩,.bool false,.int .u64 0,.slice none 0 0,.slice none 0 0,.string ⟨#[]⟩,.string ⟨#[]⟩]) 8 120:=⟨Tryd.underlying127,by kernel_rfl,by decide⟩
def vcel:Cel Val where
 R:=VRel
 size:=8
 len:=fun h=>h.len
 upd:=fun hu hs hq h=>VRel.upd hu hs hq _ _ h
 lt:=fun h=>VRel.lt _ _ h
theorem Tryd.elKL:Elem Tryd.prog 22 131 (.agg #[.string ⟨#[]⟩,.bool false,.int .i64 0,.string ⟨#[]⟩,.bool false,.int .u64 0,.slice none 0 0,.slice none 0 0,.string ⟨#[]⟩,.string ⟨#[]⟩,.string ⟨#[]⟩]) 11 160:=⟨Tryd.underlying22,by kernel_rfl,by decide⟩
def kcel:Cel KV where
 R:=KRel
 size:=11
 len:=fun h=>h.len
 upd:=fun hu hs hq h=>KRel.upd hu hs hq _ _ h
 lt:=fun h=>KRel.lt _ _ h
open Go.RowKit
open Go.RowKit
end Go.Proofs.YtoggpnfeioaidaaDoor
