/-
  message.Parts: Add, Has, Bytes.
-/
import Derived.Shelf.Strings.OnBuilder
import Derived.Test.YtmlghmjjlpioeaaProg
import Derived.Test.YtmlghmjjlpioeaaOrd
import Derived.Test.YtmlghmjjlpioeaaKit
import Derived.Test.YtmlghmjjlpioeaaMsgMath
import Derived.Test.YtmlghmjjlpioeaaWireR5
import Derived.Test.YtmlghmjjlpioeaaUpd
import Derived.Deep.LoopGhost
import Derived.Test.YtmlghmjjlpioeaaUtf2
import Derived.Deep.Cut
import Derived.Test.YtmlghmjjlpioeaaVal
import Derived.IntWalk
import Derived.Deep.MidRow
namespace Go.Proofs.Ytmlghmjjlpioeaa
open Go.RowKit
open Lib (hid)
open Go.RowKit
open Go.RowKit
open Go.RowKit
open Go.RowKit
open Go.RowKit
theorem VRel.form {w:World}{P:Nat→Prop}:∀ {x:Val} {c:List Value},VRel w P x c→∃ (k:Int) (S:ByteArray) (b0:Bool) (n:Int) (lo:Option Addr) (ln lc:Nat) (mo:Option Addr) (mn mc:Nat) (I U:ByteArray),c=[.int .i64 k,.string S,.bool b0,.int .u64 n,.slice lo ln lc,.slice mo mn mc,.string I,.string U]
 | .mk _ _ _ _ _ _ _ _,c,h=>by
  rw[VRel] at h
  obtain ⟨lo,lc,mo,mc,rfl,_⟩:=h
  exact ⟨_,_,_,_,_,_,_,_,_,_,_,_,rfl⟩
theorem KRel.form {w:World}{P:Nat→Prop}:∀ {x:KV} {c:List Value},KRel w P x c→∃ (K0:ByteArray) (h0:Bool) (k:Int) (S:ByteArray) (b0:Bool) (n:Int) (lo:Option Addr) (ln lc:Nat) (mo:Option Addr) (mn mc:Nat) (I U U0:ByteArray),c=[.string K0,.bool h0,.int .i64 k,.string S,.bool b0,.int .u64 n,.slice lo ln lc,.slice mo mn mc,.string I,.string U,.string U0]
 | .mk _ _ _ _,c,h=>by
  rw[KRel] at h
  obtain ⟨cs,h1,rfl⟩:=h
  obtain ⟨k,S,b0,n,lo,ln,lc,mo,mn,mc,I,U,rfl⟩:=h1.form
  exact ⟨_,_,_,_,_,_,_,_,_,_,_,_,_,_,_,rfl⟩
structure Cel (α:Type) where
 R:World→(Nat→Prop)→α→List Value→Prop
 size:Nat
 len:∀ {w P x cs},R w P x cs→cs.length=size
 upd:∀ {w w' S P Q x cs},Upd S w w'→(∀ k,P k→¬S k)→(∀ k,P k→Q k)→R w P x cs→R w' Q x cs
 lt:∀ {w P x cs},R w P x cs→R w (fun k=>P k∧k<w.heap.size) x cs
theorem Try.elKL:Elem Try.prog 22 80 (.agg #[.string ⟨#[]⟩,.bool false,.int .i64 0,.string ⟨#[]⟩,.bool false,.int .u64 0,.slice none 0 0,.slice none 0 0,.string ⟨#[]⟩,.string ⟨#[]⟩,.string ⟨#[]⟩]) 11 160:=⟨Try.underlying22,by kernel_rfl,by decide⟩
open Go.RowKit
open Go.RowKit
end Go.Proofs.Ytmlghmjjlpioeaa
