/-
  strings.Builder: its check of copies, WriteString and String, over this program.
-/
import Derived.Test.YtmlghmjjlpioeaaKit
import Derived.Lib.Builder
import Derived.Lib.AppendStr
import Derived.Lib.UnsafeStr
import Derived.Laws.Externs
import Derived.Laws.IdiomCopy
import Derived.Shelf.Strings.Builder1
import Derived.ProofKit
import Derived.Test.YtmlghmjjlpioeaaUpd
import Derived.Deep.LoopGhost
import Derived.Deep.QuietTactic
import Derived.Laws.AppendOwnNone
import Derived.Shelf.Strings.OnBuilder
import Derived.Test.YtmlghmjjlpioeaaProg
import Derived.Test.YtmlghmjjlpioeaaOrd
import Derived.Test.YtmlghmjjlpioeaaMsgMath
import Derived.Test.YtmlghmjjlpioeaaWireR5
import Derived.Test.YtmlghmjjlpioeaaUtf2
import Derived.Deep.Cut
namespace Go.Proofs.Ytmlghmjjlpioeaa
open Lib (hid)
open Go.RowKit Go.Shelf
open Go.ChangeShapes Go.WideShapes Go.ChangeAt Go.RowKit
def Nats (k:IntKind)(w:World)(ao:Option Addr)(l:List Nat):Prop :=
 l≠[]→∃ b off,ao=some ⟨b,off,none⟩∧b<w.heap.size∧∀ j (h:j<l.length),w.cell? ⟨b,off+j,none⟩=some (.int k ((l[j]:Nat):Int))
theorem Nats.below {k:IntKind}{w w':World}{ao:Option Addr}{l:List Nat}(h:Nats k w ao l)(hb:Below w.heap.size w w'):Nats k w' ao l:=fun hn=>by
 obtain ⟨b,off,e,hlt,hc⟩:=h hn
 exact ⟨b,off,e,Nat.lt_of_lt_of_le hlt hb.size,fun j hj=>(hb.cell (p:=⟨b,off+j,none⟩) hlt).trans (hc j hj)⟩
theorem Nats.at {k:IntKind}{w:World}{ao:Option Addr}{l:List Nat}(h:Nats k w ao l){i:Nat}(hi:i<l.length):∃ b off n,Hid (n=l[i])∧ao=some ⟨b,off,none⟩∧b<w.heap.size∧w.cell? ⟨b,off+i,none⟩=some (.int k ((n:Nat):Int)):=by
 obtain ⟨b,off,e,hlt,hc⟩:=h (by intro e;subst e;simp at hi)
 exact ⟨b,off,l[i],hid rfl,e,hlt,hc i hi⟩
open Go.RowKit
open Go.ChangeShapes Go.WideShapes Go.ChangeAt Go.RowKit
open Go.RowKit
open Go.RowKit
open Go.RowKit
open Go.RowKit
end Go.Proofs.Ytmlghmjjlpioeaa
