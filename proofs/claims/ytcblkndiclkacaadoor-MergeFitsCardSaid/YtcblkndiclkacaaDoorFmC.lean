/-
  The sum of two doubles, and what follows.
-/
import Derived.Test.YtcblkndiclkacaaDoorMxTake
namespace Go.Proofs.YtcblkndiclkacaaDoor.Fm
def sg (x:Nat):Nat:=x / 2^63
def sz (x:Nat):Nat:=x % 2^63
def cls (x:Nat):Nat:=if inf<sz x then 4 else if sz x=inf then 3 else if 2^52≤sz x then 2 else if 0<sz x then 1 else 0
def quiet (x:Nat):Nat:=if x / 2^51 % 2=1 then x else x+2^51
def fin (a b:Nat):Nat :=
 if sg a=sg b then sg a * 2^63+rnd (dec (sz a)+dec (sz b))
 else if sz a=sz b then 0
 else if sz b<sz a then sg a * 2^63+rnd (dec (sz a) - dec (sz b))
 else sg b * 2^63+rnd (dec (sz b) - dec (sz a))
def add (a b:Nat):Nat :=
 if cls a=4 then quiet a else if cls b=4 then quiet b
 else if cls a=3∧cls b=3∧a≠b then 0x7FF8000000000000
 else if cls a=3 then a else if cls b=3 then b else fin a b
def num (x:Nat):Int:=if sg x=1 then -(sz x:Int) else (sz x:Int)
def val (x:Nat):Int:=if sg x=1 then -(dec (sz x):Int) else (dec (sz x):Int)
end Go.Proofs.YtcblkndiclkacaaDoor.Fm
