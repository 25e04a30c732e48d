/-
  To nearest, ties to even, in whole numbers: the reference's ten bits more.
-/
import Derived.Test.YtmlghmjjlpioeaaFmA
namespace Go.Proofs.Ytmlghmjjlpioeaa.Fm
def K (S j m:Nat):Prop:=m<2^64∧m=stk (1024*S) j∧(2^61≤m∨m*2^j=1024*S)
end Go.Proofs.Ytmlghmjjlpioeaa.Fm
