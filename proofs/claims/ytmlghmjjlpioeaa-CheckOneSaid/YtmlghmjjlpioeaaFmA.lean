/-
  To nearest, ties to even, in whole numbers: the code's three bits more.
-/
namespace Go.Proofs.Ytmlghmjjlpioeaa.Fm
def stk (x j:Nat):Nat:=if x % 2^j=0 then x / 2^j else x / 2^j / 2 * 2+1
def g (f:Nat):Nat:=f/4+(if f%4=3∨(f%4=2∧f/4%2=1) then 1 else 0)
def rne (S k:Nat):Nat:=g (stk (4*S) k)
def inf:Nat:=2047 * 2^52
def rk (S:Nat):Nat:=S.log2 - 52
def rnd (S:Nat):Nat:=min (rk S * 2^52+rne S (rk S)) inf
def dec (x:Nat):Nat:=if x<2^52 then x else (x % 2^52+2^52) * 2^(x/2^52 - 1)
end Go.Proofs.Ytmlghmjjlpioeaa.Fm
