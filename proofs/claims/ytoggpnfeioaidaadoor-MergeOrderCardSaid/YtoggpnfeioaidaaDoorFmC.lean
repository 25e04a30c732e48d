/-
  The sum of two doubles, and what follows.
-/
import Derived.Test.YtoggpnfeioaidaaDoorFmB
namespace Go.Proofs.YtoggpnfeioaidaaDoor.Fm
def sg (x:Nat):Nat:=x / 2^63
def sz (x:Nat):Nat:=x % 2^63
theorem inf_lt:inf<2^63:=by decide
def cls (x:Nat):Nat:=if inf<sz x then 4 else if sz x=inf then 3 else if 2^52≤sz x then 2 else if 0<sz x then 1 else 0
def quiet (x:Nat):Nat:=if x / 2^51 % 2=1 then x else x+2^51
def fin (a b:Nat):Nat :=
 if sg a=sg b then sg a * 2^63+rnd (dec (sz a)+dec (sz b))
 else if sz a=sz b then 0
 else if sz b<sz a then sg a * 2^63+rnd (dec (sz a) - dec (sz b))
 else sg b * 2^63+rnd (dec (sz b) - dec (sz a))
def add (a b:Nat):Nat :=
 if cls a=4 then quiet a else if cls b=4 then quiet b
 else if cls a=3∧cls b=3∧a≠b then 0x7FF8000000000000
 else if cls a=3 then a else if cls b=3 then b else fin a b
theorem rnd_le (S:Nat):rnd S≤inf:=by unfold rnd;exact Nat.min_le_right _ _
theorem sz_lt (x:Nat):sz x<2^63:=by unfold sz;omega
theorem sg_lt {x:Nat} (h:x<2^64):sg x=0∨sg x=1:=by unfold sg;omega
theorem cls_fin {x:Nat}:cls x≤2↔sz x<inf:=by
 unfold cls
 repeat' split
 all_goals omega
theorem rnd_zero:rnd 0=0:=by
 have:=rnd_dec (x:=0) (by decide)
 rwa [show dec 0=0 by simp[dec]] at this
theorem fin_lt {a b:Nat} (ha:a<2^64) (hb:b<2^64):fin a b<2^64:=by
 have h1:=sg_lt ha;have h2:=sg_lt hb
 have hi:inf<2^63:=by decide
 have r1:=rnd_le (dec (sz a)+dec (sz b));have r2:=rnd_le (dec (sz a) - dec (sz b));have r3:=rnd_le (dec (sz b) - dec (sz a))
 unfold fin
 split
 ·omega
 ·split
  ·omega
  ·split<;>omega
theorem quiet_lt {a:Nat} (ha:a<2^64):quiet a<2^64:=by unfold quiet;split<;>omega
theorem add_lt {a b:Nat} (ha:a<2^64) (hb:b<2^64):add a b<2^64:=by
 have:=fin_lt ha hb;have:=quiet_lt ha;have:=quiet_lt hb
 unfold add
 repeat' split
 all_goals omega
theorem fin_comm {a b:Nat}:fin a b=fin b a:=by
 unfold fin
 by_cases h:sg a=sg b
 ·rw[if_pos h,if_pos h.symm,h,Nat.add_comm (dec (sz a))]
 ·have h':¬sg b=sg a:=fun e=>h e.symm
  rw[if_neg h,if_neg h']
  by_cases h2:sz a=sz b
  ·rw[if_pos h2,if_pos h2.symm]
  ·have h2':¬sz b=sz a:=fun e=>h2 e.symm
   rw[if_neg h2,if_neg h2']
   by_cases h3:sz b<sz a
   ·rw[if_pos h3,if_neg (show ¬sz a<sz b by omega)]
   ·rw[if_neg h3,if_pos (show sz a<sz b by omega)]
def num (x:Nat):Int:=if sg x=1 then -(sz x:Int) else (sz x:Int)
def val (x:Nat):Int:=if sg x=1 then -(dec (sz x):Int) else (dec (sz x):Int)
theorem num_of {x:Nat} (h:sg x≠1):num x=(sz x:Int):=if_neg h
theorem num_of1 {x:Nat} (h:sg x=1):num x = -(sz x:Int):=if_pos h
theorem cls_cases (x:Nat):cls x=4∨cls x=3∨cls x≤2:=by
 unfold cls
 repeat' split
 all_goals omega
end Go.Proofs.YtoggpnfeioaidaaDoor.Fm
