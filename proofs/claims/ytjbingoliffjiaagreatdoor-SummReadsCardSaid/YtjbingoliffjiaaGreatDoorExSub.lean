/-
  Exemplars as a part of lists.
-/
import Derived.Test.YtjbingoliffjiaaGreatDoorRowL
import Derived.Test.YtjbingoliffjiaaGreatDoorFld
namespace Go.Proofs.YtjbingoliffjiaaGreatDoor
open Go.RowKit
theorem rF_len9 {num:Nat} (hn:num≤15) (n:Nat):(rF num n).raw.length≤9:=by
 show (vput (8 * num+1)++eight 8 n).length≤9
 rw[List.length_append,vput_one (by omega)];have:=eight_len 8 n;omega
theorem num_seg9 {num:Nat} (hn:num≤15) (n:Nat):(if n=0 then [] else (rF num n).raw).length≤9:=by
 split
 ·simp
 ·exact rF_len9 hn n
end Go.Proofs.YtjbingoliffjiaaGreatDoor
