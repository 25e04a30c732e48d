/-
  An exemplar, by its fields.
-/
import Derived.Test.YtjbingoliffjiaaGreatDoorFld
namespace Go.Proofs.YtjbingoliffjiaaGreatDoor
open Go.RowKit
open Go.RowKit
open Go.RowKit
theorem num_seg (num n:Nat):(if n=0 then [] else (rF num n).raw).length≤20:=by
 split
 ·simp
 ·show (vput (8 * num+1)++eight 8 n).length≤20
  have:=vput_le10 (8 * num+1);have:=eight_len 8 n;rw[List.length_append];omega
theorem var_seg (num n:Nat):(if n=0 then [] else (rN num n).raw).length≤20:=by
 split
 ·simp
 ·exact rN_len20 num n
open Go.RowKit
end Go.Proofs.YtjbingoliffjiaaGreatDoor
