/-
  Exemplars as a part of lists.
-/
import Derived.Test.YtmlghmjjlpioeaaRowL
import Derived.Test.YtmlghmjjlpioeaaExBack
namespace Go.Proofs.Ytmlghmjjlpioeaa
open Go.RowKit
open Lib (hid)
def exSb:Sub Ex where
 rd d t:=exrd t d
 out:=ex_out
 may d x:=ex_may d x
 fit x:=exF.fit x.1
 wt:=ex_wt
end Go.Proofs.Ytmlghmjjlpioeaa
