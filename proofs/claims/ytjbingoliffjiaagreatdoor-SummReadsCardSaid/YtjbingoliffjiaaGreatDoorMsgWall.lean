/-
  message.Read where there are no records: nothing is taken.
-/
import Derived.Test.YtjbingoliffjiaaGreatDoorMsgRead
set_option maxRecDepth 1000000
set_option maxHeartbeats 16000000
namespace Go.Proofs.YtjbingoliffjiaaGreatDoor
open Go.RowKit
theorem mread_wall (FT FK:Nat) (caps:Array Value) (s:ByteArray) (d:Int) (w:World) (hs:s.size≤1000000) (hd:¬d<0) {c:Nat} (hw:wall s.data.toList d = .error c) :
  Calls Tryz.prog 43 #[.string s,.int .i64 d,.func (.func FT) #[] #[],.func (.func FK) #[] caps] w fun e w'=>∃ v q,e = .returned (.tuple #[.string ⟨#[]⟩,v])∧q≤s.size∧Below w.heap.size w w'∧EW w' v q c:=by
 have d1:decide (d<0)=false:=decide_eq_false hd
 have HW:=Lib.hid hw
 clear hw
 go_enter Tryz.func43,Tryz.ntmps43
 go_wp2_with fail
 refine (all_any s d _ (by omega)).mono ?_;intro e w1 hpost
 unfold AllPost at hpost
 rw[HW.out] at hpost
 obtain ⟨v,rfl,q,hq,hE⟩:=hpost
 obtain ⟨T,y,rfl⟩:=hE.iface
 have HE:=Lib.hid hE
 clear hE
 go_wp2_with fail
 go_ret2
 exact ⟨_,q,rfl,hq,HE.out.2,EW.ofNew HE.out⟩
end Go.Proofs.YtjbingoliffjiaaGreatDoor
