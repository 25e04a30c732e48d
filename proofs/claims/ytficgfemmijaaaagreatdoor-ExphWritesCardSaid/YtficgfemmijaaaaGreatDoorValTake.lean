/-
  message.Parts: Add, Has, Bytes.
-/
import Derived.Test.YtficgfemmijaaaaGreatDoorMsgRead
import Derived.Test.YtficgfemmijaaaaGreatDoorUtf2
import Derived.Test.YtficgfemmijaaaaGreatDoorJoinLaid
import Derived.Test.YtficgfemmijaaaaGreatDoorGet
import Derived.Test.YtficgfemmijaaaaGreatDoorVal
import Derived.Deep.Cut
import Derived.Test.YtficgfemmijaaaaGreatDoorOrd
import Derived.IntWalk
import Derived.Deep.MidRow
import Derived.Test.YtficgfemmijaaaaGreatDoorUpd
set_option maxRecDepth 1000000
set_option maxHeartbeats 16000000
namespace Go.Proofs.YtficgfemmijaaaaGreatDoor
open Go.RowKit
open Lib (hid)
theorem padd_any {cs:Array Value}{T:TypeId}(b o:Nat)(v:Value)(ps:List (List UInt8))(B:Nat)(t:List UInt8)(w:World)(hrow:Hid (w.heap[b]? = some (.cells cs T (0,0))))(hcs:cs[o]? = some v)(hown:Hid (w.ownsRow B 9 1 v ps.length (ps.map strV)))(hbB:b<B)(hB:B≤w.heap.size)(hl:ps.length≤1000000) :
  Calls Tryz.prog 78 #[.pointer (some ⟨b,o,none⟩),strV t] w fun e w'=>e = .returned (.tuple #[])∧Upd (fun k=>k=b∨v.ownBlock=some k) w w'∧∃ v',w'.heap[b]? = some (.cells (cs.setIfInBounds o v') T (0,0))∧w'.ownsRow B 9 1 v' (ps++[t]).length ((ps++[t]).map strV)∧∀ k,v'.ownBlock=some k→v.ownBlock=some k∨w.heap.size≤k:=by
 obtain ⟨X,hX⟩:∃ X:ByteArray,(⟨t.toArray⟩:ByteArray)=X:=⟨_,rfl⟩
 have HX:=hid hX;obtain ⟨ao,cap,rfl⟩:=own_slice hown.out;have hcb:w.cell? ⟨b,o,none⟩=some (.slice ao ps.length cap):=row_cell hrow.out (j:=o) hcs;have hbw:=row_lt hrow.out;unfold strV;rw[hX];clear hX;go_enter Tryz.func78,Tryz.ntmps78;go_wp2_with (at_builtin;refine wpList_app1_at (c:=1) (cs:=[.string X]) rfl _ _ 53 rfl Tryz.elStrM (by decide) hown.out rfl (by show Value.slice (some ⟨w.heap.size,0,none⟩) 1 1=_;simp) rfl (by simp[Value.oneCell']) (by unfold maxLen;omega) (by omega) (by omega) ?_;intro g' cap' w2 hown2 hgrow hng;have HR2:Hid (w2.heap[b]? = some (.cells cs T (0,0))):=hid ((hgrow.block _ hbw (fun e=>by have h7:=(hown.out.lt _ e.symm).1;omega)).trans hrow.out);have hc1':w2.cell? ⟨b,o,none⟩=some (.slice ao ps.length cap):=row_cell HR2.out (j:=o) hcs;have hfz1:w2.frozen? ⟨b,o,none⟩=false:=row_thaw HR2.out o)
 go_end0
 have hgu:Upd (fun k=>(Value.slice ao ps.length cap).ownBlock=some k) w w2:=Upd.of_grown hgrow;have hu1:=Upd.set w2 ⟨b,o,none⟩ (.slice (some ⟨g',0,none⟩) (ps.length+1) cap');refine ⟨rfl,(hgu.mono fun k _ h => .inr h).trans (hu1.mono fun k _ h => .inl h),.slice (some ⟨g',0,none⟩) (ps.length+1) cap',row_set HR2.out o _,?_,fun k hk=>?_⟩
 ·have h9:=hu1.own hown2 (fun k hk e=>by have e:k=b:=e;have:=(hown2.lt k hk).1;omega)
  rw[List.length_append,List.map_append,List.map_cons,List.map_nil];rw[HX.out];exact h9
 ·have hk':g'=k:=by simpa [Value.ownBlock] using hk
  subst hk';exact hng
theorem phas_any {cs:Array Value}{T:TypeId}(b o:Nat)(ao:Option Addr)(n cap:Nat)(w:World)(hrow:Hid (w.heap[b]? = some (.cells cs T (0,0))))(hcs:cs[o]? = some (.slice ao n cap)) :
  Calls Tryz.prog 82 #[.pointer (some ⟨b,o,none⟩)] w fun e w'=>e = .returned (.bool (decide (0<n)))∧w=w':=by
 have hcb:w.cell? ⟨b,o,none⟩=some (.slice ao n cap):=row_cell hrow.out (j:=o) hcs;go_enter Tryz.func82,Tryz.ntmps82;go_wp2_with fail;go_ret;exact ⟨rfl,rfl⟩
theorem pbytes_any {cs:Array Value}{T:TypeId}(b o:Nat)(v:Value)(ps:List (List UInt8))(B:Nat)(w:World)(hrow:Hid (w.heap[b]? = some (.cells cs T (0,0))))(hcs:cs[o]? = some v)(hown:Hid (w.ownsRow B 9 1 v ps.length (ps.map strV)))(hl:ps.length≤1000000)(hf:ps.flatten.length≤10000000) :
  Calls Tryz.prog 83 #[.pointer (some ⟨b,o,none⟩)] w fun e w'=>e = .returned (.string ⟨ps.flatten.toArray⟩)∧Below w.heap.size w w':=by
 obtain ⟨ao,cap,rfl⟩:=own_slice hown.out;have hcb:w.cell? ⟨b,o,none⟩=some (.slice ao ps.length cap):=row_cell hrow.out (j:=o) hcs
 have hcap:ps.length≤cap:=by
  rcases Nat.eq_zero_or_pos ps.length with h|h
  ·omega
  ·obtain ⟨_,cg,hv,_,_,h9,_⟩:=own_some hown.out h
   simp only[Value.slice.injEq] at hv
   omega
 have HS:=hid (strs_of_own hown.out);go_enter Tryz.func83,Tryz.ntmps83;go_wp2_with fail;refine (join_any ao cap ps _ HS.out hcap (by omega) (by omega)).mono ?_;rintro e w2 ⟨rfl,hb2⟩;have HB2:=hid hb2;clear hb2;go_wp2_with fail;go_ret;exact ⟨rfl,HB2.out⟩
open Go.RowKit
open Go.RowKit
theorem vtakes_any (r:Rec)(w:World):Calls Tryz.prog 169 #[.int .i64 r.num,.int .i64 r.ty] w fun e w'=>e = .returned (.bool (vtk r))∧w=w':=by
 obtain ⟨num,ty,n,s,raw⟩:=r
 by_cases h1:num=1
 ·subst h1
  have hb:Hid (vtk ⟨1,ty,n,s,raw⟩=((ty:Int) == (2:Int))):=hid (by rw[show ((2:Int))=((2:Nat):Int) from rfl,ibeq];unfold vtk;simp);go_enter Tryz.func169,Tryz.ntmps169;go_wp2_with fail;go_ret;exact ⟨by rw[hb.out];rfl,rfl⟩
 by_cases h5:num=5
 ·subst h5
  have hb:Hid (vtk ⟨5,ty,n,s,raw⟩=((ty:Int) == (2:Int))):=hid (by rw[show ((2:Int))=((2:Nat):Int) from rfl,ibeq];unfold vtk;simp);go_enter Tryz.func169,Tryz.ntmps169;go_wp2_with fail;go_ret;exact ⟨by rw[hb.out];rfl,rfl⟩
 by_cases h6:num=6
 ·subst h6
  have hb:Hid (vtk ⟨6,ty,n,s,raw⟩=((ty:Int) == (2:Int))):=hid (by rw[show ((2:Int))=((2:Nat):Int) from rfl,ibeq];unfold vtk;simp);go_enter Tryz.func169,Tryz.ntmps169;go_wp2_with fail;go_ret;exact ⟨by rw[hb.out];rfl,rfl⟩
 by_cases h7:num=7
 ·subst h7
  have hb:Hid (vtk ⟨7,ty,n,s,raw⟩=((ty:Int) == (2:Int))):=hid (by rw[show ((2:Int))=((2:Nat):Int) from rfl,ibeq];unfold vtk;simp);go_enter Tryz.func169,Tryz.ntmps169;go_wp2_with fail;go_ret;exact ⟨by rw[hb.out];rfl,rfl⟩
 by_cases h2:num=2
 ·subst h2
  have hb:Hid (vtk ⟨2,ty,n,s,raw⟩=((ty:Int) == (0:Int))):=hid (by rw[show ((0:Int))=((0:Nat):Int) from rfl,ibeq];unfold vtk;simp);go_enter Tryz.func169,Tryz.ntmps169;go_wp2_with fail;go_ret;exact ⟨by rw[hb.out];rfl,rfl⟩
 by_cases h3:num=3
 ·subst h3
  have hb:Hid (vtk ⟨3,ty,n,s,raw⟩=((ty:Int) == (0:Int))):=hid (by rw[show ((0:Int))=((0:Nat):Int) from rfl,ibeq];unfold vtk;simp);go_enter Tryz.func169,Tryz.ntmps169;go_wp2_with fail;go_ret;exact ⟨by rw[hb.out];rfl,rfl⟩
 by_cases h4:num=4
 ·subst h4
  have hb:Hid (vtk ⟨4,ty,n,s,raw⟩=((ty:Int) == (1:Int))):=hid (by rw[show ((1:Int))=((1:Nat):Int) from rfl,ibeq];unfold vtk;simp);go_enter Tryz.func169,Tryz.ntmps169;go_wp2_with fail;go_ret;exact ⟨by rw[hb.out];rfl,rfl⟩
 have d1:((num:Int) == (1:Int))=false:=by rw[beq_eq_false_iff_ne];omega
 have d5:((num:Int) == (5:Int))=false:=by rw[beq_eq_false_iff_ne];omega
 have d6:((num:Int) == (6:Int))=false:=by rw[beq_eq_false_iff_ne];omega
 have d7:((num:Int) == (7:Int))=false:=by rw[beq_eq_false_iff_ne];omega
 have d2:((num:Int) == (2:Int))=false:=by rw[beq_eq_false_iff_ne];omega
 have d3:((num:Int) == (3:Int))=false:=by rw[beq_eq_false_iff_ne];omega
 have d4:((num:Int) == (4:Int))=false:=by rw[beq_eq_false_iff_ne];omega
 have hb:Hid (vtk ⟨num,ty,n,s,raw⟩=false):=hid (by unfold vtk;simp;omega);clear h1 h5 h6 h7 h2 h3 h4;go_enter Tryz.func169,Tryz.ntmps169;go_wp2_with fail;go_ret;exact ⟨by rw[hb.out];rfl,rfl⟩
theorem ktakes_any (r:Rec)(w:World):Calls Tryz.prog 130 #[.int .i64 r.num,.int .i64 r.ty] w fun e w'=>e = .returned (.bool (ktk r))∧w=w':=by
 obtain ⟨num,ty,n,s,raw⟩:=r
 by_cases h1:num=1
 ·subst h1
  have hb:Hid (ktk ⟨1,ty,n,s,raw⟩=((ty:Int) == (2:Int))):=hid (by rw[show ((2:Int))=((2:Nat):Int) from rfl,ibeq];unfold ktk;simp);go_enter Tryz.func130,Tryz.ntmps130;go_wp2_with fail;go_ret;exact ⟨by rw[hb.out];rfl,rfl⟩
 by_cases h2:num=2
 ·subst h2
  have hb:Hid (ktk ⟨2,ty,n,s,raw⟩=((ty:Int) == (2:Int))):=hid (by rw[show ((2:Int))=((2:Nat):Int) from rfl,ibeq];unfold ktk;simp);go_enter Tryz.func130,Tryz.ntmps130;go_wp2_with fail;go_ret;exact ⟨by rw[hb.out];rfl,rfl⟩
 have d1:((num:Int) == (1:Int))=false:=by rw[beq_eq_false_iff_ne];omega
 have d2:((num:Int) == (2:Int))=false:=by rw[beq_eq_false_iff_ne];omega
 have hb:Hid (ktk ⟨num,ty,n,s,raw⟩=false):=hid (by unfold ktk;simp;omega);clear h1 h2;go_enter Tryz.func130,Tryz.ntmps130;go_wp2_with fail;go_ret;exact ⟨by rw[hb.out];rfl,rfl⟩
theorem itakes_any (r:Rec)(w:World):Calls Tryz.prog 191 #[.int .i64 r.num,.int .i64 r.ty] w fun e w'=>e = .returned (.bool (itk r))∧w=w':=by
 obtain ⟨num,ty,n,s,raw⟩:=r
 by_cases h1:num=1
 ·subst h1
  have hb:Hid (itk ⟨1,ty,n,s,raw⟩=((ty:Int) == (2:Int))):=hid (by rw[show ((2:Int))=((2:Nat):Int) from rfl,ibeq];unfold itk;simp);go_enter Tryz.func191,Tryz.ntmps191;go_wp2_with fail;go_ret;exact ⟨by rw[hb.out];rfl,rfl⟩
 have d1:((num:Int) == (1:Int))=false:=by rw[beq_eq_false_iff_ne];omega
 have hb:Hid (itk ⟨num,ty,n,s,raw⟩=false):=hid (by unfold itk;simp;omega);clear h1;go_enter Tryz.func191,Tryz.ntmps191;go_wp2_with fail;go_ret;exact ⟨by rw[hb.out];rfl,rfl⟩
open Go.RowKit
open Go.RowKit
open Go.RowKit
theorem VRel.form {w:World}{P:Nat→Prop}:∀ {x:Val} {c:List Value},VRel w P x c→∃ (k:Int) (S:ByteArray) (b0:Bool) (n:Int) (lo:Option Addr) (ln lc:Nat) (mo:Option Addr) (mn mc:Nat) (I U:ByteArray),c=[.int .i64 k,.string S,.bool b0,.int .u64 n,.slice lo ln lc,.slice mo mn mc,.string I,.string U]
 | .mk _ _ _ _ _ _ _ _,c,h=>by
  rw[VRel] at h;obtain ⟨lo,lc,mo,mc,rfl,_⟩:=h;exact ⟨_,_,_,_,_,_,_,_,_,_,_,_,rfl⟩
theorem KRel.form {w:World}{P:Nat→Prop}:∀ {x:KV} {c:List Value},KRel w P x c→∃ (K0:ByteArray) (h0:Bool) (k:Int) (S:ByteArray) (b0:Bool) (n:Int) (lo:Option Addr) (ln lc:Nat) (mo:Option Addr) (mn mc:Nat) (I U U0:ByteArray),c=[.string K0,.bool h0,.int .i64 k,.string S,.bool b0,.int .u64 n,.slice lo ln lc,.slice mo mn mc,.string I,.string U,.string U0]
 | .mk _ _ _ _,c,h=>by
  rw[KRel] at h;obtain ⟨cs,h1,rfl⟩:=h;obtain ⟨k,S,b0,n,lo,ln,lc,mo,mn,mc,I,U,rfl⟩:=h1.form;exact ⟨_,_,_,_,_,_,_,_,_,_,_,_,_,_,_,rfl⟩
structure Cel (α:Type) where
 R:World→(Nat→Prop)→α→List Value→Prop
 size:Nat
 len:∀ {w P x cs},R w P x cs→cs.length=size
 upd:∀ {w w' S P Q x cs},Upd S w w'→(∀ k,P k→¬S k)→(∀ k,P k→Q k)→R w P x cs→R w' Q x cs
 lt:∀ {w P x cs},R w P x cs→R w (fun k=>P k∧k<w.heap.size) x cs
open Go.RowKit
open Go.RowKit
end Go.Proofs.YtficgfemmijaaaaGreatDoor
