/-
  NumsK, MgEach
-/
import Derived.Test.YtoggpnfeioaidaaDoorMsgRead
import Derived.Test.YtoggpnfeioaidaaDoorMsgMath
import Derived.Test.YtoggpnfeioaidaaDoorOrd
import Derived.Test.YtoggpnfeioaidaaDoorMsgWrite
import Derived.Laws.OwnMore
import Derived.Test.YtoggpnfeioaidaaDoorMxIs
import Derived.Test.YtoggpnfeioaidaaDoorFmB
import Derived.Test.YtoggpnfeioaidaaDoorAlikeB
set_option maxRecDepth 1000000
set_option maxHeartbeats 16000000
namespace Go.Proofs.YtoggpnfeioaidaaDoor
open Go.RowKit
def natCel:Cel Nat where
 R _ _ n cs:=cs=[.int .u64 (n:Int)]
 size:=1
 len:=by intro w P n cs h;rw[h];rfl
 upd:=by intro w w' S P Q n cs hu hs hq h;exact h
 lt:=fun h=>h
theorem nats_of_rels {w:World} {P:Nat→Prop} {l:List Nat} {ao:Option Addr} (h:CRels natCel w P l ao):Nats .u64 w ao l:=fun hn=>by
 have hl:0<l.length:=List.length_pos_iff.2 hn
 obtain ⟨g,off,cs,rfl,hP,hg,_,_⟩:=h 0 hl
 refine ⟨g,off,rfl,hg,fun j hj=>?_⟩
 obtain ⟨g',off',cs',he,_,_,hc,hr⟩:=h j hj
 simp only[Option.some.injEq,Addr.mk.injEq] at he
 obtain ⟨rfl,rfl,_⟩:=he
 have hr:cs'=[.int .u64 (l[j]:Int)]:=hr
 subst hr
 have:=hc 0 (by simp)
 rw[show off+natCel.size * j+0=off+j from by show off+1 * j+0=_;omega] at this
 simpa using this
theorem rels_of_nats {w:World} {P:Nat→Prop} {l:List Nat} {ao:Option Addr} (h:Nats .u64 w ao l) (hP:∀ b off,ao=some ⟨b,off,none⟩→b<w.heap.size→P b):CRels natCel w P l ao:=fun j hj=>by
 obtain ⟨b,off,rfl,hb,hc⟩:=h (by intro e;subst e;simp at hj)
 refine ⟨b,off,[.int .u64 (l[j]:Int)],rfl,hP b off rfl hb,hb,fun i hi=>?_,rfl⟩
 have h0:i=0:=by simp at hi;omega
 subst h0
 have:=hc j hj
 rw[show off+natCel.size * j+0=off+j from by show off+1 * j+0=_;omega]
 simpa using this
open Go.RowKit
theorem Tryd.elU64n:Elem Tryd.prog 26 23 (.int .u64 0) 1 8:=⟨Tryd.underlying26,by kernel_rfl,by decide⟩
open Go.RowKit
structure Pt where
 off:Int
 cs:List Nat
 sh:Nat
def Pt.pl (x:Pt) (i:Nat):Int:=(x.off+(i:Int)) / 2 ^ x.sh
def Pt.ct (x:Pt) (i:Nat):Nat:=x.cs.getD i 0
def Pt.pls (x:Pt) (k:Nat):List (Int × Nat):=((List.range k).filter (fun i=>x.ct i≠0)).map (fun i=>(x.pl i,x.ct i))
theorem pls_no {x:Pt} {k:Nat} (h:x.ct k=0):x.pls (k+1)=x.pls k:=by
 unfold Pt.pls
 rw[List.range_succ,List.filter_append,List.map_append]
 simp[h]
theorem pls_yes {x:Pt} {k:Nat} (h:x.ct k≠0):x.pls (k+1)=x.pls k++[(x.pl k,x.ct k)]:=by
 unfold Pt.pls
 rw[List.range_succ,List.filter_append,List.map_append]
 simp[h]
structure Pt.Ok (x:Pt):Prop where
 lo : -2147483648≤x.off
 hi:x.off≤2147483647
 len:x.cs.length≤1000000
 sh:x.sh≤31
 each:∀ n∈x.cs,n<18446744073709551616
theorem getD_lt9 {l:List Nat} (h:∀ n∈l,n<18446744073709551616) (i:Nat):l.getD i 0<18446744073709551616:=by
 rw[List.getD_eq_getElem?_getD]
 cases hg:l[i]? with
 | none=>simp
 | some n=>exact h n (List.mem_of_getElem? hg)
theorem ct_at {w:World} {ao:Option Addr} {x:Pt} (h:Nats .u64 w ao x.cs) {i:Nat} (hi:i<x.cs.length):∃ b off n,Hid (n=x.ct i)∧ao=some ⟨b,off,none⟩∧b<w.heap.size∧w.cell? ⟨b,off+i,none⟩=some (.int .u64 (n:Int)):=by
 obtain ⟨b,off,n,h1,h2,h3,h4⟩:=h.at hi
 exact ⟨b,off,n,Lib.hid (by unfold Pt.ct;rw[h1.out,List.getD_eq_getElem?_getD,List.getElem?_eq_getElem hi];rfl),h2,h3,h4⟩
theorem Nats.updS {S:Nat→Prop} {w w':World} {ao:Option Addr} {l:List Nat} (h:Nats .u64 w ao l) (hu:Upd S w w') (hs:l≠[]→∀ b off,ao=some ⟨b,off,none⟩→¬S b):Nats .u64 w' ao l:=fun hn=>by
 obtain ⟨b,off,rfl,hb,hc⟩:=h hn
 refine ⟨b,off,rfl,Nat.lt_of_lt_of_le hb hu.size,fun j hj=>?_⟩
 have h1:=hc j hj
 have h2:=hu.block b hb (hs hn b off rfl)
 unfold World.cell? at h1 ⊢
 rw[h2];exact h1
theorem each_any (fid:Nat) (HE:∀ (args:Array Value) (w:World),(callFunc fid args).run Tryd.prog w = .ok (.enter fid args) w) (caps:Array Value) (x:Pt) (hx:Hid x.Ok) (bo:Option Addr) (cap:Nat) (U:ByteArray) (w:World) (S:Nat→Prop) (hS:Hid (∀ k,S k→k<w.heap.size)) (hN:Hid (Nats .u64 w bo x.cs)) (hNS:Hid (x.cs≠[]→∀ b off,bo=some ⟨b,off,none⟩→¬S b))
  (I:Nat→World→Prop) (h0:Hid (∀ w',Upd S w w'→w'=w.alloc (.cells #[.int .i32 x.off,.slice bo x.cs.length cap,.string U,.int .i64 (x.sh:Int)] 65)→I 0 w'))
  (hstep:Hid (∀ i wr,i<x.cs.length→x.ct i≠0→Upd S w wr→I i wr→Calls Tryd.prog fid (#[.int .i64 (x.pl i),.int .u64 (x.ct i:Int)]++caps) wr (fun e w'=>e = .returned (.tuple #[])∧Upd S wr w'∧I (i+1) w')))
  (hzero:Hid (∀ i wr,x.ct i=0→I i wr→I (i+1) wr)) :
  Calls Tryd.prog 40 #[.agg #[.int .i32 x.off,.slice bo x.cs.length cap,.string U,.int .i64 (x.sh:Int)],.func (.func fid) #[] caps] w fun e w'=>e = .returned (.tuple #[])∧Upd S w w'∧I x.cs.length w':=by
 have hxl:=hx.out.len
 have hxo:=hx.out.lo
 have hxh:=hx.out.hi
 have hxs:=hx.out.sh
 obtain ⟨bx,hbx⟩:∃ b,w.heap.size=b:=⟨_,rfl⟩
 obtain ⟨w1,hw1⟩:∃ W,w.alloc (.cells #[.int .i32 x.off,.slice bo x.cs.length cap,.string U,.int .i64 (x.sh:Int)] 65)=W:=⟨_,rfl⟩
 have HU1:Hid (Upd S w w1):=Lib.hid (by rw[←hw1];exact Upd.alloc _ _ _)
 have HX1:Hid (w1.heap[bx]? = some (.cells #[.int .i32 x.off,.slice bo x.cs.length cap,.string U,.int .i64 (x.sh:Int)] 65 (0,0))):=Lib.hid (by rw[←hw1,←hbx];exact heap_alloc_new w _)
 have HI0:=Lib.hid (h0.out w1 HU1.out hw1.symm)
 have HSX:Hid (¬S bx):=Lib.hid (fun h=>by have:=hS.out bx h;omega)
 have HBX:=Lib.hid hbx
 have HW1:=Lib.hid hw1
 clear hw1 hbx h0
 go_enter Tryd.func40,Tryd.ntmps40
 go_upto_region 1 with fail
 rw[HW1.out,HBX.out]
 have hc1:w1.cell? ⟨bx,1,none⟩=some (.slice bo x.cs.length cap):=row_cell HX1.out (j:=1) rfl
 go_wp2_with fail
 clear hc1
 have HUW:Hid (Upd S w1 w1):=Lib.hid (Upd.refl _ _)
 go_loopg [10] x.cs.length (fun k i wr=>∃ j:Nat,i = .int .i64 (j:Int)∧j+k=x.cs.length∧Hid (Upd S w1 wr)∧Hid (I j wr))
 case atStart=>exact ⟨0,rfl,by omega,HUW,HI0⟩
 case round =>
  obtain ⟨j,rfl,hj,HU,HI⟩:=hrel
  have HJ:=Lib.hid hj
  clear hj
  have HX:=Lib.hid ((HU.out.block bx (row_lt HX1.out) HSX.out).trans HX1.out)
  have HUA:=Lib.hid (HU1.out.trans HU.out)
  by_cases hlt:j<x.cs.length
  ·obtain ⟨g,o,n,HNN,rfl,hg,hc⟩:=ct_at (hN.out.updS HUA.out hNS.out) hlt
   have hn9:n<18446744073709551616:=by rw[HNN.out];exact getD_lt9 hx.out.each j
   by_cases h0:n=0
   ·have e1:((n:Int) != 0)=false:=by rw[bne_eq_false_iff_eq];omega
    have e2:(n != 0)=false:=by rw[bne_eq_false_iff_eq];exact h0
    have HI2:=Lib.hid (hzero.out j wr (by rw[←HNN.out];exact h0) HI.out)
    clear h0
    go_wp2_with fail
    have hj:=HJ.out
    go_roundg (gk - 1)
    case measure=>omega
    case rel=>exact ⟨j+1,by simp,by omega,HU,HI2⟩
   ·have e1:((n:Int) != 0)=true:=by rw[bne_iff_ne];omega
    have e2:(n != 0)=true:=by rw[bne_iff_ne];exact h0
    have hc0:wr.cell? ⟨bx,0,none⟩=some (.int .i32 x.off):=row_cell HX.out (j:=0) rfl
    have hc3:wr.cell? ⟨bx,3,none⟩=some (.int .i64 (x.sh:Int)):=row_cell HX.out (j:=3) rfl
    have q1:IntKind.i64.wrap x.off=x.off:=IntWalk.i64_in _ (by omega)
    have q2:IntKind.i64.wrap (x.off+(j:Int))=x.off+(j:Int):=IntWalk.i64_in _ (by omega)
    have q3:min x.sh 64=x.sh:=by omega
    have HST:=Lib.hid (hstep.out j wr hlt (by rw[←HNN.out];exact h0) HUA.out HI.out)
    rw[←HNN.out] at HST
    clear h0
    go_wp2_with fail
    refine HST.out.mono ?_;rintro e w2 ⟨rfl,hu,hi⟩
    have HU2:=Lib.hid (HU.out.trans hu)
    have HI2:=Lib.hid hi
    clear hu hi hc0 hc3
    go_wp2_with fail
    have hj:=HJ.out
    go_roundg (gk - 1)
    case measure=>omega
    case rel=>exact ⟨j+1,by simp,by omega,HU2,HI2⟩
  ·have hje:j=x.cs.length:=by have:=HJ.out;omega
   subst hje
   go_wp2_with fail
   (try simp only[Exit.inBlock,Exit.then])
   refine bodyPost_end (results_none rfl _ _ _) rfl ?_
   exact ⟨rfl,HUA.out,HI.out⟩
end Go.Proofs.YtoggpnfeioaidaaDoor
