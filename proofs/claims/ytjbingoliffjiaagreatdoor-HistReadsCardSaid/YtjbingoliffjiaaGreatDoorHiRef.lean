/-
  hygref13.ReadHist.
-/
import Derived.Test.YtjbingoliffjiaaGreatDoorExRef
import Derived.Test.YtjbingoliffjiaaGreatDoorHiRead
import Derived.Test.YtjbingoliffjiaaGreatDoorHiTab
import Derived.Test.YtjbingoliffjiaaGreatDoorPackR
set_option maxRecDepth 1000000
set_option maxHeartbeats 16000000
namespace Go.Proofs.YtjbingoliffjiaaGreatDoor
open Go.RowKit
open Lib (hid)
theorem ex_zrelH (w:World)(P:Nat→Prop):exCel.R w P ((0,(((0,0),([],[])),[])),[]) [.slice none 0 0,.int .u64 0,.int .i64 0,.int .u64 0,.string ⟨#[]⟩,.string ⟨#[]⟩,.string ⟨#[]⟩]:=⟨none,0,rfl,by rw[KRels];trivial⟩
theorem LPart.stay {σ:Type}{bx:Nat}{A:LPart σ (bx+1)}{st st':σ}{v:A.V}{P:Nat→Prop}{w w':World}(h:A.rel st v P w)(hu:Upd (fun k=>k=bx) w w')(hs:A.same st st'):A.rel st' v P w' :=
 A.conv hs (A.kept h (hu.mono fun k _ h1 h'=>by have h1:k=bx:=h1;have:=(A.lt h k h').1;omega))
theorem exres {rd:Except Nat Ex}{w:World}{e:Ending}{w':World}(h:RfPost exCel exzero rd w e w'):Below w.heap.size w w'∧∃ (gb:Bool) (x:Ex) (cs:List Value),e = .returned (.tuple #[.agg cs.toArray,.bool gb])∧exCel.R w' (fun k=>w.heap.size≤k) x cs∧(gb=true→rd = .ok x)∧(gb=false→∃ c,rd = .error c):=by
 obtain ⟨hb,h⟩:=h
 refine ⟨hb,?_⟩
 cases rd with
 | error c=>exact ⟨false,_,_,h,ex_zrelH _ _,fun h=>(by cases h),fun _=>⟨c,rfl⟩⟩
 | ok x =>
  obtain ⟨cs,h1,h2⟩:=h
  exact ⟨true,x,cs,h1,h2,fun _=>rfl,fun h=>(by cases h)⟩
theorem hi_refread (X:ByteArray)(d:Int)(w:World)(hX:X.size≤500000)(hd:-9223372036854775808≤d∧d≤9223372036854775807) :
  Calls Tryz.prog 24 #[.string X,.int .i64 d] w (RfPost hiCel hizero (hird X.data.toList d) w):=by
 obtain ⟨g,hg⟩:∃ g,w.heap.size=g:=⟨_,rfl⟩
 obtain ⟨W0,hW0⟩:∃ W0,w.alloc (.cells #[.slice none 0 0,.int .u64 0,.int .u64 0,.int .u64 0,.bool false,.int .u64 0,.bool false,.int .u64 0,.bool false,.int .u64 0,.slice none 0 0,.slice none 0 0,.slice none 0 0,.int .u32 0,.string ⟨#[]⟩] 50)=W0:=⟨_,rfl⟩
 have HB0:Hid (Below w.heap.size w W0):=hid (by rw[←hW0];exact below_new _ _)
 have HG0:Hid (W0.heap[g]? = some (.cells #[.slice none 0 0,.int .u64 0,.int .u64 0,.int .u64 0,.bool false,.int .u64 0,.bool false,.int .u64 0,.bool false,.int .u64 0,.slice none 0 0,.slice none 0 0,.slice none 0 0,.int .u32 0,.string ⟨#[]⟩] 50 (0,0))):=hid (by rw[←hW0,←hg];exact heap_alloc_new w _)
 have hs0:W0.heap.size=g+1:=by rw[←hW0,←hg];simp
 have HF:=hid (fields_any X d W0 (by omega) hd.2)
 have HW0:=hid hW0
 have HGG:=hid hg
 have HS0:=hid hs0
 have HDD:=hid hd
 have HSS:=hid hX
 clear hW0 hd hX hs0 hg
 cases hw:wfields X.data.toList d with
 | error c =>
  have HBR:Hid (hird X.data.toList d = .error c):=hid ((mread_fields (σ:=hiS)).trans (by rw[hw]))
  have HW:=hid hw
  clear hw
  go_enter Tryz.func24,Tryz.ntmps24
  go_wp2_with fail
  rw[HW0.out,HGG.out]
  refine HF.out.mono ?_;intro e w1 hpost
  unfold FieldsPost at hpost
  rw[HW.out] at hpost
  obtain ⟨hb1,rfl⟩:=hpost
  have HB1:=hid (below_step HB0.out hb1)
  have HG1:Hid (w1.heap[g]? = some (.cells #[.slice none 0 0,.int .u64 0,.int .u64 0,.int .u64 0,.bool false,.int .u64 0,.bool false,.int .u64 0,.bool false,.int .u64 0,.slice none 0 0,.slice none 0 0,.slice none 0 0,.int .u32 0,.string ⟨#[]⟩] 50 (0,0))):=hid ((hb1.block _ (row_lt HG0.out)).trans HG0.out)
  clear hb1
  go_wp2_with fail
  obtain ⟨W2,hW2⟩:∃ W2,w1.alloc (.cells #[.slice none 0 0,.int .u64 0,.int .u64 0,.int .u64 0,.bool false,.int .u64 0,.bool false,.int .u64 0,.bool false,.int .u64 0,.slice none 0 0,.slice none 0 0,.slice none 0 0,.int .u32 0,.string ⟨#[]⟩] 50)=W2:=⟨_,rfl⟩
  have HB2:Hid (Below w.heap.size w W2):=hid (by rw[←hW2];exact below_step HB1.out (below_new _ _))
  have HG2:Hid (W2.heap[g]? = some (.cells #[.slice none 0 0,.int .u64 0,.int .u64 0,.int .u64 0,.bool false,.int .u64 0,.bool false,.int .u64 0,.bool false,.int .u64 0,.slice none 0 0,.slice none 0 0,.slice none 0 0,.int .u32 0,.string ⟨#[]⟩] 50 (0,0))):=hid (by rw[←hW2];exact (Below.heap_alloc _ _ _ (row_lt HG1.out)).trans HG1.out)
  rw[hW2]
  clear hW2
  go_loopg [7,9] 0 (fun k b i wr=>b = .bool false∧i = .int .i64 0∧wr=W2)
  case atStart=>exact ⟨rfl,rfl,rfl⟩
  case round =>
   obtain ⟨rfl,rfl,rfl⟩:=hrel
   have hg0:wr.cell? ⟨g,0,none⟩=some (.slice none 0 0):=row_cell HG2.out (j:=0) rfl
   have fg0:wr.frozen? ⟨g,0,none⟩=false:=row_thaw HG2.out 0
   have hg1:wr.cell? ⟨g,1,none⟩=some (.int .u64 0):=row_cell HG2.out (j:=1) rfl
   have fg1:wr.frozen? ⟨g,1,none⟩=false:=row_thaw HG2.out 1
   have hg2:wr.cell? ⟨g,2,none⟩=some (.int .u64 0):=row_cell HG2.out (j:=2) rfl
   have fg2:wr.frozen? ⟨g,2,none⟩=false:=row_thaw HG2.out 2
   have hg3:wr.cell? ⟨g,3,none⟩=some (.int .u64 0):=row_cell HG2.out (j:=3) rfl
   have fg3:wr.frozen? ⟨g,3,none⟩=false:=row_thaw HG2.out 3
   have hg4:wr.cell? ⟨g,4,none⟩=some (.bool false):=row_cell HG2.out (j:=4) rfl
   have fg4:wr.frozen? ⟨g,4,none⟩=false:=row_thaw HG2.out 4
   have hg5:wr.cell? ⟨g,5,none⟩=some (.int .u64 0):=row_cell HG2.out (j:=5) rfl
   have fg5:wr.frozen? ⟨g,5,none⟩=false:=row_thaw HG2.out 5
   have hg6:wr.cell? ⟨g,6,none⟩=some (.bool false):=row_cell HG2.out (j:=6) rfl
   have fg6:wr.frozen? ⟨g,6,none⟩=false:=row_thaw HG2.out 6
   have hg7:wr.cell? ⟨g,7,none⟩=some (.int .u64 0):=row_cell HG2.out (j:=7) rfl
   have fg7:wr.frozen? ⟨g,7,none⟩=false:=row_thaw HG2.out 7
   have hg8:wr.cell? ⟨g,8,none⟩=some (.bool false):=row_cell HG2.out (j:=8) rfl
   have fg8:wr.frozen? ⟨g,8,none⟩=false:=row_thaw HG2.out 8
   have hg9:wr.cell? ⟨g,9,none⟩=some (.int .u64 0):=row_cell HG2.out (j:=9) rfl
   have fg9:wr.frozen? ⟨g,9,none⟩=false:=row_thaw HG2.out 9
   have hg10:wr.cell? ⟨g,10,none⟩=some (.slice none 0 0):=row_cell HG2.out (j:=10) rfl
   have fg10:wr.frozen? ⟨g,10,none⟩=false:=row_thaw HG2.out 10
   have hg11:wr.cell? ⟨g,11,none⟩=some (.slice none 0 0):=row_cell HG2.out (j:=11) rfl
   have fg11:wr.frozen? ⟨g,11,none⟩=false:=row_thaw HG2.out 11
   have hg12:wr.cell? ⟨g,12,none⟩=some (.slice none 0 0):=row_cell HG2.out (j:=12) rfl
   have fg12:wr.frozen? ⟨g,12,none⟩=false:=row_thaw HG2.out 12
   have hg13:wr.cell? ⟨g,13,none⟩=some (.int .u32 0):=row_cell HG2.out (j:=13) rfl
   have fg13:wr.frozen? ⟨g,13,none⟩=false:=row_thaw HG2.out 13
   have hg14:wr.cell? ⟨g,14,none⟩=some (.string ⟨#[]⟩):=row_cell HG2.out (j:=14) rfl
   have fg14:wr.frozen? ⟨g,14,none⟩=false:=row_thaw HG2.out 14
   go_wp2_with fail
   obtain ⟨hr,hua⟩:=hi_set HG2.out (.slice none 0 0) (.int .u64 0) (.int .u64 0) (.int .u64 0) (.bool false) (.int .u64 0) (.bool false) (.int .u64 0) (.bool false) (.int .u64 0) (.slice none 0 0) (.slice none 0 0) (.slice none 0 0) (.int .u32 0) (.string ⟨#[]⟩)
   refine body_cell2v rfl rfl (load_hi hr rfl) rfl ?_
   refine ⟨HB2.out.trans (hua.below (by have:=HB2.out.size;omega) (fun k _ h=>by have h:k=g:=h;have:=HGG.out;omega)),?_⟩
   rw[HBR.out]
   exact rfl
 | ok rs =>
  have HBR:=hid (mread_of_fields (σ:=hiS) (tk:=hiF.tk) (step:=hiF.step d) (st:=hiF.z) hw)
  have HD0:Hid (0≤d):=hid (by unfold wfields at hw;split at hw;cases hw;omega)
  have HWA:Hid (wall X.data.toList d = .ok rs):=hid (by unfold wfields at hw;split at hw;cases hw;exact hw)
  have HLL:Hid (rs.length≤X.size):=hid (by have:=wall_length HWA.out;simpa using this)
  have HRAW:Hid (rs.flatMap Rec.raw=X.data.toList):=hid (wall_raws _ (Nat.le_refl _) HWA.out).1
  have HREC:Hid (∀ r∈rs,IsRec d r):=hid (wall_recs _ (Nat.le_refl _) HWA.out)
  have HW:=hid hw
  clear hw
  go_enter Tryz.func24,Tryz.ntmps24
  go_wp2_with fail
  rw[HW0.out,HGG.out]
  refine HF.out.mono ?_;intro e w1 hpost
  unfold FieldsPost at hpost
  rw[HW.out] at hpost
  obtain ⟨hb1,u,rfl,hown⟩:=hpost
  obtain ⟨lo,lcap,rfl⟩:=own_slice hown
  have HB1:=hid (below_step HB0.out hb1)
  have HO1:=hid hown
  have HG1:Hid (w1.heap[g]? = some (.cells #[.slice none 0 0,.int .u64 0,.int .u64 0,.int .u64 0,.bool false,.int .u64 0,.bool false,.int .u64 0,.bool false,.int .u64 0,.slice none 0 0,.slice none 0 0,.slice none 0 0,.int .u32 0,.string ⟨#[]⟩] 50 (0,0))):=hid ((hb1.block _ (row_lt HG0.out)).trans HG0.out)
  clear hb1 hown
  go_wp2_with fail
  obtain ⟨bx,hbx⟩:∃ bx,w1.heap.size=bx:=⟨_,rfl⟩
  obtain ⟨W2,hW2⟩:∃ W2,w1.alloc (.cells #[.slice none 0 0,.int .u64 0,.int .u64 0,.int .u64 0,.bool false,.int .u64 0,.bool false,.int .u64 0,.bool false,.int .u64 0,.slice none 0 0,.slice none 0 0,.slice none 0 0,.int .u32 0,.string ⟨#[]⟩] 50)=W2:=⟨_,rfl⟩
  have HB2:Hid (Below bx w1 W2):=hid (by rw[←hW2,←hbx];exact below_new _ _)
  have HX2:Hid (W2.heap[bx]? = some (.cells #[.slice none 0 0,.int .u64 0,.int .u64 0,.int .u64 0,.bool false,.int .u64 0,.bool false,.int .u64 0,.bool false,.int .u64 0,.slice none 0 0,.slice none 0 0,.slice none 0 0,.int .u32 0,.string ⟨#[]⟩] 50 (0,0))):=hid (by rw[←hW2,←hbx];exact heap_alloc_new w1 _)
  rw[hW2,hbx]
  have HBX:=hid hbx
  clear hW2 hbx
  go_loopg [7,9] rs.length (fun k b i wr=>∃ (j:Nat) (vl vnc vnb ves:Value) (P1:Nat→Prop) (U:ByteArray) (l:List KV) (va:Nat) (vt:Nat) (vk:Nat) (bp:Bool) (vp:Nat) (bm:Bool) (vm:Nat) (bg:Bool) (vg:Nat) (nc:List Nat) (nb:List Nat) (es:List Ex) (vf:Nat),i = .int .i64 (j:Int)∧j+k=rs.length∧Below bx w1 wr∧wr.heap[bx]? = some (.cells #[vl,.int .u64 (va:Int),.int .u64 (vt:Int),.int .u64 (vk:Int),.bool bp,.int .u64 (vp:Int),.bool bm,.int .u64 (vm:Int),.bool bg,.int .u64 (vg:Int),vnc,vnb,ves,.int .u32 (vf:Int),.string U] 50 (0,0))∧(hiA bx).rel (va,(vt,(vk,((bp,vp),(nc,(nb,(es,(l,(vf,((bm,vm),(bg,vg))))))))))) (vl,(vnc,(vnb,ves))) P1 wr∧l.length≤j∧es.length≤j∧(b = .bool true∧Hid (mfold (σ:=hiS) hiF.tk (hiF.step d) hiF.z (rs.take j) = .ok (va,(vt,(vk,((bp,vp),(nc,(nb,(es,(l,(vf,((bm,vm),(bg,vg)))))))))))∧U.data.toList=munk hiF.tk (rs.take j))∨b = .bool false∧∃ c,mfold (σ:=hiS) hiF.tk (hiF.step d) hiF.z rs = .error c))
  case atStart=>exact ⟨0,.slice none 0 0,.slice none 0 0,.slice none 0 0,.slice none 0 0,fun _=>False,⟨#[]⟩,[],0,0,0,false,0,false,0,false,0,[],[],[],0,rfl,by omega,HB2.out,HX2.out,ltwo_nil (lone_nil rfl) (ltwo_nil (lone_nil rfl) (ltwo_nil (lone_nil rfl) (lone_nil rfl))),Nat.le_refl _,Nat.le_refl _,.inl ⟨rfl,hid ⟨rfl,rfl⟩⟩⟩
  case round =>
   obtain ⟨j,vl,vnc,vnb,ves,P1,U,l,va,vt,vk,bp,vp,bm,vm,bg,vg,nc,nb,es,vf,rfl,hj,hbr,hx,hlb,hxll,hxles,hcase⟩:=hrel
   have HBR1:=hid hbr
   have HX1:=hid hx
   have HJ:=hid hj
   have HLB:=hid hlb
   have hjl:j≤1000000:=by have:=HLL.out;have:=HSS.out;omega
   have HGR:Hid (wr.heap[g]? = some (.cells #[.slice none 0 0,.int .u64 0,.int .u64 0,.int .u64 0,.bool false,.int .u64 0,.bool false,.int .u64 0,.bool false,.int .u64 0,.slice none 0 0,.slice none 0 0,.slice none 0 0,.int .u32 0,.string ⟨#[]⟩] 50 (0,0))):=hid ((hbr.block _ (by have:=row_lt HG1.out;have:=HBX.out;omega)).trans HG1.out)
   have HWB:Hid (Below w.heap.size w wr):=hid (HB1.out.trans (hbr.mono (by have:=HB1.out.size;have:=HBX.out;omega)))
   have HGX:Hid (g<bx):=hid (by have:=row_lt HG1.out;have:=HBX.out;omega)
   clear hbr hx hj hlb
   rcases hcase with ⟨rfl,hst⟩|⟨rfl,c,hm⟩
   case inr =>
    have HBE:Hid (hird X.data.toList d = .error c):=hid (HBR.out.1 c hm)
    clear hm
    have hg0:wr.cell? ⟨g,0,none⟩=some (.slice none 0 0):=row_cell HGR.out (j:=0) rfl
    have fg0:wr.frozen? ⟨g,0,none⟩=false:=row_thaw HGR.out 0
    have hg1:wr.cell? ⟨g,1,none⟩=some (.int .u64 0):=row_cell HGR.out (j:=1) rfl
    have fg1:wr.frozen? ⟨g,1,none⟩=false:=row_thaw HGR.out 1
    have hg2:wr.cell? ⟨g,2,none⟩=some (.int .u64 0):=row_cell HGR.out (j:=2) rfl
    have fg2:wr.frozen? ⟨g,2,none⟩=false:=row_thaw HGR.out 2
    have hg3:wr.cell? ⟨g,3,none⟩=some (.int .u64 0):=row_cell HGR.out (j:=3) rfl
    have fg3:wr.frozen? ⟨g,3,none⟩=false:=row_thaw HGR.out 3
    have hg4:wr.cell? ⟨g,4,none⟩=some (.bool false):=row_cell HGR.out (j:=4) rfl
    have fg4:wr.frozen? ⟨g,4,none⟩=false:=row_thaw HGR.out 4
    have hg5:wr.cell? ⟨g,5,none⟩=some (.int .u64 0):=row_cell HGR.out (j:=5) rfl
    have fg5:wr.frozen? ⟨g,5,none⟩=false:=row_thaw HGR.out 5
    have hg6:wr.cell? ⟨g,6,none⟩=some (.bool false):=row_cell HGR.out (j:=6) rfl
    have fg6:wr.frozen? ⟨g,6,none⟩=false:=row_thaw HGR.out 6
    have hg7:wr.cell? ⟨g,7,none⟩=some (.int .u64 0):=row_cell HGR.out (j:=7) rfl
    have fg7:wr.frozen? ⟨g,7,none⟩=false:=row_thaw HGR.out 7
    have hg8:wr.cell? ⟨g,8,none⟩=some (.bool false):=row_cell HGR.out (j:=8) rfl
    have fg8:wr.frozen? ⟨g,8,none⟩=false:=row_thaw HGR.out 8
    have hg9:wr.cell? ⟨g,9,none⟩=some (.int .u64 0):=row_cell HGR.out (j:=9) rfl
    have fg9:wr.frozen? ⟨g,9,none⟩=false:=row_thaw HGR.out 9
    have hg10:wr.cell? ⟨g,10,none⟩=some (.slice none 0 0):=row_cell HGR.out (j:=10) rfl
    have fg10:wr.frozen? ⟨g,10,none⟩=false:=row_thaw HGR.out 10
    have hg11:wr.cell? ⟨g,11,none⟩=some (.slice none 0 0):=row_cell HGR.out (j:=11) rfl
    have fg11:wr.frozen? ⟨g,11,none⟩=false:=row_thaw HGR.out 11
    have hg12:wr.cell? ⟨g,12,none⟩=some (.slice none 0 0):=row_cell HGR.out (j:=12) rfl
    have fg12:wr.frozen? ⟨g,12,none⟩=false:=row_thaw HGR.out 12
    have hg13:wr.cell? ⟨g,13,none⟩=some (.int .u32 0):=row_cell HGR.out (j:=13) rfl
    have fg13:wr.frozen? ⟨g,13,none⟩=false:=row_thaw HGR.out 13
    have hg14:wr.cell? ⟨g,14,none⟩=some (.string ⟨#[]⟩):=row_cell HGR.out (j:=14) rfl
    have fg14:wr.frozen? ⟨g,14,none⟩=false:=row_thaw HGR.out 14
    by_cases hlt:j<rs.length
    all_goals
     go_wp2_with fail
     obtain ⟨hr,hua⟩:=hi_set HGR.out (.slice none 0 0) (.int .u64 0) (.int .u64 0) (.int .u64 0) (.bool false) (.int .u64 0) (.bool false) (.int .u64 0) (.bool false) (.int .u64 0) (.slice none 0 0) (.slice none 0 0) (.slice none 0 0) (.int .u32 0) (.string ⟨#[]⟩)
     refine body_cell2v rfl rfl (load_hi hr rfl) rfl ?_
     refine ⟨HWB.out.trans (hua.below (by have:=HWB.out.size;omega) (fun k _ h=>by have h:k=g:=h;have:=HGG.out;omega)),?_⟩
     rw[HBE.out]
     exact rfl
   case inl =>
    have HM:=hid hst.out.1
    have HU:=hid hst.out.2
    clear hst
    by_cases hlt:j<rs.length
    case neg =>
     have hjn:j=rs.length:=by have:=HJ.out;omega
     have hm:=HM.out
     have hu:=HU.out
     rw[hjn,List.take_length] at hm hu
     have HBE:Hid (hird X.data.toList d = .ok ((va,(vt,(vk,((bp,vp),(nc,(nb,(es,(l,(vf,((bm,vm),(bg,vg))))))))))),U.data.toList)):=hid (by rw[hu];exact HBR.out.2 _ hm)
     have hrl:=HLB.out
     obtain ⟨Q0a,Q0b,r0,hrl,_,_⟩:=hrl
     have r0x:LsAt kcel 98 (bx+1) vl l _ wr:=r0
     obtain ⟨css,Q,g2,g3,g4,g5,_⟩:=r0x
     obtain ⟨lo,lc,hv⟩:=own_slice g2
     subst hv
     have HRL0:=hid (KRel_own g2 g3 (P:=fun k=>bx+1≤k) (fun j a1 a2=>KRel.upd (Upd.refl (fun _=>False) wr) (fun _ _ h=>h) (fun k hk=>(g5 k hk).2.1) _ _ (g4 j a1 a2)) (fun k hk=>(g2.lt k hk).1))
     obtain ⟨Q1a,Q1b,r1,hrl,_,_⟩:=hrl
     have r1x:LsAt natCel 24 (bx+1) vnc nc _ wr:=r1
     have hlt1:=LsAt.lt r1x
     have HLT1:=hid hlt1
     obtain ⟨nco,ncc,hv⟩:∃ ao cap,vnc = .slice ao nc.length cap:=by obtain ⟨_,_,g2,_⟩:=r1x;exact own_slice g2
     subst hv
     have HRL1:=hid (CRels.of_ls r1x)
     obtain ⟨Q2a,Q2b,r2,hrl,_,_⟩:=hrl
     have r2x:LsAt natCel 24 (bx+1) vnb nb _ wr:=r2
     have hlt2:=LsAt.lt r2x
     have HLT2:=hid hlt2
     obtain ⟨nbo,nbc,hv⟩:∃ ao cap,vnb = .slice ao nb.length cap:=by obtain ⟨_,_,g2,_⟩:=r2x;exact own_slice g2
     subst hv
     have HRL2:=hid (CRels.of_ls r2x)
     have r3x:LsAt exCel 91 (bx+1) ves es _ wr:=hrl
     have hlt3:=LsAt.lt r3x
     have HLT3:=hid hlt3
     obtain ⟨eo,ec,hv⟩:∃ ao cap,ves = .slice ao es.length cap:=by obtain ⟨_,_,g2,_⟩:=r3x;exact own_slice g2
     subst hv
     have HRL3:=hid (CRels.of_ls r3x)
     have hg0:wr.cell? ⟨g,0,none⟩=some (.slice none 0 0):=row_cell HGR.out (j:=0) rfl
     have fg0:wr.frozen? ⟨g,0,none⟩=false:=row_thaw HGR.out 0
     have hg1:wr.cell? ⟨g,1,none⟩=some (.int .u64 0):=row_cell HGR.out (j:=1) rfl
     have fg1:wr.frozen? ⟨g,1,none⟩=false:=row_thaw HGR.out 1
     have hg2:wr.cell? ⟨g,2,none⟩=some (.int .u64 0):=row_cell HGR.out (j:=2) rfl
     have fg2:wr.frozen? ⟨g,2,none⟩=false:=row_thaw HGR.out 2
     have hg3:wr.cell? ⟨g,3,none⟩=some (.int .u64 0):=row_cell HGR.out (j:=3) rfl
     have fg3:wr.frozen? ⟨g,3,none⟩=false:=row_thaw HGR.out 3
     have hg4:wr.cell? ⟨g,4,none⟩=some (.bool false):=row_cell HGR.out (j:=4) rfl
     have fg4:wr.frozen? ⟨g,4,none⟩=false:=row_thaw HGR.out 4
     have hg5:wr.cell? ⟨g,5,none⟩=some (.int .u64 0):=row_cell HGR.out (j:=5) rfl
     have fg5:wr.frozen? ⟨g,5,none⟩=false:=row_thaw HGR.out 5
     have hg6:wr.cell? ⟨g,6,none⟩=some (.bool false):=row_cell HGR.out (j:=6) rfl
     have fg6:wr.frozen? ⟨g,6,none⟩=false:=row_thaw HGR.out 6
     have hg7:wr.cell? ⟨g,7,none⟩=some (.int .u64 0):=row_cell HGR.out (j:=7) rfl
     have fg7:wr.frozen? ⟨g,7,none⟩=false:=row_thaw HGR.out 7
     have hg8:wr.cell? ⟨g,8,none⟩=some (.bool false):=row_cell HGR.out (j:=8) rfl
     have fg8:wr.frozen? ⟨g,8,none⟩=false:=row_thaw HGR.out 8
     have hg9:wr.cell? ⟨g,9,none⟩=some (.int .u64 0):=row_cell HGR.out (j:=9) rfl
     have fg9:wr.frozen? ⟨g,9,none⟩=false:=row_thaw HGR.out 9
     have hg10:wr.cell? ⟨g,10,none⟩=some (.slice none 0 0):=row_cell HGR.out (j:=10) rfl
     have fg10:wr.frozen? ⟨g,10,none⟩=false:=row_thaw HGR.out 10
     have hg11:wr.cell? ⟨g,11,none⟩=some (.slice none 0 0):=row_cell HGR.out (j:=11) rfl
     have fg11:wr.frozen? ⟨g,11,none⟩=false:=row_thaw HGR.out 11
     have hg12:wr.cell? ⟨g,12,none⟩=some (.slice none 0 0):=row_cell HGR.out (j:=12) rfl
     have fg12:wr.frozen? ⟨g,12,none⟩=false:=row_thaw HGR.out 12
     have hg13:wr.cell? ⟨g,13,none⟩=some (.int .u32 0):=row_cell HGR.out (j:=13) rfl
     have fg13:wr.frozen? ⟨g,13,none⟩=false:=row_thaw HGR.out 13
     have hg14:wr.cell? ⟨g,14,none⟩=some (.string ⟨#[]⟩):=row_cell HGR.out (j:=14) rfl
     have fg14:wr.frozen? ⟨g,14,none⟩=false:=row_thaw HGR.out 14
     have hx0:wr.cell? ⟨bx,0,none⟩=some (.slice lo l.length lc):=row_cell HX1.out (j:=0) rfl
     have fx0:wr.frozen? ⟨bx,0,none⟩=false:=row_thaw HX1.out 0
     have hx1:wr.cell? ⟨bx,1,none⟩=some (.int .u64 (va:Int)):=row_cell HX1.out (j:=1) rfl
     have fx1:wr.frozen? ⟨bx,1,none⟩=false:=row_thaw HX1.out 1
     have hx2:wr.cell? ⟨bx,2,none⟩=some (.int .u64 (vt:Int)):=row_cell HX1.out (j:=2) rfl
     have fx2:wr.frozen? ⟨bx,2,none⟩=false:=row_thaw HX1.out 2
     have hx3:wr.cell? ⟨bx,3,none⟩=some (.int .u64 (vk:Int)):=row_cell HX1.out (j:=3) rfl
     have fx3:wr.frozen? ⟨bx,3,none⟩=false:=row_thaw HX1.out 3
     have hx4:wr.cell? ⟨bx,4,none⟩=some (.bool bp):=row_cell HX1.out (j:=4) rfl
     have fx4:wr.frozen? ⟨bx,4,none⟩=false:=row_thaw HX1.out 4
     have hx5:wr.cell? ⟨bx,5,none⟩=some (.int .u64 (vp:Int)):=row_cell HX1.out (j:=5) rfl
     have fx5:wr.frozen? ⟨bx,5,none⟩=false:=row_thaw HX1.out 5
     have hx6:wr.cell? ⟨bx,6,none⟩=some (.bool bm):=row_cell HX1.out (j:=6) rfl
     have fx6:wr.frozen? ⟨bx,6,none⟩=false:=row_thaw HX1.out 6
     have hx7:wr.cell? ⟨bx,7,none⟩=some (.int .u64 (vm:Int)):=row_cell HX1.out (j:=7) rfl
     have fx7:wr.frozen? ⟨bx,7,none⟩=false:=row_thaw HX1.out 7
     have hx8:wr.cell? ⟨bx,8,none⟩=some (.bool bg):=row_cell HX1.out (j:=8) rfl
     have fx8:wr.frozen? ⟨bx,8,none⟩=false:=row_thaw HX1.out 8
     have hx9:wr.cell? ⟨bx,9,none⟩=some (.int .u64 (vg:Int)):=row_cell HX1.out (j:=9) rfl
     have fx9:wr.frozen? ⟨bx,9,none⟩=false:=row_thaw HX1.out 9
     have hx10:wr.cell? ⟨bx,10,none⟩=some (.slice nco nc.length ncc):=row_cell HX1.out (j:=10) rfl
     have fx10:wr.frozen? ⟨bx,10,none⟩=false:=row_thaw HX1.out 10
     have hx11:wr.cell? ⟨bx,11,none⟩=some (.slice nbo nb.length nbc):=row_cell HX1.out (j:=11) rfl
     have fx11:wr.frozen? ⟨bx,11,none⟩=false:=row_thaw HX1.out 11
     have hx12:wr.cell? ⟨bx,12,none⟩=some (.slice eo es.length ec):=row_cell HX1.out (j:=12) rfl
     have fx12:wr.frozen? ⟨bx,12,none⟩=false:=row_thaw HX1.out 12
     have hx13:wr.cell? ⟨bx,13,none⟩=some (.int .u32 (vf:Int)):=row_cell HX1.out (j:=13) rfl
     have fx13:wr.frozen? ⟨bx,13,none⟩=false:=row_thaw HX1.out 13
     have hx14:wr.cell? ⟨bx,14,none⟩=some (.string U):=row_cell HX1.out (j:=14) rfl
     have fx14:wr.frozen? ⟨bx,14,none⟩=false:=row_thaw HX1.out 14
     clear hm hu hjn
     go_wp2_with fail
     obtain ⟨hr,hua⟩:=hi_set HGR.out (.slice lo l.length lc) (.int .u64 (va:Int)) (.int .u64 (vt:Int)) (.int .u64 (vk:Int)) (.bool bp) (.int .u64 (vp:Int)) (.bool bm) (.int .u64 (vm:Int)) (.bool bg) (.int .u64 (vg:Int)) (.slice nco nc.length ncc) (.slice nbo nb.length nbc) (.slice eo es.length ec) (.int .u32 (vf:Int)) (.string U)
     refine body_cell2v rfl rfl (load_hi hr rfl) rfl ?_
     refine ⟨HWB.out.trans (hua.below (by have:=HWB.out.size;omega) (fun k _ h=>by have h:k=g:=h;have:=HGG.out;omega)),?_⟩
     rw[HBE.out]
     exact ⟨_,rfl,lo,lc,nco,ncc,nbo,nbc,eo,ec,rfl,KRels.upd hua (fun k hk h=>by have h:k=g:=h;have:=HGX.out;omega) (fun k hk=>by have:=HB1.out.size;have:=HBX.out;omega) _ _ _ HRL0.out,CRels.upd hua (fun k hk h=>by have h:k=g:=h;have:=HGX.out;have:=(HLT1.out k hk).1;omega) (fun k hk=>by have:=HB1.out.size;have:=HBX.out;have:=(HLT1.out k hk).1;omega) HRL1.out,CRels.upd hua (fun k hk h=>by have h:k=g:=h;have:=HGX.out;have:=(HLT2.out k hk).1;omega) (fun k hk=>by have:=HB1.out.size;have:=HBX.out;have:=(HLT2.out k hk).1;omega) HRL2.out,CRels.upd hua (fun k hk h=>by have h:k=g:=h;have:=HGX.out;have:=(HLT3.out k hk).1;omega) (fun k hk=>by have:=HB1.out.size;have:=HBX.out;have:=(HLT3.out k hk).1;omega) HRL3.out⟩
    have HO:=hid (own_below HO1.out (by rw[HBX.out];exact HBR1.out))
    obtain ⟨gr,cg,hv,hg1,hg2,_,_⟩:=own_some HO.out (by omega)
    simp only[Value.slice.injEq] at hv
    obtain ⟨rfl,_,rfl⟩:=hv
    obtain ⟨r,HRJ⟩:∃ r,Hid (rs[j]=r):=⟨_,hid rfl⟩
    have hr0:wr.cell? ⟨gr,j * 5,none⟩=some (.int .i64 (r.num:Int)):=by rw[HO.out.cellAt (j * 5) (by omega),show j * 5=5 * j+0 by omega,mrecs_cell hlt (by omega),HRJ.out];rfl
    have hr1:wr.cell? ⟨gr,j * 5+1,none⟩=some (.int .i64 (r.ty:Int)):=by rw[HO.out.cellAt (j * 5+1) (by omega),show j * 5+1=5 * j+1 by omega,mrecs_cell hlt (by omega),HRJ.out];rfl
    have hr2:wr.cell? ⟨gr,j * 5+2,none⟩=some (.int .u64 (r.n:Int)):=by rw[HO.out.cellAt (j * 5+2) (by omega),show j * 5+2=5 * j+2 by omega,mrecs_cell hlt (by omega),HRJ.out];rfl
    have hr3:wr.cell? ⟨gr,j * 5+3,none⟩=some (.string ⟨r.s.toArray⟩):=by rw[HO.out.cellAt (j * 5+3) (by omega),show j * 5+3=5 * j+3 by omega,mrecs_cell hlt (by omega),HRJ.out];rfl
    have hr4:wr.cell? ⟨gr,j * 5+4,none⟩=some (.string ⟨r.raw.toArray⟩):=by rw[HO.out.cellAt (j * 5+4) (by omega),show j * 5+4=5 * j+4 by omega,mrecs_cell hlt (by omega),HRJ.out];rfl
    have HTK:Hid (rs.take (j+1)=rs.take j++[r]):=hid (by rw[List.take_succ_eq_append_getElem hlt,HRJ.out])
    have HRR:Hid (IsRec d r):=hid (HREC.out r (HRJ.out ▸ List.getElem_mem hlt))
    have HSUM:Hid (U.size+r.raw.length≤X.size∧r.raw.length≤X.size∧r.s.length+1≤r.raw.length):=hid (by
     have h1:=raws_le HRAW.out (j+1)
     rw[HTK.out,List.flatMap_append,List.length_append] at h1
     have h2:=munk_le hiF.tk (rs.take j)
     have h3:U.size=(munk hiF.tk (rs.take j)).length:=by rw[←HU.out];simp
     have h4:([r].flatMap Rec.raw).length=r.raw.length:=by simp
     have h5:X.data.toList.length=X.size:=by simp
     have h6:=isrec_s HRR.out
     omega)
    go_wp2_with fail
    obtain ⟨rb,hrb⟩:∃ rb,wr.heap.size=rb:=⟨_,rfl⟩
    obtain ⟨W3,hW3⟩:∃ W3,wr.alloc (.cells #[.int .i64 (r.num:Int),.int .i64 (r.ty:Int),.int .u64 (r.n:Int),.string ⟨r.s.toArray⟩,.string ⟨r.raw.toArray⟩] 86)=W3:=⟨_,rfl⟩
    have HB3:Hid (Below wr.heap.size wr W3):=hid (by rw[←hW3];exact below_new _ _)
    have HR3:Hid (W3.heap[rb]? = some (.cells #[.int .i64 (r.num:Int),.int .i64 (r.ty:Int),.int .u64 (r.n:Int),.string ⟨r.s.toArray⟩,.string ⟨r.raw.toArray⟩] 86 (0,0))):=hid (by rw[←hW3,←hrb];exact heap_alloc_new wr _)
    rw[hW3,hrb]
    clear hW3
    obtain ⟨D,hD⟩:∃ D,W3.drew=D:=⟨_,rfl⟩
    have HBD:Hid (Below wr.heap.size wr D):=hid (by rw[←hD];exact HB3.out.drew)
    have HRD:Hid (D.heap[rb]? = some (.cells #[.int .i64 (r.num:Int),.int .i64 (r.ty:Int),.int .u64 (r.n:Int),.string ⟨r.s.toArray⟩,.string ⟨r.raw.toArray⟩] 86 (0,0))):=hid (by rw[←hD];exact HR3.out)
    have hne:Nonempty {w':World // w'.heap[rb]? = some (.cells #[.int .i64 (r.num:Int),.int .i64 (r.ty:Int),.int .u64 (r.n:Int),.string ⟨r.s.toArray⟩,.string ⟨r.raw.toArray⟩] 86 (0,0))}:=⟨⟨_,HRD.out⟩⟩
    refine wp_region_seq (S:=fun w'=>w'.heap[rb]? = some (.cells #[.int .i64 (r.num:Int),.int .i64 (r.ty:Int),.int .u64 (r.n:Int),.string ⟨r.s.toArray⟩,.string ⟨r.raw.toArray⟩] 86 (0,0))) [(1,true),(0,false),(2,false),(3,true)] (by kernel_rfl) (by kernel_rfl) (by kernel_rfl) (by kernel_rfl) (by rw[hD];exact HRD.out) ?_
    rw[hD]
    clear hD hr0 hr1 hr2 hr3 hr4
    refine seq_take _ rfl (fun KK hK=>?_);go_simp
    refine ⟨.agg #[.int .i64 (r.num:Int),.int .i64 (r.ty:Int),.int .u64 (r.n:Int),.string ⟨r.s.toArray⟩,.string ⟨r.raw.toArray⟩],fun a ha=>by (obtain ⟨e0,e1,e2,e3,e4⟩:=row5 ha);simp only[e0,e1,e2,e3,e4,Result.andThen],hK _ ?_⟩
    clear hK KK
    refine seq_come _ rfl (fun KK hK=>?_);go_simp
    refine (hi_tab D).mono ?_;rintro e w4 ⟨to,rfl,HNT,hb4⟩
    have HB4:=hid (below_step HBD.out hb4)
    have HR4:Hid (w4.heap[rb]? = some (.cells #[.int .i64 (r.num:Int),.int .i64 (r.ty:Int),.int .u64 (r.n:Int),.string ⟨r.s.toArray⟩,.string ⟨r.raw.toArray⟩] 86 (0,0))):=hid ((hb4.block _ (row_lt HRD.out)).trans HRD.out)
    go_simp;refine hK.out _ _ HR4.out ?_;clear hK KK hb4
    refine seq_come _ rfl (fun KK hK=>?_);go_simp
    refine (takes8_any [17,25,33,41,49,50,57,58,66,74,80,89,97] to 13 r w4 HNT (by decide) (by decide)).mono ?_;rintro e w5 ⟨rfl,hb5⟩
    rw[←hi_rtk]
    have HB5:=hid (below_step HB4.out hb5)
    have HR5:Hid (w5.heap[rb]? = some (.cells #[.int .i64 (r.num:Int),.int .i64 (r.ty:Int),.int .u64 (r.n:Int),.string ⟨r.s.toArray⟩,.string ⟨r.raw.toArray⟩] 86 (0,0))):=hid ((hb5.block _ (row_lt HR4.out)).trans HR4.out)
    go_simp;refine hK.out _ _ HR5.out ?_;clear hK KK hb5
    iterate 1 (refine seq_take _ rfl (fun KK hK=>?_);go_simp;(first|refine hK _ ?_|refine ⟨_,fun _ _=>rfl,hK _ ?_⟩);clear hK KK)
    refine seq_done ?_
    have HX5:Hid (w5.heap[bx]? = some (.cells #[vl,.int .u64 (va:Int),.int .u64 (vt:Int),.int .u64 (vk:Int),.bool bp,.int .u64 (vp:Int),.bool bm,.int .u64 (vm:Int),.bool bg,.int .u64 (vg:Int),vnc,vnb,ves,.int .u32 (vf:Int),.string U] 50 (0,0))):=hid ((HB5.out.block _ (row_lt HX1.out)).trans HX1.out)
    have HL5:Hid ((hiA bx).rel (va,(vt,(vk,((bp,vp),(nc,(nb,(es,(l,(vf,((bm,vm),(bg,vg))))))))))) (vl,(vnc,(vnb,ves))) P1 w5):=hid ((hiA bx).kept HLB.out (Upd.of_new HB5.out))
    have HBR5:Hid (Below bx w1 w5):=hid (HBR1.out.trans (HB5.out.mono (by have:=row_lt HX1.out;omega)))
    have HRX:Hid (bx<rb):=hid (by have:=row_lt HX1.out;omega)
    have hxb:=row_lt HX5.out
    obtain ⟨S,hS⟩:∃ S:ByteArray,(⟨r.s.toArray⟩:ByteArray)=S:=⟨_,rfl⟩
    obtain ⟨R,hR⟩:∃ S:ByteArray,(⟨r.raw.toArray⟩:ByteArray)=S:=⟨_,rfl⟩
    have HSD:Hid (S.data.toList=r.s):=hid (by rw[←hS])
    have HRD2:Hid (R.data.toList=r.raw):=hid (by rw[←hR])
    have HSZ:Hid (S.size=r.s.length):=hid (by rw[←HSD.out];simp)
    rw[hS,hR] at HR5 ⊢
    clear hS hR hne hrb
    cases htk:hiF.tk r with
    | false =>
     have HTN:=hid htk
     have hsz:¬9223372036854775807<U.size+R.size:=by
      have h1:R.size=r.raw.length:=by rw[←HRD2.out];simp
      have h2:=HSUM.out
      have h3:=HSS.out
      omega
     have hxu:w5.cell? ⟨bx,14,none⟩=some (.string U):=row_cell HX5.out (j:=14) rfl
     have hxf:w5.frozen? ⟨bx,14,none⟩=false:=row_thaw HX5.out 14
     have hr4:w5.cell? ⟨rb,4,none⟩=some (.string R):=row_cell HR5.out (j:=4) rfl
     clear htk
     go_wp2_with fail
     have hj:=HJ.out
     have hu:=Upd.set w5 ⟨bx,14,none⟩ (.string (U++R))
     go_roundg (gk - 1)
     case measure=>omega
     case rel =>
      refine ⟨j+1,vl,vnc,vnb,ves,P1,U++R,l,va,vt,vk,bp,vp,bm,vm,bg,vg,nc,nb,es,vf,by simp,by omega,HBR5.out.trans (hu.below (by omega) (fun k _ h=>by have h:k=bx:=h;omega)),row_set HX5.out 14 _,LPart.stay HL5.out hu ⟨rfl,rfl,rfl,rfl⟩,by omega,by omega,.inl ⟨rfl,hid ⟨?_,?_⟩⟩⟩
      ·rw[HTK.out];exact mfoldk_no HM.out HTN.out
      ·rw[HTK.out,munkk_no HTN.out,ByteArray.data_append,Array.toList_append,HU.out,HRD2.out]
    | true =>
     have HTN:=hid htk
     have HMU:Hid (U.data.toList=munk hiF.tk (rs.take (j+1))):=hid (by rw[HTK.out,munkk_yes HTN.out,HU.out])
     have HMY:Hid (mfold (σ:=hiS) hiF.tk (hiF.step d) hiF.z (rs.take (j+1))=hiF.step d (va,(vt,(vk,((bp,vp),(nc,(nb,(es,(l,(vf,((bm,vm),(bg,vg))))))))))) r):=hid (by rw[HTK.out];exact mfoldk_yes HM.out HTN.out)
     have hr2a:w5.cell? ⟨rb,2,none⟩=some (.int .u64 (r.n:Int)):=row_cell HR5.out (j:=2) rfl
     have hnum:=htk
     rw[hiF_tk] at hnum
     simp only[decide_eq_true_iff] at hnum
     clear htk
     go_upto_region 10 with fail
     obtain ⟨w6,hw6⟩:∃ q,w5.alloc (.cells #[.bool true,.int .u64 (r.n:Int)] 47)=q:=⟨_,rfl⟩
     obtain ⟨ob,hob⟩:∃ q,w5.heap.size=q:=⟨_,rfl⟩
     have hb56:Below w5.heap.size w5 w6:=by rw[←hw6];exact below_new _ _
     have hrow6:w6.heap[ob]? = some (.cells #[.bool true,.int .u64 (r.n:Int)] 47 (0,0)):=by rw[←hw6,←hob];exact heap_alloc_new w5 _
     have HBX6:Hid (Below bx w1 w6):=hid (HBR5.out.trans (hb56.mono (by omega)))
     have HXX6:Hid (w6.heap[bx]? = some (.cells #[vl,.int .u64 (va:Int),.int .u64 (vt:Int),.int .u64 (vk:Int),.bool bp,.int .u64 (vp:Int),.bool bm,.int .u64 (vm:Int),.bool bg,.int .u64 (vg:Int),vnc,vnb,ves,.int .u32 (vf:Int),.string U] 50 (0,0))):=hid ((hb56.block _ hxb).trans HX5.out)
     have HLL6:Hid ((hiA bx).rel (va,(vt,(vk,((bp,vp),(nc,(nb,(es,(l,(vf,((bm,vm),(bg,vg))))))))))) (vl,(vnc,(vnb,ves))) P1 w6):=hid ((hiA bx).kept HL5.out (Upd.of_new hb56))
     have HRR6:=hid ((hb56.block _ (row_lt HR5.out)).trans HR5.out)
     have hxb6:bx<w6.heap.size:=row_lt HXX6.out
     have ho0:w6.cell? ⟨ob,0,none⟩=some (.bool true):=row_cell hrow6 (j:=0) rfl
     have ho1:w6.cell? ⟨ob,1,none⟩=some (.int .u64 (r.n:Int)):=row_cell hrow6 (j:=1) rfl
     rw[hw6,hob]
     clear hw6 hob hb56 hrow6 hr2a HX5 HL5 HBR5 HR5 hxb HB5
     have HX5:=HXX6
     have HL5:=HLL6
     have HBR5:=HBX6
     have HR5:=HRR6
     have hxb:=hxb6
     clear HXX6 HLL6 HBX6 HRR6 hxb6
     have hr0:w6.cell? ⟨rb,0,none⟩=some (.int .i64 (r.num:Int)):=row_cell HR5.out (j:=0) rfl
     have hr2:w6.cell? ⟨rb,2,none⟩=some (.int .u64 (r.n:Int)):=row_cell HR5.out (j:=2) rfl
     have hr3:w6.cell? ⟨rb,3,none⟩=some (.string S):=row_cell HR5.out (j:=3) rfl
     by_cases hn2:r.num=2
     ·have d2:((r.num:Int) == 2)=true:=by rw[beq_iff_eq];omega
      have hty:r.num=2∧r.ty=1:=by omega
      have HSE:=hid (hiF_2 hty d va vt vk bp vp nc nb es l vf bm vm bg vg)
      clear hty hnum hn2
      have hxc:w6.cell? ⟨bx,1,none⟩=some (.int .u64 (va:Int)):=row_cell HX5.out (j:=1) rfl
      have hxf:w6.frozen? ⟨bx,1,none⟩=false:=row_thaw HX5.out 1
      go_wp2_with fail
      have hj:=HJ.out
      have hu:=Upd.set w6 ⟨bx,1,none⟩ (.int .u64 (r.n:Int))
      go_roundg (gk - 1)
      case measure=>omega
      case rel =>
       exact ⟨j+1,vl,vnc,vnb,ves,P1,U,l,r.n,vt,vk,bp,vp,bm,vm,bg,vg,nc,nb,es,vf,by simp,by omega,HBR5.out.trans (hu.below (by omega) (fun k _ h=>by have h:k=bx:=h;omega)),row_set HX5.out 1 _,LPart.stay HL5.out hu ⟨rfl,rfl,rfl,rfl⟩,by omega,by omega,.inl ⟨rfl,hid ⟨by rw[HMY.out,HSE.out]<;>rfl,HMU.out⟩⟩⟩
     by_cases hn3:r.num=3
     ·have d2:((r.num:Int) == 2)=false:=by rw[beq_eq_false_iff_ne];omega
      have d3:((r.num:Int) == 3)=true:=by rw[beq_iff_eq];omega
      have hty:r.num=3∧r.ty=1:=by omega
      have HSE:=hid (hiF_3 hty d va vt vk bp vp nc nb es l vf bm vm bg vg)
      clear hty hnum hn2 hn3
      have hxc:w6.cell? ⟨bx,2,none⟩=some (.int .u64 (vt:Int)):=row_cell HX5.out (j:=2) rfl
      have hxf:w6.frozen? ⟨bx,2,none⟩=false:=row_thaw HX5.out 2
      go_wp2_with fail
      have hj:=HJ.out
      have hu:=Upd.set w6 ⟨bx,2,none⟩ (.int .u64 (r.n:Int))
      go_roundg (gk - 1)
      case measure=>omega
      case rel =>
       exact ⟨j+1,vl,vnc,vnb,ves,P1,U,l,va,r.n,vk,bp,vp,bm,vm,bg,vg,nc,nb,es,vf,by simp,by omega,HBR5.out.trans (hu.below (by omega) (fun k _ h=>by have h:k=bx:=h;omega)),row_set HX5.out 2 _,LPart.stay HL5.out hu ⟨rfl,rfl,rfl,rfl⟩,by omega,by omega,.inl ⟨rfl,hid ⟨by rw[HMY.out,HSE.out]<;>rfl,HMU.out⟩⟩⟩
     by_cases hn4:r.num=4
     ·have d2:((r.num:Int) == 2)=false:=by rw[beq_eq_false_iff_ne];omega
      have d3:((r.num:Int) == 3)=false:=by rw[beq_eq_false_iff_ne];omega
      have d4:((r.num:Int) == 4)=true:=by rw[beq_iff_eq];omega
      have hty:r.num=4∧r.ty=1:=by omega
      have HSE:=hid (hiF_4 hty d va vt vk bp vp nc nb es l vf bm vm bg vg)
      clear hty hnum hn2 hn3 hn4
      have hxc:w6.cell? ⟨bx,3,none⟩=some (.int .u64 (vk:Int)):=row_cell HX5.out (j:=3) rfl
      have hxf:w6.frozen? ⟨bx,3,none⟩=false:=row_thaw HX5.out 3
      go_wp2_with fail
      have hj:=HJ.out
      have hu:=Upd.set w6 ⟨bx,3,none⟩ (.int .u64 (r.n:Int))
      go_roundg (gk - 1)
      case measure=>omega
      case rel =>
       exact ⟨j+1,vl,vnc,vnb,ves,P1,U,l,va,vt,r.n,bp,vp,bm,vm,bg,vg,nc,nb,es,vf,by simp,by omega,HBR5.out.trans (hu.below (by omega) (fun k _ h=>by have h:k=bx:=h;omega)),row_set HX5.out 3 _,LPart.stay HL5.out hu ⟨rfl,rfl,rfl,rfl⟩,by omega,by omega,.inl ⟨rfl,hid ⟨by rw[HMY.out,HSE.out]<;>rfl,HMU.out⟩⟩⟩
     by_cases hn5:r.num=5
     ·have d2:((r.num:Int) == 2)=false:=by rw[beq_eq_false_iff_ne];omega
      have d3:((r.num:Int) == 3)=false:=by rw[beq_eq_false_iff_ne];omega
      have d4:((r.num:Int) == 4)=false:=by rw[beq_eq_false_iff_ne];omega
      have d5:((r.num:Int) == 5)=true:=by rw[beq_iff_eq];omega
      have hty:r.num=5∧r.ty=1:=by omega
      have HSE:=hid (hiF_5 hty d va vt vk bp vp nc nb es l vf bm vm bg vg)
      clear hty hnum hn2 hn3 hn4 hn5
      have hxa:w6.cell? ⟨bx,4,none⟩=some (.bool bp):=row_cell HX5.out (j:=4) rfl
      have hfa:w6.frozen? ⟨bx,4,none⟩=false:=row_thaw HX5.out 4
      have hx1:=row_set HX5.out 4 (.bool true)
      have hxb2:(w6.setCell ⟨bx,4,none⟩ (.bool true)).cell? ⟨bx,5,none⟩=some (.int .u64 (vp:Int)):=row_cell hx1 (j:=5) rfl
      have hfb2:(w6.setCell ⟨bx,4,none⟩ (.bool true)).frozen? ⟨bx,5,none⟩=false:=row_thaw hx1 5
      have hox:=row_set hx1 5 (.int .u64 (r.n:Int))
      have HOX:=hid hox
      clear hx1 hox
      go_wp2_with fail
      have hj:=HJ.out
      have hu:=(Upd.set w6 ⟨bx,4,none⟩ (.bool true)).trans (Upd.set _ ⟨bx,5,none⟩ (.int .u64 (r.n:Int)))
      go_roundg (gk - 1)
      case measure=>omega
      case rel =>
       exact ⟨j+1,vl,vnc,vnb,ves,P1,U,l,va,vt,vk,true,r.n,bm,vm,bg,vg,nc,nb,es,vf,by simp,by omega,HBR5.out.trans (hu.below (by omega) (fun k _ h=>by have h:k=bx:=h;omega)),HOX.out,LPart.stay HL5.out hu ⟨rfl,rfl,rfl,rfl⟩,by omega,by omega,.inl ⟨rfl,hid ⟨by rw[HMY.out,HSE.out]<;>rfl,HMU.out⟩⟩⟩
     by_cases hn6:r.num=6
     ·have d2:((r.num:Int) == 2)=false:=by rw[beq_eq_false_iff_ne];omega
      have d3:((r.num:Int) == 3)=false:=by rw[beq_eq_false_iff_ne];omega
      have d4:((r.num:Int) == 4)=false:=by rw[beq_eq_false_iff_ne];omega
      have d5:((r.num:Int) == 5)=false:=by rw[beq_eq_false_iff_ne];omega
      have d6:((r.num:Int) == 6)=true:=by rw[beq_iff_eq];omega
      have hty:r.num=6∧(r.ty=1∨r.ty=2):=by omega
      have H50:=hid hty.2
      have HSE:=hid (hiF_6 hty d va vt vk bp vp nc nb es l vf bm vm bg vg)
      clear hty hnum hn2 hn3 hn4 hn5 hn6
      have hlnn:nc.length≤1000000:=hi_len_nc (fun x hx=>HREC.out x (List.mem_of_mem_take hx)) HM.out (by have h1:=raws_le HRAW.out j;have h2:=HSS.out;have h3:X.data.toList.length=X.size:=(by simp);omega)
      obtain ⟨Pi,hls,hsub,hput⟩:=hi_see_nc bx _ _ _ _ HL5.out
      obtain ⟨hown5,hpi⟩:=ls_nats hls
      obtain ⟨ao,cap,hv⟩:=own_slice hown5
      have hv:vnc = .slice ao nc.length cap:=hv
      subst hv
      have HO5:Hid (w6.ownsRow (bx+1) 24 1 (.slice ao nc.length cap) nc.length (nats64 nc)):=hid hown5
      have HPI:=hid hpi
      have HPUT:=hid hput
      have HSUB:=hid hsub
      have HLT5:Hid (∀ k,P1 k→bx+1≤k∧k<w6.heap.size):=hid ((hiA bx).lt HL5.out)
      have hxs:w6.cell? ⟨bx,10,none⟩=some (.slice ao nc.length cap):=row_cell HX5.out (j:=10) rfl
      have hr1:w6.cell? ⟨rb,1,none⟩=some (.int .i64 (r.ty:Int)):=row_cell HR5.out (j:=1) rfl
      have hr4:w6.cell? ⟨rb,4,none⟩=some (.string R):=row_cell HR5.out (j:=4) rfl
      have HPK:=hid (packed8_any (.slice ao nc.length cap) nc (bx+1) r S R w6 HSD HO5 (by omega) hlnn (by have:=HSUM.out;have:=HSS.out;omega) H50.out)
      clear hls hsub hput hown5 hpi hlnn
      go_wp2_with fail
      refine HPK.out.mono ?_;rintro e w7 ⟨v2,gb,ys,rfl,hu7,hown7,hnew7,hlen7,hok,hno⟩
      obtain ⟨ao2,cap2,hv2⟩:=own_slice hown7
      have hv2:v2 = .slice ao2 ys.length cap2:=hv2
      subst hv2
      have HX7:=hid ((hu7.block bx hxb (fun h=>by have:=(HO5.out.lt _ h).1;omega)).trans HX5.out)
      have hx7:w7.cell? ⟨bx,10,none⟩=some (.slice ao nc.length cap):=row_cell HX7.out (j:=10) rfl
      have hf7:w7.frozen? ⟨bx,10,none⟩=false:=row_thaw HX7.out 10
      have hu8:=Upd.set w7 ⟨bx,10,none⟩ (.slice ao2 ys.length cap2)
      have hls8:=nats_ls (hu8.own hown7 (fun k hk e=>by have e:k=bx:=e;have:=(hown7.lt k hk).1;omega))
      obtain ⟨hu',P',⟨v',P2,q2,q3,rfl⟩,hp⟩:=rowL_lst (A:=hiA bx) (T0:=50) (put:=fun (v:Value × Value × Value × Value) v'=>((v.1,(v',(v.2.2.1,v.2.2.2))):Value × Value × Value × Value)) (sm:=fun st st':hiS=>(st'.2.2.2.2.2.2.2.1=st.2.2.2.2.2.2.2.1)∧(True)∧(st'.2.2.2.2.2.1=st.2.2.2.2.2.1)∧st'.2.2.2.2.2.2.1=st.2.2.2.2.2.2.1) (row:=fun (st:hiS) (v:Value × Value × Value × Value)=>#[v.1,.int .u64 (st.1:Int),.int .u64 (st.2.1:Int),.int .u64 (st.2.2.1:Int),.bool st.2.2.2.1.1,.int .u64 (st.2.2.2.1.2:Int),.bool st.2.2.2.2.2.2.2.2.2.1.1,.int .u64 (st.2.2.2.2.2.2.2.2.2.1.2:Int),.bool st.2.2.2.2.2.2.2.2.2.2.1,.int .u64 (st.2.2.2.2.2.2.2.2.2.2.2:Int),v.2.1,v.2.2.1,v.2.2.2,.int .u32 (st.2.2.2.2.2.2.2.2.1:Int),.string U]) (ls:=fun st:hiS=>st.2.2.2.2.1) (st:=(va,(vt,(vk,((bp,vp),(nc,(nb,(es,(l,(vf,((bm,vm),(bg,vg)))))))))))) (st':=(va,(vt,(vk,((bp,vp),(ys,(nb,(es,(l,(vf,((bm,vm),(bg,vg)))))))))))) (v:=(vl,((.slice ao nc.length cap),(vnb,ves)))) HL5.out HPUT.out ((hu7.mono fun k _ h => .inr (HPI.out k h)).trans (hu8.mono fun k _ h => .inl h)) (row_set HX7.out 10 (.slice ao2 ys.length cap2)) hls8 (fun k hk=>by
       rcases hk with hk|hk
       ·exact (hnew7 k hk).imp (HPI.out k) id
       ·exact hk.elim) (fun v'=>rfl) ⟨rfl,trivial,rfl,rfl⟩ rfl HSUB.out
      obtain ⟨vl,⟨vnc,⟨vnb,ves⟩⟩⟩:=v'
      have HBR9:Hid (Below bx w1 (w7.setCell ⟨bx,10,none⟩ (.slice ao2 ys.length cap2))):=hid (HBR5.out.trans (hu'.below (by omega) (fun k _ h=>by rcases h with h|h;omega;have:=(HLT5.out k h).1;omega)))
      have HQ2:=hid q2
      have HQ3:=hid q3
      have HOK:=hid hok
      have HNO:=hid hno
      clear hu7 hown7 hnew7 hlen7 hok hno hu8 hls8 hu' hp q2 q3 hxs hr0 hr1 hr2 hr3 hr4
      go_wp2_with fail
      have hj:=HJ.out
      go_roundg (gk - 1)
      case measure=>omega
      case rel =>
       refine ⟨j+1,vl,vnc,vnb,ves,P2,U,l,va,vt,vk,bp,vp,bm,vm,bg,vg,ys,nb,es,vf,by simp,by omega,HBR9.out,HQ2.out,HQ3.out,by omega,by omega,?_⟩
       cases gb with
       | true=>exact .inl ⟨rfl,hid ⟨by rw[HMY.out,HSE.out,HOK.out rfl]<;>rfl,HMU.out⟩⟩
       | false =>
        obtain ⟨c,hc⟩:=HNO.out rfl
        exact .inr ⟨rfl,c,mfoldk_err (j:=j+1) (by rw[HMY.out,HSE.out,hc]<;>rfl)⟩
     by_cases hn7:r.num=7
     ·have d2:((r.num:Int) == 2)=false:=by rw[beq_eq_false_iff_ne];omega
      have d3:((r.num:Int) == 3)=false:=by rw[beq_eq_false_iff_ne];omega
      have d4:((r.num:Int) == 4)=false:=by rw[beq_eq_false_iff_ne];omega
      have d5:((r.num:Int) == 5)=false:=by rw[beq_eq_false_iff_ne];omega
      have d6:((r.num:Int) == 6)=false:=by rw[beq_eq_false_iff_ne];omega
      have d7:((r.num:Int) == 7)=true:=by rw[beq_iff_eq];omega
      have hty:r.num=7∧(r.ty=1∨r.ty=2):=by omega
      have H50:=hid hty.2
      have HSE:=hid (hiF_7 hty d va vt vk bp vp nc nb es l vf bm vm bg vg)
      clear hty hnum hn2 hn3 hn4 hn5 hn6 hn7
      have hlnn:nb.length≤1000000:=hi_len_nb (fun x hx=>HREC.out x (List.mem_of_mem_take hx)) HM.out (by have h1:=raws_le HRAW.out j;have h2:=HSS.out;have h3:X.data.toList.length=X.size:=(by simp);omega)
      obtain ⟨Pi,hls,hsub,hput⟩:=hi_see_nb bx _ _ _ _ HL5.out
      obtain ⟨hown5,hpi⟩:=ls_nats hls
      obtain ⟨ao,cap,hv⟩:=own_slice hown5
      have hv:vnb = .slice ao nb.length cap:=hv
      subst hv
      have HO5:Hid (w6.ownsRow (bx+1) 24 1 (.slice ao nb.length cap) nb.length (nats64 nb)):=hid hown5
      have HPI:=hid hpi
      have HPUT:=hid hput
      have HSUB:=hid hsub
      have HLT5:Hid (∀ k,P1 k→bx+1≤k∧k<w6.heap.size):=hid ((hiA bx).lt HL5.out)
      have hxs:w6.cell? ⟨bx,11,none⟩=some (.slice ao nb.length cap):=row_cell HX5.out (j:=11) rfl
      have hr1:w6.cell? ⟨rb,1,none⟩=some (.int .i64 (r.ty:Int)):=row_cell HR5.out (j:=1) rfl
      have hr4:w6.cell? ⟨rb,4,none⟩=some (.string R):=row_cell HR5.out (j:=4) rfl
      have HPK:=hid (packed8_any (.slice ao nb.length cap) nb (bx+1) r S R w6 HSD HO5 (by omega) hlnn (by have:=HSUM.out;have:=HSS.out;omega) H50.out)
      clear hls hsub hput hown5 hpi hlnn
      go_wp2_with fail
      refine HPK.out.mono ?_;rintro e w7 ⟨v2,gb,ys,rfl,hu7,hown7,hnew7,hlen7,hok,hno⟩
      obtain ⟨ao2,cap2,hv2⟩:=own_slice hown7
      have hv2:v2 = .slice ao2 ys.length cap2:=hv2
      subst hv2
      have HX7:=hid ((hu7.block bx hxb (fun h=>by have:=(HO5.out.lt _ h).1;omega)).trans HX5.out)
      have hx7:w7.cell? ⟨bx,11,none⟩=some (.slice ao nb.length cap):=row_cell HX7.out (j:=11) rfl
      have hf7:w7.frozen? ⟨bx,11,none⟩=false:=row_thaw HX7.out 11
      have hu8:=Upd.set w7 ⟨bx,11,none⟩ (.slice ao2 ys.length cap2)
      have hls8:=nats_ls (hu8.own hown7 (fun k hk e=>by have e:k=bx:=e;have:=(hown7.lt k hk).1;omega))
      obtain ⟨hu',P',⟨v',P2,q2,q3,rfl⟩,hp⟩:=rowL_lst (A:=hiA bx) (T0:=50) (put:=fun (v:Value × Value × Value × Value) v'=>((v.1,(v.2.1,(v',v.2.2.2))):Value × Value × Value × Value)) (sm:=fun st st':hiS=>(st'.2.2.2.2.2.2.2.1=st.2.2.2.2.2.2.2.1)∧(st'.2.2.2.2.1=st.2.2.2.2.1)∧(True)∧st'.2.2.2.2.2.2.1=st.2.2.2.2.2.2.1) (row:=fun (st:hiS) (v:Value × Value × Value × Value)=>#[v.1,.int .u64 (st.1:Int),.int .u64 (st.2.1:Int),.int .u64 (st.2.2.1:Int),.bool st.2.2.2.1.1,.int .u64 (st.2.2.2.1.2:Int),.bool st.2.2.2.2.2.2.2.2.2.1.1,.int .u64 (st.2.2.2.2.2.2.2.2.2.1.2:Int),.bool st.2.2.2.2.2.2.2.2.2.2.1,.int .u64 (st.2.2.2.2.2.2.2.2.2.2.2:Int),v.2.1,v.2.2.1,v.2.2.2,.int .u32 (st.2.2.2.2.2.2.2.2.1:Int),.string U]) (ls:=fun st:hiS=>st.2.2.2.2.2.1) (st:=(va,(vt,(vk,((bp,vp),(nc,(nb,(es,(l,(vf,((bm,vm),(bg,vg)))))))))))) (st':=(va,(vt,(vk,((bp,vp),(nc,(ys,(es,(l,(vf,((bm,vm),(bg,vg)))))))))))) (v:=(vl,(vnc,((.slice ao nb.length cap),ves)))) HL5.out HPUT.out ((hu7.mono fun k _ h => .inr (HPI.out k h)).trans (hu8.mono fun k _ h => .inl h)) (row_set HX7.out 11 (.slice ao2 ys.length cap2)) hls8 (fun k hk=>by
       rcases hk with hk|hk
       ·exact (hnew7 k hk).imp (HPI.out k) id
       ·exact hk.elim) (fun v'=>rfl) ⟨rfl,rfl,trivial,rfl⟩ rfl HSUB.out
      obtain ⟨vl,⟨vnc,⟨vnb,ves⟩⟩⟩:=v'
      have HBR9:Hid (Below bx w1 (w7.setCell ⟨bx,11,none⟩ (.slice ao2 ys.length cap2))):=hid (HBR5.out.trans (hu'.below (by omega) (fun k _ h=>by rcases h with h|h;omega;have:=(HLT5.out k h).1;omega)))
      have HQ2:=hid q2
      have HQ3:=hid q3
      have HOK:=hid hok
      have HNO:=hid hno
      clear hu7 hown7 hnew7 hlen7 hok hno hu8 hls8 hu' hp q2 q3 hxs hr0 hr1 hr2 hr3 hr4
      go_wp2_with fail
      have hj:=HJ.out
      go_roundg (gk - 1)
      case measure=>omega
      case rel =>
       refine ⟨j+1,vl,vnc,vnb,ves,P2,U,l,va,vt,vk,bp,vp,bm,vm,bg,vg,nc,ys,es,vf,by simp,by omega,HBR9.out,HQ2.out,HQ3.out,by omega,by omega,?_⟩
       cases gb with
       | true=>exact .inl ⟨rfl,hid ⟨by rw[HMY.out,HSE.out,HOK.out rfl]<;>rfl,HMU.out⟩⟩
       | false =>
        obtain ⟨c,hc⟩:=HNO.out rfl
        exact .inr ⟨rfl,c,mfoldk_err (j:=j+1) (by rw[HMY.out,HSE.out,hc]<;>rfl)⟩
     by_cases hn8:r.num=8
     ·have d2:((r.num:Int) == 2)=false:=by rw[beq_eq_false_iff_ne];omega
      have d3:((r.num:Int) == 3)=false:=by rw[beq_eq_false_iff_ne];omega
      have d4:((r.num:Int) == 4)=false:=by rw[beq_eq_false_iff_ne];omega
      have d5:((r.num:Int) == 5)=false:=by rw[beq_eq_false_iff_ne];omega
      have d6:((r.num:Int) == 6)=false:=by rw[beq_eq_false_iff_ne];omega
      have d7:((r.num:Int) == 7)=false:=by rw[beq_eq_false_iff_ne];omega
      have d8:((r.num:Int) == 8)=true:=by rw[beq_iff_eq];omega
      have hty:r.num=8∧r.ty=2:=by omega
      have HSE:=hid (hiF_8 hty d va vt vk bp vp nc nb es l vf bm vm bg vg)
      clear hty hnum hn2 hn3 hn4 hn5 hn6 hn7 hn8
      have q1:IntKind.i64.wrap (d - 1)=d - 1:=IntWalk.i64_in _ (by have:=HDD.out;have:=HD0.out;omega)
      have HCV:=hid (ex_refread S (d - 1) w6 (by have:=HSZ.out;have:=HSUM.out;have:=HSS.out;omega) (by have:=HDD.out;have:=HD0.out;omega))
      go_wp2_with fail
      refine HCV.out.mono ?_;intro e wq6 hpost
      obtain ⟨hb6,gb,x,cs,rfl,hrel,hok,hno⟩:=exres hpost
      rw[HSD.out] at hok hno
      have HB6:=hid hb6
      have HOK:=hid hok
      have HNO:=hid hno
      have HREL:=hid hrel
      obtain ⟨lo9,llo9,lc9,jt9,jk9,jn9,Xa9,Xb9,Xu9,hcs⟩:=ExRel.form hrel
      have HCS:=hid hcs
      rw[hcs]
      clear hcs hrel hok hno hb6 hr0 hr2 hr3
      have HLT5:Hid (∀ k,P1 k→bx+1≤k∧k<w6.heap.size):=hid ((hiA bx).lt HL5.out)
      obtain ⟨Pi,hls,hsub,hput⟩:=hi_see_es bx _ _ _ _ HL5.out
      obtain ⟨css,Q,h1,h2,h3,h4,rfl⟩:=hls
      obtain ⟨ao,cap,hv⟩:=own_slice h1
      have hv:ves = .slice ao es.length cap:=hv
      subst hv
      have HPUT:=hid hput
      have HSUB:=hid hsub
      have HO5:=hid h1
      have H2:=hid h2
      have H3:=hid h3
      have H4:=hid h4
      clear h1 h2 h3 h4 hput hsub
      have HO6:=hid (own_below HO5.out HB6.out)
      have HX6:=hid ((HB6.out.block _ (row_lt HX5.out)).trans HX5.out)
      have hxlt:=row_lt HX6.out
      have hx4:(wq6.alloc (.cells #[.slice lo9 llo9 lc9,.int .u64 jt9,.int .i64 jk9,.int .u64 jn9,.string Xa9,.string Xb9,.string Xu9] 91)).cell? ⟨bx,12,none⟩=some (.slice ao es.length cap):=row_cell ((Below.heap_alloc _ _ _ hxlt).trans HX6.out) (j:=12) rfl
      have hN7:bx+1≤(wq6.alloc (.cells #[.slice lo9 llo9 lc9,.int .u64 jt9,.int .i64 jk9,.int .u64 jn9,.string Xa9,.string Xb9,.string Xu9] 91)).heap.size:=by simp;omega
      have hxm:es.length≤1000000:=by omega
      have hnb:¬(Value.slice ao es.length cap).ownBlock=some bx:=fun h=>by have:=(HO6.out.lt _ h).1;omega
      have HX8:Hid ((wq6.alloc (.cells #[.slice lo9 llo9 lc9,.int .u64 jt9,.int .i64 jk9,.int .u64 jn9,.string Xa9,.string Xb9,.string Xu9] 91)).heap[bx]? = some (.cells #[vl,.int .u64 (va:Int),.int .u64 (vt:Int),.int .u64 (vk:Int),.bool bp,.int .u64 (vp:Int),.bool bm,.int .u64 (vm:Int),.bool bg,.int .u64 (vg:Int),vnc,vnb,.slice ao es.length cap,.int .u32 (vf:Int),.string U] 50 (0,0))):=hid ((Below.heap_alloc _ _ _ hxlt).trans HX6.out)
      go_wp2_with (at_builtin;(refine wpList_app1_at (c:=1) (cs:=[.slice lo9 llo9 lc9,.int .u64 jt9,.int .i64 jk9,.int .u64 jn9,.string Xa9,.string Xb9,.string Xu9]) rfl _ _ 25 rfl Tryz.elExL (by decide) (HO6.out.alloc _) rfl (by show Value.slice (some ⟨wq6.heap.size+1,0,none⟩) 1 1=_;simp) rfl (by simp[Value.oneCell']) (by unfold maxLen;omega) (by omega) hN7 ?_);intro g2 cap2 w9 hown9 hgrow9 hg9;have HX9:=hid ((hgrow9.block _ (row_lt HX8.out) (fun e=>hnb e.symm)).trans HX8.out);have hf9:w9.frozen? ⟨bx,12,none⟩=false:=row_thaw HX9.out 12;have hc9:w9.cell? ⟨bx,12,none⟩=some (.slice ao es.length cap):=row_cell HX9.out (j:=12) rfl)
      have hgu:Upd (fun k=>(Value.slice ao es.length cap).ownBlock=some k) (wq6.alloc (.cells #[.slice lo9 llo9 lc9,.int .u64 jt9,.int .i64 jk9,.int .u64 jn9,.string Xa9,.string Xb9,.string Xu9] 91)) w9:=Upd.of_grown hgrow9
      have hu6:Upd (fun k=>(Value.slice ao es.length cap).ownBlock=some k) wq6 w9:=(Upd.alloc _ _ _).trans hgu
      have hu:=Upd.set w9 ⟨bx,12,none⟩ (.slice (some ⟨g2,0,none⟩) (es.length+1) cap2)
      have hzz:wq6.heap.size≤(wq6.alloc (.cells #[.slice lo9 llo9 lc9,.int .u64 jt9,.int .i64 jk9,.int .u64 jn9,.string Xa9,.string Xb9,.string Xu9] 91)).heap.size:=(Upd.alloc (fun _=>False) wq6 _).size
      have hadd:=add_fin (C:=exCel) (T:=91) (T0:=50) (b:=bx) (o:=12) (base:=bx+1) (cs0:=#[vl,.int .u64 (va:Int),.int .u64 (vt:Int),.int .u64 (vk:Int),.bool bp,.int .u64 (vp:Int),.bool bm,.int .u64 (vm:Int),.bool bg,.int .u64 (vg:Int),vnc,vnb,.slice ao es.length cap,.int .u32 (vf:Int),.string U]) (xs:=es) (W:=w9.setCell ⟨bx,12,none⟩ (.slice (some ⟨g2,0,none⟩) (es.length+1) cap2)) ⟨by omega,by omega⟩ HB6.out H2.out H3.out (fun k hk=>⟨(H4.out k hk).1,(H4.out k hk).2.1,(H4.out k hk).2.2⟩) HREL.out (row_set HX9.out 12 _) (by rw[HCS.out];exact hu.own hown9 (fun k hk e=>by have e:k=bx:=e;subst e;have h0:g2=k:=(by simpa [Value.ownBlock] using hk);rcases hg9 with h|h;exact hnb (h0 ▸ h);omega)) ((hu6.mono fun k _ h => .inr h).trans (hu.mono fun k _ h => .inl h)) (hg9.imp id fun h=>Nat.le_trans hzz h) (fun k hk=>(HO5.out.lt k hk).2)
      obtain ⟨_,hu',P',⟨v',P2,q2,q3,rfl⟩,hp⟩:=rowL_add (A:=hiA bx) (put:=fun (v:Value × Value × Value × Value) v'=>((v.1,(v.2.1,(v.2.2.1,v'))):Value × Value × Value × Value)) (sm:=fun st st':hiS=>(st'.2.2.2.2.2.2.2.1=st.2.2.2.2.2.2.2.1)∧(st'.2.2.2.2.1=st.2.2.2.2.1)∧(st'.2.2.2.2.2.1=st.2.2.2.2.2.1)∧True) (row:=fun (st:hiS) (v:Value × Value × Value × Value)=>#[v.1,.int .u64 (st.1:Int),.int .u64 (st.2.1:Int),.int .u64 (st.2.2.1:Int),.bool st.2.2.2.1.1,.int .u64 (st.2.2.2.1.2:Int),.bool st.2.2.2.2.2.2.2.2.2.1.1,.int .u64 (st.2.2.2.2.2.2.2.2.2.1.2:Int),.bool st.2.2.2.2.2.2.2.2.2.2.1,.int .u64 (st.2.2.2.2.2.2.2.2.2.2.2:Int),v.2.1,v.2.2.1,v.2.2.2,.int .u32 (st.2.2.2.2.2.2.2.2.1:Int),.string U]) (ls:=fun st:hiS=>st.2.2.2.2.2.2.1) (st:=(va,(vt,(vk,((bp,vp),(nc,(nb,(es,(l,(vf,((bm,vm),(bg,vg)))))))))))) (st':=(va,(vt,(vk,((bp,vp),(nc,(nb,(es++[x],(l,(vf,((bm,vm),(bg,vg)))))))))))) (v:=(vl,(vnc,(vnb,(.slice ao es.length cap))))) HL5.out HPUT.out hadd (fun v'=>rfl) ⟨rfl,rfl,rfl,trivial⟩ rfl HSUB.out
      obtain ⟨vl,⟨vnc,⟨vnb,ves⟩⟩⟩:=v'
      have HBR9:Hid (Below bx w1 (w9.setCell ⟨bx,12,none⟩ (.slice (some ⟨g2,0,none⟩) (es.length+1) cap2))):=hid (HBR5.out.trans (hu'.below (by omega) (fun k _ h=>by rcases h with h|h;omega;have:=(HLT5.out k h).1;omega)))
      have HQ2:=hid q2
      have HQ3:=hid q3
      clear hgu hu6 hu hzz hadd hu' hp q2 q3
      have hj:=HJ.out
      go_roundg (gk - 1)
      case measure=>omega
      case rel =>
       refine ⟨j+1,vl,vnc,vnb,ves,P2,U,l,va,vt,vk,bp,vp,bm,vm,bg,vg,nc,nb,es++[x],vf,by simp,by omega,HBR9.out,HQ2.out,HQ3.out,by omega,by simp;omega,?_⟩
       cases gb with
       | true=>exact .inl ⟨rfl,hid ⟨by rw[HMY.out,HSE.out,HOK.out rfl]<;>rfl,HMU.out⟩⟩
       | false =>
        obtain ⟨c,hc⟩:=HNO.out rfl
        exact .inr ⟨rfl,c,mfoldk_err (j:=j+1) (by rw[HMY.out,HSE.out,hc]<;>rfl)⟩
     by_cases hn9:r.num=9
     ·have d2:((r.num:Int) == 2)=false:=by rw[beq_eq_false_iff_ne];omega
      have d3:((r.num:Int) == 3)=false:=by rw[beq_eq_false_iff_ne];omega
      have d4:((r.num:Int) == 4)=false:=by rw[beq_eq_false_iff_ne];omega
      have d5:((r.num:Int) == 5)=false:=by rw[beq_eq_false_iff_ne];omega
      have d6:((r.num:Int) == 6)=false:=by rw[beq_eq_false_iff_ne];omega
      have d7:((r.num:Int) == 7)=false:=by rw[beq_eq_false_iff_ne];omega
      have d8:((r.num:Int) == 8)=false:=by rw[beq_eq_false_iff_ne];omega
      have d9:((r.num:Int) == 9)=true:=by rw[beq_iff_eq];omega
      have hty:r.num=9∧r.ty=2:=by omega
      have HSE:=hid (hiF_9 hty d va vt vk bp vp nc nb es l vf bm vm bg vg)
      clear hty hnum hn2 hn3 hn4 hn5 hn6 hn7 hn8 hn9
      have q1:IntKind.i64.wrap (d - 1)=d - 1:=IntWalk.i64_in _ (by have:=HDD.out;have:=HD0.out;omega)
      have HCV:=hid ((both8_any 1000001 S (d - 1) w6 (by have:=HSZ.out;have:=HSUM.out;have:=HSS.out;omega) (by have:=HSZ.out;have:=HSUM.out;have:=HSS.out;omega) (by have:=HDD.out;have:=HD0.out;omega)).2)
      go_wp2_with fail
      refine HCV.out.mono ?_;intro e wq6 hpost
      obtain ⟨hb6,hcase⟩:=hpost
      obtain ⟨gb,x,cs,rfl,hrel,hok,hno⟩:=kres hcase
      rw[HSD.out] at hok hno
      have HB6:=hid hb6
      have HOK:=hid hok
      have HNO:=hid hno
      have HREL:=hid hrel
      obtain ⟨K0,h0,k,S1,b0,n,l1,ln,lc,mo,mn,mc,I0,U0,U1,hcs⟩:=hrel.form
      have HCS:=hid hcs
      rw[hcs]
      clear hcs hrel hok hno hb6 hr0 hr2 hr3
      have HLT5:Hid (∀ k,P1 k→bx+1≤k∧k<w6.heap.size):=hid ((hiA bx).lt HL5.out)
      obtain ⟨Pi,hls,hsub,hput⟩:=hi_see_l bx _ _ _ _ HL5.out
      obtain ⟨css,Q,h1,h2,h3,h4,rfl⟩:=hls
      obtain ⟨ao,cap,hv⟩:=own_slice h1
      have hv:vl = .slice ao l.length cap:=hv
      subst hv
      have HPUT:=hid hput
      have HSUB:=hid hsub
      have HO5:=hid h1
      have H2:=hid h2
      have H3:=hid h3
      have H4:=hid h4
      clear h1 h2 h3 h4 hput hsub
      have HO6:=hid (own_below HO5.out HB6.out)
      have HX6:=hid ((HB6.out.block _ (row_lt HX5.out)).trans HX5.out)
      have hxlt:=row_lt HX6.out
      have hx4:(wq6.alloc (.cells #[.string K0,.bool h0,.int .i64 k,.string S1,.bool b0,.int .u64 n,.slice l1 ln lc,.slice mo mn mc,.string I0,.string U0,.string U1] 98)).cell? ⟨bx,0,none⟩=some (.slice ao l.length cap):=row_cell ((Below.heap_alloc _ _ _ hxlt).trans HX6.out) (j:=0) rfl
      have hN7:bx+1≤(wq6.alloc (.cells #[.string K0,.bool h0,.int .i64 k,.string S1,.bool b0,.int .u64 n,.slice l1 ln lc,.slice mo mn mc,.string I0,.string U0,.string U1] 98)).heap.size:=by simp;omega
      have hxm:l.length≤1000000:=by omega
      have hnb:¬(Value.slice ao l.length cap).ownBlock=some bx:=fun h=>by have:=(HO6.out.lt _ h).1;omega
      have HX8:Hid ((wq6.alloc (.cells #[.string K0,.bool h0,.int .i64 k,.string S1,.bool b0,.int .u64 n,.slice l1 ln lc,.slice mo mn mc,.string I0,.string U0,.string U1] 98)).heap[bx]? = some (.cells #[.slice ao l.length cap,.int .u64 (va:Int),.int .u64 (vt:Int),.int .u64 (vk:Int),.bool bp,.int .u64 (vp:Int),.bool bm,.int .u64 (vm:Int),.bool bg,.int .u64 (vg:Int),vnc,vnb,ves,.int .u32 (vf:Int),.string U] 50 (0,0))):=hid ((Below.heap_alloc _ _ _ hxlt).trans HX6.out)
      go_wp2_with (at_builtin;(refine wpList_app1_at (c:=1) (cs:=[.string K0,.bool h0,.int .i64 k,.string S1,.bool b0,.int .u64 n,.slice l1 ln lc,.slice mo mn mc,.string I0,.string U0,.string U1]) rfl _ _ 23 rfl Tryz.elKL (by decide) (HO6.out.alloc _) rfl (by show Value.slice (some ⟨wq6.heap.size+1,0,none⟩) 1 1=_;simp) rfl (by simp[Value.oneCell']) (by unfold maxLen;omega) (by omega) hN7 ?_);intro g2 cap2 w9 hown9 hgrow9 hg9;have HX9:=hid ((hgrow9.block _ (row_lt HX8.out) (fun e=>hnb e.symm)).trans HX8.out);have hf9:w9.frozen? ⟨bx,0,none⟩=false:=row_thaw HX9.out 0;have hc9:w9.cell? ⟨bx,0,none⟩=some (.slice ao l.length cap):=row_cell HX9.out (j:=0) rfl)
      have hgu:Upd (fun k=>(Value.slice ao l.length cap).ownBlock=some k) (wq6.alloc (.cells #[.string K0,.bool h0,.int .i64 k,.string S1,.bool b0,.int .u64 n,.slice l1 ln lc,.slice mo mn mc,.string I0,.string U0,.string U1] 98)) w9:=Upd.of_grown hgrow9
      have hu6:Upd (fun k=>(Value.slice ao l.length cap).ownBlock=some k) wq6 w9:=(Upd.alloc _ _ _).trans hgu
      have hu:=Upd.set w9 ⟨bx,0,none⟩ (.slice (some ⟨g2,0,none⟩) (l.length+1) cap2)
      have hzz:wq6.heap.size≤(wq6.alloc (.cells #[.string K0,.bool h0,.int .i64 k,.string S1,.bool b0,.int .u64 n,.slice l1 ln lc,.slice mo mn mc,.string I0,.string U0,.string U1] 98)).heap.size:=(Upd.alloc (fun _=>False) wq6 _).size
      have hadd:=add_fin (C:=kcel) (T:=98) (T0:=50) (b:=bx) (o:=0) (base:=bx+1) (cs0:=#[.slice ao l.length cap,.int .u64 (va:Int),.int .u64 (vt:Int),.int .u64 (vk:Int),.bool bp,.int .u64 (vp:Int),.bool bm,.int .u64 (vm:Int),.bool bg,.int .u64 (vg:Int),vnc,vnb,ves,.int .u32 (vf:Int),.string U]) (xs:=l) (W:=w9.setCell ⟨bx,0,none⟩ (.slice (some ⟨g2,0,none⟩) (l.length+1) cap2)) ⟨by omega,by omega⟩ HB6.out H2.out H3.out (fun k hk=>⟨(H4.out k hk).1,(H4.out k hk).2.1,(H4.out k hk).2.2⟩) HREL.out (row_set HX9.out 0 _) (by rw[HCS.out];exact hu.own hown9 (fun k hk e=>by have e:k=bx:=e;subst e;have h0:g2=k:=(by simpa [Value.ownBlock] using hk);rcases hg9 with h|h;exact hnb (h0 ▸ h);omega)) ((hu6.mono fun k _ h => .inr h).trans (hu.mono fun k _ h => .inl h)) (hg9.imp id fun h=>Nat.le_trans hzz h) (fun k hk=>(HO5.out.lt k hk).2)
      obtain ⟨_,hu',P',⟨v',P2,q2,q3,rfl⟩,hp⟩:=rowL_add (A:=hiA bx) (put:=fun (v:Value × Value × Value × Value) v'=>((v',(v.2.1,(v.2.2.1,v.2.2.2))):Value × Value × Value × Value)) (sm:=fun st st':hiS=>(True)∧(st'.2.2.2.2.1=st.2.2.2.2.1)∧(st'.2.2.2.2.2.1=st.2.2.2.2.2.1)∧st'.2.2.2.2.2.2.1=st.2.2.2.2.2.2.1) (row:=fun (st:hiS) (v:Value × Value × Value × Value)=>#[v.1,.int .u64 (st.1:Int),.int .u64 (st.2.1:Int),.int .u64 (st.2.2.1:Int),.bool st.2.2.2.1.1,.int .u64 (st.2.2.2.1.2:Int),.bool st.2.2.2.2.2.2.2.2.2.1.1,.int .u64 (st.2.2.2.2.2.2.2.2.2.1.2:Int),.bool st.2.2.2.2.2.2.2.2.2.2.1,.int .u64 (st.2.2.2.2.2.2.2.2.2.2.2:Int),v.2.1,v.2.2.1,v.2.2.2,.int .u32 (st.2.2.2.2.2.2.2.2.1:Int),.string U]) (ls:=fun st:hiS=>st.2.2.2.2.2.2.2.1) (st:=(va,(vt,(vk,((bp,vp),(nc,(nb,(es,(l,(vf,((bm,vm),(bg,vg)))))))))))) (st':=(va,(vt,(vk,((bp,vp),(nc,(nb,(es,(l++[x],(vf,((bm,vm),(bg,vg)))))))))))) (v:=((.slice ao l.length cap),(vnc,(vnb,ves)))) HL5.out HPUT.out hadd (fun v'=>rfl) ⟨trivial,rfl,rfl,rfl⟩ rfl HSUB.out
      obtain ⟨vl,⟨vnc,⟨vnb,ves⟩⟩⟩:=v'
      have HBR9:Hid (Below bx w1 (w9.setCell ⟨bx,0,none⟩ (.slice (some ⟨g2,0,none⟩) (l.length+1) cap2))):=hid (HBR5.out.trans (hu'.below (by omega) (fun k _ h=>by rcases h with h|h;omega;have:=(HLT5.out k h).1;omega)))
      have HQ2:=hid q2
      have HQ3:=hid q3
      clear hgu hu6 hu hzz hadd hu' hp q2 q3
      have hj:=HJ.out
      go_roundg (gk - 1)
      case measure=>omega
      case rel =>
       refine ⟨j+1,vl,vnc,vnb,ves,P2,U,l++[x],va,vt,vk,bp,vp,bm,vm,bg,vg,nc,nb,es,vf,by simp,by omega,HBR9.out,HQ2.out,HQ3.out,by simp;omega,by omega,?_⟩
       cases gb with
       | true=>exact .inl ⟨rfl,hid ⟨by rw[HMY.out,HSE.out,HOK.out rfl]<;>rfl,HMU.out⟩⟩
       | false =>
        obtain ⟨c,hc⟩:=HNO.out rfl
        exact .inr ⟨rfl,c,mfoldk_err (j:=j+1) (by rw[HMY.out,HSE.out,hc]<;>rfl)⟩
     by_cases hn10:r.num=10
     ·have d2:((r.num:Int) == 2)=false:=by rw[beq_eq_false_iff_ne];omega
      have d3:((r.num:Int) == 3)=false:=by rw[beq_eq_false_iff_ne];omega
      have d4:((r.num:Int) == 4)=false:=by rw[beq_eq_false_iff_ne];omega
      have d5:((r.num:Int) == 5)=false:=by rw[beq_eq_false_iff_ne];omega
      have d6:((r.num:Int) == 6)=false:=by rw[beq_eq_false_iff_ne];omega
      have d7:((r.num:Int) == 7)=false:=by rw[beq_eq_false_iff_ne];omega
      have d8:((r.num:Int) == 8)=false:=by rw[beq_eq_false_iff_ne];omega
      have d9:((r.num:Int) == 9)=false:=by rw[beq_eq_false_iff_ne];omega
      have d10:((r.num:Int) == 10)=true:=by rw[beq_iff_eq];omega
      have hty:r.num=10∧r.ty=0:=by omega
      have HSE:=hid (hiF_10 hty d va vt vk bp vp nc nb es l vf bm vm bg vg)
      clear hty hnum hn2 hn3 hn4 hn5 hn6 hn7 hn8 hn9 hn10
      have q1:=u32_wrap r.n
      have hxc:w6.cell? ⟨bx,13,none⟩=some (.int .u32 (vf:Int)):=row_cell HX5.out (j:=13) rfl
      have hxf:w6.frozen? ⟨bx,13,none⟩=false:=row_thaw HX5.out 13
      go_wp2_with fail
      have hj:=HJ.out
      have hu:=Upd.set w6 ⟨bx,13,none⟩ (.int .u32 ((r.n % 4294967296:Nat):Int))
      go_roundg (gk - 1)
      case measure=>omega
      case rel =>
       exact ⟨j+1,vl,vnc,vnb,ves,P1,U,l,va,vt,vk,bp,vp,bm,vm,bg,vg,nc,nb,es,r.n % 4294967296,by simp,by omega,HBR5.out.trans (hu.below (by omega) (fun k _ h=>by have h:k=bx:=h;omega)),row_set HX5.out 13 _,LPart.stay HL5.out hu ⟨rfl,rfl,rfl,rfl⟩,by omega,by omega,.inl ⟨rfl,hid ⟨by rw[HMY.out,HSE.out]<;>rfl,HMU.out⟩⟩⟩
     by_cases hn11:r.num=11
     ·have d2:((r.num:Int) == 2)=false:=by rw[beq_eq_false_iff_ne];omega
      have d3:((r.num:Int) == 3)=false:=by rw[beq_eq_false_iff_ne];omega
      have d4:((r.num:Int) == 4)=false:=by rw[beq_eq_false_iff_ne];omega
      have d5:((r.num:Int) == 5)=false:=by rw[beq_eq_false_iff_ne];omega
      have d6:((r.num:Int) == 6)=false:=by rw[beq_eq_false_iff_ne];omega
      have d7:((r.num:Int) == 7)=false:=by rw[beq_eq_false_iff_ne];omega
      have d8:((r.num:Int) == 8)=false:=by rw[beq_eq_false_iff_ne];omega
      have d9:((r.num:Int) == 9)=false:=by rw[beq_eq_false_iff_ne];omega
      have d10:((r.num:Int) == 10)=false:=by rw[beq_eq_false_iff_ne];omega
      have d11:((r.num:Int) == 11)=true:=by rw[beq_iff_eq];omega
      have hty:r.num=11∧r.ty=1:=by omega
      have HSE:=hid (hiF_11 hty d va vt vk bp vp nc nb es l vf bm vm bg vg)
      clear hty hnum hn2 hn3 hn4 hn5 hn6 hn7 hn8 hn9 hn10 hn11
      have hxa:w6.cell? ⟨bx,6,none⟩=some (.bool bm):=row_cell HX5.out (j:=6) rfl
      have hfa:w6.frozen? ⟨bx,6,none⟩=false:=row_thaw HX5.out 6
      have hx1:=row_set HX5.out 6 (.bool true)
      have hxb2:(w6.setCell ⟨bx,6,none⟩ (.bool true)).cell? ⟨bx,7,none⟩=some (.int .u64 (vm:Int)):=row_cell hx1 (j:=7) rfl
      have hfb2:(w6.setCell ⟨bx,6,none⟩ (.bool true)).frozen? ⟨bx,7,none⟩=false:=row_thaw hx1 7
      have hox:=row_set hx1 7 (.int .u64 (r.n:Int))
      have HOX:=hid hox
      clear hx1 hox
      go_wp2_with fail
      have hj:=HJ.out
      have hu:=(Upd.set w6 ⟨bx,6,none⟩ (.bool true)).trans (Upd.set _ ⟨bx,7,none⟩ (.int .u64 (r.n:Int)))
      go_roundg (gk - 1)
      case measure=>omega
      case rel =>
       exact ⟨j+1,vl,vnc,vnb,ves,P1,U,l,va,vt,vk,bp,vp,true,r.n,bg,vg,nc,nb,es,vf,by simp,by omega,HBR5.out.trans (hu.below (by omega) (fun k _ h=>by have h:k=bx:=h;omega)),HOX.out,LPart.stay HL5.out hu ⟨rfl,rfl,rfl,rfl⟩,by omega,by omega,.inl ⟨rfl,hid ⟨by rw[HMY.out,HSE.out]<;>rfl,HMU.out⟩⟩⟩
     have d2:((r.num:Int) == 2)=false:=by rw[beq_eq_false_iff_ne];omega
     have d3:((r.num:Int) == 3)=false:=by rw[beq_eq_false_iff_ne];omega
     have d4:((r.num:Int) == 4)=false:=by rw[beq_eq_false_iff_ne];omega
     have d5:((r.num:Int) == 5)=false:=by rw[beq_eq_false_iff_ne];omega
     have d6:((r.num:Int) == 6)=false:=by rw[beq_eq_false_iff_ne];omega
     have d7:((r.num:Int) == 7)=false:=by rw[beq_eq_false_iff_ne];omega
     have d8:((r.num:Int) == 8)=false:=by rw[beq_eq_false_iff_ne];omega
     have d9:((r.num:Int) == 9)=false:=by rw[beq_eq_false_iff_ne];omega
     have d10:((r.num:Int) == 10)=false:=by rw[beq_eq_false_iff_ne];omega
     have d11:((r.num:Int) == 11)=false:=by rw[beq_eq_false_iff_ne];omega
     have d12:((r.num:Int) == 12)=true:=by rw[beq_iff_eq];omega
     have hty:r.num=12∧r.ty=1:=by omega
     have HSE:=hid (hiF_12 hty d va vt vk bp vp nc nb es l vf bm vm bg vg)
     clear hty hnum hn2 hn3 hn4 hn5 hn6 hn7 hn8 hn9 hn10 hn11
     have hxa:w6.cell? ⟨bx,8,none⟩=some (.bool bg):=row_cell HX5.out (j:=8) rfl
     have hfa:w6.frozen? ⟨bx,8,none⟩=false:=row_thaw HX5.out 8
     have hx1:=row_set HX5.out 8 (.bool true)
     have hxb2:(w6.setCell ⟨bx,8,none⟩ (.bool true)).cell? ⟨bx,9,none⟩=some (.int .u64 (vg:Int)):=row_cell hx1 (j:=9) rfl
     have hfb2:(w6.setCell ⟨bx,8,none⟩ (.bool true)).frozen? ⟨bx,9,none⟩=false:=row_thaw hx1 9
     have hox:=row_set hx1 9 (.int .u64 (r.n:Int))
     have HOX:=hid hox
     clear hx1 hox
     go_wp2_with fail
     have hj:=HJ.out
     have hu:=(Upd.set w6 ⟨bx,8,none⟩ (.bool true)).trans (Upd.set _ ⟨bx,9,none⟩ (.int .u64 (r.n:Int)))
     go_roundg (gk - 1)
     case measure=>omega
     case rel =>
      exact ⟨j+1,vl,vnc,vnb,ves,P1,U,l,va,vt,vk,bp,vp,bm,vm,true,r.n,nc,nb,es,vf,by simp,by omega,HBR5.out.trans (hu.below (by omega) (fun k _ h=>by have h:k=bx:=h;omega)),HOX.out,LPart.stay HL5.out hu ⟨rfl,rfl,rfl,rfl⟩,by omega,by omega,.inl ⟨rfl,hid ⟨by rw[HMY.out,HSE.out]<;>rfl,HMU.out⟩⟩⟩
end Go.Proofs.YtjbingoliffjiaaGreatDoor
