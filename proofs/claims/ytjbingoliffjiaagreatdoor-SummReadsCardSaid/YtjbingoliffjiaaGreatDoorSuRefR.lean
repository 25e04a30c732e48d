/-
  hygref13.ReadSummary.
-/
import Derived.Test.YtjbingoliffjiaaGreatDoorQuRef
import Derived.Test.YtjbingoliffjiaaGreatDoorSuRead
import Derived.Test.YtjbingoliffjiaaGreatDoorRefValue
set_option maxRecDepth 1000000
set_option maxHeartbeats 16000000
namespace Go.Proofs.YtjbingoliffjiaaGreatDoor
open Go.RowKit
theorem LPart.stay {σ:Type} {bx:Nat} {A:LPart σ (bx+1)} {st st':σ} {v:A.V} {P:Nat→Prop} {w w':World} (h:A.rel st v P w) (hu:Upd (fun k=>k=bx) w w') (hs:A.same st st'):A.rel st' v P w' :=
 A.conv hs (A.kept h (hu.mono fun k _ h1 h'=>by have h1:k=bx:=h1;have:=(A.lt h k h').1;omega))
theorem qures {rd:Except Nat Qu} {w:World} {e:Ending} {w':World} (h:RfPost quCel quzero rd w e w'):Below w.heap.size w w'∧∃ (gb:Bool) (x:Qu) (cs:List Value),e = .returned (.tuple #[.agg cs.toArray,.bool gb])∧quCel.R w' (fun k=>w.heap.size≤k) x cs∧(gb=true→rd = .ok x)∧(gb=false→∃ c,rd = .error c):=by
 obtain ⟨hb,h⟩:=h
 refine ⟨hb,?_⟩
 cases rd with
 | error c=>exact ⟨false,_,_,h,qu_zrel _ _,fun h=>(by cases h),fun _=>⟨c,rfl⟩⟩
 | ok x =>
  obtain ⟨cs,h1,h2⟩:=h
  exact ⟨true,x,cs,h1,h2,fun _=>rfl,fun h=>(by cases h)⟩
theorem su_refread (X:ByteArray) (d:Int) (w:World) (hX:X.size≤500000) (hd : -9223372036854775808≤d∧d≤9223372036854775807) :
  Calls Tryz.prog 35 #[.string X,.int .i64 d] w (RfPost suCel suzero (surd X.data.toList d) w):=by
 obtain ⟨g,hg⟩:∃ g,w.heap.size=g:=⟨_,rfl⟩
 obtain ⟨W0,hW0⟩:∃ W0,w.alloc (.cells #[.slice none 0 0,.int .u64 0,.int .u64 0,.int .u64 0,.int .u64 0,.slice none 0 0,.int .u32 0,.string ⟨#[]⟩] 64)=W0:=⟨_,rfl⟩
 have HB0:Hid (Below w.heap.size w W0):=Lib.hid (by rw[←hW0];exact below_new _ _)
 have HG0:Hid (W0.heap[g]? = some (.cells #[.slice none 0 0,.int .u64 0,.int .u64 0,.int .u64 0,.int .u64 0,.slice none 0 0,.int .u32 0,.string ⟨#[]⟩] 64 (0,0))):=Lib.hid (by rw[←hW0,←hg];exact heap_alloc_new w _)
 have hs0:W0.heap.size=g+1:=by rw[←hW0,←hg];simp
 have HF:=Lib.hid (fields_any X d W0 (by omega) hd.2)
 have HW0:=Lib.hid hW0
 have HGG:=Lib.hid hg
 have HS0:=Lib.hid hs0
 have HDD:=Lib.hid hd
 have HSS:=Lib.hid hX
 clear hW0 hd hX hs0 hg
 cases hw:wfields X.data.toList d with
 | error c =>
  have HBR:Hid (surd X.data.toList d = .error c):=Lib.hid ((mread_fields (σ:=suS)).trans (by rw[hw]))
  have HW:=Lib.hid hw
  clear hw
  go_enter Tryz.func35,Tryz.ntmps35
  go_wp2_with fail
  rw[HW0.out,HGG.out]
  refine HF.out.mono ?_;intro e w1 hpost
  unfold FieldsPost at hpost
  rw[HW.out] at hpost
  obtain ⟨hb1,rfl⟩:=hpost
  have HB1:=Lib.hid (below_step HB0.out hb1)
  have HG1:Hid (w1.heap[g]? = some (.cells #[.slice none 0 0,.int .u64 0,.int .u64 0,.int .u64 0,.int .u64 0,.slice none 0 0,.int .u32 0,.string ⟨#[]⟩] 64 (0,0))):=Lib.hid ((hb1.block _ (row_lt HG0.out)).trans HG0.out)
  clear hb1
  go_wp2_with fail
  obtain ⟨W2,hW2⟩:∃ W2,w1.alloc (.cells #[.slice none 0 0,.int .u64 0,.int .u64 0,.int .u64 0,.int .u64 0,.slice none 0 0,.int .u32 0,.string ⟨#[]⟩] 64)=W2:=⟨_,rfl⟩
  have HB2:Hid (Below w.heap.size w W2):=Lib.hid (by rw[←hW2];exact below_step HB1.out (below_new _ _))
  have HG2:Hid (W2.heap[g]? = some (.cells #[.slice none 0 0,.int .u64 0,.int .u64 0,.int .u64 0,.int .u64 0,.slice none 0 0,.int .u32 0,.string ⟨#[]⟩] 64 (0,0))):=Lib.hid (by rw[←hW2];exact (Below.heap_alloc _ _ _ (row_lt HG1.out)).trans HG1.out)
  rw[hW2]
  clear hW2
  go_loopg [7,9] 0 (fun k b i wr=>b = .bool false∧i = .int .i64 0∧wr=W2)
  case atStart=>exact ⟨rfl,rfl,rfl⟩
  case round =>
   obtain ⟨rfl,rfl,rfl⟩:=hrel
   have hg0:wr.cell? ⟨g,0,none⟩=some (.slice none 0 0):=row_cell HG2.out (j:=0) rfl
   have fg0:wr.frozen? ⟨g,0,none⟩=false:=row_thaw HG2.out 0
   have hg1:wr.cell? ⟨g,1,none⟩=some (.int .u64 0):=row_cell HG2.out (j:=1) rfl
   have fg1:wr.frozen? ⟨g,1,none⟩=false:=row_thaw HG2.out 1
   have hg2:wr.cell? ⟨g,2,none⟩=some (.int .u64 0):=row_cell HG2.out (j:=2) rfl
   have fg2:wr.frozen? ⟨g,2,none⟩=false:=row_thaw HG2.out 2
   have hg3:wr.cell? ⟨g,3,none⟩=some (.int .u64 0):=row_cell HG2.out (j:=3) rfl
   have fg3:wr.frozen? ⟨g,3,none⟩=false:=row_thaw HG2.out 3
   have hg4:wr.cell? ⟨g,4,none⟩=some (.int .u64 0):=row_cell HG2.out (j:=4) rfl
   have fg4:wr.frozen? ⟨g,4,none⟩=false:=row_thaw HG2.out 4
   have hg5:wr.cell? ⟨g,5,none⟩=some (.slice none 0 0):=row_cell HG2.out (j:=5) rfl
   have fg5:wr.frozen? ⟨g,5,none⟩=false:=row_thaw HG2.out 5
   have hg6:wr.cell? ⟨g,6,none⟩=some (.int .u32 0):=row_cell HG2.out (j:=6) rfl
   have fg6:wr.frozen? ⟨g,6,none⟩=false:=row_thaw HG2.out 6
   have hg7:wr.cell? ⟨g,7,none⟩=some (.string ⟨#[]⟩):=row_cell HG2.out (j:=7) rfl
   have fg7:wr.frozen? ⟨g,7,none⟩=false:=row_thaw HG2.out 7
   go_wp2_with fail
   obtain ⟨hr,hua⟩:=su_set HG2.out (.slice none 0 0) (.int .u64 0) (.int .u64 0) (.int .u64 0) (.int .u64 0) (.slice none 0 0) (.int .u32 0) (.string ⟨#[]⟩)
   refine body_cell2v rfl rfl (load_su hr rfl) rfl ?_
   refine ⟨HB2.out.trans (hua.below (by have:=HB2.out.size;omega) (fun k _ h=>by have h:k=g:=h;have:=HGG.out;omega)),?_⟩
   rw[HBR.out]
   exact rfl
 | ok rs =>
  have HBR:=Lib.hid (mread_of_fields (σ:=suS) (tk:=suF.tk) (step:=suF.step d) (st:=suF.z) hw)
  have HD0:Hid (0≤d):=Lib.hid (by unfold wfields at hw;split at hw;cases hw;omega)
  have HWA:Hid (wall X.data.toList d = .ok rs):=Lib.hid (by unfold wfields at hw;split at hw;cases hw;exact hw)
  have HLL:Hid (rs.length≤X.size):=Lib.hid (by have:=wall_length HWA.out;simpa using this)
  have HRAW:Hid (rs.flatMap Rec.raw=X.data.toList):=Lib.hid (wall_raws _ (Nat.le_refl _) HWA.out).1
  have HREC:Hid (∀ r∈rs,IsRec d r):=Lib.hid (wall_recs _ (Nat.le_refl _) HWA.out)
  have HW:=Lib.hid hw
  clear hw
  go_enter Tryz.func35,Tryz.ntmps35
  go_wp2_with fail
  rw[HW0.out,HGG.out]
  refine HF.out.mono ?_;intro e w1 hpost
  unfold FieldsPost at hpost
  rw[HW.out] at hpost
  obtain ⟨hb1,u,rfl,hown⟩:=hpost
  obtain ⟨lo,lcap,rfl⟩:=own_slice hown
  have HB1:=Lib.hid (below_step HB0.out hb1)
  have HO1:=Lib.hid hown
  have HG1:Hid (w1.heap[g]? = some (.cells #[.slice none 0 0,.int .u64 0,.int .u64 0,.int .u64 0,.int .u64 0,.slice none 0 0,.int .u32 0,.string ⟨#[]⟩] 64 (0,0))):=Lib.hid ((hb1.block _ (row_lt HG0.out)).trans HG0.out)
  clear hb1 hown
  go_wp2_with fail
  obtain ⟨bx,hbx⟩:∃ bx,w1.heap.size=bx:=⟨_,rfl⟩
  obtain ⟨W2,hW2⟩:∃ W2,w1.alloc (.cells #[.slice none 0 0,.int .u64 0,.int .u64 0,.int .u64 0,.int .u64 0,.slice none 0 0,.int .u32 0,.string ⟨#[]⟩] 64)=W2:=⟨_,rfl⟩
  have HB2:Hid (Below bx w1 W2):=Lib.hid (by rw[←hW2,←hbx];exact below_new _ _)
  have HX2:Hid (W2.heap[bx]? = some (.cells #[.slice none 0 0,.int .u64 0,.int .u64 0,.int .u64 0,.int .u64 0,.slice none 0 0,.int .u32 0,.string ⟨#[]⟩] 64 (0,0))):=Lib.hid (by rw[←hW2,←hbx];exact heap_alloc_new w1 _)
  rw[hW2,hbx]
  have HBX:=Lib.hid hbx
  clear hW2 hbx
  go_loopg [7,9] rs.length (fun k b i wr=>∃ (j:Nat) (vl vqs:Value) (P1:Nat→Prop) (U:ByteArray) (l:List KV) (va:Nat) (vt:Nat) (vk:Nat) (vn:Nat) (qs:List Qu) (vf:Nat),i = .int .i64 (j:Int)∧j+k=rs.length∧Below bx w1 wr∧wr.heap[bx]? = some (.cells #[vl,.int .u64 (va:Int),.int .u64 (vt:Int),.int .u64 (vk:Int),.int .u64 (vn:Int),vqs,.int .u32 (vf:Int),.string U] 64 (0,0))∧(suA bx).rel (va,(vt,(vk,(vn,(qs,(l,vf)))))) (vl,vqs) P1 wr∧l.length≤j∧qs.length≤j∧(b = .bool true∧Hid (mfold (σ:=suS) suF.tk (suF.step d) suF.z (rs.take j) = .ok (va,(vt,(vk,(vn,(qs,(l,vf))))))∧U.data.toList=munk suF.tk (rs.take j))∨b = .bool false∧∃ c,mfold (σ:=suS) suF.tk (suF.step d) suF.z rs = .error c))
  case atStart=>exact ⟨0,.slice none 0 0,.slice none 0 0,fun _=>False,⟨#[]⟩,[],0,0,0,0,[],0,rfl,by omega,HB2.out,HX2.out,ltwo_nil (lone_nil rfl) (lone_nil rfl),Nat.le_refl _,Nat.le_refl _,.inl ⟨rfl,Lib.hid ⟨rfl,rfl⟩⟩⟩
  case round =>
   obtain ⟨j,vl,vqs,P1,U,l,va,vt,vk,vn,qs,vf,rfl,hj,hbr,hx,hlb,hxll,hxlqs,hcase⟩:=hrel
   have HBR1:=Lib.hid hbr
   have HX1:=Lib.hid hx
   have HJ:=Lib.hid hj
   have HLB:=Lib.hid hlb
   have hjl:j≤1000000:=by have:=HLL.out;have:=HSS.out;omega
   have HGR:Hid (wr.heap[g]? = some (.cells #[.slice none 0 0,.int .u64 0,.int .u64 0,.int .u64 0,.int .u64 0,.slice none 0 0,.int .u32 0,.string ⟨#[]⟩] 64 (0,0))):=Lib.hid ((hbr.block _ (by have:=row_lt HG1.out;have:=HBX.out;omega)).trans HG1.out)
   have HWB:Hid (Below w.heap.size w wr):=Lib.hid (HB1.out.trans (hbr.mono (by have:=HB1.out.size;have:=HBX.out;omega)))
   have HGX:Hid (g<bx):=Lib.hid (by have:=row_lt HG1.out;have:=HBX.out;omega)
   clear hbr hx hj hlb
   rcases hcase with ⟨rfl,hst⟩|⟨rfl,c,hm⟩
   case inr =>
    have HBE:Hid (surd X.data.toList d = .error c):=Lib.hid (HBR.out.1 c hm)
    clear hm
    have hg0:wr.cell? ⟨g,0,none⟩=some (.slice none 0 0):=row_cell HGR.out (j:=0) rfl
    have fg0:wr.frozen? ⟨g,0,none⟩=false:=row_thaw HGR.out 0
    have hg1:wr.cell? ⟨g,1,none⟩=some (.int .u64 0):=row_cell HGR.out (j:=1) rfl
    have fg1:wr.frozen? ⟨g,1,none⟩=false:=row_thaw HGR.out 1
    have hg2:wr.cell? ⟨g,2,none⟩=some (.int .u64 0):=row_cell HGR.out (j:=2) rfl
    have fg2:wr.frozen? ⟨g,2,none⟩=false:=row_thaw HGR.out 2
    have hg3:wr.cell? ⟨g,3,none⟩=some (.int .u64 0):=row_cell HGR.out (j:=3) rfl
    have fg3:wr.frozen? ⟨g,3,none⟩=false:=row_thaw HGR.out 3
    have hg4:wr.cell? ⟨g,4,none⟩=some (.int .u64 0):=row_cell HGR.out (j:=4) rfl
    have fg4:wr.frozen? ⟨g,4,none⟩=false:=row_thaw HGR.out 4
    have hg5:wr.cell? ⟨g,5,none⟩=some (.slice none 0 0):=row_cell HGR.out (j:=5) rfl
    have fg5:wr.frozen? ⟨g,5,none⟩=false:=row_thaw HGR.out 5
    have hg6:wr.cell? ⟨g,6,none⟩=some (.int .u32 0):=row_cell HGR.out (j:=6) rfl
    have fg6:wr.frozen? ⟨g,6,none⟩=false:=row_thaw HGR.out 6
    have hg7:wr.cell? ⟨g,7,none⟩=some (.string ⟨#[]⟩):=row_cell HGR.out (j:=7) rfl
    have fg7:wr.frozen? ⟨g,7,none⟩=false:=row_thaw HGR.out 7
    by_cases hlt:j<rs.length
    all_goals
     go_wp2_with fail
     obtain ⟨hr,hua⟩:=su_set HGR.out (.slice none 0 0) (.int .u64 0) (.int .u64 0) (.int .u64 0) (.int .u64 0) (.slice none 0 0) (.int .u32 0) (.string ⟨#[]⟩)
     refine body_cell2v rfl rfl (load_su hr rfl) rfl ?_
     refine ⟨HWB.out.trans (hua.below (by have:=HWB.out.size;omega) (fun k _ h=>by have h:k=g:=h;have:=HGG.out;omega)),?_⟩
     rw[HBE.out]
     exact rfl
   case inl =>
    have HM:=Lib.hid hst.out.1
    have HU:=Lib.hid hst.out.2
    clear hst
    by_cases hlt:j<rs.length
    case neg =>
     have hjn:j=rs.length:=by have:=HJ.out;omega
     have hm:=HM.out
     have hu:=HU.out
     rw[hjn,List.take_length] at hm hu
     have HBE:Hid (surd X.data.toList d = .ok ((va,(vt,(vk,(vn,(qs,(l,vf)))))),U.data.toList)):=Lib.hid (by rw[hu];exact HBR.out.2 _ hm)
     have hrl:=HLB.out
     obtain ⟨Q0a,Q0b,r0,hrl,_,_⟩:=hrl
     have r0x:LsAt kcel 98 (bx+1) vl l _ wr:=r0
     obtain ⟨css,Q,g2,g3,g4,g5,_⟩:=r0x
     obtain ⟨lo,lc,hv⟩:=own_slice g2
     subst hv
     have HRL0:=Lib.hid (KRel_own g2 g3 (P:=fun k=>bx+1≤k) (fun j a1 a2=>KRel.upd (Upd.refl (fun _=>False) wr) (fun _ _ h=>h) (fun k hk=>(g5 k hk).2.1) _ _ (g4 j a1 a2)) (fun k hk=>(g2.lt k hk).1))
     have r1x:LsAt quCel 141 (bx+1) vqs qs _ wr:=hrl
     have hlt1:=LsAt.lt r1x
     have HLT1:=Lib.hid hlt1
     obtain ⟨qo,qc,hv⟩:∃ ao cap,vqs = .slice ao qs.length cap:=by obtain ⟨_,_,g2,_⟩:=r1x;exact own_slice g2
     subst hv
     have HRL1:=Lib.hid (CRels.of_ls r1x)
     have hg0:wr.cell? ⟨g,0,none⟩=some (.slice none 0 0):=row_cell HGR.out (j:=0) rfl
     have fg0:wr.frozen? ⟨g,0,none⟩=false:=row_thaw HGR.out 0
     have hg1:wr.cell? ⟨g,1,none⟩=some (.int .u64 0):=row_cell HGR.out (j:=1) rfl
     have fg1:wr.frozen? ⟨g,1,none⟩=false:=row_thaw HGR.out 1
     have hg2:wr.cell? ⟨g,2,none⟩=some (.int .u64 0):=row_cell HGR.out (j:=2) rfl
     have fg2:wr.frozen? ⟨g,2,none⟩=false:=row_thaw HGR.out 2
     have hg3:wr.cell? ⟨g,3,none⟩=some (.int .u64 0):=row_cell HGR.out (j:=3) rfl
     have fg3:wr.frozen? ⟨g,3,none⟩=false:=row_thaw HGR.out 3
     have hg4:wr.cell? ⟨g,4,none⟩=some (.int .u64 0):=row_cell HGR.out (j:=4) rfl
     have fg4:wr.frozen? ⟨g,4,none⟩=false:=row_thaw HGR.out 4
     have hg5:wr.cell? ⟨g,5,none⟩=some (.slice none 0 0):=row_cell HGR.out (j:=5) rfl
     have fg5:wr.frozen? ⟨g,5,none⟩=false:=row_thaw HGR.out 5
     have hg6:wr.cell? ⟨g,6,none⟩=some (.int .u32 0):=row_cell HGR.out (j:=6) rfl
     have fg6:wr.frozen? ⟨g,6,none⟩=false:=row_thaw HGR.out 6
     have hg7:wr.cell? ⟨g,7,none⟩=some (.string ⟨#[]⟩):=row_cell HGR.out (j:=7) rfl
     have fg7:wr.frozen? ⟨g,7,none⟩=false:=row_thaw HGR.out 7
     have hx0:wr.cell? ⟨bx,0,none⟩=some (.slice lo l.length lc):=row_cell HX1.out (j:=0) rfl
     have fx0:wr.frozen? ⟨bx,0,none⟩=false:=row_thaw HX1.out 0
     have hx1:wr.cell? ⟨bx,1,none⟩=some (.int .u64 (va:Int)):=row_cell HX1.out (j:=1) rfl
     have fx1:wr.frozen? ⟨bx,1,none⟩=false:=row_thaw HX1.out 1
     have hx2:wr.cell? ⟨bx,2,none⟩=some (.int .u64 (vt:Int)):=row_cell HX1.out (j:=2) rfl
     have fx2:wr.frozen? ⟨bx,2,none⟩=false:=row_thaw HX1.out 2
     have hx3:wr.cell? ⟨bx,3,none⟩=some (.int .u64 (vk:Int)):=row_cell HX1.out (j:=3) rfl
     have fx3:wr.frozen? ⟨bx,3,none⟩=false:=row_thaw HX1.out 3
     have hx4:wr.cell? ⟨bx,4,none⟩=some (.int .u64 (vn:Int)):=row_cell HX1.out (j:=4) rfl
     have fx4:wr.frozen? ⟨bx,4,none⟩=false:=row_thaw HX1.out 4
     have hx5:wr.cell? ⟨bx,5,none⟩=some (.slice qo qs.length qc):=row_cell HX1.out (j:=5) rfl
     have fx5:wr.frozen? ⟨bx,5,none⟩=false:=row_thaw HX1.out 5
     have hx6:wr.cell? ⟨bx,6,none⟩=some (.int .u32 (vf:Int)):=row_cell HX1.out (j:=6) rfl
     have fx6:wr.frozen? ⟨bx,6,none⟩=false:=row_thaw HX1.out 6
     have hx7:wr.cell? ⟨bx,7,none⟩=some (.string U):=row_cell HX1.out (j:=7) rfl
     have fx7:wr.frozen? ⟨bx,7,none⟩=false:=row_thaw HX1.out 7
     clear hm hu hjn
     go_wp2_with fail
     obtain ⟨hr,hua⟩:=su_set HGR.out (.slice lo l.length lc) (.int .u64 (va:Int)) (.int .u64 (vt:Int)) (.int .u64 (vk:Int)) (.int .u64 (vn:Int)) (.slice qo qs.length qc) (.int .u32 (vf:Int)) (.string U)
     refine body_cell2v rfl rfl (load_su hr rfl) rfl ?_
     refine ⟨HWB.out.trans (hua.below (by have:=HWB.out.size;omega) (fun k _ h=>by have h:k=g:=h;have:=HGG.out;omega)),?_⟩
     rw[HBE.out]
     exact ⟨_,rfl,lo,lc,qo,qc,rfl,KRels.upd hua (fun k hk h=>by have h:k=g:=h;have:=HGX.out;omega) (fun k hk=>by have:=HB1.out.size;have:=HBX.out;omega) _ _ _ HRL0.out,CRels.upd hua (fun k hk h=>by have h:k=g:=h;have:=HGX.out;have:=(HLT1.out k hk).1;omega) (fun k hk=>by have:=HB1.out.size;have:=HBX.out;have:=(HLT1.out k hk).1;omega) HRL1.out⟩
    have HO:=Lib.hid (own_below HO1.out (by rw[HBX.out];exact HBR1.out))
    obtain ⟨gr,cg,hv,hg1,hg2,_,_⟩:=own_some HO.out (by omega)
    simp only[Value.slice.injEq] at hv
    obtain ⟨rfl,_,rfl⟩:=hv
    obtain ⟨r,HRJ⟩:∃ r,Hid (rs[j]=r):=⟨_,Lib.hid rfl⟩
    have hr0:wr.cell? ⟨gr,j * 5,none⟩=some (.int .i64 (r.num:Int)):=by rw[HO.out.cellAt (j * 5) (by omega),show j * 5=5 * j+0 by omega,mrecs_cell hlt (by omega),HRJ.out];rfl
    have hr1:wr.cell? ⟨gr,j * 5+1,none⟩=some (.int .i64 (r.ty:Int)):=by rw[HO.out.cellAt (j * 5+1) (by omega),show j * 5+1=5 * j+1 by omega,mrecs_cell hlt (by omega),HRJ.out];rfl
    have hr2:wr.cell? ⟨gr,j * 5+2,none⟩=some (.int .u64 (r.n:Int)):=by rw[HO.out.cellAt (j * 5+2) (by omega),show j * 5+2=5 * j+2 by omega,mrecs_cell hlt (by omega),HRJ.out];rfl
    have hr3:wr.cell? ⟨gr,j * 5+3,none⟩=some (.string ⟨r.s.toArray⟩):=by rw[HO.out.cellAt (j * 5+3) (by omega),show j * 5+3=5 * j+3 by omega,mrecs_cell hlt (by omega),HRJ.out];rfl
    have hr4:wr.cell? ⟨gr,j * 5+4,none⟩=some (.string ⟨r.raw.toArray⟩):=by rw[HO.out.cellAt (j * 5+4) (by omega),show j * 5+4=5 * j+4 by omega,mrecs_cell hlt (by omega),HRJ.out];rfl
    have HTK:Hid (rs.take (j+1)=rs.take j++[r]):=Lib.hid (by rw[List.take_succ_eq_append_getElem hlt,HRJ.out])
    have HRR:Hid (IsRec d r):=Lib.hid (HREC.out r (HRJ.out ▸ List.getElem_mem hlt))
    have HSUM:Hid (U.size+r.raw.length≤X.size∧r.raw.length≤X.size∧r.s.length+1≤r.raw.length):=Lib.hid (by
     have h1:=raws_le HRAW.out (j+1)
     rw[HTK.out,List.flatMap_append,List.length_append] at h1
     have h2:=munk_le suF.tk (rs.take j)
     have h3:U.size=(munk suF.tk (rs.take j)).length:=by rw[←HU.out];simp
     have h4:([r].flatMap Rec.raw).length=r.raw.length:=by simp
     have h5:X.data.toList.length=X.size:=by simp
     have h6:=isrec_s HRR.out
     omega)
    go_wp2_with fail
    obtain ⟨rb,hrb⟩:∃ rb,wr.heap.size=rb:=⟨_,rfl⟩
    obtain ⟨W3,hW3⟩:∃ W3,wr.alloc (.cells #[.int .i64 (r.num:Int),.int .i64 (r.ty:Int),.int .u64 (r.n:Int),.string ⟨r.s.toArray⟩,.string ⟨r.raw.toArray⟩] 86)=W3:=⟨_,rfl⟩
    have HB3:Hid (Below wr.heap.size wr W3):=Lib.hid (by rw[←hW3];exact below_new _ _)
    have HR3:Hid (W3.heap[rb]? = some (.cells #[.int .i64 (r.num:Int),.int .i64 (r.ty:Int),.int .u64 (r.n:Int),.string ⟨r.s.toArray⟩,.string ⟨r.raw.toArray⟩] 86 (0,0))):=Lib.hid (by rw[←hW3,←hrb];exact heap_alloc_new wr _)
    rw[hW3,hrb]
    clear hW3
    obtain ⟨D,hD⟩:∃ D,W3.drew=D:=⟨_,rfl⟩
    have HBD:Hid (Below wr.heap.size wr D):=Lib.hid (by rw[←hD];exact HB3.out.drew)
    have HRD:Hid (D.heap[rb]? = some (.cells #[.int .i64 (r.num:Int),.int .i64 (r.ty:Int),.int .u64 (r.n:Int),.string ⟨r.s.toArray⟩,.string ⟨r.raw.toArray⟩] 86 (0,0))):=Lib.hid (by rw[←hD];exact HR3.out)
    have hne:Nonempty {w':World // w'.heap[rb]? = some (.cells #[.int .i64 (r.num:Int),.int .i64 (r.ty:Int),.int .u64 (r.n:Int),.string ⟨r.s.toArray⟩,.string ⟨r.raw.toArray⟩] 86 (0,0))}:=⟨⟨_,HRD.out⟩⟩
    refine wp_region_seq (S:=fun w'=>w'.heap[rb]? = some (.cells #[.int .i64 (r.num:Int),.int .i64 (r.ty:Int),.int .u64 (r.n:Int),.string ⟨r.s.toArray⟩,.string ⟨r.raw.toArray⟩] 86 (0,0))) [(1,true),(0,false),(2,false),(3,true)] (by kernel_rfl) (by kernel_rfl) (by kernel_rfl) (by kernel_rfl) (by rw[hD];exact HRD.out) ?_
    rw[hD]
    clear hD hr0 hr1 hr2 hr3 hr4
    refine seq_take _ rfl (fun KK hK=>?_);go_simp
    refine ⟨.agg #[.int .i64 (r.num:Int),.int .i64 (r.ty:Int),.int .u64 (r.n:Int),.string ⟨r.s.toArray⟩,.string ⟨r.raw.toArray⟩],fun a ha=>by (obtain ⟨e0,e1,e2,e3,e4⟩:=row5 ha);simp only[e0,e1,e2,e3,e4,Result.andThen],hK _ ?_⟩
    clear hK KK
    refine seq_come _ rfl (fun KK hK=>?_);go_simp
    refine (su_tab D).mono ?_;rintro e w4 ⟨to,rfl,HNT,hb4⟩
    have HB4:=Lib.hid (below_step HBD.out hb4)
    have HR4:Hid (w4.heap[rb]? = some (.cells #[.int .i64 (r.num:Int),.int .i64 (r.ty:Int),.int .u64 (r.n:Int),.string ⟨r.s.toArray⟩,.string ⟨r.raw.toArray⟩] 86 (0,0))):=Lib.hid ((hb4.block _ (row_lt HRD.out)).trans HRD.out)
    go_simp;refine hK.out _ _ HR4.out ?_;clear hK KK hb4
    refine seq_come _ rfl (fun KK hK=>?_);go_simp
    refine (takes8_any [17,25,33,41,50,58,64] to 7 r w4 HNT (by decide) (by decide)).mono ?_;rintro e w5 ⟨rfl,hb5⟩
    rw[←su_rtk]
    have HB5:=Lib.hid (below_step HB4.out hb5)
    have HR5:Hid (w5.heap[rb]? = some (.cells #[.int .i64 (r.num:Int),.int .i64 (r.ty:Int),.int .u64 (r.n:Int),.string ⟨r.s.toArray⟩,.string ⟨r.raw.toArray⟩] 86 (0,0))):=Lib.hid ((hb5.block _ (row_lt HR4.out)).trans HR4.out)
    go_simp;refine hK.out _ _ HR5.out ?_;clear hK KK hb5
    iterate 1 (refine seq_take _ rfl (fun KK hK=>?_);go_simp;(first|refine hK _ ?_|refine ⟨_,fun _ _=>rfl,hK _ ?_⟩);clear hK KK)
    refine seq_done ?_
    have HX5:Hid (w5.heap[bx]? = some (.cells #[vl,.int .u64 (va:Int),.int .u64 (vt:Int),.int .u64 (vk:Int),.int .u64 (vn:Int),vqs,.int .u32 (vf:Int),.string U] 64 (0,0))):=Lib.hid ((HB5.out.block _ (row_lt HX1.out)).trans HX1.out)
    have HL5:Hid ((suA bx).rel (va,(vt,(vk,(vn,(qs,(l,vf)))))) (vl,vqs) P1 w5):=Lib.hid ((suA bx).kept HLB.out (Upd.of_new HB5.out))
    have HBR5:Hid (Below bx w1 w5):=Lib.hid (HBR1.out.trans (HB5.out.mono (by have:=row_lt HX1.out;omega)))
    have HRX:Hid (bx<rb):=Lib.hid (by have:=row_lt HX1.out;omega)
    have hxb:=row_lt HX5.out
    obtain ⟨S,hS⟩:∃ S:ByteArray,(⟨r.s.toArray⟩:ByteArray)=S:=⟨_,rfl⟩
    obtain ⟨R,hR⟩:∃ S:ByteArray,(⟨r.raw.toArray⟩:ByteArray)=S:=⟨_,rfl⟩
    have HSD:Hid (S.data.toList=r.s):=Lib.hid (by rw[←hS])
    have HRD2:Hid (R.data.toList=r.raw):=Lib.hid (by rw[←hR])
    have HSZ:Hid (S.size=r.s.length):=Lib.hid (by rw[←HSD.out];simp)
    rw[hS,hR] at HR5 ⊢
    clear hS hR hne hrb
    cases htk:suF.tk r with
    | false =>
     have HTN:=Lib.hid htk
     have hsz:¬9223372036854775807<U.size+R.size:=by
      have h1:R.size=r.raw.length:=by rw[←HRD2.out];simp
      have h2:=HSUM.out
      have h3:=HSS.out
      omega
     have hxu:w5.cell? ⟨bx,7,none⟩=some (.string U):=row_cell HX5.out (j:=7) rfl
     have hxf:w5.frozen? ⟨bx,7,none⟩=false:=row_thaw HX5.out 7
     have hr4:w5.cell? ⟨rb,4,none⟩=some (.string R):=row_cell HR5.out (j:=4) rfl
     clear htk
     go_wp2_with fail
     have hj:=HJ.out
     have hu:=Upd.set w5 ⟨bx,7,none⟩ (.string (U++R))
     go_roundg (gk - 1)
     case measure=>omega
     case rel =>
      refine ⟨j+1,vl,vqs,P1,U++R,l,va,vt,vk,vn,qs,vf,by simp,by omega,HBR5.out.trans (hu.below (by omega) (fun k _ h=>by have h:k=bx:=h;omega)),row_set HX5.out 7 _,LPart.stay HL5.out hu ⟨rfl,rfl⟩,by omega,by omega,.inl ⟨rfl,Lib.hid ⟨?_,?_⟩⟩⟩
      ·rw[HTK.out];exact mfoldk_no HM.out HTN.out
      ·rw[HTK.out,munkk_no HTN.out,ByteArray.data_append,Array.toList_append,HU.out,HRD2.out]
    | true =>
     have HTN:=Lib.hid htk
     have HMU:Hid (U.data.toList=munk suF.tk (rs.take (j+1))):=Lib.hid (by rw[HTK.out,munkk_yes HTN.out,HU.out])
     have HMY:Hid (mfold (σ:=suS) suF.tk (suF.step d) suF.z (rs.take (j+1))=suF.step d (va,(vt,(vk,(vn,(qs,(l,vf)))))) r):=Lib.hid (by rw[HTK.out];exact mfoldk_yes HM.out HTN.out)
     have hr0:w5.cell? ⟨rb,0,none⟩=some (.int .i64 (r.num:Int)):=row_cell HR5.out (j:=0) rfl
     have hr2:w5.cell? ⟨rb,2,none⟩=some (.int .u64 (r.n:Int)):=row_cell HR5.out (j:=2) rfl
     have hr3:w5.cell? ⟨rb,3,none⟩=some (.string S):=row_cell HR5.out (j:=3) rfl
     have hnum:=htk
     rw[suF_tk] at hnum
     simp only[decide_eq_true_iff] at hnum
     clear htk
     by_cases hn2:r.num=2
     ·have d2:((r.num:Int) == 2)=true:=by rw[beq_iff_eq];omega
      have hty:r.num=2∧r.ty=1:=by omega
      have HSE:=Lib.hid (suF_2 hty d va vt vk vn qs l vf)
      clear hty hnum hn2
      have hxc:w5.cell? ⟨bx,1,none⟩=some (.int .u64 (va:Int)):=row_cell HX5.out (j:=1) rfl
      have hxf:w5.frozen? ⟨bx,1,none⟩=false:=row_thaw HX5.out 1
      go_wp2_with fail
      have hj:=HJ.out
      have hu:=Upd.set w5 ⟨bx,1,none⟩ (.int .u64 (r.n:Int))
      go_roundg (gk - 1)
      case measure=>omega
      case rel =>
       exact ⟨j+1,vl,vqs,P1,U,l,r.n,vt,vk,vn,qs,vf,by simp,by omega,HBR5.out.trans (hu.below (by omega) (fun k _ h=>by have h:k=bx:=h;omega)),row_set HX5.out 1 _,LPart.stay HL5.out hu ⟨rfl,rfl⟩,by omega,by omega,.inl ⟨rfl,Lib.hid ⟨by rw[HMY.out,HSE.out]<;>rfl,HMU.out⟩⟩⟩
     by_cases hn3:r.num=3
     ·have d2:((r.num:Int) == 2)=false:=by rw[beq_eq_false_iff_ne];omega
      have d3:((r.num:Int) == 3)=true:=by rw[beq_iff_eq];omega
      have hty:r.num=3∧r.ty=1:=by omega
      have HSE:=Lib.hid (suF_3 hty d va vt vk vn qs l vf)
      clear hty hnum hn2 hn3
      have hxc:w5.cell? ⟨bx,2,none⟩=some (.int .u64 (vt:Int)):=row_cell HX5.out (j:=2) rfl
      have hxf:w5.frozen? ⟨bx,2,none⟩=false:=row_thaw HX5.out 2
      go_wp2_with fail
      have hj:=HJ.out
      have hu:=Upd.set w5 ⟨bx,2,none⟩ (.int .u64 (r.n:Int))
      go_roundg (gk - 1)
      case measure=>omega
      case rel =>
       exact ⟨j+1,vl,vqs,P1,U,l,va,r.n,vk,vn,qs,vf,by simp,by omega,HBR5.out.trans (hu.below (by omega) (fun k _ h=>by have h:k=bx:=h;omega)),row_set HX5.out 2 _,LPart.stay HL5.out hu ⟨rfl,rfl⟩,by omega,by omega,.inl ⟨rfl,Lib.hid ⟨by rw[HMY.out,HSE.out]<;>rfl,HMU.out⟩⟩⟩
     by_cases hn4:r.num=4
     ·have d2:((r.num:Int) == 2)=false:=by rw[beq_eq_false_iff_ne];omega
      have d3:((r.num:Int) == 3)=false:=by rw[beq_eq_false_iff_ne];omega
      have d4:((r.num:Int) == 4)=true:=by rw[beq_iff_eq];omega
      have hty:r.num=4∧r.ty=1:=by omega
      have HSE:=Lib.hid (suF_4 hty d va vt vk vn qs l vf)
      clear hty hnum hn2 hn3 hn4
      have hxc:w5.cell? ⟨bx,3,none⟩=some (.int .u64 (vk:Int)):=row_cell HX5.out (j:=3) rfl
      have hxf:w5.frozen? ⟨bx,3,none⟩=false:=row_thaw HX5.out 3
      go_wp2_with fail
      have hj:=HJ.out
      have hu:=Upd.set w5 ⟨bx,3,none⟩ (.int .u64 (r.n:Int))
      go_roundg (gk - 1)
      case measure=>omega
      case rel =>
       exact ⟨j+1,vl,vqs,P1,U,l,va,vt,r.n,vn,qs,vf,by simp,by omega,HBR5.out.trans (hu.below (by omega) (fun k _ h=>by have h:k=bx:=h;omega)),row_set HX5.out 3 _,LPart.stay HL5.out hu ⟨rfl,rfl⟩,by omega,by omega,.inl ⟨rfl,Lib.hid ⟨by rw[HMY.out,HSE.out]<;>rfl,HMU.out⟩⟩⟩
     by_cases hn5:r.num=5
     ·have d2:((r.num:Int) == 2)=false:=by rw[beq_eq_false_iff_ne];omega
      have d3:((r.num:Int) == 3)=false:=by rw[beq_eq_false_iff_ne];omega
      have d4:((r.num:Int) == 4)=false:=by rw[beq_eq_false_iff_ne];omega
      have d5:((r.num:Int) == 5)=true:=by rw[beq_iff_eq];omega
      have hty:r.num=5∧r.ty=1:=by omega
      have HSE:=Lib.hid (suF_5 hty d va vt vk vn qs l vf)
      clear hty hnum hn2 hn3 hn4 hn5
      have hxc:w5.cell? ⟨bx,4,none⟩=some (.int .u64 (vn:Int)):=row_cell HX5.out (j:=4) rfl
      have hxf:w5.frozen? ⟨bx,4,none⟩=false:=row_thaw HX5.out 4
      go_wp2_with fail
      have hj:=HJ.out
      have hu:=Upd.set w5 ⟨bx,4,none⟩ (.int .u64 (r.n:Int))
      go_roundg (gk - 1)
      case measure=>omega
      case rel =>
       exact ⟨j+1,vl,vqs,P1,U,l,va,vt,vk,r.n,qs,vf,by simp,by omega,HBR5.out.trans (hu.below (by omega) (fun k _ h=>by have h:k=bx:=h;omega)),row_set HX5.out 4 _,LPart.stay HL5.out hu ⟨rfl,rfl⟩,by omega,by omega,.inl ⟨rfl,Lib.hid ⟨by rw[HMY.out,HSE.out]<;>rfl,HMU.out⟩⟩⟩
     by_cases hn6:r.num=6
     ·have d2:((r.num:Int) == 2)=false:=by rw[beq_eq_false_iff_ne];omega
      have d3:((r.num:Int) == 3)=false:=by rw[beq_eq_false_iff_ne];omega
      have d4:((r.num:Int) == 4)=false:=by rw[beq_eq_false_iff_ne];omega
      have d5:((r.num:Int) == 5)=false:=by rw[beq_eq_false_iff_ne];omega
      have d6:((r.num:Int) == 6)=true:=by rw[beq_iff_eq];omega
      have hty:r.num=6∧r.ty=2:=by omega
      have HSE:=Lib.hid (suF_6 hty d va vt vk vn qs l vf)
      clear hty hnum hn2 hn3 hn4 hn5 hn6
      have q1:IntKind.i64.wrap (d - 1)=d - 1:=IntWalk.i64_in _ (by have:=HDD.out;have:=HD0.out;omega)
      have HCV:=Lib.hid (qu_refread S (d - 1) w5 (by have:=HSZ.out;have:=HSUM.out;have:=HSS.out;omega) (by have:=HDD.out;have:=HD0.out;omega))
      go_wp2_with fail
      refine HCV.out.mono ?_;intro e w6 hpost
      obtain ⟨hb6,gb,x,cs,rfl,hrel,hok,hno⟩:=qures hpost
      rw[HSD.out] at hok hno
      have HB6:=Lib.hid hb6
      have HOK:=Lib.hid hok
      have HNO:=Lib.hid hno
      have HREL:=Lib.hid hrel
      obtain ⟨jq9,jv9,Xu9,hcs⟩:=QuRel.form hrel
      have HCS:=Lib.hid hcs
      rw[hcs]
      clear hcs hrel hok hno hb6 hr0 hr2 hr3
      have HLT5:Hid (∀ k,P1 k→bx+1≤k∧k<w5.heap.size):=Lib.hid ((suA bx).lt HL5.out)
      obtain ⟨Pi,hls,hsub,hput⟩:=su_see_qs bx _ _ _ _ HL5.out
      obtain ⟨css,Q,h1,h2,h3,h4,rfl⟩:=hls
      obtain ⟨ao,cap,hv⟩:=own_slice h1
      have hv:vqs = .slice ao qs.length cap:=hv
      subst hv
      have HPUT:=Lib.hid hput
      have HSUB:=Lib.hid hsub
      have HO5:=Lib.hid h1
      have H2:=Lib.hid h2
      have H3:=Lib.hid h3
      have H4:=Lib.hid h4
      clear h1 h2 h3 h4 hput hsub
      have HO6:=Lib.hid (own_below HO5.out HB6.out)
      have HX6:=Lib.hid ((HB6.out.block _ (row_lt HX5.out)).trans HX5.out)
      have hxlt:=row_lt HX6.out
      have hx4:(w6.alloc (.cells #[.int .u64 jq9,.int .u64 jv9,.string Xu9] 141)).cell? ⟨bx,5,none⟩=some (.slice ao qs.length cap):=row_cell ((Below.heap_alloc _ _ _ hxlt).trans HX6.out) (j:=5) rfl
      have hN7:bx+1≤(w6.alloc (.cells #[.int .u64 jq9,.int .u64 jv9,.string Xu9] 141)).heap.size:=by simp;omega
      have hxm:qs.length≤1000000:=by omega
      have hnb:¬(Value.slice ao qs.length cap).ownBlock=some bx:=fun h=>by have:=(HO6.out.lt _ h).1;omega
      have HX8:Hid ((w6.alloc (.cells #[.int .u64 jq9,.int .u64 jv9,.string Xu9] 141)).heap[bx]? = some (.cells #[vl,.int .u64 (va:Int),.int .u64 (vt:Int),.int .u64 (vk:Int),.int .u64 (vn:Int),.slice ao qs.length cap,.int .u32 (vf:Int),.string U] 64 (0,0))):=Lib.hid ((Below.heap_alloc _ _ _ hxlt).trans HX6.out)
      go_wp2_with (at_builtin;(refine wpList_app1_at (c:=1) (cs:=[.int .u64 jq9,.int .u64 jv9,.string Xu9]) rfl _ _ 62 rfl Tryz.elQuL (by decide) (HO6.out.alloc _) rfl (by show Value.slice (some ⟨w6.heap.size+1,0,none⟩) 1 1=_;simp) rfl (by simp[Value.oneCell']) (by unfold maxLen;omega) (by omega) hN7 ?_);intro g2 cap2 w9 hown9 hgrow9 hg9;have HX9:=Lib.hid ((hgrow9.block _ (row_lt HX8.out) (fun e=>hnb e.symm)).trans HX8.out);have hf9:w9.frozen? ⟨bx,5,none⟩=false:=row_thaw HX9.out 5;have hc9:w9.cell? ⟨bx,5,none⟩=some (.slice ao qs.length cap):=row_cell HX9.out (j:=5) rfl)
      have hgu:Upd (fun k=>(Value.slice ao qs.length cap).ownBlock=some k) (w6.alloc (.cells #[.int .u64 jq9,.int .u64 jv9,.string Xu9] 141)) w9:=Upd.of_grown hgrow9
      have hu6:Upd (fun k=>(Value.slice ao qs.length cap).ownBlock=some k) w6 w9:=(Upd.alloc _ _ _).trans hgu
      have hu:=Upd.set w9 ⟨bx,5,none⟩ (.slice (some ⟨g2,0,none⟩) (qs.length+1) cap2)
      have hzz:w6.heap.size≤(w6.alloc (.cells #[.int .u64 jq9,.int .u64 jv9,.string Xu9] 141)).heap.size:=(Upd.alloc (fun _=>False) w6 _).size
      have hadd:=add_fin (C:=quCel) (T:=141) (T0:=64) (b:=bx) (o:=5) (base:=bx+1) (cs0:=#[vl,.int .u64 (va:Int),.int .u64 (vt:Int),.int .u64 (vk:Int),.int .u64 (vn:Int),.slice ao qs.length cap,.int .u32 (vf:Int),.string U]) (xs:=qs) (W:=w9.setCell ⟨bx,5,none⟩ (.slice (some ⟨g2,0,none⟩) (qs.length+1) cap2)) ⟨by omega,by omega⟩ HB6.out H2.out H3.out (fun k hk=>⟨(H4.out k hk).1,(H4.out k hk).2.1,(H4.out k hk).2.2⟩) HREL.out (row_set HX9.out 5 _) (by rw[HCS.out];exact hu.own hown9 (fun k hk e=>by have e:k=bx:=e;subst e;have h0:g2=k:=(by simpa [Value.ownBlock] using hk);rcases hg9 with h|h;exact hnb (h0 ▸ h);omega)) ((hu6.mono fun k _ h => .inr h).trans (hu.mono fun k _ h => .inl h)) (hg9.imp id fun h=>Nat.le_trans hzz h) (fun k hk=>(HO5.out.lt k hk).2)
      obtain ⟨_,hu',P',⟨v',P2,q2,q3,rfl⟩,hp⟩:=rowL_add (A:=suA bx) (put:=fun (v:Value × Value) v'=>((v.1,v'):Value × Value)) (sm:=fun st st':suS=>(st'.2.2.2.2.2.1=st.2.2.2.2.2.1)∧True) (row:=fun (st:suS) (v:Value × Value)=>#[v.1,.int .u64 (st.1:Int),.int .u64 (st.2.1:Int),.int .u64 (st.2.2.1:Int),.int .u64 (st.2.2.2.1:Int),v.2,.int .u32 (st.2.2.2.2.2.2:Int),.string U]) (ls:=fun st:suS=>st.2.2.2.2.1) (st:=(va,(vt,(vk,(vn,(qs,(l,vf))))))) (st':=(va,(vt,(vk,(vn,(qs++[x],(l,vf))))))) (v:=(vl,(.slice ao qs.length cap))) HL5.out HPUT.out hadd (fun v'=>rfl) ⟨rfl,trivial⟩ rfl HSUB.out
      obtain ⟨vl,vqs⟩:=v'
      have HBR9:Hid (Below bx w1 (w9.setCell ⟨bx,5,none⟩ (.slice (some ⟨g2,0,none⟩) (qs.length+1) cap2))):=Lib.hid (HBR5.out.trans (hu'.below (by omega) (fun k _ h=>by rcases h with h|h;omega;have:=(HLT5.out k h).1;omega)))
      have HQ2:=Lib.hid q2
      have HQ3:=Lib.hid q3
      clear hgu hu6 hu hzz hadd hu' hp q2 q3
      have hj:=HJ.out
      go_roundg (gk - 1)
      case measure=>omega
      case rel =>
       refine ⟨j+1,vl,vqs,P2,U,l,va,vt,vk,vn,qs++[x],vf,by simp,by omega,HBR9.out,HQ2.out,HQ3.out,by omega,by simp;omega,?_⟩
       cases gb with
       | true=>exact .inl ⟨rfl,Lib.hid ⟨by rw[HMY.out,HSE.out,HOK.out rfl]<;>rfl,HMU.out⟩⟩
       | false =>
        obtain ⟨c,hc⟩:=HNO.out rfl
        exact .inr ⟨rfl,c,mfoldk_err (j:=j+1) (by rw[HMY.out,HSE.out,hc]<;>rfl)⟩
     by_cases hn7:r.num=7
     ·have d2:((r.num:Int) == 2)=false:=by rw[beq_eq_false_iff_ne];omega
      have d3:((r.num:Int) == 3)=false:=by rw[beq_eq_false_iff_ne];omega
      have d4:((r.num:Int) == 4)=false:=by rw[beq_eq_false_iff_ne];omega
      have d5:((r.num:Int) == 5)=false:=by rw[beq_eq_false_iff_ne];omega
      have d6:((r.num:Int) == 6)=false:=by rw[beq_eq_false_iff_ne];omega
      have d7:((r.num:Int) == 7)=true:=by rw[beq_iff_eq];omega
      have hty:r.num=7∧r.ty=2:=by omega
      have HSE:=Lib.hid (suF_7 hty d va vt vk vn qs l vf)
      clear hty hnum hn2 hn3 hn4 hn5 hn6 hn7
      have q1:IntKind.i64.wrap (d - 1)=d - 1:=IntWalk.i64_in _ (by have:=HDD.out;have:=HD0.out;omega)
      have HCV:=Lib.hid ((both8_any 1000001 S (d - 1) w5 (by have:=HSZ.out;have:=HSUM.out;have:=HSS.out;omega) (by have:=HSZ.out;have:=HSUM.out;have:=HSS.out;omega) (by have:=HDD.out;have:=HD0.out;omega)).2)
      go_wp2_with fail
      refine HCV.out.mono ?_;intro e w6 hpost
      obtain ⟨hb6,hcase⟩:=hpost
      obtain ⟨gb,x,cs,rfl,hrel,hok,hno⟩:=kres hcase
      rw[HSD.out] at hok hno
      have HB6:=Lib.hid hb6
      have HOK:=Lib.hid hok
      have HNO:=Lib.hid hno
      have HREL:=Lib.hid hrel
      obtain ⟨K0,h0,k,S1,b0,n,l1,ln,lc,mo,mn,mc,I0,U0,U1,hcs⟩:=hrel.form
      have HCS:=Lib.hid hcs
      rw[hcs]
      clear hcs hrel hok hno hb6 hr0 hr2 hr3
      have HLT5:Hid (∀ k,P1 k→bx+1≤k∧k<w5.heap.size):=Lib.hid ((suA bx).lt HL5.out)
      obtain ⟨Pi,hls,hsub,hput⟩:=su_see_l bx _ _ _ _ HL5.out
      obtain ⟨css,Q,h1,h2,h3,h4,rfl⟩:=hls
      obtain ⟨ao,cap,hv⟩:=own_slice h1
      have hv:vl = .slice ao l.length cap:=hv
      subst hv
      have HPUT:=Lib.hid hput
      have HSUB:=Lib.hid hsub
      have HO5:=Lib.hid h1
      have H2:=Lib.hid h2
      have H3:=Lib.hid h3
      have H4:=Lib.hid h4
      clear h1 h2 h3 h4 hput hsub
      have HO6:=Lib.hid (own_below HO5.out HB6.out)
      have HX6:=Lib.hid ((HB6.out.block _ (row_lt HX5.out)).trans HX5.out)
      have hxlt:=row_lt HX6.out
      have hx4:(w6.alloc (.cells #[.string K0,.bool h0,.int .i64 k,.string S1,.bool b0,.int .u64 n,.slice l1 ln lc,.slice mo mn mc,.string I0,.string U0,.string U1] 98)).cell? ⟨bx,0,none⟩=some (.slice ao l.length cap):=row_cell ((Below.heap_alloc _ _ _ hxlt).trans HX6.out) (j:=0) rfl
      have hN7:bx+1≤(w6.alloc (.cells #[.string K0,.bool h0,.int .i64 k,.string S1,.bool b0,.int .u64 n,.slice l1 ln lc,.slice mo mn mc,.string I0,.string U0,.string U1] 98)).heap.size:=by simp;omega
      have hxm:l.length≤1000000:=by omega
      have hnb:¬(Value.slice ao l.length cap).ownBlock=some bx:=fun h=>by have:=(HO6.out.lt _ h).1;omega
      have HX8:Hid ((w6.alloc (.cells #[.string K0,.bool h0,.int .i64 k,.string S1,.bool b0,.int .u64 n,.slice l1 ln lc,.slice mo mn mc,.string I0,.string U0,.string U1] 98)).heap[bx]? = some (.cells #[.slice ao l.length cap,.int .u64 (va:Int),.int .u64 (vt:Int),.int .u64 (vk:Int),.int .u64 (vn:Int),vqs,.int .u32 (vf:Int),.string U] 64 (0,0))):=Lib.hid ((Below.heap_alloc _ _ _ hxlt).trans HX6.out)
      go_wp2_with (at_builtin;(refine wpList_app1_at (c:=1) (cs:=[.string K0,.bool h0,.int .i64 k,.string S1,.bool b0,.int .u64 n,.slice l1 ln lc,.slice mo mn mc,.string I0,.string U0,.string U1]) rfl _ _ 23 rfl Tryz.elKL (by decide) (HO6.out.alloc _) rfl (by show Value.slice (some ⟨w6.heap.size+1,0,none⟩) 1 1=_;simp) rfl (by simp[Value.oneCell']) (by unfold maxLen;omega) (by omega) hN7 ?_);intro g2 cap2 w9 hown9 hgrow9 hg9;have HX9:=Lib.hid ((hgrow9.block _ (row_lt HX8.out) (fun e=>hnb e.symm)).trans HX8.out);have hf9:w9.frozen? ⟨bx,0,none⟩=false:=row_thaw HX9.out 0;have hc9:w9.cell? ⟨bx,0,none⟩=some (.slice ao l.length cap):=row_cell HX9.out (j:=0) rfl)
      have hgu:Upd (fun k=>(Value.slice ao l.length cap).ownBlock=some k) (w6.alloc (.cells #[.string K0,.bool h0,.int .i64 k,.string S1,.bool b0,.int .u64 n,.slice l1 ln lc,.slice mo mn mc,.string I0,.string U0,.string U1] 98)) w9:=Upd.of_grown hgrow9
      have hu6:Upd (fun k=>(Value.slice ao l.length cap).ownBlock=some k) w6 w9:=(Upd.alloc _ _ _).trans hgu
      have hu:=Upd.set w9 ⟨bx,0,none⟩ (.slice (some ⟨g2,0,none⟩) (l.length+1) cap2)
      have hzz:w6.heap.size≤(w6.alloc (.cells #[.string K0,.bool h0,.int .i64 k,.string S1,.bool b0,.int .u64 n,.slice l1 ln lc,.slice mo mn mc,.string I0,.string U0,.string U1] 98)).heap.size:=(Upd.alloc (fun _=>False) w6 _).size
      have hadd:=add_fin (C:=kcel) (T:=98) (T0:=64) (b:=bx) (o:=0) (base:=bx+1) (cs0:=#[.slice ao l.length cap,.int .u64 (va:Int),.int .u64 (vt:Int),.int .u64 (vk:Int),.int .u64 (vn:Int),vqs,.int .u32 (vf:Int),.string U]) (xs:=l) (W:=w9.setCell ⟨bx,0,none⟩ (.slice (some ⟨g2,0,none⟩) (l.length+1) cap2)) ⟨by omega,by omega⟩ HB6.out H2.out H3.out (fun k hk=>⟨(H4.out k hk).1,(H4.out k hk).2.1,(H4.out k hk).2.2⟩) HREL.out (row_set HX9.out 0 _) (by rw[HCS.out];exact hu.own hown9 (fun k hk e=>by have e:k=bx:=e;subst e;have h0:g2=k:=(by simpa [Value.ownBlock] using hk);rcases hg9 with h|h;exact hnb (h0 ▸ h);omega)) ((hu6.mono fun k _ h => .inr h).trans (hu.mono fun k _ h => .inl h)) (hg9.imp id fun h=>Nat.le_trans hzz h) (fun k hk=>(HO5.out.lt k hk).2)
      obtain ⟨_,hu',P',⟨v',P2,q2,q3,rfl⟩,hp⟩:=rowL_add (A:=suA bx) (put:=fun (v:Value × Value) v'=>((v',v.2):Value × Value)) (sm:=fun st st':suS=>(True)∧st'.2.2.2.2.1=st.2.2.2.2.1) (row:=fun (st:suS) (v:Value × Value)=>#[v.1,.int .u64 (st.1:Int),.int .u64 (st.2.1:Int),.int .u64 (st.2.2.1:Int),.int .u64 (st.2.2.2.1:Int),v.2,.int .u32 (st.2.2.2.2.2.2:Int),.string U]) (ls:=fun st:suS=>st.2.2.2.2.2.1) (st:=(va,(vt,(vk,(vn,(qs,(l,vf))))))) (st':=(va,(vt,(vk,(vn,(qs,(l++[x],vf))))))) (v:=((.slice ao l.length cap),vqs)) HL5.out HPUT.out hadd (fun v'=>rfl) ⟨trivial,rfl⟩ rfl HSUB.out
      obtain ⟨vl,vqs⟩:=v'
      have HBR9:Hid (Below bx w1 (w9.setCell ⟨bx,0,none⟩ (.slice (some ⟨g2,0,none⟩) (l.length+1) cap2))):=Lib.hid (HBR5.out.trans (hu'.below (by omega) (fun k _ h=>by rcases h with h|h;omega;have:=(HLT5.out k h).1;omega)))
      have HQ2:=Lib.hid q2
      have HQ3:=Lib.hid q3
      clear hgu hu6 hu hzz hadd hu' hp q2 q3
      have hj:=HJ.out
      go_roundg (gk - 1)
      case measure=>omega
      case rel =>
       refine ⟨j+1,vl,vqs,P2,U,l++[x],va,vt,vk,vn,qs,vf,by simp,by omega,HBR9.out,HQ2.out,HQ3.out,by simp;omega,by omega,?_⟩
       cases gb with
       | true=>exact .inl ⟨rfl,Lib.hid ⟨by rw[HMY.out,HSE.out,HOK.out rfl]<;>rfl,HMU.out⟩⟩
       | false =>
        obtain ⟨c,hc⟩:=HNO.out rfl
        exact .inr ⟨rfl,c,mfoldk_err (j:=j+1) (by rw[HMY.out,HSE.out,hc]<;>rfl)⟩
     have d2:((r.num:Int) == 2)=false:=by rw[beq_eq_false_iff_ne];omega
     have d3:((r.num:Int) == 3)=false:=by rw[beq_eq_false_iff_ne];omega
     have d4:((r.num:Int) == 4)=false:=by rw[beq_eq_false_iff_ne];omega
     have d5:((r.num:Int) == 5)=false:=by rw[beq_eq_false_iff_ne];omega
     have d6:((r.num:Int) == 6)=false:=by rw[beq_eq_false_iff_ne];omega
     have d7:((r.num:Int) == 7)=false:=by rw[beq_eq_false_iff_ne];omega
     have d8:((r.num:Int) == 8)=true:=by rw[beq_iff_eq];omega
     have hty:r.num=8∧r.ty=0:=by omega
     have HSE:=Lib.hid (suF_8 hty d va vt vk vn qs l vf)
     clear hty hnum hn2 hn3 hn4 hn5 hn6 hn7
     have q1:=u32_wrap r.n
     have hxc:w5.cell? ⟨bx,6,none⟩=some (.int .u32 (vf:Int)):=row_cell HX5.out (j:=6) rfl
     have hxf:w5.frozen? ⟨bx,6,none⟩=false:=row_thaw HX5.out 6
     go_wp2_with fail
     have hj:=HJ.out
     have hu:=Upd.set w5 ⟨bx,6,none⟩ (.int .u32 ((r.n % 4294967296:Nat):Int))
     go_roundg (gk - 1)
     case measure=>omega
     case rel =>
      exact ⟨j+1,vl,vqs,P1,U,l,va,vt,vk,vn,qs,r.n % 4294967296,by simp,by omega,HBR5.out.trans (hu.below (by omega) (fun k _ h=>by have h:k=bx:=h;omega)),row_set HX5.out 6 _,LPart.stay HL5.out hu ⟨rfl,rfl⟩,by omega,by omega,.inl ⟨rfl,Lib.hid ⟨by rw[HMY.out,HSE.out]<;>rfl,HMU.out⟩⟩⟩
end Go.Proofs.YtjbingoliffjiaaGreatDoor
