/-
  FrK, FrKey
-/
import Derived.Test.YtoggpnfeioaidaaDoorFrV
import Derived.Test.YtoggpnfeioaidaaDoorErrNew
import Derived.Test.YtoggpnfeioaidaaDoorWireRA
set_option maxRecDepth 1000000
set_option maxHeartbeats 16000000
namespace Go.Proofs.YtoggpnfeioaidaaDoor
open Go.RowKit
theorem kone {w:World} {P:Nat→Prop} {x:KV} {c:List Value} (h:kcel.R w P x c):c.toArray.all (·.oneCell')=true:=by
 have h:KRel w P x c:=h
 obtain ⟨_,_,_,_,_,_,_,_,_,_,_,_,_,_,_,rfl⟩:=h.form
 simp[Value.oneCell']
theorem frK_any (l:List KV) (hone:Hid (∀ x∈l,CpOne kcel 69 x)) (lo:Option Addr) (cap:Nat) (P:Nat→Prop) (w:World) (hl:l.length≤1000000) (h:Hid (CRels kcel w P l lo)) :
  Calls Tryd.prog 68 #[.slice lo l.length cap,.func (.func 69) #[] #[]] w (CpsPost kcel l w):=by
 by_cases h0:l.length=0
 ·obtain rfl:l=[]:=List.length_eq_zero_iff.1 h0
  have d1:(((([]:List KV).length:Nat):Int) == 0)=true:=rfl
  go_enter Tryd.func68,Tryd.ntmps68
  go_wp2_with fail
  go_ret
  exact ⟨Below.refl _ _,none,0,rfl,CRels.nil _ _ _ _⟩
 ·have d1:((l.length:Int) == 0)=false:=by rw[beq_eq_false_iff_ne];omega
  have hpos:0<l.length:=by omega
  clear h0
  obtain ⟨i0,hi,hz0,hz1,hz2⟩:=info_parts Tryd.elKL.2.1
  go_enter Tryd.func68,Tryd.ntmps68
  go_wp2_with (at_make;refine wpList_make_full _ rfl _ _ 22 rfl w.heap.size 131 i0 _ 11 Tryd.underlying22 hi hz0 hz1 _ _ _ _ l.length rfl rfl rfl rfl (by rw[hz2];omega) (by unfold maxLen;omega) (Nat.le_refl _) ?_;intro w1 hown hgrow)
  have hb1:Below w.heap.size w w1:=(Upd.of_grown hgrow).below (Nat.le_refl _) (fun k _ hk=>by cases hk)
  have hs1:FrS kcel l w.heap.size w.heap.size w1 0:=by
   rcases there_own hown with ⟨h1,h2,h3⟩|h
   ·exact ⟨h2,Nat.le_refl _,h1,fun i _ h=>absurd h (by omega)⟩
   ·omega
  obtain ⟨g,HG⟩:∃ g,Hid (w.heap.size=g):=⟨_,Lib.hid rfl⟩
  rw[HG.out] at hs1 ⊢
  have HB1:=Lib.hid hb1
  have HS1:=Lib.hid hs1
  clear hown hgrow hb1 hs1
  go_loopg [16] l.length (fun k i wr=>∃ j:Nat,i = .int .i64 (j:Int)∧j+k=l.length∧Hid (Below g w wr)∧Hid (FrS kcel l g g wr j))
  case atStart=>exact ⟨0,rfl,by omega,Lib.hid (by rw[←HG.out];exact HB1.out),HS1⟩
  case round =>
   obtain ⟨j,rfl,hj,HB,HS⟩:=hrel
   have HJ:=Lib.hid hj
   clear hj
   by_cases hlt:j<l.length
   ·have hblw:Below w.heap.size w wr:=by rw[HG.out];exact HB.out
    obtain ⟨ga,oa,cs,rfl,_,hga,hca,hra⟩:=(h.out.below hblw) j hlt
    have HCA:=Lib.hid hca
    have HRA:=Lib.hid hra
    have HGA:=Lib.hid hga
    have HLEN:=Lib.hid (kcel.len hra)
    have HONE:=Lib.hid (kone hra)
    clear hca hra hga hblw
    go_upto_region 6 with fail
    refine wp_region_lit ?_
    refine wpList_plain rfl (fun K hK=>?_);go_simp;refine hK _ _ ?_;clear hK K
    refine wpList_plain rfl (fun K hK=>?_);go_simp;refine hK _ _ ?_;clear hK K
    refine wpList_load_mid rfl 131 (.tmp 19) rfl ga (oa+j * 11) rfl cs _ (range_cells (by have h:=HCA.out;rw[show oa+kcel.size * j=oa+j * 11 from by show oa+11 * j=_;omega] at h;exact h)) Tryd.underlying131 rfl (by rw[HLEN.out];kernel_rfl) ?_
    refine wpList_plain rfl (fun K hK=>?_);go_simp;refine hK _ _ ?_;clear hK K
    refine wpList_plain rfl (fun K hK=>?_);go_simp;refine hK _ _ ?_;clear hK K
    have HZ:=heap_alloc_new wr (.cells #[.string ⟨#[]⟩,.bool false,.int .i64 0,.string ⟨#[]⟩,.bool false,.int .u64 0,.slice none 0 0,.slice none 0 0,.string ⟨#[]⟩,.string ⟨#[]⟩,.string ⟨#[]⟩] 131)
    refine wpList_store_row rfl 131 (.tmp 7) (.tmp 20) rfl wr.heap.size cs.toArray rfl rfl 131 _ HZ (by rw[List.size_toArray,HLEN.out];kernel_rfl) (by show 11=cs.toArray.size;rw[List.size_toArray,HLEN.out];rfl) HONE.out ?_
    obtain ⟨bx,HBX⟩:∃ x,Hid (wr.heap.size=x):=⟨_,Lib.hid rfl⟩
    obtain ⟨w2,hw⟩:∃ X,(wr.alloc (.cells #[.string ⟨#[]⟩,.bool false,.int .i64 0,.string ⟨#[]⟩,.bool false,.int .u64 0,.slice none 0 0,.slice none 0 0,.string ⟨#[]⟩,.string ⟨#[]⟩,.string ⟨#[]⟩] 131)).setRow wr.heap.size cs.toArray=X:=⟨_,rfl⟩
    have hr:w2.heap[bx]? = some (.cells cs.toArray 131 (0,0)):=by rw[←hw,←HBX.out];exact setRow_heap _ _ _ _ _ _ HZ
    have hb:Below wr.heap.size wr w2:=by rw[←hw];exact below_setRow (below_new _ _) (Nat.le_refl _) _
    rw[hw,HBX.out]
    have HR2:=Lib.hid hr
    have HB2:=Lib.hid hb
    clear hr hb hw HZ
    have HS2:=Lib.hid (HS.out.below HB2.out)
    have HRA2:=Lib.hid (kcel.upd (Upd.of_new (S:=fun _=>False) HB2.out) (fun _ _ h=>h) (fun _ h=>h) HRA.out)
    go_upto_region 7 with fail
    refine wp_region_lit ?_
    iterate 3 (refine wpList_plain rfl (fun K hK=>?_);go_simp;refine hK _ _ ?_;clear hK K)
    refine wpList_load_mid rfl 131 (.tmp 7) rfl bx 0 rfl cs _ (range_rowf HR2.out) Tryd.underlying131 rfl (by rw[HLEN.out];kernel_rfl) ?_
    refine wpList_plain rfl (fun K hK=>?_);go_simp
    refine ((hone.out l[j] (List.getElem_mem hlt)) cs P w2 HRA2.out).mono ?_
    rintro E w3 ⟨hb3,cs3,rfl,hr3⟩
    go_simp
    refine hK _ _ ?_;clear hK K
    have HB3:=Lib.hid hb3
    have HS3:=Lib.hid (HS2.out.below hb3)
    have HR3:=Lib.hid hr3
    have HL3:=Lib.hid (kcel.len hr3)
    have HONE3:=Lib.hid (kone hr3)
    clear hb3 hr3
    refine wpList_plain rfl (fun K hK=>?_);go_simp;refine hK _ _ ?_;clear hK K
    refine wpList_store_mid rfl 131 (.tmp 26) (.tmp 25) rfl g (j * 11) cs3.toArray rfl rfl (by
     rw[List.size_toArray,HL3.out,show j * 11=kcel.size * j from by show _=11 * j;omega]
     exact there_part HS3.out.2.2.1 hlt) (by rw[List.size_toArray,HL3.out];kernel_rfl) HONE3.out ?_
    have HE3:Hid (Below wr.heap.size wr w3):=Lib.hid (below_step HB2.out HB3.out)
    obtain ⟨w4,HW4⟩:∃ W,Hid (w3.setCells g (j * 11) cs3.toArray.toList=W):=⟨_,Lib.hid rfl⟩
    have HS4:Hid (FrS kcel l g g w4 (j+1)):=Lib.hid (by
     have h:=HS3.out.store hlt (cs:=cs3) (kcel.upd (Upd.refl (fun _=>False) w3) (fun _ _ h=>h) (fun k hk=>⟨by have:=HS2.out.1;omega,hk.2,by have:=HS2.out.1;omega⟩) HR3.out)
     rw[←HW4.out,show j * 11=kcel.size * j from by show _=11 * j;omega]
     simpa using h)
    have HB4:Hid (Below g w w4):=Lib.hid (by
     have h:=HB.out.trans ((Upd.of_new (S:=fun _=>False) HE3.out).below (by have:=HS.out.1;omega) (fun _ _ h=>h.elim))
     have hu:=upd_setCells g cs3.toArray.toList (j * 11) w3
     rw[HW4.out] at hu
     exact h.trans (hu.below (by have:=HS3.out.1;omega) (fun k _ hk=>by have hk:k=g:=hk;omega)))
    rw[HW4.out]
    clear HS3 HS2 HE3 HW4
    go_wp2_with fail
    have hj:=HJ.out
    go_roundg (gk - 1)
    case measure=>omega
    case rel=>exact ⟨j+1,by simp,by omega,HB4,HS4⟩
   ·have hje:j=l.length:=by have:=HJ.out;omega
    subst hje
    go_wp2_with fail
    go_ret
    refine ⟨by rw[HG.out];exact HB.out,_,_,rfl,?_⟩
    rw[HG.out]
    exact HS.out.done
open Go.RowKit
theorem vrels_atP {w:World} {P:Nat→Prop}:∀ {l:List Val} {lo:Option Addr} {i:Nat},VRels w P l lo i→∀ j (h:j<l.length),∃ g off cs,lo=some ⟨g,off,none⟩∧P g∧g<w.heap.size∧Cells w g (off+8 * (i+j)) cs∧VRel w P l[j] cs
 | [],_,_,_,j,h=>by simp at h
 | x::xs,lo,i,hr,j,h=>by
  rw[VRels] at hr
  cases j with
  | zero=>exact hr.1
  | succ j =>
   obtain ⟨g,off,cs,h1,h2,h3,h4,h5⟩:=vrels_atP hr.2 j (by simpa using h)
   exact ⟨g,off,cs,h1,h2,h3,by rw[show i+(j+1)=i+1+j by omega];exact h4,h5⟩
theorem krels_atP {w:World} {P:Nat→Prop}:∀ {l:List KV} {lo:Option Addr} {i:Nat},KRels w P l lo i→∀ j (h:j<l.length),∃ g off cs,lo=some ⟨g,off,none⟩∧P g∧g<w.heap.size∧Cells w g (off+11 * (i+j)) cs∧KRel w P l[j] cs
 | [],_,_,_,j,h=>by simp at h
 | x::xs,lo,i,hr,j,h=>by
  rw[KRels] at hr
  cases j with
  | zero=>exact hr.1
  | succ j =>
   obtain ⟨g,off,cs,h1,h2,h3,h4,h5⟩:=krels_atP hr.2 j (by simpa using h)
   exact ⟨g,off,cs,h1,h2,h3,by rw[show i+(j+1)=i+1+j by omega];exact h4,h5⟩
theorem crels_v {w:World} {P:Nat→Prop} {l:List Val} {lo:Option Addr} (h:VRels w P l lo 0):CRels vcel w P l lo:=fun j hj=>by
 have:=vrels_atP h j hj
 rwa [Nat.zero_add] at this
theorem crels_k {w:World} {P:Nat→Prop} {l:List KV} {lo:Option Addr} (h:KRels w P l lo 0):CRels kcel w P l lo:=fun j hj=>by
 have:=krels_atP h j hj
 rwa [Nat.zero_add] at this
theorem v_crels {w:World} {P:Nat→Prop} {l:List Val} {lo:Option Addr} (h:CRels vcel w P l lo):VRels w P l lo 0:=by
 cases l with
 | nil=>rw[VRels];trivial
 | cons x xs =>
  obtain ⟨g,off,cs,rfl,h2,h3,_,_⟩:=h 0 (by simp)
  refine vrels_of h2 h3 _ 0 fun j hj=>?_
  obtain ⟨g',off',cs',e,_,_,h4,h5⟩:=h j hj
  simp only[Option.some.injEq,Addr.mk.injEq] at e
  obtain ⟨rfl,rfl,_⟩:=e
  exact ⟨cs',by rw[Nat.zero_add];exact h4,h5⟩
theorem k_crels {w:World} {P:Nat→Prop} {l:List KV} {lo:Option Addr} (h:CRels kcel w P l lo):KRels w P l lo 0:=by
 cases l with
 | nil=>rw[KRels];trivial
 | cons x xs =>
  obtain ⟨g,off,cs,rfl,h2,h3,_,_⟩:=h 0 (by simp)
  refine krels_of h2 h3 _ 0 fun j hj=>?_
  obtain ⟨g',off',cs',e,_,_,h4,h5⟩:=h j hj
  simp only[Option.some.injEq,Addr.mk.injEq] at e
  obtain ⟨rfl,rfl,_⟩:=e
  exact ⟨cs',by rw[Nat.zero_add];exact h4,h5⟩
theorem range_part {w:World} {g o:Nat} {a b c:List Value} (h:w.rangeAt g o (a++b++c)):w.rangeAt g (o+a.length) b:=fun j v hj=>by
 have hl:=(List.getElem?_eq_some_iff.1 hj).1
 have:=h (a.length+j) v (by rw[List.append_assoc,List.getElem?_append_right (by omega),List.getElem?_append_left (by omega)];rw[show a.length+j - a.length=j by omega];exact hj)
 rwa [←Nat.add_assoc] at this
theorem range_mid {w:World} {g o:Nat} {a b c d:List Value} (h:w.rangeAt g o (a++b++c)) (hd:d.length=b.length) (ht:w.there g (o+a.length) d.length):(w.setCells g (o+a.length) d).rangeAt g o (a++d++c):=fun j v hj=>by
 rcases Nat.lt_or_ge j a.length with h1|h1
 ·rw[List.append_assoc,List.getElem?_append_left h1] at hj
  rw[World.cell?_setCells_out g d _ w ⟨g,o+j,none⟩ (fun _ _ => .inl (by show o+j<o+a.length;omega))]
  exact h j v (by rw[List.append_assoc,List.getElem?_append_left h1];exact hj)
 ·rw[List.append_assoc,List.getElem?_append_right h1] at hj
  rcases Nat.lt_or_ge (j - a.length) d.length with h2|h2
  ·rw[List.getElem?_append_left h2] at hj
   have:=World.rangeAt_setCells_same w g (o+a.length) d ht (j - a.length) v hj
   rwa [show o+a.length+(j - a.length)=o+j by omega] at this
  ·rw[List.getElem?_append_right h2] at hj
   rw[World.cell?_setCells_out g d _ w ⟨g,o+j,none⟩ (fun _ _ => .inr (by show o+a.length+d.length≤o+j;omega))]
   exact h j v (by rw[List.append_assoc,List.getElem?_append_right h1,List.getElem?_append_right (by omega)];rw[←hd];exact hj)
theorem there_row {w:World} {g o n:Nat} {cs:Array Value} {T:TypeId} (h:w.heap[g]? = some (.cells cs T (0,0))) (hn:o+n≤cs.size):w.there g o n:=fun j hj=>by
 refine ⟨?_,row_thaw h _⟩
 rw[cell_of_row w g (o+j) _ _ _ h,Array.getElem?_eq_getElem (by omega)]
 rfl
theorem upd_setRow (w:World) (g:Nat) (cs:Array Value):Upd (fun k=>k=g) w (w.setRow g cs) :=
 ⟨rfl,rfl,rfl,by simp[World.setRow],fun k _ hs=>setRow_other w g k cs hs⟩
theorem own_blk {w:World} {base:Nat} {T:TypeId} {size:Nat} {v:Value} {n:Nat} {xs:List Value} {k:Nat} (h:w.ownsRow base T size v n xs) (hk:v.ownBlock=some k):base≤k∧k<w.heap.size:=by
 rcases h.2 with ⟨rfl,_⟩|⟨g,cap,cur,rfl,hb,hh,_⟩
 ·simp[Value.ownBlock] at hk
 ·simp[Value.ownBlock] at hk
  subst hk
  exact ⟨hb,row_lt hh⟩
theorem crels_newg {α:Type} {C:Cel α} {w w':World} {B:Nat} {l:List α} {lo:Option Addr} {ob:Option Nat} (h:CRels C w (fun k=>B≤k∧k<w.heap.size) l lo) {S:Nat→Prop} (hu:Upd S w w') (hs:∀ k,S k→k<B) {B':Nat} (hB:B'≤B) (hob:∀ k,B≤k→k<w.heap.size→ob=some k→False):CRels C w' (fun k=>B'≤k∧k<w'.heap.size∧ob≠some k) l lo :=
 CRels.upd hu (fun k hk hh=>by have:=hs k hh;omega) (fun k hk=>⟨by omega,Nat.lt_of_lt_of_le hk.2 hu.size,fun h=>hob k hk.1 hk.2 h⟩) h
theorem crels_new {α:Type} {C:Cel α} {w w':World} {B:Nat} {l:List α} {lo:Option Addr} (h:CRels C w (fun k=>B≤k∧k<w.heap.size) l lo) {S:Nat→Prop} (hu:Upd S w w') (hs:∀ k,S k→k<B) {B':Nat} (hB:B'≤B):CRels C w' (fun k=>B'≤k∧k<w'.heap.size) l lo :=
 CRels.upd hu (fun k hk hh=>by have:=hs k hh;omega) (fun k hk=>⟨by omega,Nat.lt_of_lt_of_le hk.2 hu.size⟩) h
open Go.RowKit
theorem frkey_step (key:List UInt8) (has:Bool) (v:Val) (u:List UInt8) (hv:Hid (CpOne vcel 74 v)):CpOne kcel 69 (.mk key has v u):=by
 intro c P w h
 have h:KRel w P (.mk key has v u) c:=h
 have HCL:=Lib.hid h.len
 have HC1:=Lib.hid (kone (x := .mk key has v u) h)
 rw[KRel] at h
 obtain ⟨cs,h1,hc⟩:=h
 have HC:=Lib.hid hc
 have HL:=Lib.hid h1.len
 have HONE:=Lib.hid (vone h1)
 obtain ⟨b1,HBA⟩:∃ b,Hid (w.heap.size=b):=⟨_,Lib.hid rfl⟩
 obtain ⟨b2,HBB⟩:∃ b,Hid (w.heap.size+1=b):=⟨_,Lib.hid rfl⟩
 obtain ⟨W,HW⟩:∃ W,Hid ((w.alloc (.cells c.toArray 131)).alloc (.cells #[.string ⟨#[]⟩,.bool false,.int .i64 0,.string ⟨#[]⟩,.bool false,.int .u64 0,.slice none 0 0,.slice none 0 0,.string ⟨#[]⟩,.string ⟨#[]⟩,.string ⟨#[]⟩] 131)=W):=⟨_,Lib.hid rfl⟩
 have HB:Hid (Below w.heap.size w W):=Lib.hid (by rw[←HW.out];exact below_step (below_new _ _) (below_new _ _))
 have HX1:Hid (W.heap[b1]? = some (.cells c.toArray 131 (0,0))):=Lib.hid (by rw[←HW.out,←HBA.out];exact (Below.heap_alloc _ _ _ (by simp)).trans (heap_alloc_new w _))
 have HX2:Hid (W.heap[b2]? = some (.cells #[.string ⟨#[]⟩,.bool false,.int .i64 0,.string ⟨#[]⟩,.bool false,.int .u64 0,.slice none 0 0,.slice none 0 0,.string ⟨#[]⟩,.string ⟨#[]⟩,.string ⟨#[]⟩] 131 (0,0))):=Lib.hid (by
  rw[←HW.out,←HBB.out]
  have h:=heap_alloc_new (w.alloc (.cells c.toArray 131)) (.cells #[.string ⟨#[]⟩,.bool false,.int .i64 0,.string ⟨#[]⟩,.bool false,.int .u64 0,.slice none 0 0,.slice none 0 0,.string ⟨#[]⟩,.string ⟨#[]⟩,.string ⟨#[]⟩] 131)
  rwa [show (w.alloc (.cells c.toArray 131)).heap.size=w.heap.size+1 by simp] at h)
 have HV:=Lib.hid (h1.upd (Upd.of_new (S:=fun _=>False) HB.out) (fun _ _ h=>h) (fun _ h=>h))
 clear hc h1
 go_enter Tryd.func69,Tryd.ntmps69
 go_upto_region 1 with fail
 rw[HW.out,HBB.out,HBA.out]
 have hn12:b1≠b2:=by have:=HBA.out;have:=HBB.out;omega
 have hge:w.heap.size≤b1:=by have:=HBA.out;omega
 have hge2:w.heap.size≤b2:=by have:=HBB.out;omega
 have hw12:b2<W.heap.size:=row_lt HX2.out
 have hw11:b1<W.heap.size:=row_lt HX1.out
 refine wp_region_lit ?_
 refine wpList_plain rfl (fun K hK=>?_);go_simp;refine hK _ _ ?_;clear hK K
 refine wpList_load_mid rfl 129 (.tmp 3) rfl b1 2 rfl cs _ (by
  have h:=range_rowf HX1.out
  rw[HC.out] at h
  have h:=range_part h
  rwa [show (0:Nat)+[strV key,Value.bool has].length=2 from rfl] at h) Tryd.underlying129 rfl (by rw[HL.out];kernel_rfl) ?_
 refine wpList_plain rfl (fun K hK=>?_);go_simp
 refine (hv.out cs P W HV.out).mono ?_
 rintro E w3 ⟨hb3,cs3,rfl,hr3⟩
 go_simp
 refine hK _ _ ?_;clear hK K
 have HB3:=Lib.hid hb3
 have HR3:=Lib.hid hr3
 have HL3:Hid (cs3.length=8):=Lib.hid (VRel.len (show VRel w3 _ v cs3 from hr3))
 have HONE3:=Lib.hid (vone hr3)
 have HX13:=Lib.hid ((hb3.block _ (row_lt HX1.out)).trans HX1.out)
 have HX23:=Lib.hid ((hb3.block _ (row_lt HX2.out)).trans HX2.out)
 clear hb3 hr3
 refine wpList_plain rfl (fun K hK=>?_);go_simp;refine hK _ _ ?_;clear hK K
 refine wpList_store_mid rfl 129 (.tmp 6) (.tmp 5) rfl b1 2 cs3.toArray rfl rfl (there_row HX13.out (by rw[List.size_toArray,List.size_toArray,HL3.out,HCL.out];decide)) (by rw[List.size_toArray,HL3.out];kernel_rfl) HONE3.out ?_
 obtain ⟨w4,HW4⟩:∃ W,Hid (w3.setCells b1 2 cs3.toArray.toList=W):=⟨_,Lib.hid rfl⟩
 have HU4:Hid (Upd (fun k=>k=b1) w3 w4):=Lib.hid (by rw[←HW4.out];exact upd_setCells _ _ _ _)
 have HRG:Hid (w4.rangeAt b1 0 ([strV key,.bool has]++cs3++[strV u])):=Lib.hid (by
  have h:=range_rowf HX13.out
  rw[HC.out] at h
  have h:=range_mid h (d:=cs3) (by rw[HL3.out,HL.out]) (there_row HX13.out (by rw[List.size_toArray,HL3.out,HCL.out];show 0+2+8≤11;decide))
  rw[←HW4.out]
  simpa using h)
 have HX24:Hid (w4.heap[b2]? = some (.cells #[.string ⟨#[]⟩,.bool false,.int .i64 0,.string ⟨#[]⟩,.bool false,.int .u64 0,.slice none 0 0,.slice none 0 0,.string ⟨#[]⟩,.string ⟨#[]⟩,.string ⟨#[]⟩] 131 (0,0))):=Lib.hid ((HU4.out.block _ (row_lt HX23.out) (fun h=>hn12 h.symm)).trans HX23.out)
 obtain ⟨c4,HC4⟩:∃ c,Hid ([strV key,.bool has]++cs3++[strV u]=c):=⟨_,Lib.hid rfl⟩
 rw[HC4.out] at HRG
 have HREL:Hid (KRel w4 (fun k=>W.heap.size≤k∧k<w4.heap.size) (.mk key has v u) c4):=Lib.hid (by
  rw[KRel]
  exact ⟨cs3,VRel.upd HU4.out (fun k hk hh=>by have hh:k=b1:=hh;omega) (fun k hk=>⟨hk.1,Nat.lt_of_lt_of_le hk.2 HU4.out.size⟩) v cs3 HR3.out,HC4.out.symm⟩)
 have HONE4:=Lib.hid (kone (x := .mk key has v u) HREL.out)
 have HL4:=Lib.hid HREL.out.len
 rw[HW4.out]
 clear HR3
 go_upto_region 2 with fail
 refine wp_region_lit ?_
 refine wpList_load_mid rfl 131 (.tmp 1) rfl b1 0 rfl c4 _ HRG.out Tryd.underlying131 rfl (by rw[HL4.out];kernel_rfl) ?_
 refine wpList_store_row rfl 131 (.tmp 2) (.tmp 7) rfl b2 c4.toArray rfl rfl 131 _ HX24.out (by rw[List.size_toArray,HL4.out];kernel_rfl) (by show 11=c4.toArray.size;rw[List.size_toArray,HL4.out]) HONE4.out ?_
 obtain ⟨w5,HW5⟩:∃ W,Hid (w4.setRow b2 c4.toArray=W):=⟨_,Lib.hid rfl⟩
 have HX5:Hid (w5.heap[b2]? = some (.cells c4.toArray 131 (0,0))):=Lib.hid (by rw[←HW5.out];exact setRow_heap _ _ _ _ _ _ HX24.out)
 have HB5:Hid (Below b2 w4 w5):=Lib.hid (by rw[←HW5.out];exact below_setRow ((Below.refl _ _)) (Nat.le_refl _) _)
 rw[HW5.out]
 go_wp2_with fail
 (try simp only[Exit.inBlock,Exit.then])
 have HU5:Hid (Upd (fun k=>k=b2) w4 w5):=Lib.hid (by rw[←HW5.out];exact upd_setRow _ _ _)
 refine body_cell1 rfl rfl (run_loadVar_row _ b2 131 131 _ (0,0) _ HX5.out Tryd.underlying131 rfl (by rw[List.size_toArray,HL4.out];kernel_rfl)) rfl ?_
 refine ⟨?_,c4,rfl,?_⟩
 ·exact (below_step HB.out HB3.out).trans ((HU4.out.below (below_step HB.out HB3.out).size (fun k _ hk=>by have hk:k=b1:=hk;omega)).trans (HU5.out.below (by have h1:=(below_step HB.out HB3.out).size;have h2:=HU4.out.size;omega) (fun k _ hk=>by have hk:k=b2:=hk;omega)))
 ·exact KRel.upd HU5.out (fun k hk hh=>by have hh:k=b2:=hh;omega) (fun k hk=>⟨by have:=HB.out.size;omega,Nat.lt_of_lt_of_le hk.2 HU5.out.size⟩) _ _ HREL.out
end Go.Proofs.YtoggpnfeioaidaaDoor
