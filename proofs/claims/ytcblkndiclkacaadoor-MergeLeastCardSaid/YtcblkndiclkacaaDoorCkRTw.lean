/-
  hygref8.Twice, hygref18.base; hygref6.FromInt(1).
-/
import Derived.Test.YtcblkndiclkacaaDoorCkRef
import Derived.Test.YtcblkndiclkacaaDoorOrd
set_option maxRecDepth 1000000
set_option maxHeartbeats 16000000
namespace Go.Proofs.YtcblkndiclkacaaDoor
open Go.RowKit
theorem dup_iff (l:List KV):dup l=false↔∀ a b,b<a→a<l.length→(l.map kkey).getD a []≠(l.map kkey).getD b []:=by
 unfold dup
 rw[Bool.not_eq_false',decide_eq_true_iff,List.Nodup,List.pairwise_iff_getElem]
 constructor
 ·intro h a b hb ha
  have:=h b a (by simp;omega) (by simpa using ha) hb
  rw[List.getD_eq_getElem?_getD,List.getD_eq_getElem?_getD,List.getElem?_eq_getElem (by simpa using ha),List.getElem?_eq_getElem (by simp;omega)]
  exact fun e=>this e.symm
 ·intro h i j hi hj hij
  have:=h j i hij (by simpa using hj)
  rw[List.getD_eq_getElem?_getD,List.getD_eq_getElem?_getD,List.getElem?_eq_getElem hj,List.getElem?_eq_getElem hi] at this
  exact fun e=>this e.symm
theorem krels_key {w:World} {P:Nat→Prop} {l:List KV} {lo:Option Addr} (h:KRels w P l lo 0) {j:Nat} (hj:j<l.length):∃ g o t,lo=some ⟨g,o,none⟩∧g<w.heap.size∧(l.map kkey).getD j []=t∧w.cell? ⟨g,o+j * 11,none⟩=some (.string ⟨t.toArray⟩):=by
 obtain ⟨g,o,cs,rfl,hg,hc,hr⟩:=krels_at0 h j hj
 refine ⟨g,o,_,rfl,hg,rfl,?_⟩
 have e:(l.map kkey).getD j []=kkey l[j]:=by rw[List.getD_eq_getElem?_getD,List.getElem?_eq_getElem (by simpa using hj)];simp
 rw[e]
 generalize l[j]=x at hr ⊢
 cases x with|mk key has v u =>
 rw[KRel] at hr
 obtain ⟨cv,hrv,rfl⟩:=hr
 have h0:=hc 0 (by simp)
 rw[show o+j * 11=o+11 * j+0 by omega,h0];rfl
theorem rtwice_any (l:List KV) (lo:Option Addr) (lc:Nat) (P:Nat→Prop) (w:World) (hl:l.length≤9223372036854775806) (_hlim:ksfit l) (ha:KRels w P l lo 0) {r:Bool} (hr:Hid (dup l=r)) :
  Calls Tryd.prog 81 #[.slice lo l.length lc] w fun e w'=>e = .returned (.bool r)∧Below w.heap.size w w':=by
 have HA:=Lib.hid ha
 clear ha
 go_enter Tryd.func81,Tryd.ntmps81
 go_wp2_with fail
 go_loopg [3] l.length (fun k i wr=>∃ j:Nat,i = .int .i64 (j:Int)∧j+k=l.length∧Below w.heap.size w wr∧Hid (∀ a b,b<a→a<j→(l.map kkey).getD a []≠(l.map kkey).getD b []))
 case atStart=>exact ⟨0,rfl,by omega,Below.refl _ _,Lib.hid (fun a b _ h=>by omega)⟩
 case round =>
  obtain ⟨g0,rfl⟩:∃ g0,g0=gk:=⟨_,rfl⟩
  obtain ⟨j,rfl,hj,hbr,HM⟩:=hrel
  have HBR:=Lib.hid hbr
  have HJ:=Lib.hid hj
  clear hj hbr
  by_cases hlt:j<l.length
  ·have q9:IntKind.i64.wrap ((j:Int)+1)=(j:Int)+1:=IntWalk.i64_in _ (by omega)
   go_wp2_with fail
   go_loopg [4] j (fun k2 i wr2=>∃ m:Nat,i = .int .i64 (m:Int)∧m+k2=j∧Below w.heap.size w wr2∧Hid (∀ b,b<m→(l.map kkey).getD j []≠(l.map kkey).getD b []))
   case atStart=>exact ⟨0,rfl,by omega,HBR.out,Lib.hid (fun b h=>by omega)⟩
   case round =>
    obtain ⟨m,rfl,hm,hbr2,HM2⟩:=hrel
    have HBR2:=Lib.hid hbr2
    have HMM:=Lib.hid hm
    clear hm hbr2
    by_cases hml:m<j
    ·have q8:IntKind.i64.wrap ((m:Int)+1)=(m:Int)+1:=IntWalk.i64_in _ (by omega)
     have hmn:m<l.length:=by omega
     obtain ⟨g,o,t,rfl,hg,ht,hc1⟩:=krels_key (HA.out.below HBR2.out) hlt
     obtain ⟨g2,o2,t2,he,hg2,ht2,hc2⟩:=krels_key (HA.out.below HBR2.out) hmn
     simp only[Option.some.injEq,Addr.mk.injEq] at he
     obtain ⟨rfl,rfl,_⟩:=he
     obtain ⟨KA,hKA⟩:∃ X:ByteArray,(⟨t.toArray⟩:ByteArray)=X:=⟨_,rfl⟩
     obtain ⟨KB,hKB⟩:∃ X:ByteArray,(⟨t2.toArray⟩:ByteArray)=X:=⟨_,rfl⟩
     rw[hKA] at hc1
     rw[hKB] at hc2
     have HEQ:Hid (KA=KB↔t=t2):=Lib.hid (by
      rw[←hKA,←hKB]
      constructor
      ·intro e
       have:=congrArg (fun x:ByteArray=>x.data.toList) e
       simpa using this
      ·intro e;rw[e])
     have HT1:=Lib.hid ht
     have HT2:=Lib.hid ht2
     have HKA:Hid (KA.data.toList=t):=Lib.hid (by rw[←hKA])
     have HKB:Hid (KB.data.toList=t2):=Lib.hid (by rw[←hKB])
     clear hKA hKB ht ht2
     have hI:Below wr.heap.size wr wr.drew:=(Below.refl _ _).drew
     have hne:Nonempty { w':World // Below wr.heap.size wr w' }:=⟨⟨_,hI⟩⟩
     have hc3:∀ t:{ w':World // Below wr.heap.size wr w' },t.1.cell? ⟨g,o+j * 11,none⟩=some (.string KA):=fun t=>(t.2.cell (p:=⟨g,o+j * 11,none⟩) hg).trans hc1
     have hc4:∀ t:{ w':World // Below wr.heap.size wr w' },t.1.cell? ⟨g,o+m * 11,none⟩=some (.string KB):=fun t=>(t.2.cell (p:=⟨g,o+m * 11,none⟩) hg).trans hc2
     clear hc1 hc2
     by_cases hx:KA=KB
     ·have e1:(KA.toList == KB.toList)=true:=by rw[hx];simp
      have hr2:r=true:=by
       rw[←hr.out]
       cases hd:dup l with
       | true=>rfl
       | false=>exact absurd (by rw[HT1.out,HT2.out];exact HEQ.out.1 hx) ((dup_iff l).1 hd j m hml hlt)
      subst hr2
      clear hx
      go_wp2_with fail
      refine wp_region_seq (S:=fun w'=>Below wr.heap.size wr w') [(0,true),(1,true),(2,true),(3,true),(4,true),(5,true),(6,true),(7,true),(8,true),(9,true),(10,true)] (by kernel_rfl) (by kernel_rfl) (by kernel_rfl) (by kernel_rfl) hI ?_
      iterate 11 (refine seq_take _ rfl (fun KC hK=>?_);go_simp;(first|refine hK _ ?_|refine ⟨_,fun _ _=>rfl,hK _ ?_⟩|refine ⟨undef,by first|rfl|simp,hK _ ?_⟩);clear hK KC)
      refine seq_done ?_
      clear hc3 hc4
      go_wp2_with fail
      go_ret
      exact ⟨rfl,HBR2.out.trans (hI.mono HBR2.out.size)⟩
     ·have e1:(KA.toList == KB.toList)=false:=(text_ne HKA.out HKB.out (fun e=>hx (HEQ.out.2 e))).2
      have HN2:Hid (∀ b,b<m+1→(l.map kkey).getD j []≠(l.map kkey).getD b []):=Lib.hid (fun b hb=>by
       by_cases hbm:b=m
       ·rw[hbm,HT1.out,HT2.out];exact fun e=>hx (HEQ.out.2 e)
       ·exact HM2.out b (by omega))
      have HX:=Lib.hid hx
      clear hx
      go_wp2_with fail
      refine wp_region_seq (S:=fun w'=>Below wr.heap.size wr w') [(0,true),(1,true),(2,true),(3,true),(4,true),(5,true),(6,true),(7,true),(8,true),(9,true),(10,true)] (by kernel_rfl) (by kernel_rfl) (by kernel_rfl) (by kernel_rfl) hI ?_
      iterate 11 (refine seq_take _ rfl (fun KC hK=>?_);go_simp;(first|refine hK _ ?_|refine ⟨_,fun _ _=>rfl,hK _ ?_⟩|refine ⟨undef,by first|rfl|simp,hK _ ?_⟩);clear hK KC)
      refine seq_done ?_
      clear hc3 hc4
      go_wp2_with fail
      have hm:=HMM.out
      go_roundg (gk - 1)
      case measure=>omega
      case rel=>exact ⟨m+1,by simp,by omega,HBR2.out.trans (hI.mono HBR2.out.size),HN2⟩
    ·have hme:m=j:=by have:=HMM.out;omega
     have HN3:Hid (∀ a b,b<a→a<j+1→(l.map kkey).getD a []≠(l.map kkey).getD b []):=Lib.hid (fun a b hb ha=>by
      by_cases haj:a=j
      ·rw[haj];exact HM2.out b (by omega)
      ·exact HM.out a b hb (by omega))
     clear hme
     go_wp2_with fail
     have hj:=HJ.out
     go_roundg (g0 - 1)
     case measure=>omega
     case rel=>exact ⟨j+1,by simp,by omega,HBR2.out,HN3⟩
  ·have hr2:r=false:=by
    rw[←hr.out]
    exact (dup_iff l).2 fun a b hb ha=>HM.out a b hb (by have:=HJ.out;omega)
   subst hr2
   go_wp2_with fail
   go_ret
   exact ⟨rfl,HBR.out⟩
theorem base_any (s t:Nat) (l:List KV) (lo:Option Addr) (lc:Nat) (P:Nat→Prop) (w:World) (hl:l.length≤9223372036854775806) (hlim:ksfit l) (ha:KRels w P l lo 0) {r:Nat} (hr:Hid (pointR s t (dup l)=r)) :
  Calls Tryd.prog 50 #[.int .u64 (s:Int),.int .u64 (t:Int),.slice lo l.length lc] w fun e w'=>e = .returned (.int .i64 (r:Int))∧Below w.heap.size w w':=by
 by_cases h0:t=0
 ·have hr2:r=4:=by rw[←hr.out];exact if_pos h0
  subst hr2
  subst h0
  clear hr
  go_enter Tryd.func50,Tryd.ntmps50
  go_wp2_with fail
  go_ret
  exact ⟨rfl,Below.refl _ _⟩
 ·have d0:((t:Int) == 0)=false:=by simp[h0]
  have d00:(t == 0)=false:=by simp[h0]
  by_cases h1:t<s
  ·have hr2:r=5:=by rw[←hr.out];unfold pointR;rw[if_neg h0,if_pos h1]
   subst hr2
   have d1:decide (t<s)=true:=decide_eq_true h1
   clear hr h0
   go_enter Tryd.func50,Tryd.ntmps50
   go_wp2_with fail
   go_ret
   exact ⟨rfl,Below.refl _ _⟩
  ·obtain ⟨b,HB⟩:∃ b,Hid (dup l=b):=⟨_,Lib.hid rfl⟩
   have hr2:r=if b=true then 6 else 0:=by rw[←hr.out];unfold pointR;rw[if_neg h0,if_neg h1,HB.out]
   subst hr2
   have d1:decide (t<s)=false:=decide_eq_false h1
   have HT:=Lib.hid (rtwice_any l lo lc P w hl hlim ha HB)
   clear hr h0 ha hlim h1
   go_enter Tryd.func50,Tryd.ntmps50
   go_wp2_with fail
   refine HT.out.mono ?_;rintro e w' ⟨rfl,hb⟩
   have HBW:=Lib.hid hb
   clear hb
   cases b with
   | true =>
    go_wp2_with fail
    go_ret
    exact ⟨rfl,HBW.out⟩
   | false =>
    go_wp2_with fail
    go_ret
    exact ⟨rfl,HBW.out⟩
end Go.Proofs.YtcblkndiclkacaaDoor
