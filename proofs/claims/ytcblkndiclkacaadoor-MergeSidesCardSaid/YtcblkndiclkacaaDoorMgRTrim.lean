/-
  hygref25.Trim.
-/
import Derived.Test.YtcblkndiclkacaaDoorMgTrimMath
import Derived.Test.YtcblkndiclkacaaDoorMgRDown
set_option maxRecDepth 1000000
set_option maxHeartbeats 16000000
namespace Go.Proofs.YtcblkndiclkacaaDoor
open Go.RowKit
theorem nats_cut {w:World} {g o:Nat} {l:List Nat} (h:Nats .u64 w (some ⟨g,o,none⟩) l) (a b:Nat) (hb:b≤l.length):Nats .u64 w (some ⟨g,o+a,none⟩) ((l.drop a).take (b - a)):=fun hn=>by
 have hne:l≠[]:=fun e=>by subst e;simp at hn
 obtain ⟨g',o',e,hlt,hc⟩:=h hne
 simp only[Option.some.injEq,Addr.mk.injEq] at e
 obtain ⟨rfl,rfl,_⟩:=e
 refine ⟨g,o+a,rfl,hlt,fun j hj=>?_⟩
 have hj2:j<b - a:=by rw[List.length_take] at hj;omega
 rw[Nat.add_assoc,hc (a+j) (by omega)]
 rw[List.getElem_take,List.getElem_drop]
theorem nats_not {w:World} {ao:Option Addr} {l:List Nat} {a n c:Nat} {u:Int} {p:Option Addr} {s:ByteArray} {T:TypeId} (h:Nats .u64 w ao l) (hr:w.heap[a]? = some (.cells #[.int .i32 u,.slice p n c,.string s] T (0,0))):l≠[]→∀ b off,ao=some ⟨b,off,none⟩→¬b=a:=by
 intro hn b off hb hk
 obtain ⟨b',o',e,_,hc⟩:=h hn
 rw[hb] at e
 simp only[Option.some.injEq,Addr.mk.injEq] at e
 obtain ⟨rfl,rfl,_⟩:=e
 subst hk
 have h1:=hc 0 (List.length_pos_iff.2 hn)
 rw[cell_of_row w b (off+0) _ _ _ hr] at h1
 match off with
 | 0=>simp at h1
 | 1=>simp at h1
 | 2=>simp at h1
 | n+3=>simp at h1
theorem rtrim_any (x:Pt) (hsh:x.sh=0) (hok:Hid x.Ok) (bo:Option Addr) (cap:Nat) (U:ByteArray) (w:World) (hcap:x.cs.length≤cap) (hnil:bo=none→cap=0) (hN:Hid (Nats .u64 w bo x.cs)) :
  Calls Tryd.prog 12 #[.agg #[.int .i32 x.off,.slice bo x.cs.length cap,.string U]] w (RDPost x w):=by
 have hxl:=hok.out.len
 have hxo:=hok.out.lo
 have hxh:=hok.out.hi
 obtain ⟨b0,HB0⟩:∃ b,Hid (w.heap.size=b):=⟨_,Lib.hid rfl⟩
 obtain ⟨a2,HA⟩:∃ a,Hid (w.heap.size+1=a):=⟨_,Lib.hid rfl⟩
 obtain ⟨W,HW⟩:∃ W,Hid ((w.alloc (.cells #[.int .i32 x.off,.slice bo x.cs.length cap,.string U] 24)).alloc (.cells #[.int .i32 0,.slice none 0 0,.string ⟨#[]⟩] 24)=W):=⟨_,Lib.hid rfl⟩
 have HB:Hid (Below w.heap.size w W):=Lib.hid (by rw[←HW.out];exact below_step (below_new _ _) (below_new _ _))
 have HX:Hid (W.heap[b0]? = some (.cells #[.int .i32 x.off,.slice bo x.cs.length cap,.string U] 24 (0,0))):=Lib.hid (by
  rw[←HW.out,←HB0.out];exact (Below.heap_alloc _ _ _ (by simp)).trans (heap_alloc_new w _))
 have HR:Hid (W.heap[a2]? = some (.cells #[.int .i32 0,.slice none 0 0,.string ⟨#[]⟩] 24 (0,0))):=Lib.hid (by
  rw[←HW.out,←HA.out]
  have h:=heap_alloc_new (w.alloc (.cells #[.int .i32 x.off,.slice bo x.cs.length cap,.string U] 24)) (.cells #[.int .i32 0,.slice none 0 0,.string ⟨#[]⟩] 24)
  rw[show (w.alloc (.cells #[.int .i32 x.off,.slice bo x.cs.length cap,.string U] 24)).heap.size=w.heap.size+1 by simp] at h
  exact h)
 obtain ⟨D,HD⟩:∃ D,Hid (W.drew=D):=⟨_,Lib.hid rfl⟩
 have hud:Upd (fun _=>False) W D:=by rw[←HD.out];exact Upd.drew _ _
 have HBD:Hid (Below w.heap.size w D):=Lib.hid (HB.out.trans (hud.below HB.out.size (fun _ _ h=>h.elim)))
 have HXD:=Lib.hid ((hud.block _ (row_lt HX.out) (fun h=>h)).trans HX.out)
 have HRD:=Lib.hid ((hud.block _ (row_lt HR.out) (fun h=>h)).trans HR.out)
 clear hud
 have hx0:D.cell? ⟨b0,0,none⟩=some (.int .i32 x.off):=row_cell HXD.out (j:=0) rfl
 have hx1:D.cell? ⟨b0,1,none⟩=some (.slice bo x.cs.length cap):=row_cell HXD.out (j:=1) rfl
 have hz20:D.frozen? ⟨a2,0,none⟩=false:=row_thaw HRD.out 0
 have hz21:D.frozen? ⟨a2,1,none⟩=false:=row_thaw HRD.out 1
 have hz22:D.frozen? ⟨a2,2,none⟩=false:=row_thaw HRD.out 2
 have ha0:D.cell? ⟨a2,0,none⟩=some (.int .i32 0):=row_cell HRD.out (j:=0) rfl
 have ha1:D.cell? ⟨a2,1,none⟩=some (.slice none 0 0):=row_cell HRD.out (j:=1) rfl
 have ha3:D.cell? ⟨a2,2,none⟩=some (.string ⟨#[]⟩):=row_cell HRD.out (j:=2) rfl
 go_enter Tryd.func12,Tryd.ntmps12
 go_upto_region 1 with fail
 rw[HW.out,HA.out,HB0.out]
 have hne:Nonempty {w':World // w'.heap[b0]? = some (.cells #[.int .i32 x.off,.slice bo x.cs.length cap,.string U] 24 (0,0))}:=⟨⟨_,HX.out⟩⟩
 have hl1:∀ s:{w':World // w'.heap[b0]? = some (.cells #[.int .i32 x.off,.slice bo x.cs.length cap,.string U] 24 (0,0))},s.1.cell? ⟨b0,1,none⟩=some (.slice bo x.cs.length cap):=fun s=>row_cell s.2 (j:=1) rfl
 refine wp_region_seq (S:=fun w':World=>w'.heap[b0]? = some (.cells #[.int .i32 x.off,.slice bo x.cs.length cap,.string U] 24 (0,0))) [(0,true),(1,true),(2,true),(3,true),(4,true)] (by kernel_rfl) (by kernel_rfl) (by kernel_rfl) (by kernel_rfl) (by rw[HD.out];exact HXD.out) ?_
 rw[HD.out]
 iterate 5 (refine seq_take _ rfl (fun KC hK=>?_);go_simp;(first|refine hK _ ?_|refine ⟨_,fun _ _=>rfl,hK _ ?_⟩);clear hK KC)
 refine seq_done ?_
 clear hl1 hne
 have HCT:Hid (∀ i,x.cs.length≤i→x.ct i=0):=Lib.hid (fun i hi=>by unfold Pt.ct;rw[List.getD_eq_getElem?_getD,List.getElem?_eq_none hi];rfl)
 have HND:Hid (Nats .u64 D bo x.cs):=Lib.hid (hN.out.below HBD.out)
 go_wp2_with fail
 go_loopg [4] x.cs.length (fun k i wr=>∃ (j:Nat),i = .int .i64 (j:Int)∧j+k=x.cs.length∧D=wr∧Hid (∀ i,i<j→x.ct i=0))
 case atStart=>exact ⟨0,rfl,by omega,rfl,Lib.hid (fun i hi=>absurd hi (by omega))⟩
 case round =>
  obtain ⟨j,rfl,hj,rfl,HZ⟩:=hrel
  have HJ:=Lib.hid hj
  clear hj
  by_cases hlt:j<x.cs.length
  ·obtain ⟨g,o,n,HNN,hbo,hg,hc⟩:=ct_at HND.out hlt
   subst hbo
   have i1:(j:Int)<(x.cs.length:Int):=by omega
   have i2:(0:Int)≤(j:Int):=by omega
   by_cases h0:n=0
   ·have e1:((n:Int) == 0)=true:=by rw[beq_iff_eq];omega
    have e2:(n == 0)=true:=by rw[beq_iff_eq];exact h0
    have HZ2:Hid (∀ i,i<j+1→x.ct i=0):=Lib.hid (fun i hi=>by
     rcases Nat.lt_or_ge i j with h|h
     ·exact HZ.out i h
     ·rw[show i=j by omega,←HNN.out];exact h0)
    clear h0
    go_wp2_with fail
    have hj:=HJ.out
    go_roundg (gk - 1)
    case measure=>omega
    case rel=>exact ⟨j+1,by simp,by omega,rfl,HZ2⟩
   ·have e1:((n:Int) == 0)=false:=by rw[beq_eq_false_iff_ne];omega
    have e2:(n == 0)=false:=by rw[beq_eq_false_iff_ne];exact h0
    have HF:Hid (x.ct j≠0):=Lib.hid (by rw[←HNN.out];exact h0)
    clear h0
    go_wp2_with fail
    clear hc e1 e2
    have HLT:=Lib.hid hlt
    go_loopg [5] (x.cs.length - (j+1)) (fun k i wr=>∃ (m:Nat),i = .int .i64 (m:Int)∧m=j+1+k∧m≤x.cs.length∧D=wr∧Hid (∀ i,m≤i→x.ct i=0))
    case atStart=>exact ⟨x.cs.length,rfl,by omega,Nat.le_refl _,rfl,HCT⟩
    case round =>
     obtain ⟨m,rfl,hm,hml,rfl,HZM⟩:=hrel
     have HM:=Lib.hid hm
     have hmj:j<m:=by omega
     clear hm
     obtain ⟨y,rfl⟩:∃ y,m=y+1:=⟨m - 1,by omega⟩
     obtain ⟨g',o',n',HNN',hbo',hg',hc'⟩:=ct_at HND.out (show y<x.cs.length by omega)
     simp only[Option.some.injEq,Addr.mk.injEq] at hbo'
     obtain ⟨rfl,rfl,_⟩:=hbo'
     have d1:decide (((y+1:Nat):Int)>(j:Int))=true:=decide_eq_true (by omega)
     have d2:decide ((y:Int)+1>(j:Int))=true:=decide_eq_true (by omega)
     have d3:decide (y+1>j)=true:=decide_eq_true (by omega)
     have q1:IntKind.i64.wrap (((y+1:Nat):Int) - 1)=(y:Int):=by rw[IntWalk.i64_in _ (by omega)];omega
     have i3:(y:Int)<(x.cs.length:Int):=by omega
     have i4:(0:Int)≤(y:Int):=by omega
     by_cases h0:n'=0
     ·have e1:((n':Int) == 0)=true:=by rw[beq_iff_eq];omega
      have e2:(n' == 0)=true:=by rw[beq_iff_eq];exact h0
      have hyj:y≠j:=fun h=>HF.out (by rw[←h,←HNN'.out];exact h0)
      have HZ3:Hid (∀ i,y≤i→x.ct i=0):=Lib.hid (fun i hi=>by
       rcases Nat.lt_or_ge y i with h|h
       ·exact HZM.out i h
       ·rw[show i=y by omega,←HNN'.out];exact h0)
      clear h0
      go_wp2_with fail
      have hm:=HM.out
      go_roundg (gk - 1)
      case measure=>omega
      case rel=>exact ⟨y,rfl,by omega,by omega,rfl,HZ3⟩
     ·have e1:((n':Int) == 0)=false:=by rw[beq_eq_false_iff_ne];omega
      have e2:(n' == 0)=false:=by rw[beq_eq_false_iff_ne];exact h0
      have HT:=Lib.hid (aans_trim hok.out hsh j (y+1) (by omega) hml HZ.out HZM.out (fun _=>HF.out) (fun _=>by rw[show y+1 - 1=y by omega,←HNN'.out];exact h0))
      rw[if_neg (by omega)] at HT
      clear h0
      have e3:((j:Int) == ((y+1:Nat):Int))=false:=by rw[beq_eq_false_iff_ne];omega
      have e4:((j:Int) == (y:Int)+1)=false:=by rw[beq_eq_false_iff_ne];omega
      have e5:(j == y+1)=false:=by rw[beq_eq_false_iff_ne];omega
      have q2:IntKind.i64.wrap x.off=x.off:=IntWalk.i64_in _ (by omega)
      have q3:IntKind.i64.wrap (x.off+(j:Int))=x.off+(j:Int):=IntWalk.i64_in _ (by omega)
      by_cases hbig:2147483647<x.off+(j:Int)
      ·have d5:decide (x.off+(j:Int)>2147483647)=true:=decide_eq_true hbig
       rw[if_pos hbig] at HT
       clear hbig
       go_wp2_with fail
       (try simp only[Exit.inBlock,Exit.then])
       have HZ9:=buk_end (u := .int .i32 0) (v := .slice none 0 0) (s := .string ⟨#[]⟩) HBD.out (by have:=HA.out;omega) HRD.out
       refine body_cell2v rfl rfl (load_buk HZ9.2.1 rfl) rfl ?_
       refine ⟨HZ9.1,?_⟩
       rw[HT.out]
       rfl
      ·have d5:decide (x.off+(j:Int)>2147483647)=false:=decide_eq_false hbig
       rw[if_neg hbig] at HT
       have q5:IntKind.i32.wrap (x.off+(j:Int))=x.off+(j:Int):=by rw[wrap_i32_def];split<;>omega
       go_upto_region 10 with fail
       obtain ⟨E,HE⟩:∃ E,Hid (D.drew=E):=⟨_,Lib.hid rfl⟩
       have hud:Upd (fun _=>False) D E:=by rw[←HE.out];exact Upd.drew _ _
       have HBE:Hid (Below w.heap.size w E):=Lib.hid (HBD.out.trans (hud.below HBD.out.size (fun _ _ h=>h.elim)))
       have HXE:=Lib.hid ((hud.block _ (row_lt HXD.out) (fun h=>h)).trans HXD.out)
       have HRE:=Lib.hid ((hud.block _ (row_lt HRD.out) (fun h=>h)).trans HRD.out)
       have HNE:Hid (Nats .u64 E (some ⟨g,o+j,none⟩) ((x.cs.drop j).take (y+1 - j))):=Lib.hid (nats_cut (hN.out.below HBE.out) j (y+1) hml)
       have hS:=HXE.out
       clear hud hx0 hx1 hz20 hz21 hz22 ha0 ha1 ha3 hc'
       have hne:Nonempty {w':World // w'.heap[b0]? = some (.cells #[.int .i32 x.off,.slice (some ⟨g,o,none⟩) x.cs.length cap,.string U] 24 (0,0))}:=⟨⟨_,hS⟩⟩
       have hl0:∀ s:{w':World // w'.heap[b0]? = some (.cells #[.int .i32 x.off,.slice (some ⟨g,o,none⟩) x.cs.length cap,.string U] 24 (0,0))},s.1.cell? ⟨b0,0,none⟩=some (.int .i32 x.off):=fun s=>row_cell s.2 (j:=0) rfl
       have hl1:∀ s:{w':World // w'.heap[b0]? = some (.cells #[.int .i32 x.off,.slice (some ⟨g,o,none⟩) x.cs.length cap,.string U] 24 (0,0))},s.1.cell? ⟨b0,1,none⟩=some (.slice (some ⟨g,o,none⟩) x.cs.length cap):=fun s=>row_cell s.2 (j:=1) rfl
       have s1:(j:Int)≤(y:Int)+1:=by omega
       have s2:(y:Int)+1≤(cap:Int):=by omega
       have s3:j≤y+1:=by omega
       have s4:y+1≤cap:=by omega
       refine wp_region_seq (S:=fun w':World=>w'.heap[b0]? = some (.cells #[.int .i32 x.off,.slice (some ⟨g,o,none⟩) x.cs.length cap,.string U] 24 (0,0))) [(0,true),(1,true),(2,true),(3,true),(4,true),(5,true),(6,true),(7,true),(8,true),(9,true),(10,true),(11,false),(12,true),(13,false),(14,true)] (by kernel_rfl) (by kernel_rfl) (by kernel_rfl) (by kernel_rfl) (by rw[HE.out];exact hS) ?_
       rw[HE.out]
       iterate 10 (refine seq_take _ rfl (fun KC hK=>?_);go_simp;(first|refine hK _ ?_|refine ⟨_,fun _ _=>rfl,hK _ ?_⟩);clear hK KC)
       refine seq_take _ rfl (fun KC hK=>?_);go_simp;(first|refine hK _ ?_|refine ⟨_,fun _ _=>rfl,hK _ ?_⟩);clear hK KC
       clear hl0 hl1 hne
       obtain ⟨C,HCC⟩:∃ C,Hid ((x.cs.drop j).take (y+1 - j)=C):=⟨_,Lib.hid rfl⟩
       rw[HCC.out] at HNE HT
       have hCl:y+1 - j=C.length:=by rw[←HCC.out,List.length_take,List.length_drop];omega
       refine seq_come _ rfl (fun KC hK=>?_);go_simp
       (try rw[hCl])
       (try rw[if_neg (show ¬cap=j by omega)])
       refine (copy_nums (some ⟨g,o+j,none⟩) (cap - j) C E HNE.out (fun h=>by cases h) (by omega)).mono ?_
       rintro E9 w1 ⟨⟨bo1,bcap1,rfl,hc1,hc2,hc3⟩,hb1⟩
       go_simp
       have HB1:=Lib.hid (below_step HBE.out hb1)
       have HX1:=Lib.hid ((hb1.block _ (row_lt HXE.out)).trans HXE.out)
       have HR1:=Lib.hid ((hb1.block _ (row_lt HRE.out)).trans HRE.out)
       refine hK.out _ _ HX1.out ?_;clear hK KC
       have HC3:=Lib.hid hc3
       clear hb1 hc1 hc2 hc3
       refine seq_take _ rfl (fun KC hK=>?_);go_simp;(first|refine hK _ ?_|refine ⟨_,fun _ _=>rfl,hK _ ?_⟩);clear hK KC
       have hz20:w1.frozen? ⟨a2,0,none⟩=false:=row_thaw HR1.out 0
       have hz21:w1.frozen? ⟨a2,1,none⟩=false:=row_thaw HR1.out 1
       have hz22:w1.frozen? ⟨a2,2,none⟩=false:=row_thaw HR1.out 2
       have ha0:w1.cell? ⟨a2,0,none⟩=some (.int .i32 0):=row_cell HR1.out (j:=0) rfl
       have ha1:w1.cell? ⟨a2,1,none⟩=some (.slice none 0 0):=row_cell HR1.out (j:=1) rfl
       have ha3:w1.cell? ⟨a2,2,none⟩=some (.string ⟨#[]⟩):=row_cell HR1.out (j:=2) rfl
       have HZ9:=Lib.hid (buk_end (u := .int .i32 (x.off+(j:Int))) (v := .slice bo1 C.length bcap1) (s := .string ⟨#[]⟩) HB1.out (by have:=HA.out;omega) HR1.out)
       refine seq_come _ rfl (fun KC hK=>?_);go_simp
       refine hK.out _ _ ((HZ9.out.2.2.block _ (row_lt HX1.out) (fun hk=>by have hk:b0=a2:=hk;have:=HA.out;have:=HB0.out;omega)).trans HX1.out) ?_;clear hK KC
       refine seq_take _ rfl (fun KC hK=>?_);go_simp;(first|refine hK _ ?_|refine ⟨_,fun _ _=>rfl,hK _ ?_⟩);clear hK KC
       refine seq_done ?_
       clear hz20 hz21 hz22 ha0 ha1 ha3
       go_wp2_with fail
       (try simp only[Exit.inBlock,Exit.then])
       refine body_cell2v rfl rfl (load_buk HZ9.out.2.1 rfl) rfl ?_
       refine ⟨HZ9.out.1,?_⟩
       rw[HT.out]
       exact ⟨bo1,bcap1,rfl,HC3.out.updS HZ9.out.2.2 (nats_not HC3.out HR1.out)⟩
  ·have hje:j=x.cs.length:=by have:=HJ.out;omega
   subst hje
   have HAN:Hid (aans [x]=some (0,[])):=Lib.hid ((aans_trim hok.out hsh x.cs.length x.cs.length (Nat.le_refl _) (Nat.le_refl _) HZ.out HCT.out (fun h=>absurd h (Nat.lt_irrefl _)) (fun h=>absurd h (Nat.lt_irrefl _))).trans (if_pos rfl))
   go_wp2_with fail
   have e3:((x.cs.length:Int) == (x.cs.length:Int))=true:=beq_self_eq_true _
   go_loopg [5] 0 (fun k i wr=>i = .int .i64 (x.cs.length:Int)∧D=wr)
   case atStart=>exact ⟨rfl,rfl⟩
   case round =>
    obtain ⟨rfl,rfl⟩:=hrel
    go_wp2_with fail
    (try simp only[Exit.inBlock,Exit.then])
    have HZ9:=buk_end (u := .int .i32 0) (v := .slice none 0 0) (s := .string ⟨#[]⟩) HBD.out (by have:=HA.out;omega) HRD.out
    refine body_cell2v rfl rfl (load_buk HZ9.2.1 rfl) rfl ?_
    refine ⟨HZ9.1,?_⟩
    rw[HAN.out]
    exact ⟨none,0,rfl,fun h=>absurd rfl h⟩
end Go.Proofs.YtcblkndiclkacaaDoor
