/-
  merge.add$1: a count is added at its place.
-/
import Derived.Test.YtcblkndiclkacaaDoorMgPlus
import Derived.Test.YtcblkndiclkacaaDoorOrd
set_option maxRecDepth 1000000
set_option maxHeartbeats 16000000
namespace Go.Proofs.YtcblkndiclkacaaDoor
open Go.RowKit
def CtRow (base g:Nat) (C:List Nat) (w:World):Prop:=w.ownsRow base 40 1 (.slice (some ⟨g,0,none⟩) C.length C.length) C.length (nvals C)
def AddS (base g b6 b4:Nat) (C:List Nat) (f:Int) (w:World):Prop:=CtRow base g C w∧w.heap[b6]? = some (.cells #[.slice (some ⟨g,0,none⟩) C.length C.length] 22 (0,0))∧w.heap[b4]? = some (.cells #[.int .i64 f] 2 (0,0))
theorem CtRow.upd {S:Nat→Prop} {base g:Nat} {C:List Nat} {w w':World} (h:CtRow base g C w) (hu:Upd S w w') (hg:¬S g):CtRow base g C w':=hu.own h (fun k hk hs=>by simp[Value.ownBlock] at hk;subst hk;exact hg hs)
theorem nvals_set (C:List Nat) (i n:Nat):(nvals C).set i (.int .u64 (n:Int))=nvals (C.set i n):=by
 unfold nvals;rw[List.map_set]
theorem nvals_at (C:List Nat) (i:Nat) (hi:i<C.length):(nvals C)[i]? = some (.int .u64 ((C.getD i 0:Nat):Int)):=by
 unfold nvals;rw[List.getElem?_map,List.getElem?_eq_getElem hi,List.getD_eq_getElem?_getD,List.getElem?_eq_getElem hi];rfl
theorem add1_any (lim base c g b6 b4:Nat) (C:List Nat) (f p:Int) (i n:Nat) (hpf:p - f=(i:Int)) (hi:i<C.length) (hC:C.length≤2147483647) (hn:n<18446744073709551616) (hCn:C.getD i 0<18446744073709551616) (e:Bool) (w:World) (hl:lim≤w.heap.size)
  (hd:c≠g∧b6≠c∧b6≠g∧b4≠c∧b4≠g) (hcl:c<lim∧g<lim) (HS:Hid (AddS base g b6 b4 C f w)) (HR:Hid (EdgeRow lim c e w)) {e':Bool} (HE:Hid ((e||decide (18446744073709551616≤C.getD i 0+n))=e')) {C':List Nat} (HC:Hid (C.set i (usum (C.getD i 0) n)=C')) :
  Calls Tryd.prog 61 #[.int .i64 p,.int .u64 (n:Int),.pointer (some ⟨c,0,none⟩),.pointer (some ⟨b6,0,none⟩),.pointer (some ⟨b4,0,none⟩)] w fun E w'=>E = .returned (.tuple #[])∧Upd (fun k=>k=g∨k=c) w w'∧AddS base g b6 b4 C' f w'∧EdgeRow lim c e' w':=by
 obtain ⟨x,HX⟩:∃ x,Hid (C.getD i 0=x):=⟨_,Lib.hid rfl⟩
 have hx:x<18446744073709551616:=by rw[←HX.out];exact hCn
 rw[HX.out] at HE HC
 obtain ⟨N,HN⟩:∃ N,Hid (C.length=N):=⟨_,Lib.hid rfl⟩
 have hiN:i<N:=by rw[←HN.out];exact hi
 have hN9:N≤2147483647:=by rw[←HN.out];exact hC
 have q1:IntKind.i64.wrap (p - f)=(i:Int):=by rw[hpf];exact IntWalk.i64_in _ (by omega)
 have HPF:=Lib.hid hpf
 have HD:=Lib.hid hd
 have HCL:=Lib.hid hcl
 have HL:=Lib.hid hl
 have hi1:(i:Int)<(N:Int):=by omega
 have hi0:(0:Int)≤(i:Int):=by omega
 have HCN:=Lib.hid hCn
 have HI:=Lib.hid hi
 have HHC:=Lib.hid hC
 clear hpf hd hcl hl hCn hi hC
 go_enter Tryd.func61,Tryd.ntmps61
 go_upto_region 0 with fail
 obtain ⟨D,hD⟩:∃ D,w.drew=D:=⟨_,rfl⟩
 have HUD:Hid (Upd (fun k=>k=g∨k=c) w D):=Lib.hid (by rw[←hD];exact Upd.drew _ _)
 have hS:AddS base g b6 b4 C f D:=by rw[←hD];exact HS.out
 have HRD:Hid (EdgeRow lim c e D):=Lib.hid (by rw[←hD];exact HR.out)
 have HLD:Hid (lim≤D.heap.size):=Lib.hid (by rw[←hD];exact HL.out)
 have hne:Nonempty {w':World // AddS base g b6 b4 C f w'}:=⟨⟨_,hS⟩⟩
 have hl6:∀ s:{w':World // AddS base g b6 b4 C f w'},s.1.cell? ⟨b6,0,none⟩=some (.slice (some ⟨g,0,none⟩) N N):=fun s=>by rw[←HN.out];exact row_cell s.2.2.1 (j:=0) rfl
 have hl4:∀ s:{w':World // AddS base g b6 b4 C f w'},s.1.cell? ⟨b4,0,none⟩=some (.int .i64 f):=fun s=>row_cell s.2.2.2 (j:=0) rfl
 have hle:∀ s:{w':World // AddS base g b6 b4 C f w'},s.1.cell? ⟨g,i,none⟩=some (.int .u64 (x:Int)):=fun s=>by
  rw[←HX.out];exact (s.2.1.cellAt i (by have:=HI.out;omega)).trans (nvals_at C i HI.out)
 refine wp_region_seqB (AddS base g b6 b4 C f) [13] [(0,true),(1,true),(2,true),(3,true),(4,true),(5,true),(6,true),(7,true),(8,true),(9,true),(10,true),(11,false),(12,true),(13,false)] (by kernel_rfl) (by kernel_rfl) (by kernel_rfl) (by kernel_rfl) ?_
 rw[hD]
 clear hD
 iterate 11 (refine seqB_take _ rfl hS (fun KC hK=>?_);go_simp;(first|refine hK _ ?_|refine ⟨_,fun _ _=>rfl,hK _ ?_⟩);clear hK KC)
 clear hl6 hl4 hle hne
 refine seqB_come _ rfl (fun KC hK=>?_);go_simp
 refine (plus_any 2 x n hx hn lim c e D HLD.out HRD HE).mono ?_;rintro E w1 ⟨rfl,hu,her⟩
 have hd:=HD.out
 have hS1:AddS base g b6 b4 C f w1:=⟨hS.1.upd hu (fun h=>hd.1 h.symm),(hu.block _ (row_lt hS.2.1) (show ¬b6=c from hd.2.1)).trans hS.2.1,(hu.block _ (row_lt hS.2.2) (show ¬b4=c from hd.2.2.2.1)).trans hS.2.2⟩
 go_simp;refine hK.out _ _ (fun _=>hS1) ?_;clear hK KC
 refine seqB_take _ rfl hS1 (fun KC hK=>?_);go_simp;(first|refine hK _ ?_|refine ⟨_,fun _ _=>rfl,hK _ ?_⟩);clear hK KC
 have HU1:Hid (Upd (fun k=>k=g∨k=c) w w1):=Lib.hid (HUD.out.trans (hu.mono fun k _ h => .inr h))
 have HE1:=Lib.hid her
 have HS1:=Lib.hid hS1
 clear hu her hS1 hS hd
 have hfz:w1.frozen? ⟨g,i,none⟩=false:=HS1.out.1.frozenAt i
 have hce:w1.cell? ⟨g,i,none⟩=some (.int .u64 (x:Int)):=by rw[←HX.out];exact (HS1.out.1.cellAt i (by have:=HI.out;omega)).trans (nvals_at C i HI.out)
 obtain ⟨z,HZ⟩:∃ z,Hid (usum x n=z):=⟨_,Lib.hid rfl⟩
 rw[HZ.out]
 refine seqB_come _ rfl (fun KC hK=>?_);go_simp
 refine hK.out _ _ (fun h=>by cases h) ?_;clear hK KC
 refine seqB_done ?_
 have HO4:=(HS1.out.1.stored i (.int .u64 (z:Int))).1
 have hu2:=Upd.set w1 ⟨g,i,none⟩ (.int .u64 (z:Int))
 rw[nvals_set] at HO4
 have HC2:=HC.out
 rw[HZ.out] at HC2
 rw[HC2] at HO4
 have hlen:C'.length=C.length:=by rw[←HC2];simp
 have HFIN:Hid (Upd (fun k=>k=g∨k=c) w (w1.setCell ⟨g,i,none⟩ (.int .u64 (z:Int)))∧AddS base g b6 b4 C' f (w1.setCell ⟨g,i,none⟩ (.int .u64 (z:Int)))∧EdgeRow lim c e' (w1.setCell ⟨g,i,none⟩ (.int .u64 (z:Int)))):=Lib.hid (by
  have hd:=HD.out
  have hcl:=HCL.out
  refine ⟨HU1.out.trans (hu2.mono fun k _ h => .inl h),⟨?_,?_,?_⟩,?_⟩
  ·unfold CtRow;rw[hlen];exact HO4
  ·rw[hlen];exact (hu2.block _ (row_lt HS1.out.2.1) (show ¬b6=g from hd.2.2.1)).trans HS1.out.2.1
  ·exact (hu2.block _ (row_lt HS1.out.2.2) (show ¬b4=g from hd.2.2.2.2)).trans HS1.out.2.2
  ·exact HE1.out.upd hu2 (show ¬c=g from hd.1) (fun k hk=>by have hk:k=g:=hk;omega))
 clear HO4 hu2 HC2 hlen
 go_wp2_with fail
 go_end0
 exact ⟨rfl,HFIN.out.1,HFIN.out.2.1,HFIN.out.2.2⟩
end Go.Proofs.YtcblkndiclkacaaDoor
