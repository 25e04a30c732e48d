/-
  summ.readQuantile: any text.
-/
import Derived.Test.YtjbingoliffjiaaGreatDoorQuTakes
import Derived.Test.YtjbingoliffjiaaGreatDoorMsgWall
import Derived.Test.YtjbingoliffjiaaGreatDoorValTake
import Derived.Test.YtjbingoliffjiaaGreatDoorFld
set_option maxRecDepth 1000000
set_option maxHeartbeats 16000000
namespace Go.Proofs.YtjbingoliffjiaaGreatDoor
open Go.RowKit
def quT (bx:Nat):Taker (Nat × Nat) where
 rel st P w:=w.heap[bx]? = some (.cells #[.int .u64 (st.1:Int),.int .u64 (st.2:Int),.string ⟨#[]⟩] 141 (0,0))∧P=fun k=>k=bx
 lt:=by rintro st P w ⟨h,rfl⟩ k hk;have hk:k=bx:=hk;subst hk;exact row_lt h
 kept:=by rintro st P w w' ⟨h,rfl⟩ hu;exact ⟨(hu.block bx (row_lt h) (fun h=>h rfl)).trans h,rfl⟩
theorem quclo_any (bx:Nat) (D:Int) (r:Rec) (st:Nat × Nat) (P:Nat→Prop) (w:World) (hk:quF.tk r=true) (h:Hid ((quT bx).rel st P w)) :
  Calls Tryz.prog 179 (#[recV r]++#[.pointer (some ⟨bx,0,none⟩)]) w (TakePost (quT bx) (quF.step D) st P r w):=by
 obtain ⟨h1,rfl⟩:=h.out
 obtain ⟨q,v⟩:=st
 have H1:=Lib.hid h1
 obtain ⟨W0,hW0⟩:∃ W0,w.alloc (.cells #[.int .i64 (r.num:Int),.int .i64 (r.ty:Int),.int .u64 (r.n:Int),.string ⟨r.s.toArray⟩,.string ⟨r.raw.toArray⟩] 78)=W0:=⟨_,rfl⟩
 obtain ⟨rb,hrb⟩:∃ rb,w.heap.size=rb:=⟨_,rfl⟩
 have HB0:Hid (Below w.heap.size w W0):=Lib.hid (by rw[←hW0];exact below_new _ _)
 have HR0:Hid (W0.heap[rb]? = some (.cells #[.int .i64 (r.num:Int),.int .i64 (r.ty:Int),.int .u64 (r.n:Int),.string ⟨r.s.toArray⟩,.string ⟨r.raw.toArray⟩] 78 (0,0))):=Lib.hid (by rw[←hW0,←hrb];exact heap_alloc_new _ _)
 have HX0:Hid (W0.heap[bx]? = some (.cells #[.int .u64 (q:Int),.int .u64 (v:Int),.string ⟨#[]⟩] 141 (0,0))):=Lib.hid ((HB0.out.block bx (row_lt H1.out)).trans H1.out)
 have HW0:=Lib.hid hW0
 have HRB:=Lib.hid hrb
 have xr0:W0.cell? ⟨rb,0,none⟩=some (.int .i64 (r.num:Int)):=row_cell HR0.out (j:=0) rfl
 have xr2:W0.cell? ⟨rb,2,none⟩=some (.int .u64 (r.n:Int)):=row_cell HR0.out (j:=2) rfl
 rw[quF_tk,decide_eq_true_eq] at hk
 by_cases hn:r.num=1
 ·have d1:((r.num:Int) == 1)=true:=by rw[beq_iff_eq];omega
  have HSE:=Lib.hid (quF_1 (r:=r) (by omega) D q v)
  have xc:W0.cell? ⟨bx,0,none⟩=some (.int .u64 (q:Int)):=row_cell HX0.out (j:=0) rfl
  have xf:W0.frozen? ⟨bx,0,none⟩=false:=row_thaw HX0.out 0
  rw[←hW0] at xc xf
  clear hk hn h h1 hW0 hrb xr0 xr2
  show Calls _ _ #[recV r,.pointer (some ⟨bx,0,none⟩)] w _
  unfold recV
  go_enter Tryz.func179,Tryz.ntmps179
  go_wp2_with fail
  go_ret
  rw[HW0.out]
  exact takepost_ok (R:=quT bx) HSE.out (((Upd.of_new HB0.out)).trans (Upd.set W0 ⟨bx,0,none⟩ (.int .u64 (r.n:Int)))) ⟨row_set HX0.out 0 _,rfl⟩ (fun k hk => .inl hk)
 ·have d1:((r.num:Int) == 1)=false:=by rw[beq_eq_false_iff_ne];omega
  have HSE:=Lib.hid (quF_2 (r:=r) (by omega) D q v)
  have xc:W0.cell? ⟨bx,1,none⟩=some (.int .u64 (v:Int)):=row_cell HX0.out (j:=1) rfl
  have xf:W0.frozen? ⟨bx,1,none⟩=false:=row_thaw HX0.out 1
  rw[←hW0] at xc xf
  clear hk hn h h1 hW0 hrb xr0 xr2
  show Calls _ _ #[recV r,.pointer (some ⟨bx,0,none⟩)] w _
  unfold recV
  go_enter Tryz.func179,Tryz.ntmps179
  go_wp2_with fail
  go_ret
  rw[HW0.out]
  exact takepost_ok (R:=quT bx) HSE.out (((Upd.of_new HB0.out)).trans (Upd.set W0 ⟨bx,1,none⟩ (.int .u64 (r.n:Int)))) ⟨row_set HX0.out 1 _,rfl⟩ (fun k hk => .inl hk)
theorem mfold_skip {σ:Type} {tk:Rec→Bool} {step:σ→Rec→Except Nat σ} {st:σ} {r:Rec} {rs:List Rec} (e:tk r=false):mfold tk step st (r::rs)=mfold tk step st rs:=by
 rw[mfold,e];rfl
theorem mfold_take {σ:Type} {tk:Rec→Bool} {step:σ→Rec→Except Nat σ} {st s1:σ} {r:Rec} {rs:List Rec} (e:tk r=true) (h:step st r = .ok s1):mfold tk step st (r::rs)=mfold tk step s1 rs:=by
 rw[mfold,e,if_pos rfl,h]
theorem mfold_bad {σ:Type} {tk:Rec→Bool} {step:σ→Rec→Except Nat σ} {st:σ} {r:Rec} {rs:List Rec} {c:Nat} (e:tk r=true) (h:step st r = .error c):mfold tk step st (r::rs) = .error c:=by
 rw[mfold,e,if_pos rfl,h]
theorem qu_nofail (D:Int):∀ (rs:List Rec) (st:Nat × Nat),∃ st',mfold (σ:=Nat × Nat) quF.tk (quF.step D) st rs = .ok st':=fun rs=>by
 induction rs with
 | nil=>exact fun st=>⟨st,rfl⟩
 | cons r rs ih =>
  intro st
  cases e:quF.tk r with
  | false =>
   obtain ⟨st',h'⟩:=ih st
   exact ⟨st',(mfold_skip (σ:=Nat × Nat) e).trans h'⟩
  | true =>
   obtain ⟨q,v⟩:=st
   have hk:=e
   rw[quF_tk,decide_eq_true_eq] at hk
   rcases hk with h|h
   ·obtain ⟨st',h'⟩:=ih (r.n,v)
    exact ⟨st',(mfold_take (σ:=Nat × Nat) e (quF_1 h D q v)).trans h'⟩
   ·obtain ⟨st',h'⟩:=ih (q,r.n)
    exact ⟨st',(mfold_take (σ:=Nat × Nat) e (quF_2 h D q v)).trans h'⟩
theorem qu_set {w:World} {g:Nat} {T:TypeId} {z0 z1 z2:Value} (h:w.heap[g]? = some (.cells #[z0,z1,z2] T (0,0))) (c0 c1 c2:Value):(((w.setCell ⟨g,0,none⟩ c0).setCell ⟨g,1,none⟩ c1).setCell ⟨g,2,none⟩ c2).heap[g]? = some (.cells #[c0,c1,c2] T (0,0))∧Upd (fun k=>k=g) w (((w.setCell ⟨g,0,none⟩ c0).setCell ⟨g,1,none⟩ c1).setCell ⟨g,2,none⟩ c2) :=
 ⟨row_set (row_set (row_set h 0 c0) 1 c1) 2 c2,((Upd.set w ⟨g,0,none⟩ c0).trans (Upd.set _ ⟨g,1,none⟩ c1)).trans (Upd.set _ ⟨g,2,none⟩ c2)⟩
theorem load_qu {w:World} {g:Nat} {cs:Array Value} (hg:w.heap[g]? = some (.cells cs 141 (0,0))) (hc:cs.size=3):(loadVar 141 ⟨g,0,none⟩).run Tryz.prog w = .ok (.agg cs) w :=
 run_loadVar_row w g 141 141 cs (0,0) _ hg Tryz.underlying141 rfl (by rw[hc];kernel_rfl)
theorem qu_un (X:ByteArray) (d:Int) (w:World) (hX:X.size≤500000) (_ : -9223372036854775808≤d∧d≤9223372036854775807) :
  Calls Tryz.prog 144 #[.string X,.int .i64 d] w (RdPost quCel quzero (qurd X.data.toList d) X.size w):=by
 have HE1:=enters_of Tryz.func147 (by kernel_rfl) rfl
 have HE2:=enters_of Tryz.func179 (by kernel_rfl) rfl
 obtain ⟨g,hg⟩:∃ g,w.heap.size=g:=⟨_,rfl⟩
 obtain ⟨W0,hW0⟩:∃ W0,(w.alloc (.cells #[.int .u64 0,.int .u64 0,.string ⟨#[]⟩] 141)).alloc (.cells #[.int .u64 0,.int .u64 0,.string ⟨#[]⟩] 141)=W0:=⟨_,rfl⟩
 have HB0:Hid (Below w.heap.size w W0):=Lib.hid (by rw[←hW0];exact below_step (below_new _ _) (below_new _ _))
 have HR0:Hid (W0.heap[g]? = some (.cells #[.int .u64 0,.int .u64 0,.string ⟨#[]⟩] 141 (0,0))):=Lib.hid (by rw[←hW0,←hg];exact (Below.heap_alloc _ _ _ (by simp)).trans (heap_alloc_new w _))
 have HX0:Hid (W0.heap[g+1]? = some (.cells #[.int .u64 0,.int .u64 0,.string ⟨#[]⟩] 141 (0,0))):=Lib.hid (by rw[←hW0,←hg];have:=heap_alloc_new (w.alloc (.cells #[.int .u64 0,.int .u64 0,.string ⟨#[]⟩] 141)) (.cells #[.int .u64 0,.int .u64 0,.string ⟨#[]⟩] 141);simpa using this)
 have HRD:Hid (Calls Tryz.prog 43 #[.string X,.int .i64 d,.func (.func 147) #[] #[],.func (.func 179) #[] #[.pointer (some ⟨g+1,0,none⟩)]] W0 fun e w1=>Upd (fun k=>k=g+1) W0 w1∧match qurd X.data.toList d with
   | .error c=>∃ v q,e = .returned (.tuple #[.string ⟨#[]⟩,v])∧q≤X.size∧EW w1 v q c∧Below W0.heap.size W0 w1
   | .ok x=>e = .returned (.tuple #[.string ⟨x.2.toArray⟩,.nilIface])∧w1.heap[g+1]? = some (.cells #[.int .u64 (x.1.1:Int),.int .u64 (x.1.2:Int),.string ⟨#[]⟩] 141 (0,0))):=Lib.hid (by
  by_cases h0:d<0
  ·refine (mread_neg _ _ _ X d W0 h0).mono ?_
   rintro e w' ⟨v,rfl,hb,he⟩
   refine ⟨Upd.of_new hb,?_⟩
   have e6:qurd X.data.toList d = .error 6:=by unfold qurd mread;rw[if_pos h0]
   rw[e6]
   exact ⟨v,0,rfl,Nat.zero_le _,he,hb⟩
  ·cases hw:wall X.data.toList d with
   | error c =>
    refine (mread_wall _ _ _ X d W0 (by omega) h0 hw).mono ?_
    rintro e w' ⟨v,q,rfl,hq,hb,he⟩
    refine ⟨Upd.of_new hb,?_⟩
    have e6:qurd X.data.toList d = .error c:=by unfold qurd mread;rw[if_neg h0,hw]
    rw[e6]
    exact ⟨v,q,rfl,hq,he,hb⟩
   | ok rs =>
    obtain ⟨st',hst⟩:=qu_nofail d rs quF.z
    have e6:mread (σ:=Nat × Nat) quF.tk (quF.step d) quF.z X.data.toList d = .ok (st',munk quF.tk rs):=by
     unfold mread
     rw[if_neg h0,hw]
     dsimp only
     rw[hst]
    refine (mread_any (quT (g+1)) quF.tk (quF.step d) 147 179 #[.pointer (some ⟨g+1,0,none⟩)] quF.z X d W0 (by omega) HE1 HE2 (fun r w _=>qutakes_any r w) (fun r st P w hk _ _ _ _ h=>quclo_any (g+1) d r st P w hk (Lib.hid h)) (fun k=>k=g+1) ⟨HX0.out,rfl⟩).mono ?_
    rintro e w' ⟨hu,hc⟩
    rw[e6] at hc
    obtain ⟨rfl,P',⟨h2,rfl⟩,_⟩:=hc
    refine ⟨hu,?_⟩
    rw[show qurd X.data.toList d = .ok (st',munk quF.tk rs) from e6]
    exact ⟨rfl,h2⟩)
 have HW0:=Lib.hid hW0
 have HGG:=Lib.hid hg
 clear hW0 HE1 HE2
 go_enter Tryz.func144,Tryz.ntmps144
 go_wp2_with fail
 rw[HW0.out]
 refine HRD.out.mono ?_;intro e w1 hpost
 obtain ⟨hu,hcase⟩:=hpost
 have HR1:Hid (w1.heap[g]? = some (.cells #[.int .u64 0,.int .u64 0,.string ⟨#[]⟩] 141 (0,0))):=Lib.hid ((hu.block g (row_lt HR0.out) (by omega)).trans HR0.out)
 have HB1:Hid (Below w.heap.size w w1):=Lib.hid (HB0.out.trans (hu.below (by have:=HB0.out.size;omega) (fun k _ h=>by omega)))
 clear hu HRD hg
 have hz0:w1.cell? ⟨g,0,none⟩=some (.int .u64 0):=row_cell HR1.out (j:=0) rfl
 have fz0:w1.frozen? ⟨g,0,none⟩=false:=row_thaw HR1.out 0
 have hz1:w1.cell? ⟨g,1,none⟩=some (.int .u64 0):=row_cell HR1.out (j:=1) rfl
 have fz1:w1.frozen? ⟨g,1,none⟩=false:=row_thaw HR1.out 1
 have hz2:w1.cell? ⟨g,2,none⟩=some (.string ⟨#[]⟩):=row_cell HR1.out (j:=2) rfl
 have fz2:w1.frozen? ⟨g,2,none⟩=false:=row_thaw HR1.out 2
 cases hb:qurd X.data.toList d with
 | error c =>
  rw[hb] at hcase
  obtain ⟨v,q,rfl,hq,hew,hbl⟩:=hcase
  have HX1:Hid (w1.heap[g+1]? = some (.cells #[.int .u64 0,.int .u64 0,.string ⟨#[]⟩] 141 (0,0))):=Lib.hid ((hbl.block _ (row_lt HX0.out)).trans HX0.out)
  obtain ⟨T',y,rfl⟩:=hew.iface
  have HBR:Hid (qurd X.data.toList d = .error c):=Lib.hid hb
  have HEW:=Lib.hid hew
  have hx0:w1.cell? ⟨g+1,0,none⟩=some (.int .u64 0):=row_cell HX1.out (j:=0) rfl
  have hx1:w1.cell? ⟨g+1,1,none⟩=some (.int .u64 0):=row_cell HX1.out (j:=1) rfl
  have hx2:w1.cell? ⟨g+1,2,none⟩=some (.string ⟨#[]⟩):=row_cell HX1.out (j:=2) rfl
  have hfx:w1.frozen? ⟨g+1,2,none⟩=false:=row_thaw HX1.out 2
  clear hb hew hbl
  go_wp2_with fail
  have hux:=Upd.set w1 ⟨g+1,2,none⟩ (.string ⟨#[]⟩)
  obtain ⟨hr,hua⟩:=qu_set ((hux.block g (row_lt HR1.out) (fun e=>by have e:g=g+1:=e;omega)).trans HR1.out) (.int .u64 0) (.int .u64 0) (.string ⟨#[]⟩)
  refine body_cell2v rfl rfl (load_qu hr rfl) rfl ?_
  have hub:=(hux.mono (S':=fun k=>k=g∨k=g+1) fun k _ h => .inr h).trans (hua.mono fun k _ h => .inl h)
  refine ⟨HB1.out.trans (hub.below (by have:=HB1.out.size;omega) (fun k _ h=>by have:=HGG.out;omega)),?_⟩
  rw[HBR.out]
  obtain ⟨ws,he⟩:=HEW.out
  exact ⟨_,q,rfl,hq,ws,isErr_upd hub (fun k hk b m e h=>by
   rcases hk with hk|hk
   ·subst hk;rw[HR1.out] at h;simp at h
   ·subst hk;rw[HX1.out] at h;simp at h) he⟩
 | ok xu =>
  obtain ⟨⟨a,b⟩,u⟩:=xu
  rw[hb] at hcase
  obtain ⟨rfl,hx⟩:=hcase
  have HX1:Hid (w1.heap[g+1]? = some (.cells #[.int .u64 (a:Int),.int .u64 (b:Int),.string ⟨#[]⟩] 141 (0,0))):=Lib.hid hx
  have HBR:Hid (qurd X.data.toList d = .ok ((a,b),u)):=Lib.hid hb
  obtain ⟨Xu,hU⟩:∃ U:ByteArray,(⟨u.toArray⟩:ByteArray)=U:=⟨_,rfl⟩
  have HUU:=Lib.hid hU
  dsimp only
  rw[hU]
  have hx0:w1.cell? ⟨g+1,0,none⟩=some (.int .u64 (a:Int)):=row_cell HX1.out (j:=0) rfl
  have hx1:w1.cell? ⟨g+1,1,none⟩=some (.int .u64 (b:Int)):=row_cell HX1.out (j:=1) rfl
  have hx2:w1.cell? ⟨g+1,2,none⟩=some (.string ⟨#[]⟩):=row_cell HX1.out (j:=2) rfl
  have hfx:w1.frozen? ⟨g+1,2,none⟩=false:=row_thaw HX1.out 2
  clear hb hx hU
  go_wp2_with fail
  have hux:=Upd.set w1 ⟨g+1,2,none⟩ (.string Xu)
  obtain ⟨hr,hua⟩:=qu_set ((hux.block g (row_lt HR1.out) (fun e=>by have e:g=g+1:=e;omega)).trans HR1.out) (.int .u64 (a:Int)) (.int .u64 (b:Int)) (.string Xu)
  refine body_cell2v rfl rfl (load_qu hr rfl) rfl ?_
  have hub:=(hux.mono (S':=fun k=>k=g∨k=g+1) fun k _ h => .inr h).trans (hua.mono fun k _ h => .inl h)
  refine ⟨HB1.out.trans (hub.below (by have:=HB1.out.size;omega) (fun k _ h=>by have:=HGG.out;omega)),?_⟩
  rw[HBR.out]
  refine ⟨[.int .u64 (a:Int),.int .u64 (b:Int),.string Xu],rfl,?_⟩
  show _=_
  rw[←HUU.out];rfl
end Go.Proofs.YtjbingoliffjiaaGreatDoor
