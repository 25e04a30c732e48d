/-
  hygref8.Packed, PutOpt, PutFixeds; hygref13.opts.
-/
import Derived.Test.YtjbingoliffjiaaGreatDoorNumsK
import Derived.Test.YtjbingoliffjiaaGreatDoorRefTab
import Derived.Test.YtjbingoliffjiaaGreatDoorValOut
import Derived.Test.YtjbingoliffjiaaGreatDoorRefMsg
import Derived.Test.YtjbingoliffjiaaGreatDoorWireRA
import Derived.Test.YtjbingoliffjiaaGreatDoorPartK
set_option maxRecDepth 1000000
set_option maxHeartbeats 16000000
namespace Go.Proofs.YtjbingoliffjiaaGreatDoor
open Go.RowKit
open Lib (hid)
def Pk8Post (v:Value)(B:Nat)(xs:List Nat)(r:Rec)(w:World)(e:Ending)(w':World):Prop :=
 ∃ (v':Value) (gb:Bool) (ys:List Nat),e = .returned (.tuple #[v',.bool gb])∧Upd (fun k=>v.ownBlock=some k) w w'∧w'.ownsRow B 24 1 v' ys.length (nats64 ys)∧(∀ k,v'.ownBlock=some k→v.ownBlock=some k∨w.heap.size≤k)∧ys.length≤xs.length+r.s.length+1∧(gb=true→fstep xs r = .ok ys)∧(gb=false→∃ c,fstep xs r = .error c)
theorem packed8_any (v:Value)(xs:List Nat)(B:Nat)(r:Rec)(S R:ByteArray)(w:World)(hS:Hid (S.data.toList=r.s))(hown:Hid (w.ownsRow B 24 1 v xs.length (nats64 xs)))(hB:B≤w.heap.size)(hx:xs.length≤1000000)(hs:r.s.length≤1000000)(hty:r.ty=1∨r.ty=2) :
  Calls Tryz.prog 85 #[v,.agg #[.int .i64 (r.num:Int),.int .i64 (r.ty:Int),.int .u64 (r.n:Int),.string S,.string R]] w (Pk8Post v B xs r w):=by
 obtain ⟨W0,hW0⟩:∃ W,w.alloc (.cells #[.int .i64 (r.num:Int),.int .i64 (r.ty:Int),.int .u64 (r.n:Int),.string S,.string R] 86)=W:=⟨_,rfl⟩
 obtain ⟨rb,hrb⟩:∃ b,w.heap.size=b:=⟨_,rfl⟩
 have HU0:Hid (Upd (fun _=>False) w W0):=hid (by rw[←hW0];exact Upd.alloc _ _ _)
 have hrow:W0.heap[rb]? = some (.cells #[.int .i64 (r.num:Int),.int .i64 (r.ty:Int),.int .u64 (r.n:Int),.string S,.string R] 86 (0,0)):=by rw[←hW0,←hrb];exact heap_alloc_new w _
 have HO1:Hid (W0.ownsRow B 24 1 v xs.length (nats64 xs)):=hid (HU0.out.own hown.out (fun _ _ h=>h))
 have hBw:B≤W0.heap.size:=by have:=HU0.out.size;omega
 have hSl:S.size=r.s.length:=(show S.size=S.data.toList.length by simp).trans (by rw[hS.out])
 have hSz:S.size≤1000000:=by omega
 have HW0:=hid hW0
 have HRB:=hid hrb
 have hc1:W0.cell? ⟨rb,1,none⟩=some (.int .i64 (r.ty:Int)):=row_cell hrow (j:=1) rfl
 have hc2:W0.cell? ⟨rb,2,none⟩=some (.int .u64 (r.n:Int)):=row_cell hrow (j:=2) rfl
 have hc3:W0.cell? ⟨rb,3,none⟩=some (.string S):=row_cell hrow (j:=3) rfl
 rcases hty with hty|hty
 ·have d1:((r.ty:Int) == 1)=true:=by rw[beq_iff_eq];omega
  have HP:Hid (fstep xs r = .ok (xs++[r.n])):=hid (fstep_one hty)
  have HUA:Hid (Upd (fun _=>False) w (w.alloc (.cells #[.int .i64 (r.num:Int),.int .i64 (r.ty:Int),.int .u64 (r.n:Int),.string S,.string R] 86))):=hid (Upd.alloc _ _ _)
  have hBA:B≤(w.alloc (.cells #[.int .i64 (r.num:Int),.int .i64 (r.ty:Int),.int .u64 (r.n:Int),.string S,.string R] 86)).heap.size:=by have:=HUA.out.size;omega
  clear hW0 hrb hrow hty hc1 hc2 hc3 HO1 HU0 HW0 HRB hBw
  go_enter Tryz.func85,Tryz.ntmps85
  go_wp2_with (at_builtin;refine wpList_app1_at (c:=1) (cs:=[.int .u64 (r.n:Int)]) rfl _ _ 48 rfl Tryz.elU64 (by decide) (hown.out.alloc _) rfl (by show Value.slice (some ⟨w.heap.size+1,0,none⟩) 1 1=_;simp) rfl (by simp[Value.oneCell']) (by unfold maxLen;omega) (by omega) hBA ?_;intro g2 cap2 w9 hown9 hgrow9 hg9)
  go_ret2
  refine ⟨_,true,xs++[r.n],rfl,(HUA.out.mono fun _ _ h=>h.elim).trans (Upd.of_grown hgrow9),?_,fun k hk=>?_,(by simp only[List.length_append,List.length_cons,List.length_nil];omega),fun _=>HP.out,fun h=>(by cases h)⟩
  ·rw[List.length_append]
   unfold nats64 at hown9 ⊢
   rw[List.map_append]
   exact hown9
  ·have h0:g2=k:=by simpa [Value.ownBlock] using hk
   subst h0
   rcases hg9 with h|h
   ·exact .inl h
   ·exact .inr (Nat.le_trans HUA.out.size h)
 ·have d1:((r.ty:Int) == 1)=false:=by rw[beq_eq_false_iff_ne];omega
  have HTY:=hid hty
  clear hW0 hrb hrow hty hc1 hc2 hc3
  go_enter Tryz.func85,Tryz.ntmps85
  go_wp2_with fail
  rw[HW0.out]
  refine (rfixeds_any S W0 hSz).mono ?_;intro e w1 hpost
  unfold RFixedsPost at hpost
  have hl:=hSl
  rw[hl,hS.out] at hpost
  by_cases hv:r.s.length % 8=0
  case neg =>
   rw[if_neg hv] at hpost
   obtain ⟨rfl,hb1⟩:=hpost
   have HP:Hid (fstep xs r = .error 1):=hid (by rw[fstep_len HTY.out,if_neg hv])
   have HU1:Hid (Upd (fun _=>False) w w1):=hid (HU0.out.trans (Upd.of_new hb1))
   have HO2:Hid (w1.ownsRow B 24 1 v xs.length (nats64 xs)):=hid (HU1.out.own hown.out (fun _ _ h=>h))
   have hBw1:B≤w1.heap.size:=by have:=HU1.out.size;omega
   clear hv hb1 hl
   go_wp2_with (at_builtin;refine wpList_app_nats_at _ _ 48 rfl rfl Tryz.elU64 HO2.out rfl (ao:=none) (cap:=0) (l:=[]) (fun h=>absurd rfl h) (fun _=>rfl) rfl (by unfold maxLen;simp;omega) (by simp;omega) hBw1 ?_;intro v' w2 hown2 hgrow2 hnew2)
   go_ret2
   refine ⟨_,false,xs,rfl,(HU1.out.mono fun _ _ h=>h.elim).trans (Upd.of_grown hgrow2),by simpa [nvals] using hown2,fun k hk=>?_,by omega,fun h=>(by cases h),fun _=>⟨_,HP.out⟩⟩
   rcases hnew2 k hk with h|h
   ·exact .inl h
   ·exact .inr (Nat.le_trans HU1.out.size h)
  case pos =>
   rw[if_pos hv] at hpost
   obtain ⟨u,rfl,hown1,hb1⟩:=hpost
   obtain ⟨ns,hns⟩:∃ ns,fixs r.s (r.s.length / 8)=ns:=⟨_,rfl⟩
   have hnl:r.s.length / 8=ns.length:=by rw[←hns,fixs_len]
   rw[hns,hnl] at hown1
   have hnil:=own_nil hown1
   obtain ⟨uo,ucap,rfl⟩:=own_slice hown1
   have HP:Hid (fstep xs r = .ok (xs++ns)):=hid (by rw[fstep_len HTY.out,if_pos hv,hns])
   have HU1:Hid (Upd (fun _=>False) w w1):=hid (HU0.out.trans (Upd.of_new hb1))
   have HNS:Hid (Nats .u64 w1 uo ns):=hid (nats_of_own hown1)
   have HNIL:Hid (uo=none→ucap=0):=hid (fun h=>hnil uo _ ucap rfl h)
   have HO2:Hid (w1.ownsRow B 24 1 v xs.length (nats64 xs)):=hid (HU1.out.own hown.out (fun _ _ h=>h))
   have hBw1:B≤w1.heap.size:=by have:=HU1.out.size;omega
   have hnl2:ns.length≤r.s.length:=by omega
   clear hv hb1 hown1 hnil hnl hns hl
   go_wp2_with (at_builtin;refine wpList_app_nats_at _ _ 48 rfl rfl Tryz.elU64 HO2.out rfl HNS.out HNIL.out rfl (by unfold maxLen;omega) (by omega) hBw1 ?_;intro v' w2 hown2 hgrow2 hnew2)
   go_ret2
   refine ⟨_,true,xs++ns,rfl,(HU1.out.mono fun _ _ h=>h.elim).trans (Upd.of_grown hgrow2),?_,fun k hk=>?_,(by rw[List.length_append];omega),fun _=>HP.out,fun h=>(by cases h)⟩
   ·rw[List.length_append]
    unfold nats64
    rw[List.map_append]
    exact hown2
   ·rcases hnew2 k hk with h|h
    ·exact .inl h
    ·exact .inr (Nat.le_trans HU1.out.size h)
end Go.Proofs.YtjbingoliffjiaaGreatDoor
