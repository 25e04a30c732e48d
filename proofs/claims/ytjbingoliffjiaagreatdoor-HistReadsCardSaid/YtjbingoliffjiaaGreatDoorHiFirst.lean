/-
  Clb, HiFirst
-/
import Derived.Test.YtjbingoliffjiaaGreatDoorValTake
import Derived.Test.YtjbingoliffjiaaGreatDoorRefMsg
import Derived.Test.YtjbingoliffjiaaGreatDoorHiMar
set_option maxRecDepth 1000000
set_option maxHeartbeats 16000000
namespace Go.Proofs.YtjbingoliffjiaaGreatDoor
open Go.RowKit
open Lib (hid)
def CLB {α:Type}(C:Cel α)(T:TypeId)(N:Nat)(v:Value)(xs:List α)(w:World):Prop:=∃ (css:List (List Value)) (Q:Nat→Prop),w.ownsRow N T C.size v xs.length css.flatten∧css.length=xs.length∧(∀ j (h1:j<xs.length) (h2:j<css.length),C.R w Q xs[j] css[j])∧(∀ k,Q k→N≤k∧k<w.heap.size∧v.ownBlock≠some k)
theorem CLB.nil {α:Type}(C:Cel α)(T:TypeId)(N:Nat)(w:World):CLB C T N (.slice none 0 0) [] w:=⟨[],fun _=>False,World.ownsRow_nil _ _ _ _,rfl,fun j h=>by simp at h,fun k h=>h.elim⟩
theorem CLB.upd {α:Type}{C:Cel α}{T:TypeId}{S:Nat→Prop}{N:Nat}{v:Value}{xs:List α}{w w':World}(h:CLB C T N v xs w)(hu:Upd S w w')(hs:∀ k,N≤k→k<w.heap.size→¬S k):CLB C T N v xs w':=by
 obtain ⟨css,Q,h1,h2,h3,h4⟩:=h
 exact ⟨css,Q,hu.own h1 (fun k hk=>hs k (h1.lt k hk).1 (h1.lt k hk).2),h2,fun j g1 g2=>C.upd hu (fun k hk=>hs k (h4 k hk).1 (h4 k hk).2.1) (fun k hk=>hk) (h3 j g1 g2),fun k hk=>⟨(h4 k hk).1,Nat.lt_of_lt_of_le (h4 k hk).2.1 hu.size,(h4 k hk).2.2⟩⟩
theorem CLB.slice {α:Type}{C:Cel α}{T:TypeId}{N:Nat}{v:Value}{xs:List α}{w:World}(h:CLB C T N v xs w):∃ lo cap,v = .slice lo xs.length cap:=by
 obtain ⟨css,Q,h1,_⟩:=h
 exact own_slice h1
theorem CLB.krels {T:TypeId}{N:Nat}{lo:Option Addr}{cap:Nat}{xs:List KV}{w:World}(h:CLB kcel T N (.slice lo xs.length cap) xs w):KRels w (fun k=>N≤k) xs lo 0:=by
 obtain ⟨css,Q,h1,h2,h3,h4⟩:=h
 refine KRel_own (css:=css) h1 h2 (fun j g1 g2=>?_) (fun k hk=>(h1.lt k hk).1)
 exact KRel.upd (Upd.refl (fun _=>False) w) (fun _ _ h=>h) (fun k hk=>(h4 k hk).1) _ _ (h3 j g1 g2)
theorem CLB.add {α:Type} {C:Cel α} {T:TypeId} {N:Nat} {xs:List α} {x:α} {ao:Option Addr} {cap g cap':Nat} {w w1 W:World} {cs:List Value} {css:List (List Value)} {Q:Nat→Prop} (h1:w.ownsRow N T C.size (.slice ao xs.length cap) xs.length css.flatten) (h2:css.length=xs.length) (h3:∀ j (h1:j<xs.length) (h2:j<css.length),C.R w Q xs[j] css[j]) (h4:∀ k,Q k→N≤k∧k<w.heap.size∧(Value.slice ao xs.length cap).ownBlock≠some k)
  (hN:N≤w.heap.size) (hb:Below w.heap.size w w1) (hrel:C.R w1 (fun k=>w.heap.size≤k) x cs) (hu:Upd (fun k=>(Value.slice ao xs.length cap).ownBlock=some k) w1 W) (hown:W.ownsRow N T C.size (.slice (some ⟨g,0,none⟩) (xs.length+1) cap') (xs.length+1) (css.flatten++cs)) (hg:(Value.slice ao xs.length cap).ownBlock=some g∨w1.heap.size≤g) :
  CLB C T N (.slice (some ⟨g,0,none⟩) (xs.length+1) cap') (xs++[x]) W:=by
 have hs1:=hb.size
 have hs2:=hu.size
 refine ⟨css++[cs],fun k=>Q k∨(w.heap.size≤k∧k<w1.heap.size),?_,?_,?_,?_⟩
 ·rw[List.flatten_append,List.flatten_singleton,List.length_append]
  exact hown
 ·rw[List.length_append,List.length_append,h2];rfl
 ·intro j g1 g2
  by_cases hj:j<xs.length
  ·rw[List.getElem_append_left hj,List.getElem_append_left (by omega)]
   refine C.upd hu (fun k hk hs=>(h4 k hk).2.2 hs) (fun k hk => .inl hk) (C.upd (Upd.of_new (S:=fun _=>False) hb) (fun _ _ h=>h) (fun k hk=>hk) (h3 j hj (by omega)))
  ·have hje:j=xs.length:=by rw[List.length_append,List.length_singleton] at g1;omega
   subst hje
   rw[List.getElem_append_right (Nat.le_refl _),List.getElem_append_right (by omega)]
   simp only[Nat.sub_self,List.getElem_cons_zero,h2]
   refine C.upd hu (fun k hk hs=>?_) (fun k hk => .inr hk) (C.lt hrel)
   have:=(h1.lt k hs).2;omega
 ·intro k hk
  rcases hk with hk|hk
  ·have:=h4 k hk
   refine ⟨this.1,by omega,fun e=>?_⟩
   have e:g=k:=by simpa [Value.ownBlock] using e
   rcases hg with h|h
   ·exact this.2.2 (e ▸ h)
   ·omega
  ·refine ⟨by omega,by omega,fun e=>?_⟩
   have e:g=k:=by simpa [Value.ownBlock] using e
   rcases hg with h|h
   ·have:=(h1.lt g h).2;omega
   ·omega
def RfPost {α:Type}(C:Cel α)(zero:Array Value)(rd:Except Nat α)(w:World)(e:Ending)(w':World):Prop:=Below w.heap.size w w'∧match rd with
 | .error _=>e = .returned (.tuple #[.agg zero,.bool false])
 | .ok x=>∃ cs,e = .returned (.tuple #[.agg cs.toArray,.bool true])∧C.R w' (fun k=>w.heap.size≤k) x cs
theorem mread_of_fields {σ:Type}{tk:Rec→Bool}{step:σ→Rec→Except Nat σ}{st:σ}{l:List UInt8}{d:Int}{rs:List Rec}(hw:wfields l d = .ok rs):(∀ c,mfold tk step st rs = .error c→mread tk step st l d = .error c)∧(∀ x,mfold tk step st rs = .ok x→mread tk step st l d = .ok (x,munk tk rs)):=by
 unfold wfields at hw
 unfold mread
 split at hw
 ·cases hw
 ·rename_i h
  rw[if_neg h,hw]
  dsimp only
  exact ⟨fun c hc=>by rw[hc],fun x hx=>by rw[hx]⟩
theorem mread_fields {σ:Type}{tk:Rec→Bool}{step:σ→Rec→Except Nat σ}{st:σ}{l:List UInt8}{d:Int}:mread tk step st l d=match wfields l d with
  | .error c => .error c
  | .ok rs=>match mfold tk step st rs with
   | .error c => .error c
   | .ok x => .ok (x,munk tk rs):=by
 unfold mread wfields
 split
 ·rfl
 ·cases wall l d with
  | error c=>rfl
  | ok rs =>
   dsimp only
   cases mfold tk step st rs<;>rfl
open Go.RowKit
theorem first_hi1 (w:World):Calls Tryz.prog 28 #[.agg #[.slice none 0 0,.int .u64 0,.int .u64 0,.int .u64 0,.bool true,.int .u64 0,.bool false,.int .u64 0,.bool false,.int .u64 0,.slice none 0 0,.slice none 0 0,.slice none 0 0,.int .u32 0,.string ⟨#[]⟩],.int .i64 0] w fun e w'=>e = .returned (.tuple #[.string ⟨#[41,0,0,0,0,0,0,0,0]⟩,.nilIface])∧Below w.heap.size w w':=by
 refine (hi_marshal_if ((0,(0,(0,((true,0),([],([],([],([],(0,((false,0),(false,0))))))))))),[]) (hid fun h=>absurd rfl h) (hid fun h=>absurd rfl h) [.slice none 0 0,.int .u64 0,.int .u64 0,.int .u64 0,.bool true,.int .u64 0,.bool false,.int .u64 0,.bool false,.int .u64 0,.slice none 0 0,.slice none 0 0,.slice none 0 0,.int .u32 0,.string ⟨#[]⟩] (fun _=>False) 0 w ⟨by omega,by omega,by omega,by omega,fun x hx=>(by cases hx),fun x hx=>(by cases hx),fun x hx=>(by cases hx),by rw[ksfit];trivial,by omega,by omega,by omega,by simp[lwt,lsum,ksw]⟩ ⟨none,0,none,0,none,0,none,0,rfl,by rw[KRels];trivial,CRels.nil _ _ _ _,CRels.nil _ _ _ _,CRels.nil _ _ _ _⟩ (by omega)).mono ?_
 rintro e w' ⟨hb,h⟩
 rw[show hi_may 0 ((0,(0,(0,((true,0),([],([],([],([],(0,((false,0),(false,0))))))))))),[])=true by kernel_rfl,if_pos rfl,show hi_out ((0,(0,(0,((true,0),([],([],([],([],(0,((false,0),(false,0))))))))))),[])=[41,0,0,0,0,0,0,0,0] by kernel_rfl] at h
 exact ⟨h,hb⟩
theorem first_hirec {r:Rec}(hr:∀ rs,wall (⟨#[49,7,0,0,0,0,0,0,0]⟩:ByteArray).data.toList 0 = .ok rs→r∈rs):r.num=6:=by
 have h:=hr [⟨6,1,7,[],[49,7,0,0,0,0,0,0,0]⟩] (by kernel_rfl)
 rw[List.mem_singleton.1 h]
theorem first_hird:hird [49,7,0,0,0,0,0,0,0] 0 = .ok ((0,(0,(0,((false,0),([7],([],([],([],(0,((false,0),(false,0))))))))))),[]):=by kernel_rfl
theorem first13 (w:World):Calls Tryz.prog 22 #[] w fun e w'=>e = .returned (.bool true)∧Below w.heap.size w w':=by
 have HUN:=hid (fun w'=>unhi_if ⟨#[49,7,0,0,0,0,0,0,0]⟩ 0 (hid fun r hr h3=>absurd ((first_hirec hr).symm.trans h3) (by decide)) (hid fun r hr h3=>absurd ((first_hirec hr).symm.trans h3) (by decide)) w' (by decide) (by omega))
 rw[show (⟨#[49,7,0,0,0,0,0,0,0]⟩:ByteArray).data.toList=[49,7,0,0,0,0,0,0,0] from rfl,first_hird] at HUN
 go_enter Tryz.func22,Tryz.ntmps22
 go_wp2_with fail
 refine (first_hi1 w).mono ?_;rintro e w1 ⟨rfl,hb1⟩
 have HB1:=hid hb1
 clear hb1
 go_wp2_with fail
 refine (HUN.out w1).mono ?_;rintro e w2 ⟨hb2,cs,rfl,lo,lc,nco,ncc,nbo,nbc,eo,ec,rfl,_,hrn,_,_⟩
 have HB2:=hid (below_step HB1.out hb2)
 obtain ⟨g,off,c7,rfl,_,hg,hc7,hr7⟩:=hrn 0 (by decide)
 have hr7:c7=[.int .u64 ((7:Nat):Int)]:=hr7
 subst hr7
 have hc8:w2.cell? ⟨g,off,none⟩=some (.int .u64 7):=by
  have:=hc7 0 (by simp)
  simpa using this
 clear hb2 hrn hc7
 dsimp only[strV,List.length_nil,List.length_cons]
 go_upto_region 3 with fail
 obtain ⟨bl,hbl⟩:∃ b,w2.heap.size=b:=⟨_,rfl⟩
 obtain ⟨W3,hW⟩:∃ W,w2.alloc (.cells #[.slice lo 0 lc,.int .u64 0,.int .u64 0,.int .u64 0,.bool false,.int .u64 0,.bool false,.int .u64 0,.bool false,.int .u64 0,.slice (some ⟨g,off,none⟩) 1 ncc,.slice nbo 0 nbc,.slice eo 0 ec,.int .u32 0,.string ⟨#[]⟩] 50)=W:=⟨_,rfl⟩
 have hb3:Below w2.heap.size w2 W3:=by rw[←hW];exact below_new _ _
 have hr:W3.heap[bl]? = some (.cells #[.slice lo 0 lc,.int .u64 0,.int .u64 0,.int .u64 0,.bool false,.int .u64 0,.bool false,.int .u64 0,.bool false,.int .u64 0,.slice (some ⟨g,off,none⟩) 1 ncc,.slice nbo 0 nbc,.slice eo 0 ec,.int .u32 0,.string ⟨#[]⟩] 50 (0,0)):=by rw[←hW,←hbl];exact new_row _ _ _
 have HB3:=hid (below_step HB2.out hb3)
 have hx10:W3.cell? ⟨bl,10,none⟩=some (.slice (some ⟨g,off,none⟩) 1 ncc):=row_cell hr (j:=10) rfl
 have hx7:W3.cell? ⟨g,off,none⟩=some (.int .u64 7):=(hb3.cell (p:=⟨g,off,none⟩) hg).trans hc8
 rw[hW,hbl]
 clear hW hbl hb3 hr hc8
 go_wp2_with fail
 go_ret
 exact ⟨rfl,HB3.out⟩
end Go.Proofs.YtjbingoliffjiaaGreatDoor
