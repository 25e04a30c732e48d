/-
  hygref18.Exp.
-/
import Derived.Test.YtmlghmjjlpioeaaCkExp
import Derived.Test.YtmlghmjjlpioeaaCkRHist
import Derived.Test.YtmlghmjjlpioeaaCkRSum
import Derived.Shelf.Strings.OnBuilder
import Derived.Test.YtmlghmjjlpioeaaProg
import Derived.Test.YtmlghmjjlpioeaaOrd
import Derived.Test.YtmlghmjjlpioeaaKit
import Derived.Test.YtmlghmjjlpioeaaMsgMath
import Derived.Test.YtmlghmjjlpioeaaWireR5
import Derived.Test.YtmlghmjjlpioeaaUpd
import Derived.Deep.LoopGhost
import Derived.Test.YtmlghmjjlpioeaaUtf2
import Derived.Deep.Cut
import Derived.Test.YtmlghmjjlpioeaaMsgWrite
import Derived.Laws.OwnMore
set_option maxRecDepth 1000000
set_option maxHeartbeats 16000000
namespace Go.Proofs.Ytmlghmjjlpioeaa
open Go.RowKit
open Lib (hid)
theorem run_append_none_cap {P:Program} {w:World} (base:Nat) (t ty e:TypeId) (i:TypeInfo) (size c:Nat) (ht:P.underlying t=some (.slice e)) (hi:P.info? e=some i)
  (v:Value) (n:Nat) (xs:List Value) (hown:w.ownsRow base e size v n xs) :
  (Builtin.append_ #[t,t] ty #[v,.slice none 0 c]).run P w = .ok v w:=by
 rcases hown.2 with ⟨rfl,rfl⟩|⟨g,cap,cur,rfl,_,_,hnc,_⟩
 ·simp[Builtin.append_,run_underlying ht,sizeOf,typeInfo,hi,Builtin.lenOf,Builtin.firstCells]
 ·simp[Builtin.append_,run_underlying ht,sizeOf,typeInfo,hi,Builtin.lenOf,Builtin.firstCells,hnc,storeCells]
theorem wp_app_nats {P:Program} {w:World} {o:Oper} {a:Act} {K:Act→World→Prop} {Q:Exit→Act→World→Prop} (s x:Operand) (t:TypeId)
  (ho:o.op = .call { callee := .builtin .append,args:=#[s,x],argTypes:=#[t,t] })
  {base:Nat} {e:TypeId} {z:Value} {bytes:Nat} (he:Elem P t e z 1 bytes)
  {v:Value} {n:Nat} {xs:List Value} (hown:w.ownsRow base e 1 v n xs) (hs:a.eval s=v)
  {ao:Option Addr} {cap:Nat} {l:List Nat} (hu:Nats .u64 w ao l) (hx:a.eval x = .slice ao l.length cap)
  (h63:n+l.length≤maxLen) (hbytes:(n+l.length) * bytes≤140737488355328) (hbase:base≤w.heap.size)
  (h:∀ v' w',w'.ownsRow base e 1 v' (n+l.length) (xs++nvals l)→w.grownBy w' v.ownBlock→(∀ k,v'.ownBlock=some k→v.ownBlock=some k∨k=w.heap.size)→K (a.put o.dst v') w'):o.wp P a w K Q:=by
 obtain ⟨ht,hi0,hzs⟩:=he
 obtain ⟨i,hi,hz,hsize,hby⟩:=info_parts hi0
 have key:∀ AD:Addr,ao=some AD→(∀ j (y:Value),(nvals l)[j]? = some y→w.cell? (AD.add j)=some y)→o.wp P a w K Q:=by
  intro AD hA hcell
  obtain ⟨v',w',hr,h2,h3,h4,h5⟩:=run_append_own_at (P:=P) w base t o.type e i z 1 bytes ht hi hz hsize hby hzs (by decide) v n xs hown AD l.length cap (nvals l) (by simp[nvals]) hcell (fun y hy=>by obtain ⟨q,_,rfl⟩:=List.mem_map.1 hy;rfl) h63 hbytes hbase
  unfold Oper.wp execOp
  simp only[ho,resolve,invoke,builtin,Sem.run_bind,Sem.run_pure,Result.andThen_ok,List.map_toArray,List.map_cons,List.map_nil,hs,hx,hA,hr]
  refine h _ _ h2 h3 (fun k hk=>?_)
  rcases h5 with h5|h5
  ·exact .inl (h5 ▸ hk)
  ·rw[h5] at hk
   exact .inr (Option.some.inj hk).symm
 by_cases hl:l=[]
 ·subst hl
  cases ao with
  | none =>
   have hr:=run_append_none_cap (P:=P) (w:=w) base t o.type e i 1 cap ht hi v n xs hown
   unfold Oper.wp execOp
   simp only[ho,resolve,invoke,builtin,Sem.run_bind,Sem.run_pure,Result.andThen_ok,List.map_toArray,List.map_cons,List.map_nil,hs,hx,List.length_nil,hr]
   exact h v w (by simpa [nvals] using hown) ⟨rfl,rfl,rfl,Nat.le_refl _,fun _ _ _=>rfl⟩ (fun k hk => .inl hk)
  | some AD=>exact key AD rfl (fun j y hy=>by simp[nvals] at hy)
 ·obtain ⟨b,off,hA,_,hc⟩:=hu hl
  refine key _ hA fun j y hj=>?_
  have hj':j<l.length:=by
   have:=(List.getElem?_eq_some_iff.1 hj).1
   simpa [nvals] using this
  have hadd:(⟨b,off,none⟩:Addr).add j=⟨b,off+j,none⟩:=by unfold Addr.add;split<;>simp_all
  rw[hadd,hc j hj']
  simp[nvals,List.getElem?_eq_getElem hj'] at hj
  rw[←hj]
theorem Try.elU64k:Elem Try.prog 30 23 (.int .u64 0) 1 8:=⟨Try.underlying30,by kernel_rfl,by decide⟩
theorem own_lit1 (w:World)(v:Value)(e:TypeId)(base:Nat)(hb:base≤w.heap.size):(w.alloc (.cells #[v] e)).ownsRow base e 1 (.slice (some ⟨w.heap.size,0,none⟩) 1 1) 1 [v]:=by
 have:=World.ownsRow_lit (e:=e) (size:=1) w #[v] 1 hb (by unfold maxLen;omega) rfl
 simpa using this
theorem nats_app (a b:List Nat):nvals (a++b)=nvals a++nvals b:=by simp[nvals]
theorem rexp_any (x:Xp)(cs:List Value)(P:Nat→Prop)(w:World)(ha:xp_arg x)(hrel:xpCel.R w P x cs)(hsm:x.1.1.length≤1000000∧x.1.2.2.2.2.2.2.2.1.2.1.cs.length≤1000000∧x.1.2.2.2.2.2.2.2.2.1.2.1.cs.length≤1000000){r:Nat}(hr:Hid (expR x=r)) :
  Calls Try.prog 16 #[.agg cs.toArray] w fun e w'=>e = .returned (.int .i64 (r:Int))∧Below w.heap.size w w':=by
 obtain ⟨⟨l,⟨a,⟨t,⟨k,⟨⟨bp,vp⟩,⟨sc,⟨zc,⟨⟨gp,pb,pu⟩,⟨⟨gn,nb,nu⟩,⟨f,⟨es,⟨⟨bm,vm⟩,⟨⟨bg,vg⟩,th⟩⟩⟩⟩⟩⟩⟩⟩⟩⟩⟩⟩⟩,u⟩:=x
 obtain ⟨lo,lc,po,pc,no,nc,eo,ec,rfl,hk,hpn,hnn,_⟩:=hrel
 obtain ⟨h1,_,_,_,_,h6,_,h8,h9,h10,_,_,h13,_,_,_,_,_,h19,h20,h21,_⟩:=ha
 obtain ⟨hn3,hn1,hn2⟩:=hsm
 have hn1:pb.cs.length≤1000000:=hn1
 have hn2:nb.cs.length≤1000000:=hn2
 have hn3:l.length≤1000000:=hn3
 dsimp only[strV]
 obtain ⟨Xpu,h⟩:∃ X:ByteArray,(⟨pu.toArray⟩:ByteArray)=X:=⟨_,rfl⟩
 rw[h];clear h
 obtain ⟨Xnu,h⟩:∃ X:ByteArray,(⟨nu.toArray⟩:ByteArray)=X:=⟨_,rfl⟩
 rw[h];clear h
 obtain ⟨Xu,h⟩:∃ X:ByteArray,(⟨u.toArray⟩:ByteArray)=X:=⟨_,rfl⟩
 rw[h];clear h
 obtain ⟨p,HP⟩:∃ p,Hid (pointR a t (dup l)=p):=⟨_,hid rfl⟩
 have HR:Hid ((if p=0 then (if ([[zc],pb.cs,nb.cs]:List (List Nat)).flatten.sum=k then (if expS sc pb nb=true then 10 else if expG bm vm bg vg th=true then 11 else 0) else 8) else p)=r):=hid (by rw[←hr.out,←HP.out];rfl)
 clear hr
 have HK:=hid hk
 have HPN:=hid (nats_of_rels hpn)
 have HNN:=hid (nats_of_rels hnn)
 have HL9:=hid h1
 have HK9:Hid (k<18446744073709551616):=hid h6
 have HSC:=hid h8
 have HPO:Hid (-2147483648≤pb.off∧pb.off≤2147483647):=hid ⟨h10.lo,h10.hi⟩
 have HNO:Hid (-2147483648≤nb.off∧nb.off≤2147483647):=hid ⟨h13.lo,h13.hi⟩
 have HVM:Hid (vm<2 ^ 64):=hid h19
 have HVG:Hid (vg<2 ^ 64):=hid h20
 have HTH:Hid (th<2 ^ 64):=hid h21
 clear hk hpn hnn h1 h6 h8 h9 h10 h13 h19 h20 h21
 obtain ⟨bx,hbx⟩:∃ b,w.heap.size=b:=⟨_,rfl⟩
 obtain ⟨w1,hw1⟩:∃ W,w.alloc (.cells #[.slice lo l.length lc,.int .u64 (a:Int),.int .u64 (t:Int),.int .u64 (k:Int),.bool bp,.int .u64 (vp:Int),.bool bm,.int .u64 (vm:Int),.bool bg,.int .u64 (vg:Int),.int .i32 sc,.int .u64 (zc:Int),.bool gp,.int .i32 pb.off,.slice po pb.cs.length pc,.string Xpu,.bool gn,.int .i32 nb.off,.slice no nb.cs.length nc,.string Xnu,.slice eo es.length ec,.int .u32 (f:Int),.int .u64 (th:Int),.string Xu] 36)=W:=⟨_,rfl⟩
 have HBw1:Hid (Below w.heap.size w w1):=hid (by rw[←hw1];exact below_new _ _)
 have HXw1:Hid (w1.heap[bx]? = some (.cells #[.slice lo l.length lc,.int .u64 (a:Int),.int .u64 (t:Int),.int .u64 (k:Int),.bool bp,.int .u64 (vp:Int),.bool bm,.int .u64 (vm:Int),.bool bg,.int .u64 (vg:Int),.int .i32 sc,.int .u64 (zc:Int),.bool gp,.int .i32 pb.off,.slice po pb.cs.length pc,.string Xpu,.bool gn,.int .i32 nb.off,.slice no nb.cs.length nc,.string Xnu,.slice eo es.length ec,.int .u32 (f:Int),.int .u64 (th:Int),.string Xu] 36 (0,0))):=hid (by rw[←hw1,←hbx];exact heap_alloc_new w _)
 have HW:=hid hw1
 have HBX:=hid hbx
 clear hw1 hbx
 go_enter Try.func16,Try.ntmps16
 go_upto_region 1 with fail
 rw[HW.out,HBX.out]
 have hc0:w1.cell? ⟨bx,0,none⟩=some (.slice lo l.length lc):=row_cell HXw1.out (j:=0) rfl
 have hc1:w1.cell? ⟨bx,1,none⟩=some (.int .u64 (a:Int)):=row_cell HXw1.out (j:=1) rfl
 have hc2:w1.cell? ⟨bx,2,none⟩=some (.int .u64 (t:Int)):=row_cell HXw1.out (j:=2) rfl
 go_wp2_with fail
 clear hc0 hc1 hc2
 refine (base_any a t l lo lc P w1 (by omega) HL9.out (HK.out.below HBw1.out) HP).mono ?_;rintro e w2 ⟨rfl,hb⟩
 have HXw2:Hid (w2.heap[bx]? = some (.cells #[.slice lo l.length lc,.int .u64 (a:Int),.int .u64 (t:Int),.int .u64 (k:Int),.bool bp,.int .u64 (vp:Int),.bool bm,.int .u64 (vm:Int),.bool bg,.int .u64 (vg:Int),.int .i32 sc,.int .u64 (zc:Int),.bool gp,.int .i32 pb.off,.slice po pb.cs.length pc,.string Xpu,.bool gn,.int .i32 nb.off,.slice no nb.cs.length nc,.string Xnu,.slice eo es.length ec,.int .u32 (f:Int),.int .u64 (th:Int),.string Xu] 36 (0,0))):=hid ((hb.block _ (row_lt HXw1.out)).trans HXw1.out)
 have HBw2:Hid (Below w.heap.size w w2):=hid (below_step HBw1.out hb)
 clear hb
 have hxlt:=row_lt HXw2.out
 have hI:Below w2.heap.size w2 w2.drew:=(Below.refl _ _).drew
 have hne:Nonempty { w':World // Below w2.heap.size w2 w' }:=⟨⟨_,hI⟩⟩
 have hc3:∀ t:{ w':World // Below w2.heap.size w2 w' },t.1.cell? ⟨bx,11,none⟩=some (.int .u64 (zc:Int)):=fun t=>(t.2.cell (p:=⟨bx,11,none⟩) hxlt).trans (row_cell HXw2.out (j:=11) rfl)
 have hc4:∀ t:{ w':World // Below w2.heap.size w2 w' },t.1.cell? ⟨bx,14,none⟩=some (.slice po pb.cs.length pc):=fun t=>(t.2.cell (p:=⟨bx,14,none⟩) hxlt).trans (row_cell HXw2.out (j:=14) rfl)
 have hc5:∀ t:{ w':World // Below w2.heap.size w2 w' },t.1.cell? ⟨bx,18,none⟩=some (.slice no nb.cs.length nc):=fun t=>(t.2.cell (p:=⟨bx,18,none⟩) hxlt).trans (row_cell HXw2.out (j:=18) rfl)
 obtain ⟨D,hD⟩:∃ D,w2.drew=D:=⟨_,rfl⟩
 have hID:=hI
 rw[hD] at hID
 have HID:=hid hID
 go_upto_region 2 with fail
 refine wp_region_seq (S:=fun w'=>Below w2.heap.size w2 w') [(0,true),(1,true),(3,true),(4,true),(5,true),(7,true),(8,true),(9,true),(2,false),(6,false),(10,false),(11,true)] (by kernel_rfl) (by kernel_rfl) (by kernel_rfl) (by kernel_rfl) hI ?_
 rw[hD]
 iterate 8 (refine seq_take _ rfl (fun KC hK=>?_);go_simp;(first|refine hK _ ?_|refine ⟨_,fun _ _=>rfl,hK _ ?_⟩|refine ⟨undef,by first|rfl|simp,hK _ ?_⟩);clear hK KC)
 clear hc3 hc4 hc5 hne hI
 refine seq_come _ rfl (fun KC hK=>?_);go_simp
 have hb1:Below w2.heap.size w2 (D.alloc (.cells #[.int .u64 (zc:Int)] 23)):=HID.out.trans ((below_new D _).mono HID.out.size)
 have HO1:=hid (own_lit1 D (.int .u64 (zc:Int)) 23 D.heap.size (Nat.le_refl _))
 have HB1:=hid hb1
 refine hK.out _ _ hb1 ?_;clear hK KC hb1
 obtain ⟨D1,hD1⟩:∃ W,D.alloc (.cells #[.int .u64 (zc:Int)] 23)=W:=⟨_,rfl⟩
 rw[hD1] at HB1 HO1 ⊢
 have HDS:Hid (D.heap.size≤D1.heap.size):=hid (by rw[←hD1];simp)
 clear hD1
 refine seq_wp _ rfl rfl (fun KC hK=>?_)
 refine wp_app_nats _ _ 30 rfl Try.elU64k HO1.out rfl (HPN.out.below ((HBw2.out).trans (HB1.out.mono HBw2.out.size))) rfl (by unfold maxLen;omega) (by omega) HDS.out ?_
 intro v2 D2 hown2 hgrow2 hg2
 have hb2:Below D.heap.size D1 D2:=(Upd.of_grown hgrow2).below HDS.out (fun k _ hk=>by have:k=D.heap.size:=(by simpa [Value.ownBlock] using hk.symm);omega)
 have HB2:=hid (HB1.out.trans (hb2.mono HID.out.size))
 have HO2:=hid hown2
 have HDS2:Hid (D.heap.size≤D2.heap.size):=hid (Nat.le_trans HDS.out hb2.size)
 refine hK.out _ _ HB2.out ?_;clear hK KC hgrow2 hg2 hb2 hown2
 refine seq_wp _ rfl rfl (fun KC hK=>?_)
 refine wp_app_nats _ _ 30 rfl Try.elU64k HO2.out rfl (HNN.out.below ((HBw2.out).trans (HB2.out.mono HBw2.out.size))) rfl (by unfold maxLen;omega) (by omega) HDS2.out ?_
 intro v3 w3 hown3 hgrow3 hg3
 have hb3:Below D.heap.size D2 w3:=(Upd.of_grown hgrow3).below HDS2.out (fun k _ hk=>(HO2.out.lt k hk).1)
 have HB3:=hid (HB2.out.trans (hb3.mono HID.out.size))
 have HO3:=hid hown3
 refine hK.out _ _ HB3.out ?_;clear hK KC hgrow3 hg3 hb3 hown3
 iterate 1 (refine seq_take _ rfl (fun KC hK=>?_);go_simp;(first|refine hK _ ?_|refine ⟨_,fun _ _=>rfl,hK _ ?_⟩|refine ⟨undef,by first|rfl|simp,hK _ ?_⟩);clear hK KC)
 refine seq_done ?_
 obtain ⟨so,sc3,rfl⟩:=own_slice HO3.out
 have HSN:Hid (Nats .u64 w3 so ([zc]++pb.cs++nb.cs)):=hid (nats_of_own (e:=23) (base:=D.heap.size) (cap:=sc3) (by
  have h:=HO3.out
  rw[show ([Value.int .u64 (zc:Int)]++nvals pb.cs)++nvals nb.cs=nvals ([zc]++pb.cs++nb.cs) by rw[nats_app,nats_app];rfl,show 1+pb.cs.length+nb.cs.length=([zc]++pb.cs++nb.cs).length by simp;omega] at h
  exact h))
 obtain ⟨JL,HJL⟩:∃ JL,Hid ([zc]++pb.cs++nb.cs=JL):=⟨_,hid rfl⟩
 have HJS:Hid (([[zc],pb.cs,nb.cs]:List (List Nat)).flatten.sum=JL.sum):=hid (by rw[←HJL.out];simp)
 have HJN:Hid (JL.length=1+pb.cs.length+nb.cs.length):=hid (by rw[←HJL.out];simp;omega)
 rw[HJL.out] at HSN
 rw[←HJN.out]
 have hb3:=HB3.out
 have HXw3:Hid (w3.heap[bx]? = some (.cells #[.slice lo l.length lc,.int .u64 (a:Int),.int .u64 (t:Int),.int .u64 (k:Int),.bool bp,.int .u64 (vp:Int),.bool bm,.int .u64 (vm:Int),.bool bg,.int .u64 (vg:Int),.int .i32 sc,.int .u64 (zc:Int),.bool gp,.int .i32 pb.off,.slice po pb.cs.length pc,.string Xpu,.bool gn,.int .i32 nb.off,.slice no nb.cs.length nc,.string Xnu,.slice eo es.length ec,.int .u32 (f:Int),.int .u64 (th:Int),.string Xu] 36 (0,0))):=hid ((hb3.block _ (row_lt HXw2.out)).trans HXw2.out)
 have HBw3:Hid (Below w.heap.size w w3):=hid (below_step HBw2.out hb3)
 clear hb3 hD hID hxlt
 by_cases hp:p=0
 case neg =>
  have hr2:r=p:=by rw[←HR.out,if_neg hp]
  subst hr2
  have d1:decide (0<r)=true:=decide_eq_true (by omega)
  have d2:0<r:=by omega
  clear hp
  go_wp2_with fail
  go_ret
  exact ⟨rfl,HBw3.out⟩
 case pos =>
  subst hp
  have HRT:Hid ((if ([[zc],pb.cs,nb.cs]:List (List Nat)).flatten.sum=k then (if expS sc pb nb=true then 10 else if expG bm vm bg vg th=true then 11 else 0) else 8)=r):=hid (by rw[←HR.out];rfl)
  obtain ⟨tb,HTB⟩:∃ tb,Hid (decide (([[zc],pb.cs,nb.cs]:List (List Nat)).flatten.sum=k)=tb):=⟨_,hid rfl⟩
  have hc3:w3.cell? ⟨bx,3,none⟩=some (.int .u64 (k:Int)):=row_cell HXw3.out (j:=3) rfl
  go_wp2_with fail
  clear hc3
  refine (rtotal_any k JL so sc3 _ HK9.out (by have:=HJN.out;omega) HSN (r:=tb) (hid (by rw[←HJS.out];exact HTB.out))).mono ?_;rintro e w' ⟨rfl,rfl⟩
  cases tb with
  | false =>
   have hr2:r=8:=by rw[←HRT.out,if_neg (of_decide_eq_false HTB.out)]
   subst hr2
   go_wp2_with fail
   go_ret
   exact ⟨rfl,HBw3.out⟩
  | true =>
   have HRS:Hid ((if expS sc pb nb=true then 10 else if expG bm vm bg vg th=true then 11 else 0)=r):=hid (by rw[←HRT.out,if_pos (of_decide_eq_true HTB.out)])
   have hc10:w3.cell? ⟨bx,10,none⟩=some (.int .i32 sc):=row_cell HXw3.out (j:=10) rfl
   have hc13:w3.cell? ⟨bx,13,none⟩=some (.int .i32 pb.off):=row_cell HXw3.out (j:=13) rfl
   have hc14:w3.cell? ⟨bx,14,none⟩=some (.slice po pb.cs.length pc):=row_cell HXw3.out (j:=14) rfl
   have hc15:w3.cell? ⟨bx,15,none⟩=some (.string Xpu):=row_cell HXw3.out (j:=15) rfl
   have hc17:w3.cell? ⟨bx,17,none⟩=some (.int .i32 nb.off):=row_cell HXw3.out (j:=17) rfl
   have hc18:w3.cell? ⟨bx,18,none⟩=some (.slice no nb.cs.length nc):=row_cell HXw3.out (j:=18) rfl
   have hc19:w3.cell? ⟨bx,19,none⟩=some (.string Xnu):=row_cell HXw3.out (j:=19) rfl
   by_cases s1:sc < -10
   ·have d1:decide (sc < -10)=true:=decide_eq_true s1
    have HS:Hid (expS sc pb nb=true):=hid (by unfold expS;rw[d1];rfl)
    have hr2:r=10:=by rw[←HRS.out,HS.out];rfl
    subst hr2
    go_wp2_with fail
    go_ret
    exact ⟨rfl,HBw3.out⟩
   ·have d1:decide (sc < -10)=false:=decide_eq_false s1
    by_cases s2:20<sc
    ·have d2:decide (20<sc)=true:=decide_eq_true s2
     have HS:Hid (expS sc pb nb=true):=hid (by unfold expS;rw[d1,d2];rfl)
     have hr2:r=10:=by rw[←HRS.out,HS.out];rfl
     subst hr2
     go_wp2_with fail
     go_ret
     exact ⟨rfl,HBw3.out⟩
    ·have d2:decide (20<sc)=false:=decide_eq_false s2
     obtain ⟨b1,HB1⟩:∃ b1,Hid (beyondB pb.off pb.cs.length=b1):=⟨_,hid rfl⟩
     go_wp2_with fail
     clear hc10 hc13 hc14 hc15 hc17 hc18 hc19
     refine (far_any pb.off pb.cs.length po pc Xpu _ HPO.out hn1 HB1).mono ?_;rintro e w4 ⟨rfl,hb⟩
     have HXw4:Hid (w4.heap[bx]? = some (.cells #[.slice lo l.length lc,.int .u64 (a:Int),.int .u64 (t:Int),.int .u64 (k:Int),.bool bp,.int .u64 (vp:Int),.bool bm,.int .u64 (vm:Int),.bool bg,.int .u64 (vg:Int),.int .i32 sc,.int .u64 (zc:Int),.bool gp,.int .i32 pb.off,.slice po pb.cs.length pc,.string Xpu,.bool gn,.int .i32 nb.off,.slice no nb.cs.length nc,.string Xnu,.slice eo es.length ec,.int .u32 (f:Int),.int .u64 (th:Int),.string Xu] 36 (0,0))):=hid ((hb.block _ (row_lt HXw3.out)).trans HXw3.out)
     have HBw4:Hid (Below w.heap.size w w4):=hid (below_step HBw3.out hb)
     clear hb
     have hc17:w4.cell? ⟨bx,17,none⟩=some (.int .i32 nb.off):=row_cell HXw4.out (j:=17) rfl
     have hc18:w4.cell? ⟨bx,18,none⟩=some (.slice no nb.cs.length nc):=row_cell HXw4.out (j:=18) rfl
     have hc19:w4.cell? ⟨bx,19,none⟩=some (.string Xnu):=row_cell HXw4.out (j:=19) rfl
     cases b1 with
     | true =>
      have HS:Hid (expS sc pb nb=true):=hid (by unfold expS;rw[d1,d2,HB1.out];rfl)
      have hr2:r=10:=by rw[←HRS.out,HS.out];rfl
      subst hr2
      go_wp2_with fail
      go_ret
      exact ⟨rfl,HBw4.out⟩
     | false =>
      obtain ⟨b2,HB2⟩:∃ b2,Hid (beyondB nb.off nb.cs.length=b2):=⟨_,hid rfl⟩
      have HS:Hid (expS sc pb nb=b2):=hid (by unfold expS;rw[d1,d2,HB1.out,HB2.out];rfl)
      go_wp2_with fail
      clear hc17 hc18 hc19 d1 d2 s1 s2
      refine (far_any nb.off nb.cs.length no nc Xnu _ HNO.out hn2 HB2).mono ?_;rintro e w5 ⟨rfl,hb⟩
      have HXw5:Hid (w5.heap[bx]? = some (.cells #[.slice lo l.length lc,.int .u64 (a:Int),.int .u64 (t:Int),.int .u64 (k:Int),.bool bp,.int .u64 (vp:Int),.bool bm,.int .u64 (vm:Int),.bool bg,.int .u64 (vg:Int),.int .i32 sc,.int .u64 (zc:Int),.bool gp,.int .i32 pb.off,.slice po pb.cs.length pc,.string Xpu,.bool gn,.int .i32 nb.off,.slice no nb.cs.length nc,.string Xnu,.slice eo es.length ec,.int .u32 (f:Int),.int .u64 (th:Int),.string Xu] 36 (0,0))):=hid ((hb.block _ (row_lt HXw4.out)).trans HXw4.out)
      have HBw5:Hid (Below w.heap.size w w5):=hid (below_step HBw4.out hb)
      clear hb
      cases b2 with
      | true =>
       have hr2:r=10:=by rw[←HRS.out,HS.out];rfl
       subst hr2
       go_wp2_with fail
       go_ret
       exact ⟨rfl,HBw5.out⟩
      | false =>
       have HRG:Hid ((if expG bm vm bg vg th=true then 11 else 0)=r):=hid (by rw[←HRS.out,HS.out];rfl)
       have hc6:w5.cell? ⟨bx,6,none⟩=some (.bool bm):=row_cell HXw5.out (j:=6) rfl
       have hc7:w5.cell? ⟨bx,7,none⟩=some (.int .u64 (vm:Int)):=row_cell HXw5.out (j:=7) rfl
       have hc8:w5.cell? ⟨bx,8,none⟩=some (.bool bg):=row_cell HXw5.out (j:=8) rfl
       have hc9:w5.cell? ⟨bx,9,none⟩=some (.int .u64 (vg:Int)):=row_cell HXw5.out (j:=9) rfl
       obtain ⟨ab,HAB⟩:∃ ab,Hid (apartB bm vm bg vg=ab):=⟨_,hid rfl⟩
       go_upto_region 9 with fail
       go_wp2_with fail
       clear hc6 hc7 hc8 hc9
       refine (upside_any bm bg vm vg _ HVM.out HVG.out HAB).mono ?_;rintro e w9 ⟨rfl,hb⟩
       have HXw9:Hid (w9.heap[bx]? = some (.cells #[.slice lo l.length lc,.int .u64 (a:Int),.int .u64 (t:Int),.int .u64 (k:Int),.bool bp,.int .u64 (vp:Int),.bool bm,.int .u64 (vm:Int),.bool bg,.int .u64 (vg:Int),.int .i32 sc,.int .u64 (zc:Int),.bool gp,.int .i32 pb.off,.slice po pb.cs.length pc,.string Xpu,.bool gn,.int .i32 nb.off,.slice no nb.cs.length nc,.string Xnu,.slice eo es.length ec,.int .u32 (f:Int),.int .u64 (th:Int),.string Xu] 36 (0,0))):=hid ((hb.block _ (row_lt HXw5.out)).trans HXw5.out)
       have HBw9:Hid (Below w.heap.size w w9):=hid (below_step HBw5.out hb)
       clear hb
       cases ab with
       | true =>
        have hr2:r=11:=by
         rw[←HRG.out];unfold expG;rw[HAB.out];rfl
        subst hr2
        go_wp2_with fail
        go_ret
        exact ⟨rfl,HBw9.out⟩
       | false =>
        have hc22:w9.cell? ⟨bx,22,none⟩=some (.int .u64 (th:Int)):=row_cell HXw9.out (j:=22) rfl
        obtain ⟨c,HC⟩:∃ c:Int,Hid (c=(Fm.cls th:Nat)):=⟨_,hid rfl⟩
        by_cases h4:Fm.cls th=4
        ·have e1:(c == 4)=true:=by rw[HC.out,h4];rfl
         have HG:Hid (expG bm vm bg vg th=true):=hid (by unfold expG;rw[decide_eq_true h4];simp)
         clear h4
         go_wp2_with fail
         refine (rclass_is th _ HTH.out HC).mono ?_;rintro e w' ⟨rfl,rfl⟩
         have hr2:r=11:=by
          rw[←HRG.out,HG.out];rfl
         subst hr2
         go_wp2_with fail
         go_ret
         exact ⟨rfl,HBw9.out⟩
        ·have e1:(c == 4)=false:=by rw[HC.out];simp;omega
         obtain ⟨lb,HLB⟩:∃ lb,Hid (lessF th 0=lb):=⟨_,hid rfl⟩
         have HG:Hid (expG bm vm bg vg th=lb):=hid (by unfold expG;rw[HAB.out,decide_eq_false h4,HLB.out];rfl)
         clear h4
         go_wp2_with fail
         refine (rclass_is th _ HTH.out HC).mono ?_;rintro e w' ⟨rfl,rfl⟩
         go_wp2_with fail
         refine (rless_any th 0 _ HTH.out (by decide) HLB).mono ?_;rintro e w' ⟨rfl,rfl⟩
         cases lb with
         | true =>
          have hr2:r=11:=by
           rw[←HRG.out,HG.out];rfl
          subst hr2
          go_wp2_with fail
          go_ret
          exact ⟨rfl,HBw9.out⟩
         | false =>
          have hr2:r=0:=by
           rw[←HRG.out,HG.out];rfl
          subst hr2
          go_wp2_with fail
          go_ret
          exact ⟨rfl,HBw9.out⟩
end Go.Proofs.Ytmlghmjjlpioeaa
