/-
  message.Writer: messages within: Open, Close.
-/
import Derived.Test.YtficgfemmijaaaaGreatDoorMsgWrite
import Derived.Deep.Cut
import Derived.Test.YtficgfemmijaaaaGreatDoorUtf2
import Derived.Test.YtficgfemmijaaaaGreatDoorMsgRead
set_option maxRecDepth 1000000
set_option maxHeartbeats 16000000
namespace Go.Proofs.YtficgfemmijaaaaGreatDoor
open Go.RowKit
open Lib (hid)
structure Hole where
  num:Nat
  part:Nat
  size:Nat
def hcells (h:Hole):List Value:=[.int .i64 h.num,.int .i64 h.part,.int .i64 h.size]
theorem Tryz.elHole:Elem Tryz.prog 165 272 (.agg #[.int .i64 0,.int .i64 0,.int .i64 0]) 3 24:=⟨Tryz.underlying165,by kernel_rfl,by decide⟩
def WrH (p:Nat)(d:Int)(ps:List (List UInt8))(hs:List Hole)(b:Bool)(P:Nat→Prop)(w:World):Prop:=∃ (vo:Value) (P0:Nat→Prop),WrAt p d vo ps b P0 w∧w.ownsRow (p+1) 272 3 vo hs.length (hs.flatMap hcells)∧(∀ k,vo.ownBlock=some k→¬P0 k)∧P=fun k=>P0 k∨vo.ownBlock=some k
def WopPost (p:Nat)(d:Int)(ps:List (List UInt8))(hs:List Hole)(b:Bool)(P:Nat→Prop)(w:World)(e:Ending)(w':World):Prop :=
  e = .returned (.tuple #[])∧Upd P w w'∧∃ P',WrH p d ps hs b P' w'∧∀ k,P' k→P k∨w.heap.size≤k
theorem hole_not_wrap (b:Bool):(272:TypeId)≠wrapS b:=by cases b<;>decide
theorem wh_lt {p:Nat}{d:Int}{ps:List (List UInt8)}{hs:List Hole}{b:Bool}{P:Nat→Prop}{w:World}(h:WrH p d ps hs b P w)(k:Nat)(hk:P k):p≤k∧k<w.heap.size:=by
  obtain ⟨vo,P0,h1,h2,h3,rfl⟩:=h
  rcases hk with hk|hk
  · exact wr_lt h1 k hk
  · have:=h2.lt k hk;omega
theorem wh_below {p:Nat}{d:Int}{ps:List (List UInt8)}{hs:List Hole}{b:Bool}{P:Nat→Prop}{w w':World}(h:WrH p d ps hs b P w)(hb:Below w.heap.size w w'):WrH p d ps hs b P w':=by
  obtain ⟨vo,P0,h1,h2,h3,rfl⟩:=h;exact ⟨vo,P0,wr_below h1 hb,own_below h2 hb,h3,rfl⟩
theorem WopPost.step {p:Nat}{d d':Int}{ps ps':List (List UInt8)}{hs hs':List Hole}{b b':Bool}{P:Nat→Prop}{w w1 w2:World}{e e':Ending}(h:WopPost p d ps hs b P w e w1)(g:∀ P',WrH p d ps hs b P' w1→WopPost p d' ps' hs' b' P' w1 e' w2):WopPost p d' ps' hs' b' P w e' w2:=by
  obtain ⟨h1,h2,P',h3,h4⟩:=h;obtain ⟨g1,g2,P'',g3,g4⟩:=g P' h3;refine ⟨g1,h2.trans' g2 (fun k hk hp=>?_),P'',g3,fun k hk=>?_⟩
  · rcases h4 k hp with h|h
    · exact h
    · omega
  · rcases g4 k hk with h|h
    · exact h4 k h
    · exact .inr (by have:=h2.size;omega)
theorem WopPost.below {p:Nat}{d:Int}{ps:List (List UInt8)}{hs:List Hole}{b:Bool}{P:Nat→Prop}{w w1 w2:World}{e:Ending}(hb:Below w.heap.size w w1)(g:WopPost p d ps hs b P w1 e w2):WopPost p d ps hs b P w e w2:=by
  obtain ⟨g1,g2,P',g3,g4⟩:=g;exact ⟨g1,(Upd.of_new hb).trans g2,P',g3,fun k hk=>(g4 k hk).imp id (fun h=>by have:=hb.size;omega)⟩
theorem wh_lift {p:Nat}{d':Int}{vo:Value}{ps':List (List UInt8)}{hs:List Hole}{b':Bool}{P0:Nat→Prop}{w w':World}{e:Ending}(hv:w.ownsRow (p+1) 272 3 vo hs.length (hs.flatMap hcells))(hd:∀ k,vo.ownBlock=some k→¬P0 k)(g:WrPost p d' vo ps' b' P0 w e w'):WopPost p d' ps' hs b' (fun k=>P0 k∨vo.ownBlock=some k) w e w':=by
  obtain ⟨g1,g2,P',g3,g4⟩:=g;refine ⟨g1,g2.mono (fun k _ h => .inl h),_,⟨vo,P',g3,g2.own hv hd,fun k hk hp=>?_,rfl⟩,fun k hk=>?_⟩
  · rcases g4 k hp with h|h
    · exact hd k hk h
    · have:=(hv.lt k hk).2;omega
  · rcases hk with h|h
    · exact (g4 k h).imp .inl id
    · exact .inl (.inr h)
def WRow (p:Nat)(d:Int)(vp:Value)(L:Nat)(vo ev:Value)(w:World):Prop:=w.heap[p]? = some (.cells #[.int .i64 d,vp,.int .i64 L,vo,ev] 167 (0,0))
theorem wopen_any (p:Nat)(d:Int)(ps:List (List UInt8))(hs:List Hole)(b:Bool)(P:Nat→Prop)(num:Nat)(w:World)(d1:Int)(h:Hid (WrH p d ps hs b P w))(hd:IntKind.i64.wrap (d - 1)=d1)(hl:ps.length≤1000000)(hh:hs.length≤1000000)(hf:ps.flatten.length≤10000000) :
    Calls Tryz.prog 179 #[.pointer (some ⟨p,0,none⟩),.int .i64 num] w (WopPost p d1 (wps (b||!decide (0≤d1)) ps [[]]) (hs++[⟨num,ps.length,ps.flatten.length⟩]) (b||!decide (0≤d1)) P w):=by
  obtain ⟨vo,P0,hw,hv,hdis,rfl⟩:=h.out;have HN:=hid (wr_not hw);obtain ⟨vp,ev,h1,h2,h3,hP0⟩:=hw;have hpw:=row_lt h1;have q1:=hd;have hc0:w.cell? ⟨p,0,none⟩=some (.int .i64 d):=row_cell h1 (j:=0) rfl;have hf0:w.frozen? ⟨p,0,none⟩=false:=row_thaw h1 0;obtain ⟨g,hg⟩:∃ g,decide (0≤d1)=g:=⟨_,rfl⟩
  have hge:decide (d1 ≥ 0)=g:=hg;have hge2:decide (0≤d1)=g:=hg;obtain ⟨W1,hW1⟩:∃ W,w.setCell ⟨p,0,none⟩ (.int .i64 d1)=W:=⟨_,rfl⟩
  have hu1:Upd (fun k=>k=p) w W1:=by rw[←hW1];exact Upd.set w ⟨p,0,none⟩ (.int .i64 d1)
  have HU1:=hid hu1;have HR1:Hid (W1.heap[p]? = some (.cells #[.int .i64 d1,vp,.int .i64 ps.flatten.length,vo,ev] 167 (0,0))):=hid (by rw[←hW1];exact row_set h1 0 _);have HWA:Hid (WrAt p d1 vo ps b P0 W1):=hid ⟨vp,ev,HR1.out,hu1.own h2 (fun k hk e=>by have e:k=p:=e;have:=(h2.lt k hk).1;omega),h3.upd hu1 (fun k hk=>by have e:k=p:=hk;subst e;exact HN.out k (by rw[hP0];exact .inl rfl)),hP0⟩;have HV1:Hid (W1.ownsRow (p+1) 272 3 vo hs.length (hs.flatMap hcells)):=hid (hu1.own hv (fun k hk e=>by have e:k=p:=e;have:=(hv.lt k hk).1;omega));have HASK:=hid (wask_any p d1 vo ps b P0 g W1 HWA);have HP0:=hid (show P0 p by rw[hP0];exact .inl rfl);have HW1:=hid hW1;have HDIS:=hid hdis;rw[hg];have HF:=hid hf;clear hu1 h1 h2 h3 hP0 hW1 hv hdis hg hd hf;go_enter Tryz.func179,Tryz.ntmps179;go_wp2_with fail;rw[HW1.out];refine HASK.out.mono ?_;intro e w2 hpost;obtain ⟨rfl,hu2,P2,hw2,hp2⟩:=hpost;have HN2:=hid (wr_not hw2);obtain ⟨vp2,ev2,h1,h2,h3,hP2⟩:=hw2;have HU2:=hid hu2;have HV2:Hid (w2.ownsRow (p+1) 272 3 vo hs.length (hs.flatMap hcells)):=hid (hu2.own HV1.out HDIS.out)
  have HDIS2:Hid (∀ k,vo.ownBlock=some k→¬P2 k):=hid (fun k hk hp=>by
    rcases hp2 k hp with h|h
    · exact HDIS.out k hk h
    · have:=(HV1.out.lt k hk).2;omega)
  have HP2:=hid hp2;have HPE:=hid hP2;have H1:=hid h1;have H2:=hid h2;have H3:=hid h3;obtain ⟨L,hL⟩:∃ L,ps.flatten.length=L:=⟨_,rfl⟩
  rw[hL] at h1;have HL:=hid hL;have hpw2:=row_lt h1;obtain ⟨ho,hcap,rfl⟩:=own_slice HV2.out;obtain ⟨po,pcap,rfl⟩:=own_slice H2.out;have HRW:Hid (WRow p d1 (.slice po ps.length pcap) L (.slice ho hs.length hcap) ev2 w2):=hid h1;clear hu2 h1 h2 h3 hp2 hP2 hL hc0 hf0 hge hge2 q1;go_wp2_with fail;obtain ⟨D,hD⟩:∃ D,w2.drew=D:=⟨_,rfl⟩
  have HBD:Hid (Below w2.heap.size w2 D):=hid (by rw[←hD];exact (Below.refl _ _).drew);have hS:WRow p d1 (.slice po ps.length pcap) L (.slice ho hs.length hcap) ev2 D:=(HBD.out.block _ hpw2).trans HRW.out;have hne:Nonempty { w':World // WRow p d1 (.slice po ps.length pcap) L (.slice ho hs.length hcap) ev2 w' }:=⟨⟨_,hS⟩⟩
  have x1:∀ t:{ w':World // WRow p d1 (.slice po ps.length pcap) L (.slice ho hs.length hcap) ev2 w' },t.1.cell? ⟨p,1,none⟩=some (.slice po ps.length pcap):=fun t=>row_cell t.2 (j:=1) rfl
  have x2:∀ t:{ w':World // WRow p d1 (.slice po ps.length pcap) L (.slice ho hs.length hcap) ev2 w' },t.1.cell? ⟨p,2,none⟩=some (.int .i64 L):=fun t=>row_cell t.2 (j:=2) rfl
  have x3:∀ t:{ w':World // WRow p d1 (.slice po ps.length pcap) L (.slice ho hs.length hcap) ev2 w' },t.1.cell? ⟨p,3,none⟩=some (.slice ho hs.length hcap):=fun t=>row_cell t.2 (j:=3) rfl
  have HVD:Hid (D.ownsRow (p+1) 272 3 (.slice ho hs.length hcap) hs.length (hs.flatMap hcells)):=hid (own_below HV2.out HBD.out);have hbD:w2.heap.size≤D.heap.size:=HBD.out.size;refine wp_region_seqB (WRow p d1 (.slice po ps.length pcap) L (.slice ho hs.length hcap) ev2) [20] [(0,true),(1,true),(2,true),(3,true),(4,true),(5,true),(6,true),(7,true),(8,true),(9,true),(10,true),(11,true),(12,true),(13,true),(14,true),(15,true),(16,false),(17,false),(18,false),(19,false),(20,false)] (by kernel_rfl) (by kernel_rfl) (by kernel_rfl) (by kernel_rfl) ?_;rw[hD];clear hD
  iterate 16 (refine seqB_take _ rfl hS (fun K hK=>?_);go_simp;(first|refine hK _ ?_|refine ⟨_,fun _ _=>rfl,hK _ ?_⟩);clear hK K)
  refine seqB_come _ rfl (fun K hK=>?_);go_simp;have hS2:WRow p d1 (.slice po ps.length pcap) L (.slice ho hs.length hcap) ev2 (D.alloc (.cells #[.int .i64 num,.int .i64 ps.length,.int .i64 L] 272)):=(Below.heap_alloc _ _ _ (row_lt hS)).trans hS;refine hK.out _ _ (fun _=>hS2) ?_;clear hK K;refine seqB_wp _ rfl rfl (fun K hK=>?_)
  refine wp_app_at _ _ 165 rfl Tryz.elHole (by decide) (HVD.out.alloc _) rfl (b:=D.heap.size) (off:=0) (m:=1) (c:=1) (news:=hcells ⟨num,ps.length,L⟩) rfl rfl (fun j u hj=>by
    have:=row_cell (heap_alloc_new D (.cells #[.int .i64 num,.int .i64 ps.length,.int .i64 L] 272)) (j:=j) (by simpa [hcells] using hj);rw[Nat.zero_add];exact this) (by simp[Value.oneCell',hcells]) (by unfold maxLen;omega) (by omega) (by simp;omega) (fun v' w3 hown3 hgrow hnew=>?_)
  have hgu:Upd (fun k=>(Value.slice ho hs.length hcap).ownBlock=some k) (D.alloc (.cells #[.int .i64 num,.int .i64 ps.length,.int .i64 L] 272)) w3:=Upd.of_grown hgrow;have hnp:¬(Value.slice ho hs.length hcap).ownBlock=some p:=fun h=>by have:=(HVD.out.lt p h).1;omega
  have hS3:WRow p d1 (.slice po ps.length pcap) L (.slice ho hs.length hcap) ev2 w3:=(hgu.block p (by have:=row_lt hS2;exact this) hnp).trans hS2;refine hK.out _ _ (fun _=>hS3) ?_;clear hK K;obtain ⟨ho',hcap',rfl⟩:=own_slice hown3;have hfz:w3.frozen? ⟨p,3,none⟩=false:=row_thaw hS3 3;have hc3:w3.cell? ⟨p,3,none⟩=some (.slice ho hs.length hcap):=row_cell hS3 (j:=3) rfl
  iterate 2 (refine seqB_come _ rfl (fun K hK=>?_);go_simp;refine hK.out _ _ (fun _=>hS3) ?_;clear hK K)
  refine seqB_come _ rfl (fun K hK=>?_);go_simp;refine hK.out _ _ (fun h=>by cases h) ?_;clear hK K;refine seqB_done ?_;obtain ⟨W4,hW4⟩:∃ W,w3.setCell ⟨p,3,none⟩ (.slice ho' (hs.length+1) hcap')=W:=⟨_,rfl⟩
  have hu4:Upd (fun k=>k=p) w3 W4:=by rw[←hW4];exact Upd.set w3 ⟨p,3,none⟩ (.slice ho' (hs.length+1) hcap')
  have hR4:W4.heap[p]? = some (.cells #[.int .i64 d1,.slice po ps.length pcap,.int .i64 ps.flatten.length,.slice ho' (hs.length+1) hcap',ev2] 167 (0,0)):=by rw[←hW4,HL.out];exact row_set hS3 3 _
  have hu23:Upd (fun k=>(Value.slice ho hs.length hcap).ownBlock=some k) w2 w3:=(Upd.of_new HBD.out).trans ((Upd.alloc _ _ _).trans hgu);have hu24:Upd (fun k=>k=p∨(Value.slice ho hs.length hcap).ownBlock=some k) w2 W4:=(hu23.mono fun k _ h => .inr h).trans (hu4.mono fun k _ h => .inl h);have HU24:=hid hu24
  have HWA4:Hid (WrAt p d1 (.slice ho' (hs.length+1) hcap') ps (b||!g) P2 W4):=hid ⟨_,ev2,hR4,hu24.own H2.out (fun k hk e=>by
    rcases e with e|e
    · have:=(H2.out.lt k hk).1;omega
    · exact HDIS2.out k e (by rw[HPE.out];exact .inr hk)),H3.out.upd hu24 (fun k hk=>by
    rcases hk with e|e
    · subst e;exact HN2.out k (by rw[HPE.out];exact .inl rfl)
    · intro c n e2 hh
      obtain ⟨cur,hc⟩:=own_type HV2.out e;rw[hc] at hh
      simp only[Option.some.injEq,Obj.cells.injEq] at hh
      exact hole_not_wrap c hh.2.1),HPE.out⟩
  have HV4:Hid (W4.ownsRow (p+1) 272 3 (.slice ho' (hs.length+1) hcap') (hs++[(⟨num,ps.length,ps.flatten.length⟩:Hole)]).length ((hs++[(⟨num,ps.length,ps.flatten.length⟩:Hole)]).flatMap hcells)):=hid (by
    have h9:=hu4.own hown3 (fun k hk e=>by have e:k=p:=e;have:=(hown3.lt k hk).1;omega);rw[List.length_append,List.flatMap_append,HL.out]
    simpa using h9)
  have HNEW:Hid (∀ k,(Value.slice ho' (hs.length+1) hcap').ownBlock=some k→(Value.slice ho hs.length hcap).ownBlock=some k∨w2.heap.size≤k):=hid (fun k hk=>(hnew k hk).imp id (fun h=>by rw[h];simp;omega))
  have HDIS4:Hid (∀ k,(Value.slice ho' (hs.length+1) hcap').ownBlock=some k→¬P2 k):=hid (fun k hk hp=>by
    rcases HNEW.out k hk with h|h
    · exact HDIS2.out k h hp
    · have:=wr_lt (p:=p) (d:=d1) (vo := .slice ho hs.length hcap) (ps:=ps) (b:=b||!g) (P:=P2) (w:=w2) ⟨_,ev2,H1.out,H2.out,H3.out,HPE.out⟩ k hp
      omega)
  have HPUT:=hid (wput_any p d1 (.slice ho' (hs.length+1) hcap') ps (b||!g) P2 [] W4 HWA4 hl (by have:=HF.out;rw[List.length_nil];omega));have HW4:=hid hW4;clear hne x1 x2 x3 hS hS2 hS3 hgu hnp hfz hc3 hW4 hu4 hR4 hu23 hu24 hown3 hgrow hnew;go_wp2_with fail;rw[HW4.out];refine HPUT.out.mono ?_;intro e w5 hpost;have HFIN:=hid (wh_lift HV4.out HDIS4.out hpost);obtain ⟨rfl,_⟩:=hpost;go_wp2_with fail
  go_end0
  obtain ⟨f1,f2,P5,f3,f4⟩:=HFIN.out;have hs12:=HU1.out.size;have hs22:=HU2.out.size
  have hup:Upd (fun k=>P0 k∨(Value.slice ho hs.length hcap).ownBlock=some k) w W4:=((HU1.out.mono fun k _ e => .inl (by have e:k=p:=e;subst e;exact HP0.out)).trans (HU2.out.mono fun k _ h => .inl h)).trans' HU24.out (fun k hk e=>by
    rcases e with e|e
    · subst e;exact .inl HP0.out
    · exact .inr e)
  refine ⟨rfl,hup.trans' f2 (fun k hk hp=>?_),P5,f3,fun k hk=>?_⟩
  · rcases hp with hp|hp
    · rcases HP2.out k hp with h|h
      · exact .inl h
      · omega
    · rcases HNEW.out k hp with h|h
      · exact .inr h
      · omega
  · rcases f4 k hk with h|h
    · rcases h with h|h
      · rcases HP2.out k h with h|h
        · exact .inl (.inl h)
        · exact .inr (by omega)
      · rcases HNEW.out k h with h|h
        · exact .inl (.inr h)
        · exact .inr (by omega)
    · exact .inr (by have:=hup.size;omega)
theorem put_m (n:Nat)(w:World)(hn:n<2^64):Calls Tryz.prog 69 #[.int .u64 n] w fun e w'=>e = .returned (.string ⟨(vput n).toArray⟩)∧Below w.heap.size w w':=put_any n w (put_start hn)
theorem own_cut {w:World}{base:Nat}{e:TypeId}{size n cap:Nat}{lo:Option Addr}{xs ys:List Value}(h:w.ownsRow base e size (.slice lo (n+1) cap) (n+1) (xs++ys))(hx:xs.length=n * size):w.ownsRow base e size (.slice lo n cap) n xs:=by
  obtain ⟨_,⟨h1,h2⟩|⟨g,cap',cur,h1,h2,h3,h4,h5,h6,h7⟩⟩:=h
  · omega
  · simp only[Value.slice.injEq] at h1
    obtain ⟨rfl,_,rfl⟩:=h1;refine ⟨hx,.inr ⟨g,cap,cur,rfl,h2,h3,by omega,h5,h6,?_⟩⟩;have e:n * size≤(n+1) * size:=Nat.mul_le_mul_right _ (by omega);have:cur.toList.take (n * size)=(cur.toList.take ((n+1) * size)).take (n * size):=by rw[List.take_take,Nat.min_eq_left e]
    rw[this,h7,←hx]
    simp
def whead (num n:Nat):List UInt8:=wtag (num:Int) 2++vput n
theorem flatten_set {ps:List (List UInt8)}{i:Nat}{t:List UInt8}(h:ps[i]? = some []):(ps.set i t).flatten.length=ps.flatten.length+t.length:=by
  induction ps generalizing i with
  | nil=>simp at h
  | cons x xs ih =>
    cases i with
    | zero =>
      simp only[List.getElem?_cons_zero,Option.some.injEq] at h
      subst h
      simp[Nat.add_comm]
    | succ i =>
      simp only[List.getElem?_cons_succ] at h
      have:=ih h
      simp only[List.set_cons_succ,List.flatten_cons,List.length_append]
      omega
theorem hcells_len (hs:List Hole):(hs.flatMap hcells).length=hs.length * 3:=by
  induction hs with
  | nil=>rfl
  | cons x xs ih=>rw[List.flatMap_cons,List.length_append,ih,List.length_cons];simp[hcells];omega
theorem vput_le10 (n:Nat):(vput n).length≤10:=(vput_length n).2
def CSD (p:Nat)(d:Int)(vp:Value)(L:Nat)(vo ev:Value)(g:Nat)(x:Hole)(w:World):Prop:=WRow p d vp L vo ev w∧w.heap[g]? = some (.cells #[.int .i64 x.num,.int .i64 x.part,.int .i64 x.size] 272 (0,0))
theorem wclose_any (p:Nat) (d:Int) (ps:List (List UInt8)) (hs:List Hole) (x:Hole) (b:Bool) (P:Nat→Prop) (w:World) (d1:Int) (h:Hid (WrH p d ps (hs++[x]) b P w)) (hd:IntKind.i64.wrap (d+1)=d1) (hl:ps.length≤1000000) (hh:hs.length≤1000000) (hf:ps.flatten.length≤10000000)
    (hok:Hid (b=false→x.part<ps.length∧ps[x.part]? = some []∧x.size≤ps.flatten.length∧1≤x.num∧x.num≤536870911)) :
    Calls Tryz.prog 180 #[.pointer (some ⟨p,0,none⟩)] w (WopPost p d1 (if b then ps else ps.set x.part (whead x.num (ps.flatten.length - x.size))) hs b P w):=by
  obtain ⟨vo,P0,hw,hv,hdis,rfl⟩:=h.out;rw[List.length_append,List.flatMap_append] at hv;have HN:=hid (wr_not hw);obtain ⟨vp,ev,h1,h2,h3,hP0⟩:=hw;have hpw:=row_lt h1;obtain ⟨gh,hcap,hvo,hg1,hg2,_,_⟩:=own_some hv (by simp);subst hvo
  simp only[List.length_singleton] at hv
  have HV:=hid hv;have q1:IntKind.i64.wrap ((hs.length:Int)+1 - 1)=hs.length:=by rw[IntWalk.i64_in _ (by omega)];omega
  have q2:=hd;have hc3:w.cell? ⟨p,3,none⟩=some (.slice (some ⟨gh,0,none⟩) (hs.length+1) hcap):=row_cell h1 (j:=3) rfl;have hx0:w.cell? ⟨gh,hs.length * 3,none⟩=some (.int .i64 x.num):=by rw[hv.cellAt (hs.length * 3) (by omega),List.getElem?_append_right (by rw[hcells_len];omega),hcells_len];simp[hcells]
  have hx1:w.cell? ⟨gh,hs.length * 3+1,none⟩=some (.int .i64 x.part):=by rw[hv.cellAt (hs.length * 3+1) (by omega),List.getElem?_append_right (by rw[hcells_len];omega),hcells_len,show hs.length * 3+1 - hs.length * 3=1 by omega];simp[hcells]
  have hx2:w.cell? ⟨gh,hs.length * 3+2,none⟩=some (.int .i64 x.size):=by rw[hv.cellAt (hs.length * 3+2) (by omega),List.getElem?_append_right (by rw[hcells_len];omega),hcells_len,show hs.length * 3+2 - hs.length * 3=2 by omega];simp[hcells]
  obtain ⟨W1,hW1⟩:∃ W,w.alloc (.cells #[.int .i64 x.num,.int .i64 x.part,.int .i64 x.size] 272)=W:=⟨_,rfl⟩
  have HB1:Hid (Below w.heap.size w W1):=hid (by rw[←hW1];exact below_new _ _);have HX1:Hid (W1.heap[w.heap.size]? = some (.cells #[.int .i64 x.num,.int .i64 x.part,.int .i64 x.size] 272 (0,0))):=hid (by rw[←hW1];exact heap_alloc_new w _);have HR1:=hid ((HB1.out.block _ hpw).trans h1);have k3:W1.cell? ⟨p,3,none⟩=some (.slice (some ⟨gh,0,none⟩) (hs.length+1) hcap):=row_cell HR1.out (j:=3) rfl;have kf3:W1.frozen? ⟨p,3,none⟩=false:=row_thaw HR1.out 3;obtain ⟨W2,hW2⟩:∃ W,W1.setCell ⟨p,3,none⟩ (.slice (some ⟨gh,0,none⟩) hs.length hcap)=W:=⟨_,rfl⟩
  have HR2:Hid (W2.heap[p]? = some (.cells #[.int .i64 d,vp,.int .i64 ps.flatten.length,.slice (some ⟨gh,0,none⟩) hs.length hcap,ev] 167 (0,0))):=hid (by rw[←hW2];exact row_set HR1.out 3 _);have k0:W2.cell? ⟨p,0,none⟩=some (.int .i64 d):=row_cell HR2.out (j:=0) rfl;have kf0:W2.frozen? ⟨p,0,none⟩=false:=row_thaw HR2.out 0;have H1:=hid h1;have H2:=hid h2;have H3:=hid h3;have HPE:=hid hP0;have HDIS:=hid hdis;have HD:=hid hd;have HF:=hid hf;have HW1:=hid hW1;have HW2:=hid hW2;obtain ⟨W3,hW3⟩:∃ W,W2.setCell ⟨p,0,none⟩ (.int .i64 d1)=W:=⟨_,rfl⟩
  have HR3:Hid (W3.heap[p]? = some (.cells #[.int .i64 d1,vp,.int .i64 ps.flatten.length,.slice (some ⟨gh,0,none⟩) hs.length hcap,ev] 167 (0,0))):=hid (by rw[←hW3];exact row_set HR2.out 0 _);have HU3:Hid (Upd (fun k=>k=p) w W3):=hid ((Upd.of_new HB1.out).trans ((by rw[←hW2];exact Upd.set W1 ⟨p,3,none⟩ (.slice (some ⟨gh,0,none⟩) hs.length hcap):Upd (fun k=>k=p) W1 W2).trans (by rw[←hW3];exact Upd.set W2 ⟨p,0,none⟩ (.int .i64 d1))))
  have HX3:Hid (W3.heap[w.heap.size]? = some (.cells #[.int .i64 x.num,.int .i64 x.part,.int .i64 x.size] 272 (0,0))):=hid (by
    have hu:Upd (fun k=>k=p) W1 W3:=(by rw[←hW2];exact Upd.set W1 ⟨p,3,none⟩ (.slice (some ⟨gh,0,none⟩) hs.length hcap):Upd (fun k=>k=p) W1 W2).trans (by rw[←hW3];exact Upd.set W2 ⟨p,0,none⟩ (.int .i64 d1));exact (hu.block _ (row_lt HX1.out) (by omega)).trans HX1.out)
  have HW3:=hid hW3;clear h1 h2 h3 hP0 hdis hW1 hW2 hW3 hv hd hf;have HV3:Hid (W3.ownsRow (p+1) 272 3 (.slice (some ⟨gh,0,none⟩) hs.length hcap) hs.length (hs.flatMap hcells)):=hid (own_cut (HU3.out.own HV.out (fun k hk e=>by have e:k=p:=e;have:=(HV.out.lt k hk).1;omega)) (hcells_len hs));have HP2:Hid (W3.ownsRow (p+1) 9 1 vp ps.length (ps.map strV)):=hid (HU3.out.own H2.out (fun k hk e=>by have e:k=p:=e;have:=(H2.out.lt k hk).1;omega));have HE3:Hid (EV8 b W3 ev):=hid (H3.out.upd HU3.out (fun k hk=>by have e:k=p:=hk;subst e;exact HN.out k (by rw[HPE.out];exact .inl rfl)))
  cases b with
  | true =>
    obtain ⟨T',y',rfl⟩:=HE3.out.yes.iface;have k4:W3.cell? ⟨p,4,none⟩=some (.iface T' y'):=row_cell HR3.out (j:=4) rfl;go_enter Tryz.func180,Tryz.ntmps180;go_upto_region 2 with fail
    rw[HW1.out];go_upto_region 3 with fail
    rw[HW2.out];go_upto_region 4 with fail
    rw[HW3.out];go_wp2_with fail
    go_end0
    refine ⟨rfl,HU3.out.mono (fun k _ e => .inl (by have e:k=p:=e;subst e;rw[HPE.out];exact .inl rfl)),_,⟨_,P0,⟨vp,.iface T' y',HR3.out,HP2.out,HE3.out,HPE.out⟩,HV3.out,HDIS.out,rfl⟩,fun k hk => .inl hk⟩
  | false =>
    obtain rfl:=HE3.out.no;have k4:W3.cell? ⟨p,4,none⟩=some .nilIface:=row_cell HR3.out (j:=4) rfl;obtain ⟨ho1,ho2,ho3,ho4,ho5⟩:=hok.out rfl;obtain ⟨L,hL⟩:∃ L,ps.flatten.length=L:=⟨_,rfl⟩
    rw[hL] at HR3 ho3 HF ⊢;have HL:=hid hL;clear hL;go_enter Tryz.func180,Tryz.ntmps180;go_upto_region 2 with fail
    rw[HW1.out];go_upto_region 3 with fail
    rw[HW2.out];go_upto_region 4 with fail
    rw[HW3.out];obtain ⟨gp,pcap,hvp,hgp1,hgp2,_,_⟩:=own_some HP2.out (by omega);subst hvp;obtain ⟨N,hN⟩:∃ N,L - x.size=N:=⟨_,rfl⟩
    have HNN:=hid hN;have hNL:N≤10000000:=by have:=HF.out;omega
    have q3:IntKind.i64.wrap ((L:Int) - (x.size:Int))=(N:Int):=by have:=HF.out;rw[IntWalk.i64_in _ (by omega)];omega
    have q4:IntKind.u64.wrap (N:Int)=(N:Int):=IntWalk.u64_in _ (by omega);have HTAG:=hid (fun w'=>tag_any (x.num:Int) 2 w' (by omega) (by omega) (by omega) (by omega));have HPUT:=hid (fun w'=>put_m N w' (by omega));have HTL:=hid (wtag_len (x.num:Int) 2);have HVL:=hid (vput_le10 N);have HNUM:=hid ho4;have HPT:=hid ho2;clear hN ho2 ho4 ho5 k3 kf3 k0 kf0 hc3 hx0 hx1 hx2 q1;go_wp2_with fail;obtain ⟨D,hD⟩:∃ D,W3.drew=D:=⟨_,rfl⟩
    have HBD:Hid (Below W3.heap.size W3 D):=hid (by rw[←hD];exact (Below.refl _ _).drew);have hS:CSD p d1 (.slice (some ⟨gp,0,none⟩) ps.length pcap) L (.slice (some ⟨gh,0,none⟩) hs.length hcap) .nilIface w.heap.size x D:=⟨(HBD.out.block _ (row_lt HR3.out)).trans HR3.out,(HBD.out.block _ (row_lt HX3.out)).trans HX3.out⟩
    have hne:Nonempty { w':World // CSD p d1 (.slice (some ⟨gp,0,none⟩) ps.length pcap) L (.slice (some ⟨gh,0,none⟩) hs.length hcap) .nilIface w.heap.size x w' }:=⟨⟨_,hS⟩⟩
    have y2:∀ t:{ w':World // CSD p d1 (.slice (some ⟨gp,0,none⟩) ps.length pcap) L (.slice (some ⟨gh,0,none⟩) hs.length hcap) .nilIface w.heap.size x w' },t.1.cell? ⟨p,2,none⟩=some (.int .i64 L):=fun t=>row_cell t.2.1 (j:=2) rfl
    have z0:∀ t:{ w':World // CSD p d1 (.slice (some ⟨gp,0,none⟩) ps.length pcap) L (.slice (some ⟨gh,0,none⟩) hs.length hcap) .nilIface w.heap.size x w' },t.1.cell? ⟨w.heap.size,0,none⟩=some (.int .i64 x.num):=fun t=>row_cell t.2.2 (j:=0) rfl
    have z2:∀ t:{ w':World // CSD p d1 (.slice (some ⟨gp,0,none⟩) ps.length pcap) L (.slice (some ⟨gh,0,none⟩) hs.length hcap) .nilIface w.heap.size x w' },t.1.cell? ⟨w.heap.size,2,none⟩=some (.int .i64 x.size):=fun t=>row_cell t.2.2 (j:=2) rfl
    refine wp_region_seq (S:=fun w'=>CSD p d1 (.slice (some ⟨gp,0,none⟩) ps.length pcap) L (.slice (some ⟨gh,0,none⟩) hs.length hcap) .nilIface w.heap.size x w') [(0,true),(1,true),(3,true),(4,true),(5,true),(6,true),(7,true),(8,true),(9,true),(10,true),(2,false),(11,false),(12,true),(13,true)] (by kernel_rfl) (by kernel_rfl) (by kernel_rfl) (by kernel_rfl) (by rw[hD];exact hS) ?_;rw[hD];clear hD
    iterate 10 (refine seq_take _ rfl (fun K hK=>?_);go_simp;(first|refine hK _ ?_|refine ⟨_,fun _ _=>rfl,hK _ ?_⟩);clear hK K)
    refine seq_come _ rfl (fun K hK=>?_);go_simp;refine (HTAG.out D).mono ?_;rintro e w4 ⟨rfl,hb4⟩;have HB4:=hid (below_step HBD.out hb4);have hS4:CSD p d1 (.slice (some ⟨gp,0,none⟩) ps.length pcap) L (.slice (some ⟨gh,0,none⟩) hs.length hcap) .nilIface w.heap.size x w4:=⟨(HB4.out.block _ (row_lt HR3.out)).trans HR3.out,(HB4.out.block _ (row_lt HX3.out)).trans HX3.out⟩
    go_simp;refine hK.out _ _ hS4 ?_;clear hK K hb4;refine seq_come _ rfl (fun K hK=>?_);go_simp;refine (HPUT.out w4).mono ?_;rintro e w5 ⟨rfl,hb5⟩;have HB5:=hid (below_step HB4.out hb5);have hS5:CSD p d1 (.slice (some ⟨gp,0,none⟩) ps.length pcap) L (.slice (some ⟨gh,0,none⟩) hs.length hcap) .nilIface w.heap.size x w5:=⟨(HB5.out.block _ (row_lt HR3.out)).trans HR3.out,(HB5.out.block _ (row_lt HX3.out)).trans HX3.out⟩
    obtain ⟨TA,hTA⟩:∃ X:ByteArray,(⟨(wtag (x.num:Int) 2).toArray⟩:ByteArray)=X:=⟨_,rfl⟩
    obtain ⟨VA,hVA⟩:∃ X:ByteArray,(⟨(vput N).toArray⟩:ByteArray)=X:=⟨_,rfl⟩
    rw[hTA,hVA];have hts:TA.size=(wtag (x.num:Int) 2).length:=by rw[←hTA];simp[ByteArray.size]
    have hvs:VA.size=(vput N).length:=by rw[←hVA];simp[ByteArray.size]
    have hsz:¬9223372036854775807<TA.size+VA.size:=by have:=HTL.out;have:=HVL.out;omega
    obtain ⟨HA,hHA⟩:∃ X:ByteArray,TA++VA=X:=⟨_,rfl⟩
    have HHD:Hid (HA.data.toList=whead x.num N):=hid (by rw[←hHA,ByteArray.data_append,Array.toList_append,←hTA,←hVA];rfl);have HHS:Hid (HA.size=(whead x.num N).length∧(whead x.num N).length≤20):=hid ⟨by rw[←HHD.out];simp,by unfold whead;rw[List.length_append];have:=HTL.out;have:=HVL.out;omega⟩;have HHE:Hid (strV (whead x.num N) = .string HA):=hid (by unfold strV;rw[←HHD.out]);clear hTA hVA hts hvs;go_simp;refine hK.out _ _ hS5 ?_;clear hK K hb5;refine seq_take _ rfl (fun K hK=>?_);go_simp
    (try rw[hHA])
    (first|refine hK _ ?_|refine ⟨.string HA,fun _ _=>rfl,hK _ ?_⟩)
    clear hK K
    iterate 1 (refine seq_take _ rfl (fun K hK=>?_);go_simp;(first|refine hK _ ?_|refine ⟨_,fun _ _=>rfl,hK _ ?_⟩);clear hK K)
    refine seq_done ?_;clear hHA hsz hne y2 z0 z2 hS hS4;have HU35:Hid (Upd (fun _=>False) W3 w5):=hid (Upd.of_new HB5.out);obtain ⟨D6,hD6⟩:∃ D,w5.drew=D:=⟨_,rfl⟩
    have HBD6:Hid (Below w5.heap.size w5 D6):=hid (by rw[←hD6];exact (Below.refl _ _).drew);have HU36:Hid (Upd (fun _=>False) W3 D6):=hid (HU35.out.trans (Upd.of_new HBD6.out));have hS6:CSD p d1 (.slice (some ⟨gp,0,none⟩) ps.length pcap) L (.slice (some ⟨gh,0,none⟩) hs.length hcap) .nilIface w.heap.size x D6:=⟨(HBD6.out.block _ (row_lt hS5.1)).trans hS5.1,(HBD6.out.block _ (row_lt hS5.2)).trans hS5.2⟩
    have HP6:Hid (D6.ownsRow (p+1) 9 1 (.slice (some ⟨gp,0,none⟩) ps.length pcap) ps.length (ps.map strV)):=hid (HU36.out.own HP2.out (fun _ _ h=>h));have hcell:D6.cell? ⟨gp,x.part,none⟩=some (strV []):=by rw[HP6.out.cellAt x.part (by simpa using ho1),List.getElem?_map,HPT.out];rfl
    have hfz:D6.frozen? ⟨gp,x.part,none⟩=false:=HP6.out.frozenAt _;have hne:Nonempty { w':World // CSD p d1 (.slice (some ⟨gp,0,none⟩) ps.length pcap) L (.slice (some ⟨gh,0,none⟩) hs.length hcap) .nilIface w.heap.size x w' }:=⟨⟨_,hS6⟩⟩
    have y1:∀ t:{ w':World // CSD p d1 (.slice (some ⟨gp,0,none⟩) ps.length pcap) L (.slice (some ⟨gh,0,none⟩) hs.length hcap) .nilIface w.heap.size x w' },t.1.cell? ⟨p,1,none⟩=some (.slice (some ⟨gp,0,none⟩) ps.length pcap):=fun t=>row_cell t.2.1 (j:=1) rfl
    have z1:∀ t:{ w':World // CSD p d1 (.slice (some ⟨gp,0,none⟩) ps.length pcap) L (.slice (some ⟨gh,0,none⟩) hs.length hcap) .nilIface w.heap.size x w' },t.1.cell? ⟨w.heap.size,1,none⟩=some (.int .i64 x.part):=fun t=>row_cell t.2.2 (j:=1) rfl
    unfold strV at hcell
    go_wp2_with fail;refine wp_region_seqB (fun w'=>CSD p d1 (.slice (some ⟨gp,0,none⟩) ps.length pcap) L (.slice (some ⟨gh,0,none⟩) hs.length hcap) .nilIface w.heap.size x w') [8] [(0,true),(1,true),(2,true),(3,true),(4,true),(5,true),(6,true),(7,true),(8,false)] (by kernel_rfl) (by kernel_rfl) (by kernel_rfl) (by kernel_rfl) ?_;rw[hD6];clear hD6
    iterate 8 (refine seqB_take _ rfl hS6 (fun K hK=>?_);go_simp;(first|refine hK _ ?_|refine ⟨_,fun _ _=>rfl,hK _ ?_⟩|refine ⟨.pointer (some ⟨gp,x.part,none⟩),fun _ _=>if_pos (by omega),hK _ ?_⟩);clear hK K)
    refine seqB_come _ rfl (fun K hK=>?_);go_simp;refine hK.out _ _ (fun h=>by cases h) ?_;clear hK K;refine seqB_done ?_;obtain ⟨W7,hW7⟩:∃ W,D6.setCell ⟨gp,x.part,none⟩ (.string HA)=W:=⟨_,rfl⟩
    have HW7:=hid hW7;have hu7:Upd (fun k=>k=gp) D6 W7:=by rw[←hW7];exact Upd.set D6 ⟨gp,x.part,none⟩ (.string HA)
    have hgpp:gp≠p:=by omega
    have HR7:Hid (W7.heap[p]? = some (.cells #[.int .i64 d1,.slice (some ⟨gp,0,none⟩) ps.length pcap,.int .i64 L,.slice (some ⟨gh,0,none⟩) hs.length hcap,.nilIface] 167 (0,0))):=hid ((hu7.block _ (row_lt hS6.1) (fun e=>hgpp e.symm)).trans hS6.1);have HP7:Hid (W7.ownsRow (p+1) 9 1 (.slice (some ⟨gp,0,none⟩) ps.length pcap) ps.length ((ps.map strV).set x.part (.string HA))):=hid (by rw[←hW7];exact (HP6.out.stored x.part (.string HA)).1);have HU7:=hid hu7;have m2:W7.cell? ⟨p,2,none⟩=some (.int .i64 L):=row_cell HR7.out (j:=2) rfl;have mf2:W7.frozen? ⟨p,2,none⟩=false:=row_thaw HR7.out 2;have q5:IntKind.i64.wrap ((L:Int)+(HA.size:Int))=(L:Int)+(HA.size:Int):=IntWalk.i64_in _ (by have:=HF.out;have:=HHS.out;omega);have HSX:=hid (row_lt hS6.1);clear hW7 hu7 hne y1 z1 hS5 hS6 hcell hfz;go_upto_region 7 with fail
    rw[HW7.out];go_wp2_with fail
    go_end0
    have hu8:=Upd.set W7 ⟨p,2,none⟩ (.int .i64 ((L:Int)+(HA.size:Int)))
    have hfin:Upd (fun k=>P0 k) w (W7.setCell ⟨p,2,none⟩ (.int .i64 ((L:Int)+(HA.size:Int)))):=by
      have e1:Upd (fun k=>P0 k) w W3:=HU3.out.mono (fun k _ e=>by have e:k=p:=e;subst e;rw[HPE.out];exact .inl rfl);have e2:Upd (fun k=>P0 k) W3 D6:=HU36.out.mono (fun k _ e=>e.elim);have e3:Upd (fun k=>P0 k) D6 W7:=HU7.out.mono (fun k _ e=>by have e:k=gp:=e;subst e;rw[HPE.out];exact .inr rfl);have e4:Upd (fun k=>P0 k) W7 (W7.setCell ⟨p,2,none⟩ (.int .i64 ((L:Int)+(HA.size:Int)))):=hu8.mono (fun k _ e=>by have e:k=p:=e;subst e;rw[HPE.out];exact .inl rfl);exact ((e1.trans e2).trans e3).trans e4
    refine ⟨rfl,hfin.mono (fun k _ e => .inl e),_,⟨.slice (some ⟨gh,0,none⟩) hs.length hcap,P0,⟨.slice (some ⟨gp,0,none⟩) ps.length pcap,.nilIface,?_,?_,rfl,HPE.out⟩,?_,HDIS.out,rfl⟩,fun k hk => .inl hk⟩
    · have e:(((ps.set x.part (whead x.num (L - x.size))).flatten.length:Nat):Int)=(L:Int)+(HA.size:Int):=by rw[flatten_set HPT.out,HL.out,HNN.out,HHS.out.1];simp
      refine (row_set HR7.out 2 _).trans ?_
      show _=some (Obj.cells #[Value.int .i64 d1,_,Value.int .i64 (((ps.set x.part (whead x.num (L - x.size))).flatten.length:Nat):Int),_,Value.nilIface] _ (0,0))
      rw[e]
      rfl
    · have h9:=hu8.own HP7.out (fun k hk e=>by have e:k=p:=e;have:=(HP7.out.lt k hk).1;omega)
      show World.ownsRow _ _ _ _ _ (ps.set x.part (whead x.num (L - x.size))).length ((ps.set x.part (whead x.num (L - x.size))).map strV)
      rw[List.length_set,List.map_set,HNN.out,HHE.out];exact h9
    · have e3:Upd (fun k=>P0 k) W3 (W7.setCell ⟨p,2,none⟩ (.int .i64 ((L:Int)+(HA.size:Int)))):=((HU36.out.mono (fun k _ e=>e.elim)).trans (HU7.out.mono (fun k _ e=>by have e:k=gp:=e;subst e;rw[HPE.out];exact .inr rfl))).trans (hu8.mono (fun k _ e=>by have e:k=p:=e;subst e;rw[HPE.out];exact .inl rfl))
      exact e3.own HV3.out HDIS.out
open Go.RowKit
def WvPost (p:Nat)(d:Int)(ps:List (List UInt8))(hs:List Hole)(b:Bool)(P:Nat→Prop)(w:World)(may:Bool)(t:List UInt8)(nl nf:Nat)(e:Ending)(w':World):Prop :=
  ∃ qs,WopPost p d (ps++qs) hs (b||!may) P w e w'∧((b||!may)=false→qs.flatten=t)∧qs.length≤nl∧qs.flatten.length≤nf
structure WSo (p:Nat) (d:Int) (ps:List (List UInt8)) (hs:List Hole) (b:Bool) (P:Nat→Prop) (w:World) (may:Bool) (t:List UInt8) (nl nf:Nat) (qs:List (List UInt8)) (P1:Nat→Prop) (w1:World):Prop where
  upd:Upd P w w1
  wr:WrH p d (ps++qs) hs (b||!may) P1 w1
  new:∀ k,P1 k→P k∨w.heap.size≤k
  bytes:(b||!may)=false→qs.flatten=t
  len:qs.length≤nl
  size:qs.flatten.length≤nf
section
variable {p:Nat} {d:Int} {ps:List (List UInt8)} {hs:List Hole} {b:Bool} {P:Nat→Prop} {w:World}
theorem WSo.start (h:WrH p d ps hs b P w):WSo p d ps hs b P w true [] 0 0 [] P w:=⟨Upd.refl _ _,by simpa using h,fun _ h => .inl h,fun _=>rfl,by simp,by simp⟩
theorem WSo.below {may:Bool}{t:List UInt8}{nl nf:Nat}{qs:List (List UInt8)}{P1:Nat→Prop}{w1 w2:World}(h:WSo p d ps hs b P w may t nl nf qs P1 w1)(hb:Below w1.heap.size w1 w2):WSo p d ps hs b P w may t nl nf qs P1 w2 :=
  ⟨h.upd.trans (Upd.of_new hb),wh_below h.wr hb,h.new,h.bytes,h.len,h.size⟩
theorem WSo.next {may m2:Bool}{t t2:List UInt8}{nl nf l2 f2:Nat}{qs:List (List UInt8)}{P1:Nat→Prop}{w1 w2:World}{e:Ending}(h:WSo p d ps hs b P w may t nl nf qs P1 w1)(g:WvPost p d (ps++qs) hs (b||!may) P1 w1 m2 t2 l2 f2 e w2) :
    ∃ qs2 P2,e = .returned (.tuple #[])∧WSo p d ps hs b P w (may&&m2) (t++t2) (nl+l2) (nf+f2) (qs++qs2) P2 w2:=by
  obtain ⟨qs2,⟨g1,g2,P2,g3,g4⟩,g5,g6,g7⟩:=g;have hb:(b||!may||!m2)=(b||!(may&&m2)):=by cases b<;>cases may<;>cases m2<;>rfl
  rw[hb] at g3 g5;refine ⟨qs2,P2,g1,h.upd.trans' g2 (fun k hk hp=>?_),by rw[←List.append_assoc];exact g3,fun k hk=>?_,fun hf=>?_,?_,?_⟩
  · rcases h.new k hp with h|h
    · exact h
    · omega
  · rcases g4 k hk with h'|h'
    · exact h.new k h'
    · exact .inr (by have:=h.upd.size;omega)
  · have h1:(b||!may)=false:=by revert hf;cases b<;>cases may<;>simp
    rw[List.flatten_append,h.bytes h1,g5 hf]
  · rw[List.length_append];have:=h.len;omega
  · rw[List.flatten_append,List.length_append];have:=h.size;omega
theorem WSo.done {may:Bool}{t:List UInt8}{nl nf:Nat}{qs:List (List UInt8)}{P1:Nat→Prop}{w1:World}(h:WSo p d ps hs b P w may t nl nf qs P1 w1):WvPost p d ps hs b P w may t nl nf (.returned (.tuple #[])) w1 :=
  ⟨qs,⟨rfl,h.upd,P1,h.wr,h.new⟩,h.bytes,h.len,h.size⟩
theorem WvPost.le {may:Bool}{t:List UInt8}{nl nf l2 f2:Nat}{e:Ending}{w':World}(h:WvPost p d ps hs b P w may t nl nf e w')(h1:nl≤l2)(h2:nf≤f2):WvPost p d ps hs b P w may t l2 f2 e w':=by
  obtain ⟨qs,g1,g2,g3,g4⟩:=h;exact ⟨qs,g1,g2,by omega,by omega⟩
theorem WvPost.below {may:Bool}{t:List UInt8}{nl nf:Nat}{e:Ending}{w1 w':World}(hb:Below w.heap.size w w1)(h:WvPost p d ps hs b P w1 may t nl nf e w'):WvPost p d ps hs b P w may t nl nf e w':=by
  obtain ⟨qs,g1,g2,g3,g4⟩:=h;exact ⟨qs,g1.below hb,g2,g3,g4⟩
theorem WvPost.unit {may:Bool}{t:List UInt8}{nl nf:Nat}{e:Ending}{w':World}(h:WvPost p d ps hs b P w may t nl nf e w'):e = .returned (.tuple #[]):=by
  obtain ⟨qs,g1,_⟩:=h;exact g1.1
theorem wv_lift {F:FuncId}{args:Array Value}{g:Bool}{ts:List (List UInt8)}(h:WrH p d ps hs b P w)(hc:∀ vo P0,WrAt p d vo ps b P0 w→Calls Tryz.prog F args w (WrPost p d vo (wps (b||!g) ps ts) (b||!g) P0 w)):Calls Tryz.prog F args w (WvPost p d ps hs b P w g ts.flatten ts.length ts.flatten.length):=by
  obtain ⟨vo,P0,h1,h2,h3,rfl⟩:=h;refine (hc vo P0 h1).mono ?_;intro e w' hpost;have hl:=wh_lift h2 h3 hpost
  cases hb:(b||!g) with
  | true =>
    rw[hb] at hl;exact ⟨[],by rw[List.append_nil,hb];exact hl,(fun h=>by rw[hb] at h;cases h),by simp,by simp⟩
  | false =>
    rw[hb] at hl;exact ⟨ts,by rw[hb];exact hl,fun _=>rfl,Nat.le_refl _,Nat.le_refl _⟩
theorem wv_ask (g:Bool)(h:WrH p d ps hs b P w):Calls Tryz.prog 101 #[.pointer (some ⟨p,0,none⟩),.bool g] w (WvPost p d ps hs b P w g [] 0 0):=by
  refine wv_lift (ts:=[]) h (fun vo P0 h1=>?_);rw[wps_nil];exact wask_any p d vo ps b P0 g w (hid h1)
theorem wv_put (t:List UInt8)(h:WrH p d ps hs b P w)(hl:ps.length≤1000000)(hf:ps.flatten.length+t.length≤100000000):Calls Tryz.prog 104 #[.pointer (some ⟨p,0,none⟩),strV t] w (WvPost p d ps hs b P w true t 1 t.length):=by
  have:=wv_lift (F:=104) (args:=#[.pointer (some ⟨p,0,none⟩),strV t]) (g:=true) (ts:=[t]) h (fun vo P0 h1=>by simpa using wput_any p d vo ps b P0 t w (hid h1) hl hf)
  simpa using this
theorem wv_rest (X:ByteArray) (u:List UInt8) (tk:Rec→Bool) (FT:Nat) (h:WrH p d ps hs b P w) (hX:X=⟨u.toArray⟩) (hu:u.length≤1000000) (hl:ps.length≤1000000) (hf:ps.flatten.length≤10000000)
    (hET:∀ args w,(callFunc FT args).run Tryz.prog w = .ok (.enter FT args) w)
    (hT:∀ (r:Rec) (w:World),Calls Tryz.prog FT #[.int .i64 r.num,.int .i64 r.ty] w fun e w'=>e = .returned (.bool (tk r))∧w=w') :
    Calls Tryz.prog 59 #[.pointer (some ⟨p,0,none⟩),.string X,.func (.func FT) #[] #[]] w (WvPost p d ps hs b P w (munkOk tk u d) u 1 u.length):=by
  have:=wv_lift (F:=59) (args:=#[.pointer (some ⟨p,0,none⟩),.string X,.func (.func FT) #[] #[]]) (g:=munkOk tk u d) (ts:=[u]) h (fun vo P0 h1=>wrest_any p d vo ps b P0 X u tk FT w (hid h1) (hid hX) hu hl hf hET hT (hid rfl))
  simpa using this
end
open Go.RowKit
theorem ec_in8 {w:World}{n:Int}{v:Value}{c:Nat}(h:EC w v c):EC (w.alloc (.cells #[.int .i64 n,v] 133)) (.iface 131 (.pointer (some ⟨w.heap.size,0,none⟩))) c:=by
  obtain ⟨ws,h⟩:=h;exact ⟨(false,n)::ws,w.heap.size,v,rfl,by simp,heap_alloc_new w _,isErr_below ((Below.refl _ _).alloc (Nat.le_refl _) _) h⟩
theorem waskt_any (p:Nat)(d:Int)(vo:Value)(ps:List (List UInt8))(b:Bool)(P:Nat→Prop)(num:Int)(X:ByteArray)(t:List UInt8)(w:World)(h:Hid (WrAt p d vo ps b P w))(hX:Hid (X.data.toList=t))(ht:t.length≤1000000) :
    Calls Tryz.prog 178 #[.pointer (some ⟨p,0,none⟩),.int .i64 num,.string X] w (WrPost p d vo ps (b||!uvalid t) P w):=by
  have hXs:X.size=t.length:=by rw[←hX.out];simp
  have HV:=hid (valid_any X w (by omega))
  cases hv:uvalid t with
  | true =>
    have HE:Hid (uvalid X.data.toList=true):=hid (by rw[hX.out,hv]);clear hXs hv;go_enter Tryz.func178,Tryz.ntmps178;go_wp2_with fail;refine HV.out.mono ?_;rintro e w1 ⟨rfl,rfl⟩;rw[HE.out];go_wp2_with fail
    go_end0
    have:=wr_same h.out
    simpa using this
  | false =>
    have HE:Hid (uvalid X.data.toList=false):=hid (by rw[hX.out,hv]);clear hXs hv;go_enter Tryz.func178,Tryz.ntmps178;go_wp2_with fail;refine HV.out.mono ?_;rintro e w1 ⟨rfl,rfl⟩;rw[HE.out];go_wp2_with fail;refine (in_any num _ _ w).mono ?_;rintro e w1 ⟨rfl,rfl⟩;obtain ⟨y,hy⟩:∃ y,(Value.iface 131 (.pointer (some ⟨w.heap.size,0,none⟩)))=y:=⟨_,rfl⟩
    have HEC:=hid (ec_in8 (n:=num) (show EC w (.iface 49 (.int .i64 8)) 8 from ⟨[],rfl⟩));have HB1:=hid (below_new w (.cells #[.int .i64 num,.iface 49 (.int .i64 8)] 133));have HW1:=hid (wr_below h.out HB1.out);clear hy;go_wp2_with fail;refine (wfail_any p d vo ps b P _ _ _ HW1 HEC).mono ?_;intro e w2 hpost;obtain ⟨rfl,hu,P',hw,hp⟩:=hpost;have HU:=hid hu;have HW:=hid hw;have HP:=hid hp;clear hu hw hp;go_wp2_with fail
    go_end0
    rw[show (b||!false)=true by simp];refine ⟨rfl,(Upd.of_new HB1.out).trans HU.out,P',HW.out,fun k hk=>?_⟩
    rcases HP.out k hk with h|h
    · exact .inl h
    · exact .inr (Nat.le_trans HB1.out.size h)
theorem wtext_any (p:Nat)(d:Int)(vo:Value)(ps:List (List UInt8))(b:Bool)(P:Nat→Prop)(num:Nat)(X:ByteArray)(t:List UInt8)(w:World)(h:Hid (WrAt p d vo ps b P w))(hX:Hid (X.data.toList=t))(h2:num≤536870911)(ht:t.length≤1000000)(hl:ps.length≤1000000)(hf:ps.flatten.length≤10000000) :
    Calls Tryz.prog 147 #[.pointer (some ⟨p,0,none⟩),.int .i64 num,.string X] w (WrPost p d vo (wps (b||!uvalid t) ps (wbytesP num t)) (b||!uvalid t) P w):=by
  have HA:=hid (waskt_any p d vo ps b P num X t w h hX ht);have HBY:=hid (fun P' w' (h':WrAt p d vo ps (b||!uvalid t) P' w')=>wmbytes_any p d vo ps (b||!uvalid t) P' num X t w' (hid h') hX h2 ht hl hf);clear h2 ht hl hf;go_enter Tryz.func147,Tryz.ntmps147;go_wp2_with fail;refine HA.out.mono ?_;intro e w1 hpost;have HP1:=hid hpost;obtain ⟨rfl,hu,P',hw,hp⟩:=hpost;have HW:=hid hw;have HU:=hid hu;have HPP:=hid hp;clear hu hw hp;go_wp2_with fail;refine (HBY.out P' w1 HW.out).mono ?_;intro e w2 hpost;obtain ⟨rfl,hu,P'',hw,hp⟩:=hpost;have HW2:=hid hw;have HU2:=hid hu;have HPP2:=hid hp;clear hu hw hp;go_wp2_with fail
  go_end0
  refine ⟨rfl,HU.out.trans' HU2.out (fun k hk hp=>?_),P'',HW2.out,fun k hk=>?_⟩
  · rcases HPP.out k hp with h|h
    · exact h
    · omega
  · rcases HPP2.out k hk with h|h
    · exact HPP.out k h
    · exact .inr (Nat.le_trans HU.out.size h)
section
variable {p:Nat} {d:Int} {ps:List (List UInt8)} {hs:List Hole} {b:Bool} {P:Nat→Prop} {w:World}
theorem wv_askt (num:Int)(X:ByteArray)(t:List UInt8)(h:WrH p d ps hs b P w)(hX:X.data.toList=t)(ht:t.length≤1000000):Calls Tryz.prog 178 #[.pointer (some ⟨p,0,none⟩),.int .i64 num,.string X] w (WvPost p d ps hs b P w (uvalid t) [] 0 0):=by
  refine wv_lift (ts:=[]) h (fun vo P0 h1=>?_);rw[wps_nil];exact waskt_any p d vo ps b P0 num X t w (hid h1) (hid hX) ht
theorem wv_text (num:Nat)(X:ByteArray)(t:List UInt8)(h:WrH p d ps hs b P w)(hX:X.data.toList=t)(h2:num≤536870911)(ht:t.length≤1000000)(hl:ps.length≤1000000)(hf:ps.flatten.length≤10000000):Calls Tryz.prog 147 #[.pointer (some ⟨p,0,none⟩),.int .i64 num,.string X] w (WvPost p d ps hs b P w (uvalid t) (wbytesP num t).flatten (wbytesP num t).length (wbytesP num t).flatten.length) :=
  wv_lift (ts:=wbytesP num t) h (fun vo P0 h1=>wtext_any p d vo ps b P0 num X t w (hid h1) (hid hX) h2 ht hl hf)
theorem wv_inner {num:Nat} {d1:Int} {may:Bool} {t:List UInt8} {nl nf:Nat} {w1 w2 w3:World} {e3:Ending} {P1 P2:Nat→Prop} {qs:List (List UInt8)}
    (u1:Upd P w w1) (n1:∀ k,P1 k→P k∨w.heap.size≤k)
    (u2:Upd P1 w1 w2) (n2:∀ k,P2 k→P1 k∨w1.heap.size≤k) (hq:(b||!decide (0≤d1)||!may)=false→qs.flatten=t) (hl:qs.length≤nl) (hf:qs.flatten.length≤nf)
    (h3:WopPost p d (if (b||!decide (0≤d1)||!may) then wps (b||!decide (0≤d1)) ps [[]]++qs else (wps (b||!decide (0≤d1)) ps [[]]++qs).set ps.length (whead num ((wps (b||!decide (0≤d1)) ps [[]]++qs).flatten.length - ps.flatten.length))) hs (b||!decide (0≤d1)||!may) P2 w2 e3 w3) :
    WvPost p d ps hs b P w (decide (0≤d1)&&may) (whead num t.length++t) (nl+1) (nf+20) e3 w3:=by
  obtain ⟨g1,u3,P3,r3,n3⟩:=h3;have hb:(b||!decide (0≤d1)||!may)=(b||!(decide (0≤d1)&&may)):=by cases b<;>cases may<;>cases decide (0≤d1)<;>rfl
  have hup:Upd P w w3:=(u1.trans' u2 (fun k hk hp=>by
    rcases n1 k hp with h|h
    · exact h
    · omega)).trans' u3 (fun k hk hp=>by
    rcases n2 k hp with h|h
    · rcases n1 k h with h|h
      · exact h
      · omega
    · have:=u1.size;omega)
  have hnew:∀ k,P3 k→P k∨w.heap.size≤k:=fun k hk=>by
    have:=u1.size;have:=u2.size
    rcases n3 k hk with h|h
    · rcases n2 k h with h|h
      · exact n1 k h
      · exact .inr (by omega)
    · exact .inr (by omega)
  have hw:(whead num t.length).length≤20:=by unfold whead;rw[List.length_append];have:=wtag_len (num:Int) 2;have:=vput_le10 t.length;omega
  cases hbb:(b||!decide (0≤d1)||!may) with
  | true =>
    rw[hbb] at r3 hb
    simp only[if_true] at r3
    cases hb1:(b||!decide (0≤d1)) with
    | true =>
      rw[hb1] at r3;exact ⟨qs,⟨g1,hup,P3,by rw[←hb];exact r3,hnew⟩,(fun h=>by rw[←hb] at h;cases h),by omega,by omega⟩
    | false =>
      rw[hb1] at r3;refine ⟨[]::qs,⟨g1,hup,P3,by rw[←hb];simpa [wps] using r3,hnew⟩,(fun h=>by rw[←hb] at h;cases h),by simp;omega,by simpa using (by omega:qs.flatten.length≤nf+20)⟩
  | false =>
    rw[hbb] at r3 hb;have hb1:(b||!decide (0≤d1))=false:=by revert hbb;cases (b||!decide (0≤d1))<;>simp
    rw[hb1] at r3;have hq':=hq (by revert hbb;exact id)
    simp only[Bool.false_eq_true,if_false] at r3
    have e1:(wps false ps [[]]++qs).set ps.length (whead num ((wps false ps [[]]++qs).flatten.length - ps.flatten.length))=ps++(whead num t.length::qs):=by
      have e2:(wps false ps [[]]++qs).flatten.length - ps.flatten.length=t.length:=by
        unfold wps;rw[List.flatten_append,List.flatten_append,List.length_append,List.length_append,hq']
        simp
      rw[e2];unfold wps;rw[List.append_assoc,List.set_append_right _ _ (Nat.le_refl _),Nat.sub_self]
      rfl
    rw[e1] at r3;exact ⟨whead num t.length::qs,⟨g1,hup,P3,by rw[←hb];exact r3,hnew⟩,fun _=>by rw[List.flatten_cons,hq'],by simp;omega,by rw[List.flatten_cons,List.length_append];omega⟩
end
open Go.RowKit
theorem wh_upd {S:Nat→Prop}{p:Nat}{d:Int}{ps:List (List UInt8)}{hs:List Hole}{b:Bool}{P:Nat→Prop}{w w':World}(h:WrH p d ps hs b P w)(hu:Upd S w w')(hS:∀ k,S k→¬P k)(hn:∀ k,S k→∀ (c:Bool) (n:Int) (e:Value),w.heap[k]?≠some (.cells #[.int .i64 n,e] (wrapS c) (0,0))):WrH p d ps hs b P w':=by
  obtain ⟨vo,P0,⟨vp,ev,h1,h2,h3,rfl⟩,g1,g2,rfl⟩:=h;refine ⟨vo,_,⟨vp,ev,(hu.block p (row_lt h1) (fun hp=>hS p hp (.inl (.inl rfl)))).trans h1,hu.own h2 (fun k hk hs=>hS k hs (.inl (.inr hk))),h3.upd hu hn,rfl⟩,hu.own g1 (fun k hk hs=>hS k hs (.inr hk)),g2,rfl⟩
structure WSx (p:Nat) (d:Int) (ps:List (List UInt8)) (hs:List Hole) (b:Bool) (P:Nat→Prop) (w:World) (may:Bool) (t:List UInt8) (nl nf:Nat) (qs:List (List UInt8)) (P1:Nat→Prop) (bx:Nat) (X:Array Value) (T:TypeId) (w1:World):Prop where
  so:WSo p d ps hs b P w may t nl nf qs P1 w1
  out:¬P1 bx
  row:w1.heap[bx]? = some (.cells X T (0,0))
section
variable {p:Nat} {d:Int} {ps:List (List UInt8)} {hs:List Hole} {b:Bool} {P:Nat→Prop} {w:World} {bx:Nat} {X:Array Value} {T:TypeId}
theorem WSx.start {w1:World}(h:WrH p d ps hs b P w)(hb:Below w.heap.size w w1)(hr:w1.heap[bx]? = some (.cells X T (0,0)))(ho:¬P bx):WSx p d ps hs b P w true [] 0 0 [] P bx X T w1 :=
  ⟨(WSo.start h).below hb,ho,hr⟩
theorem wh_out (h:WrH p d ps hs b P w)(hg:w.heap.size≤bx):¬P bx:=fun hp=>by have:=(wh_lt h bx hp).2;omega
theorem WSx.below {may:Bool}{t:List UInt8}{nl nf:Nat}{qs:List (List UInt8)}{P1:Nat→Prop}{w1 w2:World}(h:WSx p d ps hs b P w may t nl nf qs P1 bx X T w1)(hb:Below w1.heap.size w1 w2):WSx p d ps hs b P w may t nl nf qs P1 bx X T w2 :=
  ⟨h.so.below hb,h.out,(hb.block _ (row_lt h.row)).trans h.row⟩
theorem WSx.next {may m2:Bool}{t t2:List UInt8}{nl nf l2 f2:Nat}{qs:List (List UInt8)}{P1:Nat→Prop}{w1 w2:World}{e:Ending}(h:WSx p d ps hs b P w may t nl nf qs P1 bx X T w1)(g:WvPost p d (ps++qs) hs (b||!may) P1 w1 m2 t2 l2 f2 e w2) :
    ∃ qs2 P2,e = .returned (.tuple #[])∧WSx p d ps hs b P w (may&&m2) (t++t2) (nl+l2) (nf+f2) qs2 P2 bx X T w2:=by
  have hlt:=row_lt h.row;obtain ⟨qs2,⟨g1,g2,P2,g3,g4⟩,g5,g6,g7⟩:=g;have hb:(b||!may||!m2)=(b||!(may&&m2)):=by cases b<;>cases may<;>cases m2<;>rfl
  rw[hb] at g3 g5;refine ⟨qs++qs2,P2,g1,⟨h.so.upd.trans' g2 (fun k hk hp=>?_),by rw[←List.append_assoc];exact g3,fun k hk=>?_,fun hf=>?_,?_,?_⟩,fun hp=>?_,(g2.block bx hlt h.out).trans h.row⟩
  · rcases h.so.new k hp with h|h
    · exact h
    · omega
  · rcases g4 k hk with h'|h'
    · exact h.so.new k h'
    · exact .inr (by have:=h.so.upd.size;omega)
  · have h1:(b||!may)=false:=by revert hf;cases b<;>cases may<;>simp
    rw[List.flatten_append,h.so.bytes h1,g5 hf]
  · rw[List.length_append];have:=h.so.len;omega
  · rw[List.flatten_append,List.length_append];have:=h.so.size;omega
  · rcases g4 bx hp with h'|h'
    · exact h.out h'
    · omega
theorem WSx.set {may:Bool}{t:List UInt8}{nl nf:Nat}{qs:List (List UInt8)}{P1:Nat→Prop}{w1:World}(h:WSx p d ps hs b P w may t nl nf qs P1 bx X T w1)(hT:∀ c,T≠wrapS c)(hg:w.heap.size≤bx)(j:Nat)(v:Value):WSx p d ps hs b P w may t nl nf qs P1 bx (X.setIfInBounds j v) T (w1.setCell ⟨bx,j,none⟩ v):=by
  have hu:=Upd.set w1 ⟨bx,j,none⟩ v
  have hw:=wh_upd h.so.wr hu (fun k hk hp=>by have e:k=bx:=hk;subst e;exact h.out hp) (fun k hk c n e hh=>by
    have e:k=bx:=hk;subst e;rw[h.row] at hh
    simp only[Option.some.injEq,Obj.cells.injEq] at hh
    exact hT c hh.2.1)
  refine ⟨⟨h.so.upd.trans' hu (fun k hk e=>?_),hw,h.so.new,h.so.bytes,h.so.len,h.so.size⟩,h.out,row_set h.row j v⟩;have e:k=bx:=e;omega
theorem WSx.cell {may:Bool}{t:List UInt8}{nl nf:Nat}{qs:List (List UInt8)}{P1:Nat→Prop}{w1:World}(h:WSx p d ps hs b P w may t nl nf qs P1 bx X T w1){j:Nat}{v:Value}(hj:X[j]? = some v):w1.cell? ⟨bx,j,none⟩=some v:=row_cell h.row hj
theorem WSx.done {may:Bool}{t:List UInt8}{nl nf:Nat}{qs:List (List UInt8)}{P1:Nat→Prop}{w1:World}(h:WSx p d ps hs b P w may t nl nf qs P1 bx X T w1):WvPost p d ps hs b P w may t nl nf (.returned (.tuple #[])) w1:=h.so.done
end
theorem val_not_wrap (c:Bool):(77:TypeId)≠wrapS c:=by cases c<;>decide
def MarPost (ok:Bool)(t:List UInt8)(w:World)(e:Ending)(w':World):Prop:=Below w.heap.size w w'∧if ok=true then e = .returned (.tuple #[.string ⟨t.toArray⟩,.nilIface]) else ∃ v,e = .returned (.tuple #[.string ⟨#[]⟩,v])∧EC w' v 8
theorem wh_new {p:Nat}{d:Int}{b:Bool}{P:Nat→Prop}{w:World}(h:WrAt p d (.slice none 0 0) [] b P w):WrH p d [] [] b P w:=by
 refine ⟨.slice none 0 0,P,h,World.ownsRow_nil _ _ _ _,fun k hk=>(by cases hk),?_⟩
 funext k
 simp[Value.ownBlock]
end Go.Proofs.YtficgfemmijaaaaGreatDoor
