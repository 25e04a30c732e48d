/-
  message.Parts: Add, Has, Bytes.
-/
import Derived.Test.YtjbingoliffjiaaGreatDoorMsgRead
import Derived.Test.YtjbingoliffjiaaGreatDoorUtf2
import Derived.Test.YtjbingoliffjiaaGreatDoorErrNew
import Derived.Test.YtjbingoliffjiaaGreatDoorGet
import Derived.Test.YtjbingoliffjiaaGreatDoorVal
import Derived.Deep.Cut
import Derived.Test.YtjbingoliffjiaaGreatDoorOrd
import Derived.IntWalk
import Derived.Deep.MidRow
import Derived.Test.YtjbingoliffjiaaGreatDoorUpd
set_option maxRecDepth 1000000
set_option maxHeartbeats 16000000
namespace Go.Proofs.YtjbingoliffjiaaGreatDoor
open Go.RowKit
open Go.RowKit
open Go.RowKit
theorem vtakes_any (r:Rec) (w:World):Calls Tryz.prog 188 #[.int .i64 (r.num:Int),.int .i64 (r.ty:Int)] w fun e w'=>e = .returned (.bool (vtk r))∧w=w':=by
 obtain ⟨num,ty,n,s,raw⟩:=r
 by_cases h1:num=1
 ·subst h1
  have hb:Hid (vtk ⟨1,ty,n,s,raw⟩=((ty:Int) == (2:Int))):=Lib.hid (by rw[show ((2:Int))=((2:Nat):Int) from rfl,ibeq];unfold vtk;simp)
  go_enter Tryz.func188,Tryz.ntmps188
  go_wp2_with fail
  go_ret
  exact ⟨by rw[hb.out];rfl,rfl⟩
 by_cases h5:num=5
 ·subst h5
  have hb:Hid (vtk ⟨5,ty,n,s,raw⟩=((ty:Int) == (2:Int))):=Lib.hid (by rw[show ((2:Int))=((2:Nat):Int) from rfl,ibeq];unfold vtk;simp)
  go_enter Tryz.func188,Tryz.ntmps188
  go_wp2_with fail
  go_ret
  exact ⟨by rw[hb.out];rfl,rfl⟩
 by_cases h6:num=6
 ·subst h6
  have hb:Hid (vtk ⟨6,ty,n,s,raw⟩=((ty:Int) == (2:Int))):=Lib.hid (by rw[show ((2:Int))=((2:Nat):Int) from rfl,ibeq];unfold vtk;simp)
  go_enter Tryz.func188,Tryz.ntmps188
  go_wp2_with fail
  go_ret
  exact ⟨by rw[hb.out];rfl,rfl⟩
 by_cases h7:num=7
 ·subst h7
  have hb:Hid (vtk ⟨7,ty,n,s,raw⟩=((ty:Int) == (2:Int))):=Lib.hid (by rw[show ((2:Int))=((2:Nat):Int) from rfl,ibeq];unfold vtk;simp)
  go_enter Tryz.func188,Tryz.ntmps188
  go_wp2_with fail
  go_ret
  exact ⟨by rw[hb.out];rfl,rfl⟩
 by_cases h2:num=2
 ·subst h2
  have hb:Hid (vtk ⟨2,ty,n,s,raw⟩=((ty:Int) == (0:Int))):=Lib.hid (by rw[show ((0:Int))=((0:Nat):Int) from rfl,ibeq];unfold vtk;simp)
  go_enter Tryz.func188,Tryz.ntmps188
  go_wp2_with fail
  go_ret
  exact ⟨by rw[hb.out];rfl,rfl⟩
 by_cases h3:num=3
 ·subst h3
  have hb:Hid (vtk ⟨3,ty,n,s,raw⟩=((ty:Int) == (0:Int))):=Lib.hid (by rw[show ((0:Int))=((0:Nat):Int) from rfl,ibeq];unfold vtk;simp)
  go_enter Tryz.func188,Tryz.ntmps188
  go_wp2_with fail
  go_ret
  exact ⟨by rw[hb.out];rfl,rfl⟩
 by_cases h4:num=4
 ·subst h4
  have hb:Hid (vtk ⟨4,ty,n,s,raw⟩=((ty:Int) == (1:Int))):=Lib.hid (by rw[show ((1:Int))=((1:Nat):Int) from rfl,ibeq];unfold vtk;simp)
  go_enter Tryz.func188,Tryz.ntmps188
  go_wp2_with fail
  go_ret
  exact ⟨by rw[hb.out];rfl,rfl⟩
 have d1:((num:Int) == (1:Int))=false:=by rw[beq_eq_false_iff_ne];omega
 have d5:((num:Int) == (5:Int))=false:=by rw[beq_eq_false_iff_ne];omega
 have d6:((num:Int) == (6:Int))=false:=by rw[beq_eq_false_iff_ne];omega
 have d7:((num:Int) == (7:Int))=false:=by rw[beq_eq_false_iff_ne];omega
 have d2:((num:Int) == (2:Int))=false:=by rw[beq_eq_false_iff_ne];omega
 have d3:((num:Int) == (3:Int))=false:=by rw[beq_eq_false_iff_ne];omega
 have d4:((num:Int) == (4:Int))=false:=by rw[beq_eq_false_iff_ne];omega
 have hb:Hid (vtk ⟨num,ty,n,s,raw⟩=false):=Lib.hid (by unfold vtk;simp;omega)
 clear h1 h5 h6 h7 h2 h3 h4
 go_enter Tryz.func188,Tryz.ntmps188
 go_wp2_with fail
 go_ret
 exact ⟨by rw[hb.out];rfl,rfl⟩
theorem ktakes_any (r:Rec) (w:World):Calls Tryz.prog 155 #[.int .i64 (r.num:Int),.int .i64 (r.ty:Int)] w fun e w'=>e = .returned (.bool (ktk r))∧w=w':=by
 obtain ⟨num,ty,n,s,raw⟩:=r
 by_cases h1:num=1
 ·subst h1
  have hb:Hid (ktk ⟨1,ty,n,s,raw⟩=((ty:Int) == (2:Int))):=Lib.hid (by rw[show ((2:Int))=((2:Nat):Int) from rfl,ibeq];unfold ktk;simp)
  go_enter Tryz.func155,Tryz.ntmps155
  go_wp2_with fail
  go_ret
  exact ⟨by rw[hb.out];rfl,rfl⟩
 by_cases h2:num=2
 ·subst h2
  have hb:Hid (ktk ⟨2,ty,n,s,raw⟩=((ty:Int) == (2:Int))):=Lib.hid (by rw[show ((2:Int))=((2:Nat):Int) from rfl,ibeq];unfold ktk;simp)
  go_enter Tryz.func155,Tryz.ntmps155
  go_wp2_with fail
  go_ret
  exact ⟨by rw[hb.out];rfl,rfl⟩
 have d1:((num:Int) == (1:Int))=false:=by rw[beq_eq_false_iff_ne];omega
 have d2:((num:Int) == (2:Int))=false:=by rw[beq_eq_false_iff_ne];omega
 have hb:Hid (ktk ⟨num,ty,n,s,raw⟩=false):=Lib.hid (by unfold ktk;simp;omega)
 clear h1 h2
 go_enter Tryz.func155,Tryz.ntmps155
 go_wp2_with fail
 go_ret
 exact ⟨by rw[hb.out];rfl,rfl⟩
theorem itakes_any (r:Rec) (w:World):Calls Tryz.prog 208 #[.int .i64 (r.num:Int),.int .i64 (r.ty:Int)] w fun e w'=>e = .returned (.bool (itk r))∧w=w':=by
 obtain ⟨num,ty,n,s,raw⟩:=r
 by_cases h1:num=1
 ·subst h1
  have hb:Hid (itk ⟨1,ty,n,s,raw⟩=((ty:Int) == (2:Int))):=Lib.hid (by rw[show ((2:Int))=((2:Nat):Int) from rfl,ibeq];unfold itk;simp)
  go_enter Tryz.func208,Tryz.ntmps208
  go_wp2_with fail
  go_ret
  exact ⟨by rw[hb.out];rfl,rfl⟩
 have d1:((num:Int) == (1:Int))=false:=by rw[beq_eq_false_iff_ne];omega
 have hb:Hid (itk ⟨num,ty,n,s,raw⟩=false):=Lib.hid (by unfold itk;simp;omega)
 clear h1
 go_enter Tryz.func208,Tryz.ntmps208
 go_wp2_with fail
 go_ret
 exact ⟨by rw[hb.out];rfl,rfl⟩
open Go.RowKit
open Go.RowKit
open Go.RowKit
def kzero:Array Value:=#[.string ⟨#[]⟩,.bool false,.int .i64 0,.string ⟨#[]⟩,.bool false,.int .u64 0,.slice none 0 0,.slice none 0 0,.string ⟨#[]⟩,.string ⟨#[]⟩,.string ⟨#[]⟩]
theorem VRel.form {w:World} {P:Nat→Prop}:∀ {x:Val} {c:List Value},VRel w P x c→∃ (k:Int) (S:ByteArray) (b0:Bool) (n:Int) (lo:Option Addr) (ln lc:Nat) (mo:Option Addr) (mn mc:Nat) (I U:ByteArray),c=[.int .i64 k,.string S,.bool b0,.int .u64 n,.slice lo ln lc,.slice mo mn mc,.string I,.string U]
 | .mk _ _ _ _ _ _ _ _,c,h=>by
  rw[VRel] at h
  obtain ⟨lo,lc,mo,mc,rfl,_⟩:=h
  exact ⟨_,_,_,_,_,_,_,_,_,_,_,_,rfl⟩
theorem KRel.form {w:World} {P:Nat→Prop}:∀ {x:KV} {c:List Value},KRel w P x c→∃ (K0:ByteArray) (h0:Bool) (k:Int) (S:ByteArray) (b0:Bool) (n:Int) (lo:Option Addr) (ln lc:Nat) (mo:Option Addr) (mn mc:Nat) (I U U0:ByteArray),c=[.string K0,.bool h0,.int .i64 k,.string S,.bool b0,.int .u64 n,.slice lo ln lc,.slice mo mn mc,.string I,.string U,.string U0]
 | .mk _ _ _ _,c,h=>by
  rw[KRel] at h
  obtain ⟨cs,h1,rfl⟩:=h
  obtain ⟨k,S,b0,n,lo,ln,lc,mo,mn,mc,I,U,rfl⟩:=h1.form
  exact ⟨_,_,_,_,_,_,_,_,_,_,_,_,_,_,_,rfl⟩
def setFrom:List Value→Nat→List Value→List Value
 | xs,_,[]=>xs
 | xs,o,v::r=>setFrom (xs.set o v) (o+1) r
theorem setFrom_end {fl:List Value}:∀ (cs zs:List Value) (o:Nat),fl.length=o→zs.length=cs.length→setFrom (fl++zs) o cs=fl++cs
 | [],zs,o,_,h=>by
  obtain rfl:=List.eq_nil_of_length_eq_zero h
  rfl
 | c::cs,z::zs,o,hf,h=>by
  rw[setFrom,List.set_append_right _ _ (by omega),hf,Nat.sub_self,List.set_cons_zero,show fl++c::zs=(fl++[c])++zs by simp,setFrom_end (fl:=fl++[c]) cs zs (o+1) (by simp;omega) (by simpa using h)]
  simp
theorem own_setCells {base:Nat} {T:TypeId} {size g m cap:Nat}:∀ (vs:List Value) (o:Nat) (w:World) (xs:List Value),w.ownsRow base T size (.slice (some ⟨g,0,none⟩) m cap) m xs→(w.setCells g o vs).ownsRow base T size (.slice (some ⟨g,0,none⟩) m cap) m (setFrom xs o vs)∧Upd (fun k=>k=g) w (w.setCells g o vs)
 | [],o,w,xs,h=>⟨h,Upd.refl _ _⟩
 | v::r,o,w,xs,h=>by
  have h1:=own_setCells r (o+1) (w.setCell ⟨g,o,none⟩ v) (xs.set o v) (h.stored o v).1
  exact ⟨h1.1,(Upd.set w ⟨g,o,none⟩ v).trans h1.2⟩
structure Cel (α:Type) where
 R:World→(Nat→Prop)→α→List Value→Prop
 size:Nat
 len:∀ {w P x cs},R w P x cs→cs.length=size
 upd:∀ {w w' S P Q x cs},Upd S w w'→(∀ k,P k→¬S k)→(∀ k,P k→Q k)→R w P x cs→R w' Q x cs
 lt:∀ {w P x cs},R w P x cs→R w (fun k=>P k∧k<w.heap.size) x cs
def RdPost {α:Type} (C:Cel α) (zero:Array Value) (rd:Except Nat α) (n:Nat) (w:World) (e:Ending) (w':World):Prop:=Below w.heap.size w w'∧match rd with
 | .error c=>∃ v q,e = .returned (.tuple #[.agg zero,v])∧q≤n∧EW w' v q c
 | .ok x=>∃ cs,e = .returned (.tuple #[.agg cs.toArray,.nilIface])∧C.R w' (fun k=>w.heap.size≤k) x cs
def LsAt {α:Type} (C:Cel α) (T:TypeId) (base:Nat) (v:Value) (xs:List α) (P:Nat→Prop) (w:World):Prop:=∃ (css:List (List Value)) (Q:Nat→Prop),w.ownsRow base T C.size v xs.length css.flatten∧css.length=xs.length∧(∀ j (h1:j<xs.length) (h2:j<css.length),C.R w Q xs[j] css[j])∧(∀ k,Q k→k<w.heap.size∧base≤k∧v.ownBlock≠some k)∧P=fun k=>v.ownBlock=some k∨Q k
theorem LsAt.nil {α:Type} (C:Cel α) (T:TypeId) (base:Nat) (w:World):LsAt C T base (.slice none 0 0) [] (fun k=>(Value.slice none 0 0).ownBlock=some k∨False) w:=⟨[],fun _=>False,World.ownsRow_nil _ _ _ _,rfl,fun j h1=>by simp at h1,fun _ h=>h.elim,rfl⟩
theorem LsAt.lt {α:Type} {C:Cel α} {T:TypeId} {base:Nat} {v:Value} {xs:List α} {P:Nat→Prop} {w:World} (h:LsAt C T base v xs P w):∀ k,P k→base≤k∧k<w.heap.size:=by
 obtain ⟨css,Q,h2,h3,h4,h5,rfl⟩:=h
 rintro k (hk|hk)
 ·exact h2.lt k hk
 ·exact ⟨(h5 k hk).2.1,(h5 k hk).1⟩
theorem LsAt.kept {α:Type} {C:Cel α} {T:TypeId} {base:Nat} {v:Value} {xs:List α} {P:Nat→Prop} {w w':World} (h:LsAt C T base v xs P w) (hu:Upd (fun k=>¬P k) w w'):LsAt C T base v xs P w':=by
 obtain ⟨css,Q,h2,h3,h4,h5,rfl⟩:=h
 exact ⟨css,Q,hu.own h2 (fun k hk h=>h (.inl hk)),h3,fun j g1 g2=>C.upd hu (fun k hk h=>h (.inr hk)) (fun k hk=>hk) (h4 j g1 g2),fun k hk=>⟨Nat.lt_of_lt_of_le (h5 k hk).1 hu.size,(h5 k hk).2⟩,rfl⟩
def AddPost {α:Type} (C:Cel α) (T T0:TypeId) (b o base:Nat) (cs0:Array Value) (xs:List α) (P:Nat→Prop) (rd:Except Nat α) (w:World) (e:Ending) (w':World):Prop:=Upd (fun k=>k=b∨P k) w w'∧match rd with
 | .error c=>∃ y,e = .returned y∧EC w' y c
 | .ok x=>e = .returned .nilIface∧∃ v' P',w'.heap[b]? = some (.cells (cs0.setIfInBounds o v') T0 (0,0))∧LsAt C T base v' (xs++[x]) P' w'∧∀ k,P' k→P k∨w.heap.size≤k
theorem cel_flat {α:Type} (C:Cel α) {w:World} {Q:Nat→Prop} {xs:List α} {css:List (List Value)} (hl:css.length=xs.length) (hr:∀ j (h1:j<xs.length) (h2:j<css.length),C.R w Q xs[j] css[j]):css.flatten.length=xs.length * C.size:=by
 have:∀ c∈css,c.length=C.size:=fun c hc=>by
  obtain ⟨i,hi,rfl⟩:=List.getElem_of_mem hc
  exact C.len (hr i (by omega) hi)
 have aux:∀ (l:List (List Value)),(∀ c∈l,c.length=C.size)→l.flatten.length=l.length * C.size:=fun l=>by
  induction l with
  | nil=>intro _;simp
  | cons c l ih=>intro h;rw[List.flatten_cons,List.length_append,ih (fun x hx=>h x (List.mem_cons_of_mem _ hx)),h c (List.mem_cons_self ..),List.length_cons,Nat.add_mul];omega
 rw[aux css this,hl]
theorem add_fin {α:Type} {C:Cel α} {T T0:TypeId} {b o base:Nat} {cs0:Array Value} {xs:List α} {x:α} {ao:Option Addr} {cap:Nat} {Q:Nat→Prop} {w w1 W:World} {css:List (List Value)} {cs:List Value} {g cap':Nat}
  (hbase:b<base∧base≤w.heap.size) (hb1:Below w.heap.size w w1) (h3:css.length=xs.length) (h4:∀ j (h1:j<xs.length) (h2:j<css.length),C.R w Q xs[j] css[j]) (h5:∀ k,Q k→k<w.heap.size∧base≤k∧(Value.slice ao xs.length cap).ownBlock≠some k)
  (hrel:C.R w1 (fun k=>w.heap.size≤k) x cs) (hrow:W.heap[b]? = some (.cells (cs0.setIfInBounds o (.slice (some ⟨g,0,none⟩) (xs.length+1) cap')) T0 (0,0))) (hown:W.ownsRow base T C.size (.slice (some ⟨g,0,none⟩) (xs.length+1) cap') (xs.length+1) (css.flatten++cs))
  (hu:Upd (fun k=>k=b∨(Value.slice ao xs.length cap).ownBlock=some k) w1 W) (hg:(Value.slice ao xs.length cap).ownBlock=some g∨w1.heap.size≤g) (hb0:∀ k,(Value.slice ao xs.length cap).ownBlock=some k→k<w.heap.size) :
  AddPost C T T0 b o base cs0 xs (fun k=>(Value.slice ao xs.length cap).ownBlock=some k∨Q k) (.ok x) w (.returned .nilIface) W:=by
 have hs1:=hb1.size
 have hs2:=hu.size
 have huw:Upd (fun k=>k=b∨(Value.slice ao xs.length cap).ownBlock=some k) w W:=(Upd.of_new hb1).trans hu
 refine ⟨huw.mono (fun k _ h=>h.imp id .inl),rfl,.slice (some ⟨g,0,none⟩) (xs.length+1) cap',fun k=>g=k∨(Q k∨(w.heap.size≤k∧k<w1.heap.size)),hrow,⟨css++[cs],fun k=>Q k∨(w.heap.size≤k∧k<w1.heap.size),?_,?_,?_,?_,?_⟩,?_⟩
 ·rw[List.flatten_append,List.flatten_singleton,List.length_append]
  exact hown
 ·rw[List.length_append,List.length_append,h3];rfl
 ·intro j h1 h2
  by_cases hj:j<xs.length
  ·rw[List.getElem_append_left hj,List.getElem_append_left (by omega)]
   exact C.upd huw (fun k hk hs=>by
    have:=h5 k hk
    rcases hs with h|h
    ·omega
    ·exact this.2.2 h) (fun k hk => .inl hk) (h4 j hj (by omega))
  ·have hje:j=xs.length:=by rw[List.length_append,List.length_singleton] at h1;omega
   subst hje
   rw[List.getElem_append_right (Nat.le_refl _),List.getElem_append_right (by omega)]
   simp only[Nat.sub_self,List.getElem_cons_zero,h3]
   refine C.upd hu (fun k hk hs=>?_) (fun k hk => .inr hk) (C.lt hrel)
   rcases hs with h|h
   ·omega
   ·have:=hb0 k h;omega
 ·intro k hk
  rcases hk with hk|hk
  ·have:=h5 k hk
   refine ⟨by omega,this.2.1,fun e=>?_⟩
   have e:g=k:=by simpa [Value.ownBlock] using e
   rcases hg with h|h
   ·exact this.2.2 (e ▸ h)
   ·omega
  ·refine ⟨by omega,by omega,fun e=>?_⟩
   have e:g=k:=by simpa [Value.ownBlock] using e
   rcases hg with h|h
   ·have:=hb0 g h;omega
   ·omega
 ·funext k
  simp[Value.ownBlock]
 ·intro k hk
  rcases hk with h|h|h
  ·rcases hg with h2|h2
   ·exact .inl (.inl (h ▸ h2))
   ·exact .inr (by omega)
  ·exact .inl (.inr h)
  ·exact .inr h.1
theorem Tryz.elKL:Elem Tryz.prog 23 98 (.agg #[.string ⟨#[]⟩,.bool false,.int .i64 0,.string ⟨#[]⟩,.bool false,.int .u64 0,.slice none 0 0,.slice none 0 0,.string ⟨#[]⟩,.string ⟨#[]⟩,.string ⟨#[]⟩]) 11 160:=⟨Tryz.underlying23,by kernel_rfl,by decide⟩
def kcel:Cel KV where
 R:=KRel
 size:=11
 len:=fun h=>h.len
 upd:=fun hu hs hq h=>KRel.upd hu hs hq _ _ h
 lt:=fun h=>KRel.lt _ _ h
theorem addk_any (b o base:Nat) (cs0:Array Value) (T0:TypeId) (v:Value) (xs:List KV) (P:Nat→Prop) (F:Nat) (X:ByteArray) (d:Int) (rd:Except Nat KV) (w:World) (hET:∀ args w,(callFunc F args).run Tryz.prog w = .ok (.enter F args) w) (hrow:Hid (w.heap[b]? = some (.cells cs0 T0 (0,0)))) (hcs:cs0[o]? = some v) (hbase:b<base∧base≤w.heap.size) (h:Hid (LsAt kcel 98 base v xs P w)) (hl:xs.length≤1000000) (hread:Hid (∀ w',Calls Tryz.prog F #[.string X,.int .i64 d] w' (RdPost kcel kzero rd X.size w'))) :
  Calls Tryz.prog 108 #[.pointer (some ⟨b,o,none⟩),.string X,.int .i64 d,.func (.func F) #[] #[]] w (AddPost kcel 98 T0 b o base cs0 xs P rd w):=by
 obtain ⟨css,Q,h2,h3,h4,h5,rfl⟩:=h.out
 obtain ⟨ao,cap,rfl⟩:=own_slice h2
 have H2:=Lib.hid h2
 have H3:=Lib.hid h3
 have H4:=Lib.hid h4
 have H5:=Lib.hid h5
 have hbw:=row_lt hrow.out
 clear h h2 h3 h4 h5
 go_enter Tryz.func108,Tryz.ntmps108
 go_wp2_with fail
 refine (hread.out w).mono ?_;intro e w1 hpost
 obtain ⟨hb1,hcase⟩:=hpost
 have HB1:=Lib.hid hb1
 clear hb1
 cases rd with
 | error c =>
  obtain ⟨y,q,rfl,hq,hew⟩:=hcase
  obtain ⟨T',z,rfl⟩:=hew.iface
  have HEW:=Lib.hid hew
  clear hew
  unfold kzero
  go_wp2_with fail
  go_ret
  exact ⟨(Upd.of_new HB1.out).trans (Upd.alloc _ _ _),_,rfl,(HEW.out.below (below_new _ _)).ec⟩
 | ok x =>
  obtain ⟨cs,rfl,hrel⟩:=hcase
  have HREL:=Lib.hid hrel
  obtain ⟨K0,h0,k,S,b0,n,lo,ln,lc,mo,mn,mc,I,U,U0,hcs1⟩:=KRel.form hrel
  have HCS:=Lib.hid hcs1
  rw[hcs1]
  clear hcs1 hrel
  go_wp2_with fail
  obtain ⟨bx,hbx⟩:∃ bx,w1.heap.size=bx:=⟨_,rfl⟩
  obtain ⟨W2,hW2⟩:∃ W,w1.alloc (.cells #[.string K0,.bool h0,.int .i64 k,.string S,.bool b0,.int .u64 n,.slice lo ln lc,.slice mo mn mc,.string I,.string U,.string U0] 98)=W:=⟨_,rfl⟩
  have HB2:Hid (Below w1.heap.size w1 W2):=Lib.hid (by rw[←hW2];exact below_new _ _)
  have HX2:Hid (W2.heap[bx]? = some (.cells #[.string K0,.bool h0,.int .i64 k,.string S,.bool b0,.int .u64 n,.slice lo ln lc,.slice mo mn mc,.string I,.string U,.string U0] 98 (0,0))):=Lib.hid (by rw[←hW2,←hbx];exact heap_alloc_new _ _)
  have HBX:=Lib.hid hbx
  rw[hW2,hbx]
  clear hW2 hbx
  obtain ⟨D,hD⟩:∃ D,W2.drew=D:=⟨_,rfl⟩
  have HBD:Hid (Below w1.heap.size w1 D):=Lib.hid (by rw[←hD];exact HB2.out.drew)
  have HXD:Hid (D.heap[bx]? = some (.cells #[.string K0,.bool h0,.int .i64 k,.string S,.bool b0,.int .u64 n,.slice lo ln lc,.slice mo mn mc,.string I,.string U,.string U0] 98 (0,0))):=Lib.hid (by rw[←hD];exact HX2.out)
  have HWD:=Lib.hid (below_step HB1.out HBD.out)
  have HLD:Hid (D.heap[b]? = some (.cells cs0 T0 (0,0))):=Lib.hid ((HWD.out.block _ hbw).trans hrow.out)
  have HOD:Hid (D.ownsRow base 98 11 (.slice ao xs.length cap) xs.length css.flatten):=Lib.hid (own_below H2.out HWD.out)
  have hcb:D.cell? ⟨b,o,none⟩=some (.slice ao xs.length cap):=row_cell HLD.out hcs
  have hne:Nonempty {w':World // w'.heap[bx]? = some (.cells #[.string K0,.bool h0,.int .i64 k,.string S,.bool b0,.int .u64 n,.slice lo ln lc,.slice mo mn mc,.string I,.string U,.string U0] 98 (0,0))}:=⟨⟨_,HXD.out⟩⟩
  have hsz:=HWD.out.size
  have hxlt:=row_lt HXD.out
  refine wp_region_seqP (S:=fun w'=>w'.heap[bx]? = some (.cells #[.string K0,.bool h0,.int .i64 k,.string S,.bool b0,.int .u64 n,.slice lo ln lc,.slice mo mn mc,.string I,.string U,.string U0] 98 (0,0))) (.take 0 (.take 1 (.take 3 (.two 2 5 (.take 4 (.come 5 (.come 6 (.take 7 (.take 9 (.two 8 10 (.come 10 .done) (.come 8 .done))))))) (.come 2 (.take 4 (.come 6 (.take 7 (.take 9 (.two 8 10 (.come 10 .done) (.come 8 .done))))))))))) (by kernel_rfl) (by kernel_rfl) (by kernel_rfl) (by kernel_rfl) (by rw[hD];exact HXD.out) ?_
  rw[hD]
  clear hD
  iterate 2 (refine seqP_take _ rfl (fun K hK=>?_);go_simp;(first|refine hK _ ?_|refine ⟨_,fun _ _=>rfl,hK _ ?_⟩);clear hK K)
  refine seqP_take _ rfl (fun K hK=>?_);go_simp
  refine ⟨.agg #[.string K0,.bool h0,.int .i64 k,.string S,.bool b0,.int .u64 n,.slice lo ln lc,.slice mo mn mc,.string I,.string U,.string U0],fun a ha=>by (have e0:=row_cell ha (j:=0) rfl;have e1:=row_cell ha (j:=1) rfl;have e2:=row_cell ha (j:=2) rfl;have e3:=row_cell ha (j:=3) rfl;have e4:=row_cell ha (j:=4) rfl;have e5:=row_cell ha (j:=5) rfl;have e6:=row_cell ha (j:=6) rfl;have e7:=row_cell ha (j:=7) rfl;have e8:=row_cell ha (j:=8) rfl;have e9:=row_cell ha (j:=9) rfl;have e10:=row_cell ha (j:=10) rfl);simp only[e0,e1,e2,e3,e4,e5,e6,e7,e8,e9,e10,Result.andThen];rfl,hK _ ?_⟩;clear hK K
  have HXE:Hid ((D.alloc (.cells #[.string ⟨#[]⟩,.bool false,.int .i64 0,.string ⟨#[]⟩,.bool false,.int .u64 0,.slice none 0 0,.slice none 0 0,.string ⟨#[]⟩,.string ⟨#[]⟩,.string ⟨#[]⟩] 98)).heap[bx]? = some (.cells #[.string K0,.bool h0,.int .i64 k,.string S,.bool b0,.int .u64 n,.slice lo ln lc,.slice mo mn mc,.string I,.string U,.string U0] 98 (0,0))):=Lib.hid ((Below.heap_alloc _ _ _ hxlt).trans HXD.out)
  have hcbE:(D.alloc (.cells #[.string ⟨#[]⟩,.bool false,.int .i64 0,.string ⟨#[]⟩,.bool false,.int .u64 0,.slice none 0 0,.slice none 0 0,.string ⟨#[]⟩,.string ⟨#[]⟩,.string ⟨#[]⟩] 98)).cell? ⟨b,o,none⟩=some (.slice ao xs.length cap):=row_cell ((Below.heap_alloc _ _ _ (row_lt HLD.out)).trans HLD.out) hcs
  refine seqP_two _ _ rfl rfl (fun K hK=>?_) (fun K hK=>?_)
  all_goals go_simp
  ·refine hK.out _ _ HXD.out ?_;clear hK K
   (refine seqP_take _ rfl (fun K hK=>?_);go_simp;(first|refine hK _ ?_|refine ⟨_,fun _ _=>rfl,hK _ ?_⟩);clear hK K)
   refine seqP_come _ rfl (fun K hK=>?_);go_simp
   refine hK.out _ _ HXE.out ?_;clear hK K
   refine seqP_wp _ rfl rfl (fun K hK=>?_)
   refine wp_app_at _ _ 23 rfl Tryz.elKL (by decide) (HOD.out.alloc _) rfl (b:=D.heap.size) (off:=0) (m:=1) (c:=1) (news:=[.string ⟨#[]⟩,.bool false,.int .i64 0,.string ⟨#[]⟩,.bool false,.int .u64 0,.slice none 0 0,.slice none 0 0,.string ⟨#[]⟩,.string ⟨#[]⟩,.string ⟨#[]⟩]) rfl rfl (fun j u hj=>by rw[Nat.zero_add];exact row_cell (heap_alloc_new D _) (by simpa using hj)) (by simp[Value.oneCell']) (by unfold maxLen;omega) (by omega) (by simp;omega) (fun v' w3 hown3 hgrow hnew=>?_)
   obtain ⟨g,cap',hv',hg1,hg2,_,_⟩:=own_some hown3 (by omega)
   subst hv'
   have hgu:Upd (fun k=>(Value.slice ao xs.length cap).ownBlock=some k) (D.alloc (.cells #[.string ⟨#[]⟩,.bool false,.int .i64 0,.string ⟨#[]⟩,.bool false,.int .u64 0,.slice none 0 0,.slice none 0 0,.string ⟨#[]⟩,.string ⟨#[]⟩,.string ⟨#[]⟩] 98)) w3:=Upd.of_grown hgrow
   have HGU:=Lib.hid hgu
   have HO3:=Lib.hid hown3
   have HNEW:Hid (∀ k,(Value.slice (some ⟨g,0,none⟩) (xs.length+1) cap').ownBlock=some k→(Value.slice ao xs.length cap).ownBlock=some k∨k=D.heap.size+1):=Lib.hid (fun k hk=>(hnew k hk).imp id (fun h=>by rw[h];exact Array.size_push ..))
   have HGB:Hid (¬(Value.slice ao xs.length cap).ownBlock=some bx):=Lib.hid (fun h=>by have:=(H2.out.lt bx h).2;have:=HB1.out.size;have:=HBX.out;omega)
   have HGL:Hid (¬(Value.slice ao xs.length cap).ownBlock=some b):=Lib.hid (fun h=>by have:=(H2.out.lt b h).1;omega)
   have HX3:Hid (w3.heap[bx]? = some (.cells #[.string K0,.bool h0,.int .i64 k,.string S,.bool b0,.int .u64 n,.slice lo ln lc,.slice mo mn mc,.string I,.string U,.string U0] 98 (0,0))):=Lib.hid ((hgu.block bx (row_lt HXE.out) HGB.out).trans HXE.out)
   have HL3:Hid (w3.heap[b]? = some (.cells cs0 T0 (0,0))):=Lib.hid ((hgu.block b (by have:=row_lt HLD.out;simp;omega) HGL.out).trans ((Below.heap_alloc _ _ _ (row_lt HLD.out)).trans HLD.out))
   refine hK.out _ _ HX3.out ?_;clear hK K
   clear hgu hown3 hnew hgrow
   refine seqP_take _ rfl (fun K hK=>?_);go_simp;refine ⟨.pointer (some ⟨g,xs.length * 11,none⟩),fun _ _=>if_pos (by omega),hK _ ?_⟩;clear hK K
   (refine seqP_take _ rfl (fun K hK=>?_);go_simp;(first|refine hK _ ?_|refine ⟨_,fun _ _=>rfl,hK _ ?_⟩);clear hK K)
   have hgb:g≠b:=by omega
   have hbxb:bx≠b:=by have:=HBX.out;have:=HB1.out.size;omega
   have hgx:g≠bx:=fun e=>by
    rcases HNEW.out g rfl with h|h
    ·exact HGB.out (e ▸ h)
    ·omega
   have HFL:Hid (css.flatten.length=xs.length * 11):=Lib.hid (cel_flat kcel H3.out H4.out)
   have hth:∀ (W:World) (ys:List Value),W.ownsRow base 98 11 (.slice (some ⟨g,0,none⟩) (xs.length+1) cap') (xs.length+1) ys→ys.length=xs.length * 11+11→W.there g (xs.length * 11) 11:=fun W ys ho hy j hj=>⟨by rw[ho.cellAt (xs.length * 11+j) (by omega)];simp;omega,ho.frozenAt _⟩
   refine seqP_two _ _ rfl rfl (fun K hK=>?_) (fun K hK=>?_)
   ·rw[if_pos (by rfl)]
    refine wp_store_mid 98 _ _ rfl g (xs.length * 11) #[.string K0,.bool h0,.int .i64 k,.string S,.bool b0,.int .u64 n,.slice lo ln lc,.slice mo mn mc,.string I,.string U,.string U0] (by rfl) (by rfl) (hth _ _ HO3.out (by rw[List.length_append,HFL.out];rfl)) (by rfl) (by simp[Value.oneCell']) ?_
    obtain ⟨W4,hW4⟩:∃ W,w3.setCells g (xs.length * 11) (#[.string K0,.bool h0,.int .i64 k,.string S,.bool b0,.int .u64 n,.slice lo ln lc,.slice mo mn mc,.string I,.string U,.string U0]:Array Value).toList=W:=⟨_,rfl⟩
    have hset:=own_setCells (#[.string K0,.bool h0,.int .i64 k,.string S,.bool b0,.int .u64 n,.slice lo ln lc,.slice mo mn mc,.string I,.string U,.string U0]:Array Value).toList (xs.length * 11) w3 _ HO3.out
    rw[setFrom_end _ _ _ HFL.out (by rfl),hW4] at hset
    rw[hW4]
    obtain ⟨ho4,hu4⟩:=hset
    clear hW4
    have HO4:=Lib.hid ho4
    have HU4:=Lib.hid hu4
    have HX4:Hid (W4.heap[bx]? = some (.cells #[.string K0,.bool h0,.int .i64 k,.string S,.bool b0,.int .u64 n,.slice lo ln lc,.slice mo mn mc,.string I,.string U,.string U0] 98 (0,0))):=Lib.hid ((hu4.block bx (row_lt HX3.out) (fun e=>hgx e.symm)).trans HX3.out)
    have HL4:Hid (W4.heap[b]? = some (.cells cs0 T0 (0,0))):=Lib.hid ((hu4.block b (row_lt HL3.out) (fun e=>hgb e.symm)).trans HL3.out)
    clear ho4 hu4
    refine hK.out _ _ HX4.out ?_;clear hK K
    refine seqP_come _ rfl (fun K2 hK2=>?_)
    have hcb:W4.cell? ⟨b,o,none⟩=some (.slice ao xs.length cap):=row_cell HL4.out hcs
    have hfb:W4.frozen? ⟨b,o,none⟩=false:=row_thaw HL4.out o
    go_simp
    have hu5:=Upd.set W4 ⟨b,o,none⟩ (.slice (some ⟨g,0,none⟩) (xs.length+1) cap')
    refine hK2.out _ _ ((hu5.block bx (row_lt HX4.out) (fun e=>hbxb e)).trans HX4.out) ?_
    clear hK2 K2 hcb hfb
    refine seqP_done ?_
    go_wp2_with fail
    go_ret
    refine add_fin hbase HB1.out H3.out H4.out H5.out HREL.out (g:=g) (hb0:=fun k hk=>(H2.out.lt k hk).2) (cap':=cap') (W:=W4.setCell ⟨b,o,none⟩ (.slice (some ⟨g,0,none⟩) (xs.length+1) cap')) (row_set HL4.out o _) ?_ ?_ ?_
    ·exact HCS.out ▸ hu5.own HO4.out (fun k hk e=>by have e:k=b:=e;have:=(HO4.out.lt k hk).1;omega)
    ·refine ((Upd.of_new HBD.out).trans ((Upd.alloc _ _ _).trans (HGU.out.mono fun k _ h => .inr h))).trans' (S':=fun k=>k=g∨k=b) ((HU4.out.mono fun k _ h => .inl h).trans (hu5.mono fun k _ h => .inr h)) (fun k hk h=>?_)
     rcases h with h|h
     ·rcases HNEW.out g rfl with h2|h2
      ·exact .inr (h ▸ h2)
      ·have:=HBD.out.size;omega
     ·exact .inl h
    ·rcases HNEW.out g rfl with h|h
     ·exact .inl h
     ·exact .inr (by have:=HBD.out.size;omega)
   ·have hcb:w3.cell? ⟨b,o,none⟩=some (.slice ao xs.length cap):=row_cell HL3.out hcs
    have hfb:w3.frozen? ⟨b,o,none⟩=false:=row_thaw HL3.out o
    go_simp
    obtain ⟨W4,hW4⟩:∃ W,w3.setCell ⟨b,o,none⟩ (.slice (some ⟨g,0,none⟩) (xs.length+1) cap')=W:=⟨_,rfl⟩
    have hu4:=Upd.set w3 ⟨b,o,none⟩ (.slice (some ⟨g,0,none⟩) (xs.length+1) cap')
    have hl4:=row_set HL3.out o (.slice (some ⟨g,0,none⟩) (xs.length+1) cap')
    rw[hW4] at hu4 hl4 ⊢
    clear hW4 hcb hfb
    have HU4:=Lib.hid hu4
    have HL4:=Lib.hid hl4
    have HO4:=Lib.hid (hu4.own HO3.out (fun k hk e=>by have e:k=b:=e;have:=(HO3.out.lt k hk).1;omega))
    have HX4:Hid (W4.heap[bx]? = some (.cells #[.string K0,.bool h0,.int .i64 k,.string S,.bool b0,.int .u64 n,.slice lo ln lc,.slice mo mn mc,.string I,.string U,.string U0] 98 (0,0))):=Lib.hid ((hu4.block bx (row_lt HX3.out) (fun e=>hbxb e)).trans HX3.out)
    clear hu4 hl4
    refine hK.out _ _ HX4.out ?_;clear hK K
    refine seqP_wp _ rfl rfl (fun K2 hK2=>?_)
    refine wp_store_mid 98 _ _ rfl g (xs.length * 11) #[.string K0,.bool h0,.int .i64 k,.string S,.bool b0,.int .u64 n,.slice lo ln lc,.slice mo mn mc,.string I,.string U,.string U0] (by rfl) (by rfl) (hth _ _ HO4.out (by rw[List.length_append,HFL.out];rfl)) (by rfl) (by simp[Value.oneCell']) ?_
    obtain ⟨W5,hW5⟩:∃ W,W4.setCells g (xs.length * 11) (#[.string K0,.bool h0,.int .i64 k,.string S,.bool b0,.int .u64 n,.slice lo ln lc,.slice mo mn mc,.string I,.string U,.string U0]:Array Value).toList=W:=⟨_,rfl⟩
    have hset:=own_setCells (#[.string K0,.bool h0,.int .i64 k,.string S,.bool b0,.int .u64 n,.slice lo ln lc,.slice mo mn mc,.string I,.string U,.string U0]:Array Value).toList (xs.length * 11) W4 _ HO4.out
    rw[setFrom_end _ _ _ HFL.out (by rfl),hW5] at hset
    rw[hW5]
    obtain ⟨ho5,hu5⟩:=hset
    clear hW5
    refine hK2.out _ _ ((hu5.block bx (row_lt HX4.out) (fun e=>hgx e.symm)).trans HX4.out) ?_
    clear hK2 K2
    refine seqP_done ?_
    have HO5:=Lib.hid ho5
    have HU5:=Lib.hid hu5
    clear ho5 hu5
    go_wp2_with fail
    go_ret
    refine add_fin hbase HB1.out H3.out H4.out H5.out HREL.out (g:=g) (hb0:=fun k hk=>(H2.out.lt k hk).2) (cap':=cap') (W:=W5) ((HU5.out.block b (row_lt HL4.out) (fun e=>hgb e.symm)).trans HL4.out) ?_ ?_ ?_
    ·exact HCS.out ▸ HO5.out
    ·refine ((Upd.of_new HBD.out).trans ((Upd.alloc _ _ _).trans (HGU.out.mono fun k _ h => .inr h))).trans' (S':=fun k=>k=g∨k=b) ((HU4.out.mono fun k _ h => .inr h).trans (HU5.out.mono fun k _ h => .inl h)) (fun k hk h=>?_)
     rcases h with h|h
     ·rcases HNEW.out g rfl with h2|h2
      ·exact .inr (h ▸ h2)
      ·have:=HBD.out.size;omega
     ·exact .inl h
    ·rcases HNEW.out g rfl with h|h
     ·exact .inl h
     ·exact .inr (by have:=HBD.out.size;omega)
  ·refine hK.out _ _ HXE.out ?_;clear hK K
   refine seqP_come _ rfl (fun K hK=>?_);go_simp
   refine hK.out _ _ HXE.out ?_;clear hK K
   (refine seqP_take _ rfl (fun K hK=>?_);go_simp;(first|refine hK _ ?_|refine ⟨_,fun _ _=>rfl,hK _ ?_⟩);clear hK K)
   refine seqP_wp _ rfl rfl (fun K hK=>?_)
   refine wp_app_at _ _ 23 rfl Tryz.elKL (by decide) (HOD.out.alloc _) rfl (b:=D.heap.size) (off:=0) (m:=1) (c:=1) (news:=[.string ⟨#[]⟩,.bool false,.int .i64 0,.string ⟨#[]⟩,.bool false,.int .u64 0,.slice none 0 0,.slice none 0 0,.string ⟨#[]⟩,.string ⟨#[]⟩,.string ⟨#[]⟩]) rfl rfl (fun j u hj=>by rw[Nat.zero_add];exact row_cell (heap_alloc_new D _) (by simpa using hj)) (by simp[Value.oneCell']) (by unfold maxLen;omega) (by omega) (by simp;omega) (fun v' w3 hown3 hgrow hnew=>?_)
   obtain ⟨g,cap',hv',hg1,hg2,_,_⟩:=own_some hown3 (by omega)
   subst hv'
   have hgu:Upd (fun k=>(Value.slice ao xs.length cap).ownBlock=some k) (D.alloc (.cells #[.string ⟨#[]⟩,.bool false,.int .i64 0,.string ⟨#[]⟩,.bool false,.int .u64 0,.slice none 0 0,.slice none 0 0,.string ⟨#[]⟩,.string ⟨#[]⟩,.string ⟨#[]⟩] 98)) w3:=Upd.of_grown hgrow
   have HGU:=Lib.hid hgu
   have HO3:=Lib.hid hown3
   have HNEW:Hid (∀ k,(Value.slice (some ⟨g,0,none⟩) (xs.length+1) cap').ownBlock=some k→(Value.slice ao xs.length cap).ownBlock=some k∨k=D.heap.size+1):=Lib.hid (fun k hk=>(hnew k hk).imp id (fun h=>by rw[h];exact Array.size_push ..))
   have HGB:Hid (¬(Value.slice ao xs.length cap).ownBlock=some bx):=Lib.hid (fun h=>by have:=(H2.out.lt bx h).2;have:=HB1.out.size;have:=HBX.out;omega)
   have HGL:Hid (¬(Value.slice ao xs.length cap).ownBlock=some b):=Lib.hid (fun h=>by have:=(H2.out.lt b h).1;omega)
   have HX3:Hid (w3.heap[bx]? = some (.cells #[.string K0,.bool h0,.int .i64 k,.string S,.bool b0,.int .u64 n,.slice lo ln lc,.slice mo mn mc,.string I,.string U,.string U0] 98 (0,0))):=Lib.hid ((hgu.block bx (row_lt HXE.out) HGB.out).trans HXE.out)
   have HL3:Hid (w3.heap[b]? = some (.cells cs0 T0 (0,0))):=Lib.hid ((hgu.block b (by have:=row_lt HLD.out;simp;omega) HGL.out).trans ((Below.heap_alloc _ _ _ (row_lt HLD.out)).trans HLD.out))
   refine hK.out _ _ HX3.out ?_;clear hK K
   clear hgu hown3 hnew hgrow
   refine seqP_take _ rfl (fun K hK=>?_);go_simp;refine ⟨.pointer (some ⟨g,xs.length * 11,none⟩),fun _ _=>if_pos (by omega),hK _ ?_⟩;clear hK K
   (refine seqP_take _ rfl (fun K hK=>?_);go_simp;(first|refine hK _ ?_|refine ⟨_,fun _ _=>rfl,hK _ ?_⟩);clear hK K)
   have hgb:g≠b:=by omega
   have hbxb:bx≠b:=by have:=HBX.out;have:=HB1.out.size;omega
   have hgx:g≠bx:=fun e=>by
    rcases HNEW.out g rfl with h|h
    ·exact HGB.out (e ▸ h)
    ·omega
   have HFL:Hid (css.flatten.length=xs.length * 11):=Lib.hid (cel_flat kcel H3.out H4.out)
   have hth:∀ (W:World) (ys:List Value),W.ownsRow base 98 11 (.slice (some ⟨g,0,none⟩) (xs.length+1) cap') (xs.length+1) ys→ys.length=xs.length * 11+11→W.there g (xs.length * 11) 11:=fun W ys ho hy j hj=>⟨by rw[ho.cellAt (xs.length * 11+j) (by omega)];simp;omega,ho.frozenAt _⟩
   refine seqP_two _ _ rfl rfl (fun K hK=>?_) (fun K hK=>?_)
   ·rw[if_pos (by rfl)]
    refine wp_store_mid 98 _ _ rfl g (xs.length * 11) #[.string K0,.bool h0,.int .i64 k,.string S,.bool b0,.int .u64 n,.slice lo ln lc,.slice mo mn mc,.string I,.string U,.string U0] (by rfl) (by rfl) (hth _ _ HO3.out (by rw[List.length_append,HFL.out];rfl)) (by rfl) (by simp[Value.oneCell']) ?_
    obtain ⟨W4,hW4⟩:∃ W,w3.setCells g (xs.length * 11) (#[.string K0,.bool h0,.int .i64 k,.string S,.bool b0,.int .u64 n,.slice lo ln lc,.slice mo mn mc,.string I,.string U,.string U0]:Array Value).toList=W:=⟨_,rfl⟩
    have hset:=own_setCells (#[.string K0,.bool h0,.int .i64 k,.string S,.bool b0,.int .u64 n,.slice lo ln lc,.slice mo mn mc,.string I,.string U,.string U0]:Array Value).toList (xs.length * 11) w3 _ HO3.out
    rw[setFrom_end _ _ _ HFL.out (by rfl),hW4] at hset
    rw[hW4]
    obtain ⟨ho4,hu4⟩:=hset
    clear hW4
    have HO4:=Lib.hid ho4
    have HU4:=Lib.hid hu4
    have HX4:Hid (W4.heap[bx]? = some (.cells #[.string K0,.bool h0,.int .i64 k,.string S,.bool b0,.int .u64 n,.slice lo ln lc,.slice mo mn mc,.string I,.string U,.string U0] 98 (0,0))):=Lib.hid ((hu4.block bx (row_lt HX3.out) (fun e=>hgx e.symm)).trans HX3.out)
    have HL4:Hid (W4.heap[b]? = some (.cells cs0 T0 (0,0))):=Lib.hid ((hu4.block b (row_lt HL3.out) (fun e=>hgb e.symm)).trans HL3.out)
    clear ho4 hu4
    refine hK.out _ _ HX4.out ?_;clear hK K
    refine seqP_come _ rfl (fun K2 hK2=>?_)
    have hcb:W4.cell? ⟨b,o,none⟩=some (.slice ao xs.length cap):=row_cell HL4.out hcs
    have hfb:W4.frozen? ⟨b,o,none⟩=false:=row_thaw HL4.out o
    go_simp
    have hu5:=Upd.set W4 ⟨b,o,none⟩ (.slice (some ⟨g,0,none⟩) (xs.length+1) cap')
    refine hK2.out _ _ ((hu5.block bx (row_lt HX4.out) (fun e=>hbxb e)).trans HX4.out) ?_
    clear hK2 K2 hcb hfb
    refine seqP_done ?_
    go_wp2_with fail
    go_ret
    refine add_fin hbase HB1.out H3.out H4.out H5.out HREL.out (g:=g) (hb0:=fun k hk=>(H2.out.lt k hk).2) (cap':=cap') (W:=W4.setCell ⟨b,o,none⟩ (.slice (some ⟨g,0,none⟩) (xs.length+1) cap')) (row_set HL4.out o _) ?_ ?_ ?_
    ·exact HCS.out ▸ hu5.own HO4.out (fun k hk e=>by have e:k=b:=e;have:=(HO4.out.lt k hk).1;omega)
    ·refine ((Upd.of_new HBD.out).trans ((Upd.alloc _ _ _).trans (HGU.out.mono fun k _ h => .inr h))).trans' (S':=fun k=>k=g∨k=b) ((HU4.out.mono fun k _ h => .inl h).trans (hu5.mono fun k _ h => .inr h)) (fun k hk h=>?_)
     rcases h with h|h
     ·rcases HNEW.out g rfl with h2|h2
      ·exact .inr (h ▸ h2)
      ·have:=HBD.out.size;omega
     ·exact .inl h
    ·rcases HNEW.out g rfl with h|h
     ·exact .inl h
     ·exact .inr (by have:=HBD.out.size;omega)
   ·have hcb:w3.cell? ⟨b,o,none⟩=some (.slice ao xs.length cap):=row_cell HL3.out hcs
    have hfb:w3.frozen? ⟨b,o,none⟩=false:=row_thaw HL3.out o
    go_simp
    obtain ⟨W4,hW4⟩:∃ W,w3.setCell ⟨b,o,none⟩ (.slice (some ⟨g,0,none⟩) (xs.length+1) cap')=W:=⟨_,rfl⟩
    have hu4:=Upd.set w3 ⟨b,o,none⟩ (.slice (some ⟨g,0,none⟩) (xs.length+1) cap')
    have hl4:=row_set HL3.out o (.slice (some ⟨g,0,none⟩) (xs.length+1) cap')
    rw[hW4] at hu4 hl4 ⊢
    clear hW4 hcb hfb
    have HU4:=Lib.hid hu4
    have HL4:=Lib.hid hl4
    have HO4:=Lib.hid (hu4.own HO3.out (fun k hk e=>by have e:k=b:=e;have:=(HO3.out.lt k hk).1;omega))
    have HX4:Hid (W4.heap[bx]? = some (.cells #[.string K0,.bool h0,.int .i64 k,.string S,.bool b0,.int .u64 n,.slice lo ln lc,.slice mo mn mc,.string I,.string U,.string U0] 98 (0,0))):=Lib.hid ((hu4.block bx (row_lt HX3.out) (fun e=>hbxb e)).trans HX3.out)
    clear hu4 hl4
    refine hK.out _ _ HX4.out ?_;clear hK K
    refine seqP_wp _ rfl rfl (fun K2 hK2=>?_)
    refine wp_store_mid 98 _ _ rfl g (xs.length * 11) #[.string K0,.bool h0,.int .i64 k,.string S,.bool b0,.int .u64 n,.slice lo ln lc,.slice mo mn mc,.string I,.string U,.string U0] (by rfl) (by rfl) (hth _ _ HO4.out (by rw[List.length_append,HFL.out];rfl)) (by rfl) (by simp[Value.oneCell']) ?_
    obtain ⟨W5,hW5⟩:∃ W,W4.setCells g (xs.length * 11) (#[.string K0,.bool h0,.int .i64 k,.string S,.bool b0,.int .u64 n,.slice lo ln lc,.slice mo mn mc,.string I,.string U,.string U0]:Array Value).toList=W:=⟨_,rfl⟩
    have hset:=own_setCells (#[.string K0,.bool h0,.int .i64 k,.string S,.bool b0,.int .u64 n,.slice lo ln lc,.slice mo mn mc,.string I,.string U,.string U0]:Array Value).toList (xs.length * 11) W4 _ HO4.out
    rw[setFrom_end _ _ _ HFL.out (by rfl),hW5] at hset
    rw[hW5]
    obtain ⟨ho5,hu5⟩:=hset
    clear hW5
    refine hK2.out _ _ ((hu5.block bx (row_lt HX4.out) (fun e=>hgx e.symm)).trans HX4.out) ?_
    clear hK2 K2
    refine seqP_done ?_
    have HO5:=Lib.hid ho5
    have HU5:=Lib.hid hu5
    clear ho5 hu5
    go_wp2_with fail
    go_ret
    refine add_fin hbase HB1.out H3.out H4.out H5.out HREL.out (g:=g) (hb0:=fun k hk=>(H2.out.lt k hk).2) (cap':=cap') (W:=W5) ((HU5.out.block b (row_lt HL4.out) (fun e=>hgb e.symm)).trans HL4.out) ?_ ?_ ?_
    ·exact HCS.out ▸ HO5.out
    ·refine ((Upd.of_new HBD.out).trans ((Upd.alloc _ _ _).trans (HGU.out.mono fun k _ h => .inr h))).trans' (S':=fun k=>k=g∨k=b) ((HU4.out.mono fun k _ h => .inr h).trans (HU5.out.mono fun k _ h => .inl h)) (fun k hk h=>?_)
     rcases h with h|h
     ·rcases HNEW.out g rfl with h2|h2
      ·exact .inr (h ▸ h2)
      ·have:=HBD.out.size;omega
     ·exact .inl h
    ·rcases HNEW.out g rfl with h|h
     ·exact .inl h
     ·exact .inr (by have:=HBD.out.size;omega)
open Go.RowKit
open Go.RowKit
end Go.Proofs.YtjbingoliffjiaaGreatDoor
