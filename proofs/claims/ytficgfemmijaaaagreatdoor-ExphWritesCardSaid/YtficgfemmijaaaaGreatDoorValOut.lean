/-
  Fx, ValOut
-/
import Derived.Test.YtficgfemmijaaaaGreatDoorAlikeB
import Derived.Test.YtficgfemmijaaaaGreatDoorMsgRead
import Derived.Test.YtficgfemmijaaaaGreatDoorValPlain
import Derived.Test.YtficgfemmijaaaaGreatDoorMsgOpen
namespace Go.Proofs.YtficgfemmijaaaaGreatDoor
open Go.RowKit
open Lib (hid)
open Go.RowKit
structure Fx (A:World→Prop) (w:World):Prop where
  is:A w
  st:∀ w1 w2,A w1→Below w1.heap.size w1 w2→A w2
theorem Fx.nil (w:World):Fx (fun _=>True) w:=⟨trivial,fun _ _ _ _=>trivial⟩
theorem Fx.below {A:World→Prop}{w w':World}(h:Fx A w)(hb:Below w.heap.size w w'):Fx A w':=⟨h.st _ _ h.is hb,h.st⟩
theorem Fx.add {A B:World→Prop}{w:World}(h:Fx A w)(hb:B w)(hs:∀ w1 w2,B w1→Below w1.heap.size w1 w2→B w2):Fx (fun w=>B w∧A w) w:=⟨⟨hb,h.is⟩,fun _ _ h1 h2=>⟨hs _ _ h1.1 h2,h.st _ _ h1.2 h2⟩⟩
theorem Fx.base {A:World→Prop}{w w0:World}(h:Fx A w)(hb:Below w0.heap.size w0 w):Fx (fun w=>Below w0.heap.size w0 w∧A w) w:=h.add (B:=fun w=>Below w0.heap.size w0 w) hb fun _ _ h1 h2=>below_step h1 h2
theorem Fx.row {A:World→Prop}{w:World}{g:Nat}{c:Array Value}{T:TypeId}(h:Fx A w)(hb:w.heap[g]? = some (.cells c T (0,0))):Fx (fun w=>w.heap[g]? = some (.cells c T (0,0))∧A w) w:=h.add (B:=fun w=>w.heap[g]? = some (.cells c T (0,0))) hb fun _ _ h1 h2=>(h2.block _ (row_lt h1)).trans h1
theorem Fx.ec {A:World→Prop}{w:World}{v:Value}{c:Nat}(h:Fx A w)(hb:EC w v c):Fx (fun w=>EC w v c∧A w) w:=h.add (B:=fun w=>EC w v c) hb fun _ _ h1 h2=>h1.below h2
theorem row11 {w:World}{g:Nat}{c0 c1 c2 c3 c4 c5 c6 c7 c8 c9 c10:Value}{T:TypeId}{fr:Nat × Nat}(h:w.heap[g]? = some (.cells #[c0,c1,c2,c3,c4,c5,c6,c7,c8,c9,c10] T fr)):w.cell? ⟨g,0,none⟩=some c0∧w.cell? ⟨g,1,none⟩=some c1∧w.cell? ⟨g,2,none⟩=some c2∧w.cell? ⟨g,3,none⟩=some c3∧w.cell? ⟨g,4,none⟩=some c4∧w.cell? ⟨g,5,none⟩=some c5∧w.cell? ⟨g,6,none⟩=some c6∧w.cell? ⟨g,7,none⟩=some c7∧w.cell? ⟨g,8,none⟩=some c8∧w.cell? ⟨g,9,none⟩=some c9∧w.cell? ⟨g,10,none⟩=some c10:=⟨row_cell h (j:=0) rfl,row_cell h (j:=1) rfl,row_cell h (j:=2) rfl,row_cell h (j:=3) rfl,row_cell h (j:=4) rfl,row_cell h (j:=5) rfl,row_cell h (j:=6) rfl,row_cell h (j:=7) rfl,row_cell h (j:=8) rfl,row_cell h (j:=9) rfl,row_cell h (j:=10) rfl⟩
theorem new_row (w:World)(c:Array Value)(T:TypeId):(w.alloc (.cells c T)).heap[w.heap.size]? = some (.cells c T (0,0)):=heap_alloc_new _ _
def R2 (g1:Nat)(c1:Array Value)(T1:TypeId)(g2:Nat)(c2:Array Value)(T2:TypeId)(w:World):Prop:=w.heap[g1]? = some (.cells c1 T1 (0,0))∧w.heap[g2]? = some (.cells c2 T2 (0,0))
theorem R2.below {g1 g2:Nat}{c1 c2:Array Value}{T1 T2:TypeId}{w w':World}(h:R2 g1 c1 T1 g2 c2 T2 w)(hb:Below w.heap.size w w'):R2 g1 c1 T1 g2 c2 T2 w':=⟨(hb.block _ (row_lt h.1)).trans h.1,(hb.block _ (row_lt h.2)).trans h.2⟩
theorem Fx.cel {A:World→Prop}{w:World}{α:Type}{C:Cel α}{P:Nat→Prop}{x:α}{c:List Value}(h:Fx A w)(hb:C.R w P x c):Fx (fun w=>C.R w P x c∧A w) w:=h.add (B:=fun w=>C.R w P x c) hb fun _ _ h1 h2=>C.upd (Upd.of_new (S:=fun _=>False) h2) (fun _ _ h=>h) (fun _ h=>h) h1
open Go.RowKit
def rF (num n:Nat):Rec:=⟨num,1,n,[],vput (8 * num+1)++eight 8 n⟩
def vrec (k:Int)(s:List UInt8)(b:Bool)(n:Nat)(L M i:List UInt8):List UInt8 :=
  if k=1∨k=7 then (rB k.toNat s).raw
  else if k=2 then (rN 2 (if b then 1 else n)).raw
  else if k=3 then (rN 3 n).raw
  else if k=4 then (rF 4 n).raw
  else if k=5 then (rB 5 (L++i)).raw
  else if k=6 then (rB 6 (M++i)).raw
  else []
def krec (key:List UInt8):List UInt8:=if key=[] then [] else (rB 1 key).raw
mutual
def vout:Val→List UInt8
  | .mk k s b n l m i u=>vrec k s b n (vouts 1 l) (kouts 1 m) i++u
def kout:KV→List UInt8
  | .mk key has v u=>(krec key++(if has then (rB 2 (vout v)).raw else []))++u
def vouts:Nat→List Val→List UInt8
  | _,[]=>[]
  | num,x::xs=>(rB num (vout x)).raw++vouts num xs
def kouts:Nat→List KV→List UInt8
  | _,[]=>[]
  | num,x::xs=>(rB num (kout x)).raw++kouts num xs
end
def vnone:Val→Bool
  | .mk k s b n l m i u=>decide (k=0)&&u.isEmpty&&vpl k s.isEmpty b n l.length m.length i.isEmpty
mutual
def vmay:Val→Int→Bool
  | .mk k s b n l m i u,d=>(vpl k s.isEmpty b n l.length m.length i.isEmpty&&(!decide (k=1)||uvalid s)&&(!decide (k=5∨k=6)||(decide (1≤d)&&((vmays l (d - 1)&&kmays m (d - 1))&&munkOk itk i (d - 1)))))&&munkOk vtk u d
def kmay:KV→Int→Bool
  | .mk key has v u,d=>(uvalid key&&(if has then decide (1≤d)&&vmay v (d - 1) else vnone v))&&munkOk ktk u d
def vmays:List Val→Int→Bool
  | [],_=>true
  | x::xs,d=>(decide (1≤d)&&vmay x (d - 1))&&vmays xs d
def kmays:List KV→Int→Bool
  | [],_=>true
  | x::xs,d=>(decide (1≤d)&&kmay x (d - 1))&&kmays xs d
end
def vb:Val→Nat
  | .mk _ s _ _ l m i u=>20+s.length+i.length+u.length+vsw l+ksw m
def kb:KV→Nat
  | .mk key _ v u=>20+key.length+u.length+vw v
theorem vw_vb (x:Val):vw x=vb x+40:=by cases x;rw[vw,vb];omega
theorem kw_kb (x:KV):kw x=kb x+20:=by cases x;rw[kw,kb];omega
theorem vmays_app (d:Int):∀ (a b:List Val),vmays (a++b) d=(vmays a d&&vmays b d)
  | [],b=>by rw[vmays];simp
  | x::a,b=>by rw[List.cons_append,vmays,vmays,vmays_app d a b];simp only[Bool.and_assoc]
theorem kmays_app (d:Int):∀ (a b:List KV),kmays (a++b) d=(kmays a d&&kmays b d)
  | [],b=>by rw[kmays];simp
  | x::a,b=>by rw[List.cons_append,kmays,kmays,kmays_app d a b];simp only[Bool.and_assoc]
theorem vouts_app (n:Nat):∀ (a b:List Val),vouts n (a++b)=vouts n a++vouts n b
  | [],b=>by rw[vouts];rfl
  | x::a,b=>by rw[List.cons_append,vouts,vouts,vouts_app n a b,List.append_assoc]
theorem kouts_app (n:Nat):∀ (a b:List KV),kouts n (a++b)=kouts n a++kouts n b
  | [],b=>by rw[kouts];rfl
  | x::a,b=>by rw[List.cons_append,kouts,kouts,kouts_app n a b,List.append_assoc]
theorem vmays_one (x:Val)(d:Int):vmays [x] d=(decide (1≤d)&&vmay x (d - 1)):=by rw[vmays,vmays];simp
theorem kmays_one (x:KV)(d:Int):kmays [x] d=(decide (1≤d)&&kmay x (d - 1)):=by rw[kmays,kmays];simp
theorem vouts_one (x:Val)(n:Nat):vouts n [x]=(rB n (vout x)).raw:=by rw[vouts,vouts];simp
theorem kouts_one (x:KV)(n:Nat):kouts n [x]=(rB n (kout x)).raw:=by rw[kouts,kouts];simp
theorem vsw_len:∀ (l:List Val),l.length * 60≤vsw l
  | []=>by simp
  | x::xs=>by rw[vsw,List.length_cons];have:=vsw_len xs;have:=vw_vb x;cases x;rw[vb] at this;omega
theorem ksw_len:∀ (l:List KV),l.length * 40≤ksw l
  | []=>by simp
  | x::xs=>by rw[ksw,List.length_cons];have:=ksw_len xs;have:=kw_kb x;cases x;rw[kb] at this;omega
theorem vsw_at {l:List Val}{j:Nat}(h:j<l.length):vsw (l.take j)+vw l[j]≤vsw l:=by
  have h1:vsw l=vsw (l.take j)+vsw (l.drop j):=by rw[←vsw_app,List.take_append_drop]
  rw[List.drop_eq_getElem_cons h,vsw] at h1;omega
theorem ksw_at {l:List KV}{j:Nat}(h:j<l.length):ksw (l.take j)+kw l[j]≤ksw l:=by
  have h1:ksw l=ksw (l.take j)+ksw (l.drop j):=by rw[←ksw_app,List.take_append_drop]
  rw[List.drop_eq_getElem_cons h,ksw] at h1;omega
theorem vsw_take (l:List Val)(j:Nat):vsw (l.take j)≤vsw l:=by
  have h1:vsw l=vsw (l.take j)+vsw (l.drop j):=by rw[←vsw_app,List.take_append_drop]
  omega
theorem ksw_take (l:List KV)(j:Nat):ksw (l.take j)≤ksw l:=by
  have h1:ksw l=ksw (l.take j)+ksw (l.drop j):=by rw[←ksw_app,List.take_append_drop]
  omega
theorem vmays_take {l:List Val}{j:Nat}{d:Int}(h:vmays (l.take j) d=false):vmays l d=false:=by
  have h1:vmays l d=(vmays (l.take j) d&&vmays (l.drop j) d):=by rw[←vmays_app,List.take_append_drop]
  rw[h1,h];rfl
theorem kmays_take {l:List KV}{j:Nat}{d:Int}(h:kmays (l.take j) d=false):kmays l d=false:=by
  have h1:kmays l d=(kmays (l.take j) d&&kmays (l.drop j) d):=by rw[←kmays_app,List.take_append_drop]
  rw[h1,h];rfl
theorem whead_raw {num:Nat}(h1:1≤num)(h2:num≤536870911)(t:List UInt8):whead num t.length++t=(rB num t).raw:=by
  unfold whead;rw[show wtag (num:Int) 2=vput (8 * num+2) from wtag_ok (kind:=2) h1 h2 (by omega)]
  show (vput (8 * num+2)++vput t.length)++t=vput (8 * num+2)++(vput t.length++t)
  rw[List.append_assoc]
theorem wrec_raw {num ty:Nat}(h1:1≤num)(h2:num≤536870911)(h3:ty≤5)(rest:List UInt8):wrec (num:Int) (ty:Int) rest=vput (8 * num+ty)++rest:=by
  unfold wrec;rw[wtag_ok h1 h2 h3,if_neg (vput_ne _)]
theorem krec_parts (key:List UInt8):(wbytesP 1 key).flatten=krec key:=by
  unfold wbytesP krec
  split
  · rfl
  · rw[show (((1:Nat):Int))=((1:Nat):Int) from rfl]
    have:=wrec_raw (num:=1) (ty:=2) (by omega) (by omega) (by omega) (vput key.length++key)
    simp only[List.flatten_cons,List.flatten_nil,List.append_nil]
    exact this
theorem krec_len (key:List UInt8):(wbytesP 1 key).length≤1∧(wbytesP 1 key).flatten.length≤20+key.length:=by
  refine ⟨by unfold wbytesP;split<;>simp,?_⟩;rw[krec_parts];unfold krec
  split
  · simp
  · show (vput (8 * 1+2)++(vput key.length++key)).length≤_
    rw[List.length_append,List.length_append];have:=vput_le10 (8 * 1+2);have:=vput_le10 key.length;omega
theorem WvPost.conv {p:Nat}{d:Int}{ps:List (List UInt8)}{hs:List Hole}{b:Bool}{P:Nat→Prop}{w:World}{may m2:Bool}{t t2:List UInt8}{nl nf:Nat}{e:Ending}{w':World}(h:WvPost p d ps hs b P w may t nl nf e w')(hm:b=false→may=m2)(ht:b=false→may=true→t=t2):WvPost p d ps hs b P w m2 t2 nl nf e w':=by
  obtain ⟨qs,g1,g2,g3,g4⟩:=h
  have hb:(b||!may)=(b||!m2):=by
    cases b with
    | true=>rfl
    | false=>rw[hm rfl]
  rw[hb] at g1 g2;refine ⟨qs,g1,fun hf=>?_,g3,g4⟩
  cases b with
  | true=>cases hf
  | false =>
    have hm:=hm rfl;rw[g2 hf];refine ht rfl ?_
    cases m2
    · cases hf
    · exact hm
open Go.RowKit
mutual
theorem vout_le:∀ x:Val,(vout x).length≤vb x
 | .mk k s b n l m i u=>by
  rw[vout,vb,List.length_append];have h1:=vouts_le 1 (by omega) l;have h2:=kouts_le 1 (by omega) m
  have hB:∀ (num:Nat) (t:List UInt8),(rB num t).raw.length≤20+t.length:=fun num t=>by
   show (vput (8 * num+2)++(vput t.length++t)).length≤_
   rw[List.length_append,List.length_append];have:=vput_le10 (8 * num+2);have:=vput_le10 t.length;omega
  have hN:∀ (num t:Nat),(rN num t).raw.length≤20:=fun num t=>by
   show (vput (8 * num+0)++vput t).length≤_
   rw[List.length_append];have:=vput_le10 (8 * num+0);have:=vput_le10 t;omega
  have hF:∀ (num t:Nat),(rF num t).raw.length≤20:=fun num t=>by
   show (vput (8 * num+1)++eight 8 t).length≤_
   rw[List.length_append,eight_len];have:=vput_le10 (8 * num+1);omega
  have : (vrec k s b n (vouts 1 l) (kouts 1 m) i).length≤20+s.length+i.length+vsw l+ksw m:=by
   unfold vrec
   split
   ·have:=hB k.toNat s;omega
   ·split
    ·have:=hN 2 (if b then 1 else n);omega
    ·split
     ·have:=hN 3 n;omega
     ·split
      ·have:=hF 4 n;omega
      ·split
       ·have:=hB 5 (vouts 1 l++i);rw[List.length_append] at this;omega
       ·split
        ·have:=hB 6 (kouts 1 m++i);rw[List.length_append] at this;omega
        ·simp
  omega
theorem kout_le:∀ x:KV,(kout x).length≤kb x
 | .mk key has v u=>by
  rw[kout,kb,List.length_append,List.length_append];have h1:=vout_le v;have h2:=vw_vb v
  have hB:∀ (num:Nat) (t:List UInt8),(rB num t).raw.length≤20+t.length:=fun num t=>by
   show (vput (8 * num+2)++(vput t.length++t)).length≤_
   rw[List.length_append,List.length_append];have:=vput_le10 (8 * num+2);have:=vput_le10 t.length;omega
  have h3:(krec key).length≤20+key.length:=by
   unfold krec
   split
   ·simp
   ·exact hB 1 key
  have h4:=hB 2 (vout v)
  cases has<;>simp<;>omega
theorem vouts_le:∀ (num:Nat),num≤536870911→∀ l:List Val,(vouts num l).length≤vsw l
 | num,hn,[]=>by rw[vouts];simp
 | num,hn,x::xs=>by
  rw[vouts,vsw,List.length_append];have h1:=vout_le x;have h2:=vw_vb x;have h3:=vouts_le num hn xs
  have h4:(rB num (vout x)).raw.length≤20+(vout x).length:=by
   show (vput (8 * num+2)++(vput (vout x).length++vout x)).length≤_
   rw[List.length_append,List.length_append];have:=vput_le10 (8 * num+2);have:=vput_le10 (vout x).length;omega
  omega
theorem kouts_le:∀ (num:Nat),num≤536870911→∀ l:List KV,(kouts num l).length≤ksw l
 | num,hn,[]=>by rw[kouts];simp
 | num,hn,x::xs=>by
  rw[kouts,ksw,List.length_append];have h1:=kout_le x;have h2:=kw_kb x;have h3:=kouts_le num hn xs
  have h4:(rB num (kout x)).raw.length≤20+(kout x).length:=by
   show (vput (8 * num+2)++(vput (kout x).length++kout x)).length≤_
   rw[List.length_append,List.length_append];have:=vput_le10 (8 * num+2);have:=vput_le10 (kout x).length;omega
  omega
end
def vmayD (x:Val)(d:Int):Bool:=decide (0≤d)&&vmay x d
def kmayD (x:KV)(d:Int):Bool:=decide (0≤d)&&kmay x d
theorem vmays_all (d:Int):∀ l:List Val,vmays l (d - 1)=l.all fun x=>vmayD x (d - 2)
 | []=>by rw[vmays];rfl
 | x::xs=>by
  rw[vmays,vmays_all d xs,List.all_cons,vmayD,show d - 1 - 1=d - 2 by omega]
  congr 2
  congr 1
  exact propext ⟨fun h=>by omega,fun h=>by omega⟩
theorem kmays_all (d:Int):∀ l:List KV,kmays l (d - 1)=l.all fun x=>kmayD x (d - 2)
 | []=>by rw[kmays];rfl
 | x::xs=>by
  rw[kmays,kmays_all d xs,List.all_cons,kmayD,show d - 1 - 1=d - 2 by omega]
  congr 2
  congr 1
  exact propext ⟨fun h=>by omega,fun h=>by omega⟩
end Go.Proofs.YtficgfemmijaaaaGreatDoor
