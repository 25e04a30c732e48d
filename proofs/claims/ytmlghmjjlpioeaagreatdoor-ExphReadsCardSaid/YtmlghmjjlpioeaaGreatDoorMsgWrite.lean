/-
  strings.Builder: its check of copies, WriteString and String, over this program.
-/
import Derived.Lib.Builder
import Derived.Lib.AppendStr
import Derived.Lib.UnsafeStr
import Derived.Laws.Externs
import Derived.Laws.IdiomCopy
import Derived.Shelf.Strings.Builder1
import Derived.ProofKit
import Derived.Deep.LoopGhost
import Derived.Deep.QuietTactic
import Derived.Laws.AppendOwnNone
import Derived.Test.YtmlghmjjlpioeaaGreatDoorMsgRead
set_option maxRecDepth 1000000
set_option maxHeartbeats 16000000
namespace Go.Proofs.YtmlghmjjlpioeaaGreatDoor
open Lib (hid)
open Go.RowKit Go.Shelf
def kg (B b:Nat)(l:List UInt8)(w:World):Prop:=Lib.IsBuilder 178 5 B b (Lib.byteCells l) w
theorem zbc (b:Nat)(w:World)(h0:w.cell? ⟨b,0,none⟩=some (.pointer (some ⟨b,0,none⟩))) :
  Calls Tryz.prog 122 #[.pointer (some ⟨b,0,none⟩)] w fun e w'=>e=.returned (.tuple #[])/\w'=w:=by
 obtain⟨j,hj,_⟩:=Option.map_eq_some_iff.1 (show(Tryz.prog.info? 178).map (·.size)=some 2 by kernel_rfl);go_enter Tryz.func122,Tryz.ntmps122
 go_wp2
 rw[Lib.run_neq_ptr_same w _ Tryz.underlying175 hj]
 go_wp2
 go_end0
 exact⟨rfl,rfl⟩
theorem zav (b:Nat)(w:World)(h0:w.cell? ⟨b,0,none⟩=some (.pointer none))(hsh:w.shape? b=some (178,2))(hfz:w.frozen? ⟨b,0,none⟩=false) :
  Calls Tryz.prog 122 #[.pointer (some ⟨b,0,none⟩)] w fun e w'=>e=.returned (.tuple #[])/\w'=w.setCell ⟨b,0,none⟩ (.pointer (some ⟨b,0,none⟩)):=by
 obtain⟨j,hj,hjs⟩:=Option.map_eq_some_iff.1 (show(Tryz.prog.info? 178).map (·.size)=some 2 by kernel_rfl);go_enter Tryz.func122,Tryz.ntmps122
 go_wp2
 rw[Lib.run_to_unsafe w ⟨b,0,none⟩ Tryz.underlying175 Tryz.underlying216 hj (by rw[hjs];decide) hsh (by show 0<2;decide)]
 simp only[Result.andThen]
 rw[Oper.upon_value]
 go_wp2
 rw[run_callFunc_extern Tryz.func149 (by kernel_rfl) (by kernel_rfl) (by kernel_rfl) (e:=Extern.AbiNoEscape.same) (by kernel_rfl)];rw[Lib.run_noEscape]
 simp only[Result.andThen]
 rw[Oper.upon_value]
 go_wp2
 rw[Lib.run_from_unsafe w ⟨b,0,none⟩ Tryz.underlying216 Tryz.underlying175 hj hsh (by kernel_rfl)]
 simp only[Result.andThen]
 rw[Oper.upon_value]
 go_wp2
 go_end0
 exact⟨rfl,rfl⟩
theorem zel (B b:Nat)(l:List UInt8)(w:World)(h:kg B b l w) :
  Calls Tryz.prog 122 #[.pointer (some ⟨b,0,none⟩)] w fun e w'=>e=.returned (.tuple #[])/\Lib.BuilderAt 178 5 B b (.pointer (some ⟨b,0,none⟩)) (Lib.byteCells l) w'/\Below B w w':=by
 rcases h with hf|hu
 ·exact (zav b w hf.cell0 hf.shape hf.frozen0).mono fun e w' ⟨he,hw⟩=>by
   subst hw;exact⟨he,hf.used _,(Below.refl B w).setCell (p:=⟨b,0,none⟩) hf.1 _⟩
 ·exact (zbc b w hu.cell0).mono fun e w' ⟨he,hw⟩=>by
   subst hw;exact⟨he,hu,Below.refl B _⟩
theorem zdz (B b:Nat)(l:List UInt8)(s:ByteArray)(w:World)(h:kg B b l w)(hlen:l.length+s.size<=140737488355328)(hBw:B<=w.heap.size) :
  Calls Tryz.prog 84 #[.pointer (some ⟨b,0,none⟩),.string s] w fun e w'=>e=.returned (.tuple #[.int .i64 s.size,.nilIface])/\kg B b (l++s.data.toList) w'/\Below B w w':=by
 obtain⟨i0,hi,hz0,hz1,hz2⟩:=info_parts (show(Tryz.prog.info? 5).map (fun i=>(i.zero,i.size,i.bytes))=some (some (.int .u8 0),1,1)by kernel_rfl);go_enter Tryz.func84,Tryz.ntmps84;go_wp2_with fail;refine(zel B b l w h).mono ?_;rintro e w1 ⟨rfl,⟨hB,v,hbk,hown,hne⟩,hb1⟩;have hw1:=hb1.size;have c0:w1.cell? ⟨b,0,none⟩=some (.pointer (some ⟨b,0,none⟩)):=by rw[Lib.cell_of_heap hbk];rfl
 have c1:w1.cell? ⟨b,1,none⟩=some v:=by rw[Lib.cell_of_heap hbk];rfl
 have hl:=Lib.byteCells_length l;go_wp2_with (at_builtin;refine Lib.wpList_append_own_string _ rfl _ _ 176 9 rfl B 5 i0 Tryz.underlying176 Tryz.underlying9 hi hz0 hz1 hz2 _ _ _ rfl hown s rfl ?room ?bytes ?base ?_)
 case room=>unfold maxLen;omega
 case bytes=>omega
 case base=>omega
 intro v' w2 hown' hgrow _;have hlt:b<w1.heap.size:=(Array.getElem?_eq_some_iff.1 hbk).1;have hb2:w2.heap[b]?=some (.cells #[.pointer (some ⟨b,0,none⟩),v] 178 (0,0)):=(hgrow.block b hlt (fun e=>hne e.symm)).trans hbk;have d0:w2.cell? ⟨b,0,none⟩=some (.pointer (some ⟨b,0,none⟩)):=by rw[Lib.cell_of_heap hb2];rfl
 have d1:w2.cell? ⟨b,1,none⟩=some v:=by rw[Lib.cell_of_heap hb2];rfl
 have f1:w2.frozen? ⟨b,1,none⟩=false:=Lib.frozen_of_heap hb2 1
 obtain ⟨ao,n',cap,rfl⟩:∃ao n' cap,v'=.slice ao n' cap:=by
  rcases hown'.2 with ⟨hv,_⟩|⟨g,cap,cur,hv,_⟩<;>exact⟨_,_,_,hv⟩
 clear hl;go_wp2_with fail
 go_ret2
 have hput:Lib.BuilderAt 178 5 B b (.pointer (some ⟨b,0,none⟩)) (Lib.byteCells l++Lib.strCells s) _:=Lib.BuilderAt.put hB hb2 (by simpa [Lib.strCells_length,Lib.byteCells_length] using hown') (by decide);refine⟨rfl,.inr ?_,(hb1.grown hgrow (by omega) (fun k hk=>(hown.lt k hk).1)).setCell (p:=⟨b,1,none⟩) hB _⟩;have e:Lib.byteCells (l++s.data.toList)=Lib.byteCells l++Lib.strCells s:=by simp[Lib.byteCells,Lib.strCells]
 rw[e];exact hput
def z3t:Go.Shelf.Ren:=⟨fun|169=>86|n=>n,fun|70=>175|9=>9|0=>0|72=>178|37=>176|127=>236|3=>3|5=>5|n=>n,fun|n=>n⟩
theorem lay169:Lays.n169 Tryz.prog z3t:={
 mixed:=by kernel_rfl
 f169:=Tryz.func86.trans (congrArg some (by kernel_rfl))
 t0:=Tryz.underlying0
 a0:=Tryz.isAgg0
 z0:=Tryz.sizeOf0
 v0:=Tryz.zeroValue0
 t3:=Tryz.underlying3
 a3:=Tryz.isAgg3
 z3:=Tryz.sizeOf3
 v3:=Tryz.zeroValue3
 t9:=Tryz.underlying9
 a9:=Tryz.isAgg9
 z9:=Tryz.sizeOf9
 v9:=Tryz.zeroValue9
 t37:=Tryz.underlying176
 a37:=Tryz.isAgg176
 z37:=Tryz.sizeOf176
 v37:=Tryz.zeroValue176
 t70:=Tryz.underlying175
 a70:=Tryz.isAgg175
 z70:=Tryz.sizeOf175
 v70:=Tryz.zeroValue175
 t72:=Tryz.underlying178
 a72:=Tryz.isAgg178
 z72:=Tryz.sizeOf178
 v72:=Tryz.zeroValue178
 t127:=Tryz.underlying236
 a127:=Tryz.isAgg236
 z127:=Tryz.sizeOf236
 v127:=Tryz.zeroValue236 }
theorem zf4:Builder.Extra Tryz.prog z3t:={
 sizeBuilder:=by kernel_rfl
 liesBuilder:=by kernel_rfl
 t5:=Tryz.underlying5
 a5:=Tryz.isAgg5
 z5:=Tryz.sizeOf5
 v5:=Tryz.zeroValue5
 infoByte:=by kernel_rfl
 cellsByte:=by kernel_rfl
 sizeByte:=by kernel_rfl
 neB5:=by decide }
theorem zf1 (B b:Nat)(l:List UInt8)(w:World)(h:kg B b l w)(hBw:B<=w.heap.size) :
  Calls Tryz.prog 86 #[.pointer (some ⟨b,0,none⟩)] w fun e w'=>e=.returned (.string ⟨l.toArray⟩)/\Below B w w':=Any.Builder_String_any lay169 zf4 B b l w h hBw
open Go.ChangeShapes Go.WideShapes Go.ChangeAt Go.RowKit
def Nats (k:IntKind)(w:World)(ao:Option Addr)(l:List Nat):Prop :=
 l≠[]->∃b off,ao=some ⟨b,off,none⟩/\b<w.heap.size/\∀j (h:j<l.length),w.cell? ⟨b,off+j,none⟩=some (.int k ((l[j]:Nat):Int))
theorem Nats.below {k:IntKind}{w w':World}{ao:Option Addr}{l:List Nat}(h:Nats k w ao l)(hb:Below w.heap.size w w'):Nats k w' ao l:=fun hn=>by
 obtain⟨b,off,e,hlt,hc⟩:=h hn;exact⟨b,off,e,Nat.lt_of_lt_of_le hlt hb.size,fun j hj=>(hb.cell (p:=⟨b,off+j,none⟩) hlt).trans (hc j hj)⟩
theorem Nats.at {k:IntKind}{w:World}{ao:Option Addr}{l:List Nat}(h:Nats k w ao l){i:Nat}(hi:i<l.length):∃b off n,Hid (n=l[i])/\ao=some ⟨b,off,none⟩/\b<w.heap.size/\w.cell? ⟨b,off+i,none⟩=some (.int k ((n:Nat):Int)):=by
 obtain⟨b,off,e,hlt,hc⟩:=h (by intro e;subst e;simp at hi);exact⟨b,off,l[i],hid rfl,e,hlt,hc i hi⟩
open Go.RowKit
theorem z1s {w:World}{base:Nat}{e:TypeId}{ao:Option Addr}{cap:Nat}{l:List Nat}(h:w.ownsRow base e 1 (.slice ao l.length cap) l.length (l.map fun n:Nat => .int .u64 n)):Nats .u64 w ao l:=fun hn=>by
 obtain⟨g,cap',hv,_,h2,_⟩:=yj h (List.length_pos_iff.2 hn)
 simp only[Value.slice.injEq]at hv
 obtain⟨rfl,_,rfl⟩:=hv;refine⟨g,0,rfl,h2,fun j hj=>?_⟩;rw[Nat.zero_add,h.cellAt j (by omega)]
 simp[List.getElem?_eq_getElem hj]
open Go.ChangeShapes Go.WideShapes Go.ChangeAt Go.RowKit
def k0 (l:List Nat):List Value:=l.map fun n:Nat => .int .u64 n
theorem z2i {P:Program} {w:World} {ops:Array Oper} {rest:List Oper} {o:Oper} {a:Act} {Q:Exit->Act->World->Prop} (s x:Operand) (t:TypeId)
  (ho:o.op=.call { callee := .builtin .append,args:=#[s,x],argTypes:=#[t,t] }) (hg:o.guard=none)
  {base:Nat} {e:TypeId} {z:Value} {bytes:Nat} (he:Elem P t e z 1 bytes)
  {v:Value} {n:Nat} {xs:List Value} (hown:w.ownsRow base e 1 v n xs) (hs:a.eval s=v)
  {ao:Option Addr} {cap:Nat} {l:List Nat} (hu:Nats .u64 w ao l) (hnil:ao=none->cap=0) (hx:a.eval x=.slice ao l.length cap)
  (h63:n+l.length<=maxLen) (hbytes:(n+l.length)*bytes<=140737488355328) (hbase:base<=w.heap.size)
  (h:∀v' w',w'.ownsRow base e 1 v' (n+l.length) (xs++k0 l)->w.grownBy w' v.ownBlock->wpList P ops Q rest (a.put o.dst v') w'):wpList P ops Q (o::rest) a w:=by
 obtain⟨ht,hi0,hzs⟩:=he;obtain⟨i,hi,hz,hsize,hby⟩:=info_parts hi0
 have key:∀AD:Addr,ao=some AD->(∀j (y:Value),(k0 l)[j]?=some y->w.cell? (AD.add j)=some y)->wpList P ops Q (o::rest) a w:=by
  intro AD hA hcell;refine wpList_append_own w hg s x t ho base e i z 1 bytes ht hi hz hsize hby hzs (by decide) v n xs hs hown AD l.length cap (k0 l) (by rw[hx,hA]) (by simp[k0]) ?_ ?_ h63 hbytes hbase fun v' w' h2 h3 _=>h v' w' h2 h3
  ·exact hcell
  ·intro y hy
   obtain⟨q,_,rfl⟩:=List.mem_map.1 hy
   rfl
 by_cases hl:l=[]
 ·subst hl
  cases ao with
  | none =>
   refine wpList_append_own_none hg s x t ho base e i 1 ht hi v n xs hs hown (by rw[hx,hnil rfl];rfl) ?_;exact h v w (by simpa [k0] using hown) ⟨rfl,rfl,rfl,Nat.le_refl _,fun _ _ _=>rfl⟩
  | some AD=>exact key AD rfl (fun j y hy=>by simp[k0]at hy)
 ·obtain⟨b,off,hA,_,hc⟩:=hu hl
  refine key _ hA fun j y hj=>?_
  have hj':j<l.length:=by
   have:=(List.getElem?_eq_some_iff.1 hj).1
   simpa [k0] using this
  have hadd:(⟨b,off,none⟩:Addr).add j=⟨b,off+j,none⟩:=by unfold Addr.add;split<;>simp_all
  rw[hadd,hc j hj']
  simpa [k0,List.getElem?_eq_getElem hj'] using hj
def EV8 (b:Bool)(w:World)(ev:Value):Prop:=if b then EC w ev 8 else ev=.nilIface
theorem EV8.no {w:World}{ev:Value}(h:EV8 false w ev):ev=.nilIface:=h
theorem EV8.yes {w:World}{ev:Value}(h:EV8 true w ev):EC w ev 8:=h
theorem EV8.upd {S:Nat->Prop}{b:Bool}{w w':World}{ev:Value}(h:EV8 b w ev)(hu:Upd S w w')(hS:∀k,S k->∀(b:Bool) (n:Int) (e:Value),w.heap[k]?≠some (.cells #[.int .i64 n,e] (z16 b) (0,0))):EV8 b w' ev:=by
 cases b with
 | false=>exact h
 | true =>
  obtain⟨ws,h⟩:=h;exact⟨ws,x8 hu hS h⟩
def WrAt (p:Nat)(d:Int)(vo:Value)(ps:List (List UInt8))(b:Bool)(P:Nat->Prop)(w:World):Prop:=∃vp ev,w.heap[p]?=some (.cells #[.int .i64 d,vp,.int .i64 ps.flatten.length,vo,ev] 189 (0,0))/\w.ownsRow (p+1) 9 1 vp ps.length (ps.map strV)/\EV8 b w ev/\P=fun k=>k=p∨vp.ownBlock=some k
theorem z7k {w:World}{base:Nat}{e:TypeId}{size:Nat}{v:Value}{n:Nat}{xs:List Value}(h:w.ownsRow base e size v n xs){k:Nat}(hk:v.ownBlock=some k):∃cur,w.heap[k]?=some (.cells cur e (0,0)):=by
 rcases h.2 with ⟨rfl,_⟩|⟨g,cap,cur,rfl,_,hg,_⟩
 ·simp[Value.ownBlock]at hk
 ·have:g=k:=by simpa [Value.ownBlock] using hk
  subst this;exact⟨cur,hg⟩
theorem z6z (b:Bool):(9:TypeId)≠z16 b:=by cases b<;>decide
theorem zbk {p:Nat}{d:Int}{vo:Value}{ps:List (List UInt8)}{b:Bool}{P:Nat->Prop}{w:World}(h:WrAt p d vo ps b P w)(k:Nat)(hk:P k)(c:Bool)(n:Int)(e:Value):w.heap[k]?≠some (.cells #[.int .i64 n,e] (z16 c) (0,0)):=by
 obtain⟨vp,ev,h1,h2,h3,rfl⟩:=h;intro hh
 rcases hk with rfl|hk
 ·rw[h1]at hh;simp at hh
 ·obtain⟨cur,hc⟩:=z7k h2 hk
  rw[hc]at hh
  simp only[Option.some.injEq,Obj.cells.injEq]at hh
  exact z6z c hh.2.1
theorem z32 {p:Nat}{d:Int}{vo:Value}{ps:List (List UInt8)}{b:Bool}{P:Nat->Prop}{w:World}(h:WrAt p d vo ps b P w)(k:Nat)(hk:P k):p<=k/\k<w.heap.size:=by
 obtain⟨vp,ev,h1,h2,h3,rfl⟩:=h
 rcases hk with rfl|hk
 ·exact⟨Nat.le_refl _,z8 h1⟩
 ·have:=h2.lt k hk;omega
theorem Jo {p:Nat}{d:Int}{vo:Value}{ps:List (List UInt8)}{b:Bool}{P:Nat->Prop}{w w':World}(h:WrAt p d vo ps b P w)(hb:Below w.heap.size w w'):WrAt p d vo ps b P w':=by
 obtain⟨vp,ev,h1,h2,h3,rfl⟩:=h;have hu:Upd (fun _=>False) w w':=Upd.of_new hb;exact⟨vp,ev,(hu.block p (z8 h1) (fun h=>h)).trans h1,hu.own h2 (fun _ _ h=>h),h3.upd hu (fun _ h=>h.elim),rfl⟩
def wps:Bool->List (List UInt8)->List (List UInt8)->List (List UInt8)
 | true,ps,_=>ps
 | false,ps,ts=>ps++ts
theorem z9f (b:Bool)(ps:List (List UInt8)):wps b ps []=ps:=by cases b<;>simp[wps]
def Qu (num n:Nat):List (List UInt8):=if n=0 then []else [wrec num 0 (vput n)]
theorem z92 (num:Nat):Qu num 0=[]:=if_pos rfl
theorem z8r {num n:Nat}(h:n≠0):Qu num n=[wrec num 0 (vput n)]:=if_neg h
def Xk (p:Nat)(d:Int)(vo:Value)(ps:List (List UInt8))(b:Bool)(P:Nat->Prop)(w:World)(e:Ending)(w':World):Prop :=
 e=.returned (.tuple #[])/\Upd P w w'/\∃P',WrAt p d vo ps b P' w'/\∀k,P' k->P k∨w.heap.size<=k
theorem Je {p:Nat}{d:Int}{vo:Value}{ps:List (List UInt8)}{b:Bool}{P:Nat->Prop}{w:World}(h:WrAt p d vo ps b P w):Xk p d vo ps b P w (.returned (.tuple #[])) w:=⟨rfl,Upd.refl _ _,P,h,fun _ h => .inl h⟩
theorem zcs (p:Nat)(d:Int)(vo:Value)(ps:List (List UInt8))(b:Bool)(P:Nat->Prop)(T:TypeId)(y:Value)(w:World)(h:Hid (WrAt p d vo ps b P w))(hec:Hid (EC w (.iface T y) 8)) :
  Calls Tryz.prog 129 #[.pointer (some ⟨p,0,none⟩),.iface T y] w (Xk p d vo ps true P w):=by
 have HN:=hid (zbk h.out);obtain⟨vp,ev,h1,h2,h3,rfl⟩:=h.out;have hc4:=rc4 h1;have hfz:=z7 h1 4;have H1:=hid h1;have H2:=hid h2;have H3:=hid h3;clear h1 h2 h3
 cases b with
 | true =>
  obtain⟨T',y',rfl⟩:=H3.out.yes.iface;go_enter Tryz.func129,Tryz.ntmps129;go_wp2_with fail
  go_end0
  exact Je h.out
 | false =>
  obtain rfl:=H3.out.no;go_enter Tryz.func129,Tryz.ntmps129;go_wp2_with fail
  go_end0
  have hu:=Upd.set w ⟨p,4,none⟩ (.iface T y);refine⟨rfl,hu.mono (fun k _ hk => .inl hk),_,⟨vp,.iface T y,ze H1.out 4 _,hu.own H2.out (fun k hk e=>by have e:k=p:=e;have:=(H2.out.lt k hk).1;omega),?_,rfl⟩,fun k hk => .inl hk⟩;obtain⟨ws,he⟩:=hec.out;exact⟨ws,x8 hu (fun k hk=>HN.out k (.inl hk)) he⟩
theorem z6u (p:Nat)(d:Int)(vo:Value)(ps:List (List UInt8))(b:Bool)(P:Nat->Prop)(g:Bool)(w:World)(h:Hid (WrAt p d vo ps b P w)) :
  Calls Tryz.prog 91 #[.pointer (some ⟨p,0,none⟩),.bool g] w (Xk p d vo ps (b||!g) P w):=by
 cases g with
 | true =>
  go_enter Tryz.func91,Tryz.ntmps91;go_wp2_with fail
  go_end0
  have:=Je h.out
  simpa using this
 | false =>
  go_enter Tryz.func91,Tryz.ntmps91;go_wp2_with fail;refine(zcs p d vo ps b P _ _ w h (hid ⟨[],rfl⟩)).mono ?_;intro e w1 hpost;obtain⟨rfl,hpost⟩:=hpost;have HP:=hid hpost;clear hpost;go_wp2_with fail
  go_end0
  have:(b||!false)=true:=by simp
  rw[this];exact⟨rfl,HP.out⟩
theorem z2a (p:Nat)(d:Int)(vo:Value)(ps:List (List UInt8))(b:Bool)(P:Nat->Prop)(t:List UInt8)(w:World)(h:Hid (WrAt p d vo ps b P w))(hl:ps.length<=1000000)(hf:ps.flatten.length+t.length<=100000000) :
  Calls Tryz.prog 92 #[.pointer (some ⟨p,0,none⟩),strV t] w (Xk p d vo (wps b ps [t]) b P w):=by
 obtain⟨X,hX⟩:∃X:ByteArray,(⟨t.toArray⟩:ByteArray)=X:=⟨_,rfl⟩
 have hXs:X.size=t.length:=by rw[<-hX];simp[ByteArray.size]
 have HX:=hid hX;have HN:=hid (zbk h.out);obtain⟨vp,ev,h1,h2,h3,rfl⟩:=h.out;have hc4:=rc4 h1;have hc1:=rc1 h1;have hfz:=z7 h1 1;have H1:=hid h1;have H2:=hid h2;have H3:=hid h3;have hpw:=z8 h1;unfold strV;rw[hX];clear h1 h2 h3 hX
 cases b with
 | true =>
  obtain⟨T',y',rfl⟩:=H3.out.yes.iface;go_enter Tryz.func92,Tryz.ntmps92;go_wp2_with fail
  go_end0
  exact Je h.out
 | false =>
  obtain rfl:=H3.out.no;obtain⟨ao,cap,rfl⟩:=zh H2.out;obtain⟨L,hL⟩:=nmd (ps.flatten.length)
  have HL:=hid hL;rw[hL]at hf;clear hL;go_enter Tryz.func92,Tryz.ntmps92;go_wp2_with (at_builtin;refine xw (c:=1) (cs:=[.string X]) rfl _ _ 70 rfl Tryz.elStrM (by decide) H2.out rfl (by show Value.slice (some ⟨w.heap.size,0,none⟩) 1 1=_;simp) rfl (by simp[Value.oneCell']) (by unfold maxLen;omega) (by omega) (by omega) ?_;intro g' cap' w2 hown2 hgrow hng;have HR2:Hid (w2.heap[p]?=some (.cells #[.int .i64 d,.slice ao ps.length cap,.int .i64 ps.flatten.length,vo,.nilIface] 189 (0,0))):=hid ((hgrow.block _ hpw (fun e=>by have h7:=(H2.out.lt _ e.symm).1;omega)).trans H1.out);have hc1':=rc1 HR2.out;have hfz1:=z7 HR2.out 1;have hc2':w2.cell? ⟨p,2,none⟩=some (.int .i64 L):=(by rw[<-HL.out];exact za HR2.out (j:=2) rfl);have hfz2:=z7 HR2.out 2)
  go_end0
  have hgu:Upd (fun k=>(Value.slice ao ps.length cap).ownBlock=some k) w w2:=Upd.of_grown hgrow;have hu1:=Upd.set w2 ⟨p,1,none⟩ (.slice (some ⟨g',0,none⟩) (ps.length+1) cap');have hu2:=Upd.set (w2.setCell ⟨p,1,none⟩ (.slice (some ⟨g',0,none⟩) (ps.length+1) cap')) ⟨p,2,none⟩ (.int .i64 ((L:Int)+(t.length:Int)));have hrow:((w2.setCell ⟨p,1,none⟩ (.slice (some ⟨g',0,none⟩) (ps.length+1) cap')).setCell ⟨p,2,none⟩ (.int .i64 ((L:Int)+(t.length:Int)))).heap[p]?=some (.cells #[.int .i64 d,.slice (some ⟨g',0,none⟩) (ps.length+1) cap',.int .i64 ((L:Int)+(t.length:Int)),vo,.nilIface] 189 (0,0)):=ze (ze HR2.out 1 _) 2 _;refine⟨rfl,((hgu.mono fun k _ h => .inr h).trans (hu1.mono fun k _ h => .inl h)).trans (hu2.mono fun k _ h => .inl h),_,⟨.slice (some ⟨g',0,none⟩) (ps.length+1) cap',.nilIface,?_,?_,rfl,rfl⟩,fun k hk=>?_⟩
  ·have e:(((ps++[t]).flatten.length:Nat):Int)=(L:Int)+(t.length:Int):=by rw[List.flatten_append,List.length_append,<-HL.out];simp
   refine hrow.trans ?_
   show _=some (Obj.cells #[Value.int .i64 d,_,Value.int .i64 (((ps++[t]).flatten.length:Nat):Int),vo,Value.nilIface] _ (0,0))
   rw[e]
  ·have h9:=hu2.own (hu1.own hown2 (fun k hk e=>by have e:k=p:=e;have:=(hown2.lt k hk).1;omega)) (fun k hk e=>by have e:k=p:=e;have:=(hown2.lt k hk).1;omega)
   show World.ownsRow _ _ _ _ _ (ps++[t]).length ((ps++[t]).map strV)
   rw[List.length_append,List.map_append,List.map_cons,List.map_nil];unfold strV;rw[HX.out];exact h9
  ·rcases hk with hk|hk
   ·exact .inl (.inl hk)
   ·have hk':g'=k:=by simpa [Value.ownBlock] using hk
    subst hk'
    rcases hng with h|h
    ·exact .inl (.inr h)
    ·exact .inr h
theorem zf7 (p:Nat)(d:Int)(vo:Value)(ps:List (List UInt8))(b:Bool)(P:Nat->Prop)(num n:Nat)(w:World)(h:Hid (WrAt p d vo ps b P w))(hn:n<18446744073709551616)(h1:1<=num)(h2:num<=536870911)(hl:ps.length<=1000000)(hf:ps.flatten.length<=10000000) :
  Calls Tryz.prog 47 #[.pointer (some ⟨p,0,none⟩),.int .i64 num,.int .u64 n] w (Xk p d vo (wps b ps (Qu num n)) b P w):=by
 by_cases h0:n=0
 ·subst h0
  go_enter Tryz.func47,Tryz.ntmps47;go_wp2_with fail
  go_end0
  rw[z92,z9f];exact Je h.out
 ·have d1:((n:Int) != 0)=true:=by rw[bne_iff_ne];omega
  have HZ:=hid h0;have hvl:=(zu n).2;have htl:=Y5 (num:Int) 0;have hwl:(wrec (num:Int) 0 (vput n)).length<=20:=by unfold wrec;split<;>simp<;>omega
  clear h0;go_enter Tryz.func47,Tryz.ntmps47;go_wp2_with fail;refine(z85 (num:Int) n _ (by omega) (by omega) hn).mono ?_;rintro e w1 ⟨rfl,hb1⟩;have HB1:=hid hb1;have HW1:=hid (Jo h.out hb1);clear hb1;go_wp2_with fail;refine(z2a p d vo ps b P (wrec (num:Int) 0 (vput n)) _ HW1 hl (by omega)).mono ?_;intro e w2 hpost;obtain⟨rfl,hu,P',hw,hp⟩:=hpost;have HU:=hid hu;have HW:=hid hw;have HP:=hid hp;clear hu hw hp;go_wp2_with fail
  go_end0
  refine⟨rfl,(Upd.of_new HB1.out).trans HU.out,P',?_,fun k hk=>?_⟩
  ·rw[z8r HZ.out];exact HW.out
  ·rcases HP.out k hk with h|h
   ·exact .inl h
   ·exact .inr (Nat.le_trans HB1.out.size h)
theorem zco (d:Int)(w:World) :
  Calls Tryz.prog 46 #[.int .i64 d] w fun e w'=>e=.returned (.pointer (some ⟨w.heap.size,0,none⟩))/\Below w.heap.size w w'/\∃P,WrAt w.heap.size d (.slice none 0 0) [] (decide (d<0)) P w'/\∀k,P k->w.heap.size<=k:=by
 have HW:Hid (WrAt w.heap.size d (.slice none 0 0) [] false (fun k=>k=w.heap.size∨(Value.slice none 0 0).ownBlock=some k) (w.alloc (.cells #[.int .i64 d,.slice none 0 0,.int .i64 0,.slice none 0 0,.nilIface] 189))):=hid ⟨.slice none 0 0,.nilIface,heap_alloc_new w _,World.ownsRow_nil _ _ _ _,rfl,rfl⟩;obtain⟨g,hg⟩:=nmd (decide (0<=d))
 have HG:Hid (decide (d<0)=!g):=hid (by rw[<-hg];by_cases h:d<0<;>simp[h]<;>omega);have hg2:decide (d ≥ 0)=g:=hg;go_enter Tryz.func46,Tryz.ntmps46;go_wp2_with fail;refine(z6u w.heap.size d (.slice none 0 0) [] false _ g _ HW).mono ?_;intro e w1 hpost;obtain⟨rfl,hu,P',hw,hp⟩:=hpost
 have HB:Hid (Below w.heap.size w w1):=hid ((zd w _).trans (hu.below (by simp) (fun k _ h=>by
  rcases h with h|h
  ·omega
  ·simp[Value.ownBlock]at h)))
 have HW1:=hid hw;have HP:=hid hp;clear hu hw hp hg hg2;go_wp2_with fail;go_ret;refine⟨rfl,HB.out,P',?_,fun k hk=>?_⟩
 ·rw[HG.out];simpa using HW1.out
 ·rcases HP.out k hk with (h|h)|h
  ·omega
  ·simp[Value.ownBlock]at h
  ·simp at h;omega
def Z5 (num:Nat)(t:List UInt8):List (List UInt8):=if t=[]then []else [wrec num 2 (vput t.length++t)]
theorem z8e (p:Nat)(d:Int)(vo:Value)(ps:List (List UInt8))(b:Bool)(P:Nat->Prop)(num:Nat)(X:ByteArray)(t:List UInt8)(w:World)(h:Hid (WrAt p d vo ps b P w))(hX:Hid (X.data.toList=t))(h2:num<=536870911)(ht:t.length<=1000000)(hl:ps.length<=1000000)(hf:ps.flatten.length<=10000000) :
  Calls Tryz.prog 94 #[.pointer (some ⟨p,0,none⟩),.int .i64 num,.string X] w (Xk p d vo (wps b ps (Z5 num t)) b P w):=by
 have hXs:X.size=t.length:=by rw[<-hX.out];simp
 by_cases h0:t=[]
 ·have HE:Hid (Z5 num t=[]):=hid (if_pos h0)
  have hX0:X=⟨#[]⟩:=by
   apply ByteArray.ext
   apply Array.ext'
   rw[hX.out,h0]
  subst hX0;clear h0 hXs;go_enter Tryz.func94,Tryz.ntmps94;go_wp2_with fail
  go_end0
  rw[HE.out,z9f];exact Je h.out
 ·have HE:Hid (Z5 num t=[wrec num 2 (vput X.size++X.data.toList)]):=hid (by rw[hXs,hX.out];exact if_neg h0)
  have d1:(X.toList == [])=false:=by
   rw[beq_eq_false_iff_ne,ByteArray.toList_eq,hX.out];exact h0
  have d2:(X.toList != [])=true:=by rw[bne,d1];rfl
  have d3:(X.toList == (⟨#[]⟩:ByteArray).toList)=false:=by
   rw[beq_eq_false_iff_ne,ByteArray.toList_eq,ByteArray.toList_eq,hX.out];exact h0
  have d4:(X.toList != (⟨#[]⟩:ByteArray).toList)=true:=by rw[bne,d3];rfl
  have hvl:=(zu X.size).2;have htl:=Y5 (num:Int) 2;have hwl:(wrec (num:Int) 2 (vput X.size++X.data.toList)).length<=1000020:=by unfold wrec;split<;>simp<;>omega
  obtain⟨R,hR⟩:=nmd (wrec (num:Int) 2 (vput X.size++X.data.toList))
  rw[hR]at hwl HE;have HRR:=hid hR;clear h0 hR hvl htl;go_enter Tryz.func94,Tryz.ntmps94;go_wp2_with fail;clear d1 d2 d3 d4;refine(zan (num:Int) X _ (by omega) (by omega) (by omega)).mono ?_;rintro e w1 ⟨rfl,hb1⟩;rw[HRR.out];have HB1:=hid hb1;have HW1:=hid (Jo h.out hb1);clear hb1;go_wp2_with fail;refine(z2a p d vo ps b P R _ HW1 hl (by omega)).mono ?_;intro e w2 hpost;obtain⟨rfl,hu,P',hw,hp⟩:=hpost;have HU:=hid hu;have HW:=hid hw;have HP:=hid hp;clear hu hw hp;go_wp2_with fail
  go_end0
  refine⟨rfl,(Upd.of_new HB1.out).trans HU.out,P',?_,fun k hk=>?_⟩
  ·rw[HE.out];exact HW.out
  ·rcases HP.out k hk with h|h
   ·exact .inl h
   ·exact .inr (Nat.le_trans HB1.out.size h)
theorem z6g (s:ByteArray) (d:Int) (tk:Rec->Bool) (FT:Nat) (w:World) (hs:s.size<=1000000)
  (hET:∀args w,(callFunc FT args).run Tryz.prog w=.ok (.enter FT args) w)
  (hT:∀(r:Rec) (w:World),Calls Tryz.prog FT #[.int .i64 r.num,.int .i64 r.ty] w fun e w'=>e=.returned (.bool (tk r))/\w=w') :
  Calls Tryz.prog 95 #[.string s,.int .i64 d,.func (.func FT) #[] #[]] w fun e w'=>e=.returned (.bool (zp tk s.data.toList d))/\Below w.heap.size w w':=by
 have HT:=hid hT;clear hT
 cases hw:wall s.data.toList d with
 | error c =>
  have HM:Hid (zp tk s.data.toList d=false):=hid (by unfold zp;rw[hw]);have HW:=hid hw;clear hw;go_enter Tryz.func95,Tryz.ntmps95;go_wp2_with fail;refine(z1e s d _ (by omega)).mono ?_;intro e w1 hpost;unfold Zi at hpost
  rw[HW.out]at hpost;obtain⟨v,rfl,q,hq,hE⟩:=hpost;obtain⟨T,y,rfl⟩:=hE.iface;have HB:=hid hE.2;clear hE;go_wp2_with fail;go_ret;exact⟨by rw[HM.out];rfl,HB.out⟩
 | ok rs =>
  have HM:Hid (zp tk s.data.toList d=rs.all fun r=>!tk r):=hid (by unfold zp;rw[hw]);have HW:=hid hw;clear hw;go_enter Tryz.func95,Tryz.ntmps95;go_wp2_with fail;refine(z1e s d _ (by omega)).mono ?_;intro e w1 hpost;unfold Zi at hpost
  rw[HW.out]at hpost;obtain⟨u,rfl,hown,hlen,hb1⟩:=hpost;obtain⟨lo,lcap,rfl⟩:=zh hown;have HB1:=hid hb1;have HO1:=hid hown;clear hb1 hown;go_wp2_with fail
  go_loopg [21] rs.length (fun g i wr=>∃j:Nat,j+g=rs.length/\i=.int .i64 j/\Hid (((rs.take j).all fun r=>!tk r)=true)/\Below w1.heap.size w1 wr)
  case atStart=>exact⟨0,by omega,rfl,hid rfl,Below.refl _ _⟩
  case round =>
   obtain⟨j,hj,rfl,HA,hbr⟩:=hrel;have HBR:=hid hbr;have HB:=hid (HB1.out.trans (hbr.mono HB1.out.size));have HJ:=hid hj;have HO:=hid (y6 HO1.out hbr);clear hj hbr
   by_cases hlt:j<rs.length
   ·obtain⟨g,cg,hv,hg1,hg2,_,_⟩:=yj HO.out (by omega)
    simp only[Value.slice.injEq]at hv
    obtain⟨rfl,_,rfl⟩:=hv;obtain⟨r,HRJ⟩:∃r,Hid (rs[j]=r):=⟨_,hid rfl⟩
    have hc0:wr.cell? ⟨g,j*5,none⟩=some (.int .i64 r.num):=by rw[HO.out.cellAt (j*5) (by omega),show j*5=5*j+0 by omega,y0 hlt (by omega),HRJ.out];rfl
    have hc1:wr.cell? ⟨g,j*5+1,none⟩=some (.int .i64 r.ty):=by rw[HO.out.cellAt (j*5+1) (by omega),show j*5+1=5*j+1 by omega,y0 hlt (by omega),HRJ.out];rfl
    have hc2:wr.cell? ⟨g,j*5+2,none⟩=some (.int .u64 r.n):=by rw[HO.out.cellAt (j*5+2) (by omega),show j*5+2=5*j+2 by omega,y0 hlt (by omega),HRJ.out];rfl
    have hc3:wr.cell? ⟨g,j*5+3,none⟩=some (.string ⟨r.s.toArray⟩):=by rw[HO.out.cellAt (j*5+3) (by omega),show j*5+3=5*j+3 by omega,y0 hlt (by omega),HRJ.out];rfl
    have hc4:wr.cell? ⟨g,j*5+4,none⟩=some (.string ⟨r.raw.toArray⟩):=by rw[HO.out.cellAt (j*5+4) (by omega),show j*5+4=5*j+4 by omega,y0 hlt (by omega),HRJ.out];rfl
    have HTK:Hid (rs.take (j+1)=rs.take j++[r]):=hid (by rw[List.take_succ_eq_append_getElem hlt,HRJ.out]);have HMEM:Hid (r∈rs):=hid (HRJ.out ▸ List.getElem_mem hlt);have HBN:Hid (Below w1.heap.size w1 (wr.alloc (.cells #[.int .i64 r.num,.int .i64 r.ty,.int .u64 r.n,.string ⟨r.s.toArray⟩,.string ⟨r.raw.toArray⟩] 78))):=hid (HBR.out.alloc HBR.out.size _)
    cases htk:tk r with
    | false =>
     have HTKR:=hid htk;clear htk;go_wp2_with fail;refine(HT.out r _).mono ?_;rintro e w' ⟨rfl,rfl⟩;rw[HTKR.out];go_wp2_with fail;have hj:=HJ.out
     go_roundg (gk-1)
     case measure=>omega
     case rel=>exact⟨j+1,by omega,by simp,hid (by rw[HTK.out,List.all_append,HA.out];simp[HTKR.out]),HBN.out⟩
    | true =>
     have HTKR:=hid htk
     have HM2:Hid (zp tk s.data.toList d=false):=hid (by
      rw[HM.out]
      cases hall:rs.all fun r=>!tk r with
      | false=>rfl
      | true=>have:=List.all_eq_true.1 hall r HMEM.out;simp[htk]at this)
     clear htk;go_wp2_with fail;refine(HT.out r _).mono ?_;rintro e w' ⟨rfl,rfl⟩;rw[HTKR.out];go_wp2_with fail;go_ret;exact⟨by rw[HM2.out];rfl,HB1.out.trans (HBN.out.mono HB1.out.size)⟩
   ·have hjn:j=rs.length:=by have:=HJ.out;omega
    have HM2:Hid (zp tk s.data.toList d=true):=hid (by rw[HM.out,<-HA.out,hjn,List.take_length]);clear hjn;go_wp2_with fail;go_ret;exact⟨by rw[HM2.out];rfl,HB.out⟩
theorem zdr (p:Nat) (d:Int) (vo:Value) (ps:List (List UInt8)) (b:Bool) (P:Nat->Prop) (X:ByteArray) (u:List UInt8) (tk:Rec->Bool) (FT:Nat) (w:World) (h:Hid (WrAt p d vo ps b P w)) (hX:Hid (X=⟨u.toArray⟩)) (hu:u.length<=1000000) (hl:ps.length<=1000000) (hf:ps.flatten.length<=10000000)
  (hET:∀args w,(callFunc FT args).run Tryz.prog w=.ok (.enter FT args) w)
  (hT:∀(r:Rec) (w:World),Calls Tryz.prog FT #[.int .i64 r.num,.int .i64 r.ty] w fun e w'=>e=.returned (.bool (tk r))/\w=w') {g:Bool} (hg:Hid (zp tk u d=g)) :
  Calls Tryz.prog 50 #[.pointer (some ⟨p,0,none⟩),.string X,.func (.func FT) #[] #[]] w (Xk p d vo (wps (b||!g) ps [u]) (b||!g) P w):=by
 have hXs:X.size=u.length:=by rw[hX.out];simp[ByteArray.size]
 have HXD:Hid (X.data.toList=u):=hid (by rw[hX.out]);have HE:=hid hET;have HT:=hid hT;clear hET hT;obtain⟨vp,ev,h1,h2,h3,_⟩:=h.out;have hc0:=rc0 h1;clear h1 h2 h3;go_enter Tryz.func50,Tryz.ntmps50;go_wp2_with fail;refine(z6g X d tk FT _ (by omega) HE.out HT.out).mono ?_;rintro e w1 ⟨rfl,hb1⟩;rw[HXD.out,hg.out];have HB1:=hid hb1;have HW1:=hid (Jo h.out hb1);clear hb1;go_wp2_with fail;refine(z6u p d vo ps b P g _ HW1).mono ?_;intro e w2 hpost;obtain⟨rfl,hu2,P2,hw2,hp2⟩:=hpost;have HW2:=hid hw2;have HU2:=hid hu2;have HP2:=hid hp2;clear hw2 hu2 hp2;obtain⟨b2,hb2⟩:=nmd ((b||!g))
 rw[hb2]at HW2;have HBB:=hid hb2;clear hb2;go_wp2_with fail;have HV:Hid (Value.string X=strV u):=hid (by rw[hX.out];rfl);rw[HV.out];refine(z2a p d vo ps b2 P2 u _ HW2 hl (by omega)).mono ?_;intro e w3 hpost;obtain⟨rfl,hu3,P3,hw3,hp3⟩:=hpost;have HU3:=hid hu3;have HW3:=hid hw3;have HP3:=hid hp3;clear hu3 hw3 hp3;go_wp2_with fail
 go_end0
 have hs1:=HB1.out.size;have hs2:=HU2.out.size;rw[HBB.out];refine⟨rfl,((Upd.of_new HB1.out).trans HU2.out).trans' HU3.out (fun k hk h=>?_),P3,HW3.out,fun k hk=>?_⟩
 ·rcases HP2.out k h with h|h
  ·exact h
  ·omega
 ·rcases HP3.out k hk with h|h
  ·rcases HP2.out k h with h|h
   ·exact .inl h
   ·exact .inr (by omega)
  ·exact .inr (by omega)
theorem zeu (p:Nat)(d:Int)(vo:Value)(ps:List (List UInt8))(b:Bool)(P:Nat->Prop)(w:World)(h:Hid (WrAt p d vo ps b P w))(hl:ps.length<=1000000)(hf:ps.flatten.length<=10000000) :
  Calls Tryz.prog 52 #[.pointer (some ⟨p,0,none⟩)] w fun e w'=>Below w.heap.size w w'/\if b then ∃v,e=.returned (.tuple #[.string ⟨#[]⟩,v])/\EC w' v 8 else e=.returned (.tuple #[.string ⟨ps.flatten.toArray⟩,.nilIface]):=by
 obtain⟨vp,ev,h1,h2,h3,_⟩:=h.out;have hc4:=rc4 h1;have hc1:=rc1 h1;have H1:=hid h1;have H2:=hid h2;have H3:=hid h3;clear h1 h2 h3
 cases b with
 | true =>
  obtain⟨T',y,rfl⟩:=H3.out.yes.iface;have hS:w.drew.cell? ⟨p,4,none⟩=some (.iface T' y):=hc4;have hne:Nonempty { w':World // w'.cell? ⟨p,4,none⟩=some (.iface T' y) }:=⟨⟨_,hS⟩⟩
  have hx:∀t:{ w':World // w'.cell? ⟨p,4,none⟩=some (.iface T' y) },t.1.cell? ⟨p,4,none⟩=some (.iface T' y):=fun t=>t.2
  have HEC:=hid H3.out.yes;go_enter Tryz.func52,Tryz.ntmps52;go_wp2_with fail;refine zj (S:=fun w'=>w'.cell? ⟨p,4,none⟩=some (.iface T' y)) [(0,true),(1,true),(2,true),(3,true),(4,true),(5,true)] (by kernel_rfl) (by kernel_rfl) (by kernel_rfl) (by kernel_rfl) hS ?_
  iterate 6 (refine zf _ rfl (fun K hK=>?_);go_simp;refine hK _ ?_;clear hK K)
  refine zw ?_;clear hx hne;go_wp2_with fail
  go_ret2
  obtain⟨ws,he⟩:=HEC.out;exact⟨(Below.refl _ _).drew,_,rfl,ws,jf ((Below.refl _ _).drew) he⟩
 | false =>
  obtain rfl:=H3.out.no;obtain⟨ao,cap,rfl⟩:=zh H2.out
  have hcap:ps.length<=cap:=by
   rcases Nat.eq_zero_or_pos ps.length with h|h
   ·omega
   ·obtain⟨_,cg,hv,_,_,h9,_⟩:=yj H2.out h
    simp only[Value.slice.injEq]at hv
    omega
  have HS:=hid (J5 H2.out);go_enter Tryz.func52,Tryz.ntmps52;go_wp2_with fail;refine(z1z ao cap ps _ HS.out hcap (by omega) (by omega)).mono ?_;rintro e w2 ⟨rfl,hb2⟩;have HB2:=hid hb2;clear hb2;go_wp2_with fail
  go_ret2
  exact⟨HB2.out,rfl⟩
theorem z8k (w:World):kg w.heap.size w.heap.size [] (w.alloc (.cells #[.pointer none,.slice none 0 0] 178)) :=
 .inl ⟨Nat.le_refl _,_,heap_alloc_new w _,⟨rfl,.inl ⟨rfl,rfl⟩⟩,by simp[Value.ownBlock]⟩
theorem kg.belowm {B b:Nat}{l:List UInt8}{w w':World}(h:kg B b l w)(hb:Below w.heap.size w w'):kg B b l w':=by
 have key:∀p,Lib.BuilderAt 178 5 B b p (Lib.byteCells l) w->Lib.BuilderAt 178 5 B b p (Lib.byteCells l) w':=fun p ⟨h1,v,h2,h3,h4⟩ =>
  ⟨h1,v,(hb.block b (z8 h2)).trans h2,(Upd.of_new (S:=fun _=>False) hb).own h3 (fun _ _ h=>h),h4⟩
 rcases h with h|h
 ·exact .inl (key _ h)
 ·exact .inr (key _ h)
theorem z21 (l:List Nat):(l.flatMap vput).length<=10*l.length:=by
 induction l with
 | nil=>simp
 | cons n l ih =>
  have:=(zu n).2;rw[List.flatMap_cons,List.length_append,List.length_cons];omega
theorem zcp (p:Nat)(d:Int)(vo:Value)(ps:List (List UInt8))(b:Bool)(P:Nat->Prop)(num:Nat)(ao:Option Addr)(cap:Nat)(l:List Nat)(w:World)(h:Hid (WrAt p d vo ps b P w))(hN:Hid (Nats .u64 w ao l))(hn:Hid (∀n∈l,n<2^64))(h2:num<=536870911)(hll:l.length<=100000)(hl:ps.length<=1000000)(hf:ps.flatten.length<=10000000){T:List UInt8}(hT:Hid (l.flatMap vput=T)) :
  Calls Tryz.prog 49 #[.pointer (some ⟨p,0,none⟩),.int .i64 num,.slice ao l.length cap] w (Xk p d vo (wps b ps (Z5 num T)) b P w):=by
 have HB0:=hid (zd w (.cells #[.pointer none,.slice none 0 0] 178));have HD0:=hid (z8k w);have hTl:T.length<=1000000:=by rw[<-hT.out];have:=z21 l;omega
 go_enter Tryz.func49,Tryz.ntmps49;go_wp2_with fail
 go_loopg [11] l.length (fun k i wr=>∃(j:Nat),j+k=l.length/\i=.int .i64 j/\Hid (kg w.heap.size w.heap.size ((l.take j).flatMap vput) wr)/\Below w.heap.size w wr)
 case atStart=>exact⟨0,by omega,rfl,by simpa using HD0,HB0.out⟩
 case round =>
  obtain⟨j,hj,rfl,HD,hbr⟩:=hrel;have HB:=hid hbr;have HJ:=hid hj;have hws:=hbr.size;clear hbr hj
  by_cases hlt:j<l.length
  ·obtain⟨g,off,n,HNV,rfl,hg1,hcell⟩:=(hN.out.below HB.out).at hlt
   have hn9:n<2^64:=by rw[HNV.out];exact hn.out _ (List.getElem_mem hlt)
   have HTK:Hid ((l.take (j+1)).flatMap vput=(l.take j).flatMap vput++vput n):=hid (by rw[List.take_succ_eq_append_getElem hlt,List.flatMap_append,HNV.out];simp);obtain⟨P0,hP0⟩:=nmd ((l.take j).flatMap vput)
   have hp0:P0.length<=1000000:=by
    rw[<-hP0];have:=z21 (l.take j);rw[List.length_take]at this;omega
   have HP0:=hid hP0;rw[hP0]at HD;have hvt:=(zu n).2;have HPS:=hid (Qs hn9);clear hP0 hn9;go_wp2_with fail;refine(z1f n _ HPS.out).mono ?_;rintro e w3 ⟨rfl,hb3⟩;have HB3:=hid (HB.out.trans (hb3.mono HB.out.size));have HD3:=hid (HD.out.belowm hb3);have hws3:=HB3.out.size;clear hb3;go_wp2_with fail;refine(zdz w.heap.size w.heap.size P0 ⟨(vput n).toArray⟩ _ HD3.out (by rw[ba_size];omega) (by omega)).mono ?_;rintro e w4 ⟨rfl,hbd,hb4⟩;have HB4:=hid (HB3.out.trans hb4);have HD4:Hid (kg w.heap.size w.heap.size ((l.take (j+1)).flatMap vput) w4):=hid (by rw[HTK.out,HP0.out];simpa using hbd);clear hb4 hbd;go_wp2_with fail;have hj:=HJ.out
   go_roundg (gk-1)
   case measure=>omega
   case rel=>exact⟨j+1,by omega,by simp,HD4,HB4.out⟩
  ·obtain rfl:j=l.length:=by have:=HJ.out;omega
   have HD5:Hid (kg w.heap.size w.heap.size T wr):=hid (by
    have:=HD.out;rw[List.take_length,hT.out]at this;exact this)
   go_wp2_with fail;refine(zf1 w.heap.size w.heap.size T _ HD5.out (by omega)).mono ?_;rintro e w6 ⟨rfl,hb6⟩;have HB6:=hid (HB.out.trans hb6);have HW6:=hid (Jo h.out HB6.out);clear hb6;obtain⟨X,hX⟩:∃X:ByteArray,(⟨T.toArray⟩:ByteArray)=X:=⟨_,rfl⟩
   have HXD:Hid (X.data.toList=T):=hid (by rw[<-hX]);rw[hX];clear hX;go_wp2_with fail;refine(z8e p d vo ps b P num X T _ HW6 HXD h2 hTl hl hf).mono ?_;intro e w7 hpost;obtain⟨rfl,hu,P',hw,hp⟩:=hpost;have HU:=hid hu;have HW:=hid hw;have HP:=hid hp;clear hu hw hp;go_wp2_with fail
   go_end0
   refine⟨rfl,(Upd.of_new HB6.out).trans HU.out,P',HW.out,fun k hk=>?_⟩
   rcases HP.out k hk with h|h
   ·exact .inl h
   ·exact .inr (Nat.le_trans HB6.out.size h)
end Go.Proofs.YtmlghmjjlpioeaaGreatDoor
