/-
  CkTot, Door
-/
import Derived.Test.YtcblkndiclkacaaDoorMgEach
import Derived.Test.YtcblkndiclkacaaDoorCkBase
import Derived.Test.YtcblkndiclkacaaDoorKit
import Derived.ProofKit
import Derived.OpenShut
import Derived.JoinedCond
import Derived.SizedLaws
import Derived.Carry
import Derived.Test.YtcblkndiclkacaaDoorErrNew
import Derived.Test.YtcblkndiclkacaaDoorCards
import Derived.Test.YtcblkndiclkacaaDoorTie
import Derived.Deep.DeepHandedRow
import Derived.LaidLaws
import Derived.LaidHandle
import Derived.Stop.Joined
set_option maxRecDepth 1000000
set_option maxHeartbeats 16000000
namespace Go.Proofs.YtcblkndiclkacaaDoor
open Go.RowKit
def Lists (w:World) (ao:Option Addr) (ls:List (List Nat)):Prop:=∀ j (h:j<ls.length),∃ g off bo cap,ao=some ⟨g,off,none⟩∧w.cell? ⟨g,off+j,none⟩=some (.slice bo ls[j].length cap)∧Nats .u64 w bo ls[j]
theorem sum_take {l:List Nat} {j:Nat} (h:j<l.length):(l.take (j+1)).sum=(l.take j).sum+l[j]:=by
 rw[List.take_succ_eq_append_getElem h,List.sum_append];simp
theorem sum_take_le (l:List Nat) (j:Nat):(l.take j).sum≤l.sum:=by
 conv=>rhs;rw[←List.take_append_drop j l]
 rw[List.sum_append];omega
def lessF (a b:Nat):Bool:=decide (Fm.cls a≠4)&&(decide (Fm.cls b≠4)&&decide (Fm.num a<Fm.num b))
theorem number_nan (a:Nat) (w:World) (ha:a<2^64) {c:Int} (C:Hid (c=(Fm.cls a:Nat))) (h4:(c == 4)=true) :
  Calls Tryd.prog 49 #[.int .u64 a] w fun x w'=>x = .returned (.tuple #[.int .i64 0,.bool false])∧w=w':=by
 go_enter Tryd.func49,Tryd.ntmps49
 go_wp2_with fail
 refine (class_is a _ ha C).mono ?_;rintro e w' ⟨rfl,rfl⟩
 go_wp2_with fail
 go_ret2
 exact ⟨rfl,rfl⟩
theorem number_all (a:Nat) (w:World) (ha:a<2^64):Calls Tryd.prog 49 #[.int .u64 a] w fun x w'=>(∃ v:Int,Hid (Fm.cls a≠4→v=Fm.num a)∧x = .returned (.tuple #[.int .i64 v,.bool (decide (Fm.cls a≠4))]))∧w=w':=by
 by_cases h:Fm.cls a=4
 ·refine (number_nan a w ha (Lib.hid (rfl:((Fm.cls a:Nat):Int)=_)) (by rw[h];rfl)).mono ?_
  rintro e w' ⟨rfl,rfl⟩
  exact ⟨⟨0,Lib.hid (fun h'=>absurd h h'),by rw[decide_eq_false (by simpa using h)]⟩,rfl⟩
 ·refine (number_at a _ w ha (Lib.hid h) (Lib.hid rfl)).mono ?_
  rintro e w' ⟨rfl,rfl⟩
  exact ⟨⟨_,Lib.hid (fun _=>rfl),by rw[decide_eq_true h]⟩,rfl⟩
theorem less_any (a b:Nat) (w:World) (ha:a<2^64) (hb:b<2^64) {r:Bool} (hr:Hid (lessF a b=r)) :
  Calls Tryd.prog 24 #[.int .u64 a,.int .u64 b] w fun x w'=>x = .returned (.bool r)∧w=w':=by
 obtain ⟨p,HP⟩:∃ p,Hid (decide (Fm.cls a≠4)=p):=⟨_,Lib.hid rfl⟩
 obtain ⟨q,HQ⟩:∃ q,Hid (decide (Fm.cls b≠4)=q):=⟨_,Lib.hid rfl⟩
 go_enter Tryd.func24,Tryd.ntmps24
 go_wp2_with fail
 refine (number_all a _ ha).mono ?_;rintro e w' ⟨⟨v,HV,rfl⟩,rfl⟩
 rw[HP.out]
 go_wp2_with fail
 refine (number_all b _ hb).mono ?_;rintro e w' ⟨⟨u,HU,rfl⟩,rfl⟩
 rw[HQ.out]
 have hr2:(p&&(q&&decide (v<u)))=r:=by
  rw[←hr.out];unfold lessF
  rw[HP.out,HQ.out]
  cases p with
  | false=>rfl
  | true =>
   cases q with
   | false=>rfl
   | true =>
    have h1:=HV.out (of_decide_eq_true HP.out)
    have h2:=HU.out (of_decide_eq_true HQ.out)
    rw[h1,h2]
 cases p with
 | false =>
  go_wp2_with fail
  go_ret
  exact ⟨ret_bool (by simpa using hr2),rfl⟩
 | true =>
  cases q with
  | false =>
   go_wp2_with fail
   go_ret
   exact ⟨ret_bool (by simpa using hr2),rfl⟩
  | true =>
   go_wp2_with fail
   go_ret
   exact ⟨ret_bool (by simpa using hr2),rfl⟩
def riseAt (l:List Nat) (i:Nat):Bool:=decide (Fm.cls (l.getD i 0)≠4)&&(decide (i=0)||lessF (l.getD (i - 1) 0) (l.getD i 0))
def riseB (l:List Nat):Bool:=decide (∀ i,i<l.length→riseAt l i=true)
theorem nats_getD {w:World} {ao:Option Addr} {l:List Nat} (h:Nats .u64 w ao l) {i:Nat} (hi:i<l.length):∃ b off n,Hid (n=l.getD i 0)∧ao=some ⟨b,off,none⟩∧b<w.heap.size∧w.cell? ⟨b,off+i,none⟩=some (.int .u64 (n:Int)):=by
 obtain ⟨b,off,n,h1,h2,h3,h4⟩:=h.at hi
 exact ⟨b,off,n,Lib.hid (by rw[h1.out,List.getD_eq_getElem?_getD,List.getElem?_eq_getElem hi];rfl),h2,h3,h4⟩
theorem getD_lt {l:List Nat} (h:∀ n∈l,n<18446744073709551616) (i:Nat):l.getD i 0<2 ^ 64:=by
 rw[List.getD_eq_getElem?_getD]
 cases hg:l[i]? with
 | none=>simp
 | some n=>exact h n (List.mem_of_getElem? hg)
open Go.RowKit
def pointR (s t:Nat) (b:Bool):Nat:=if t=0 then 4 else if t<s then 5 else if b=true then 6 else 0
def apartB (ph:Bool) (pn:Nat) (qh:Bool) (qn:Nat):Bool:=ph&&(qh&&lessF qn pn)
open Go.ChangeShapes Go.WideShapes Go.ChangeAt Go.RowKit
theorem trodAll_below {H:Type} {enc:TypeId × Value→H} {P:Program} (hl:laidOutB P=true) {W W':World} (hb:Below W.heap.size W W') :
  ∀ {ts:List TypeId} {vs:List Value} {ds:List (DataW H)} {ps:List MemPlace},(∀ t∈ts,P.readableRec t=true∧t<P.types.size) →
   DataW.TrodAll enc P W 0 (fun _=>true) true ts vs ds ps→(∀ x∈ps,x.block<W.heap.size)→DataW.TrodAll enc P W' 0 (fun b=>decide (b<W.heap.size)) true ts vs ds ps
 | [],[],[],_,_,h,_=>h
 | t::ts,v::vs,d::ds,ps,hr,h,hlt=>by
  obtain ⟨p,q,h1,h2,rfl⟩:=h
  exact ⟨p,q,Below.trod hl (hr t (by simp)).1 (hr t (by simp)).2 h1 hb (fun x hx=>hlt x (by simp[hx])),
   trodAll_below hl hb (fun u hu=>hr u (by simp[hu])) h2 (fun x hx=>hlt x (by simp[hx])),rfl⟩
 | [],_::_,_,_,_,h,_=>h.elim
 | [],[],_::_,_,_,h,_=>h.elim
 | _::_,[],_,_,_,h,_=>h.elim
 | _::_,_::_,[],_,_,h,_=>h.elim
theorem law_post {H:Type} {enc:TypeId × Value→H} {P:Program} {f:Func} {spec:ChangeSpec} {B:TypeId} {W W':World} {args:Array Value} {ds gs:List (DataW H)} {before:List MemPlace}
  (hl:laidOutB P=true) (hr:f.params.toList.all (fun t=>P.readableRec t&&decide (t<P.types.size))=true) (hres:f.resultTypes=#[B]) (hB:P.underlying B=some .bool) (hv:spec.vars=[])
  (hW:DataW.Whole enc P f.params.toList spec.vars false W args.toList ds gs before) (hfn:∀ ds,ds.length=f.params.size→spec.fn H ds={ results:=[.lit (.bool true)],args:=ds })
  (hb:Below W.heap.size W W'):spec.post enc P f false true false false W args (.bool true) W':=by
 have hW0:=hW
 obtain ⟨p,q,hA,hV,rfl,_,_⟩:=hW
 have hgs:gs=[]∧q=[]:=by
  rw[hv] at hV
  cases gs with
  | nil=>exact ⟨rfl,hV⟩
  | cons g r=>exact hV.elim
 obtain ⟨rfl,rfl⟩:=hgs
 have hlen:∀ {ts:List TypeId} {vs:List Value} {ds:List (DataW H)} {ps:List MemPlace},DataW.TrodAll enc P W 0 (fun _=>true) true ts vs ds ps→ds.length=ts.length:=by
  intro ts
  induction ts with
  | nil=>intro vs ds ps h;cases vs<;>cases ds<;>first|rfl|exact h.elim
  | cons t ts ih=>intro vs ds ps h;cases vs<;>cases ds<;>first|exact h.elim|(obtain ⟨_,_,_,h2,_⟩:=h;simp[ih h2])
 have hd:ds.length=f.params.size:=by rw[hlen hA];simp
 have e:=hfn ds hd
 have hr':∀ t∈f.params.toList,P.readableRec t=true∧t<P.types.size:=fun t ht=>by
  have:=List.all_eq_true.1 hr t ht
  simpa using this
 refine ⟨ds,[],p++[],[],p,[],hW0,?_,?_,?_,hb.frame _,fun h=>by cases h⟩
 ·rw[List.append_nil,e,hres];exact trodAll_mk1 (shut_bool hB true)
 ·rw[List.append_nil,e];exact trodAll_below hl hb hr' hA (fun x hx=>by simpa using hW0.lt x (by simpa using hx))
 ·rw[List.append_nil,e,hv];rfl
open Go.ChangeShapes Go.WideShapes Go.ChangeAt Go.RowKit
theorem Tryd.own:ownKnob Tryd.prog.godebug=none:=by kernel_rfl
theorem Tryd.et:Tryd.prog.globalNamed "errors.errorType" = some 0:=by kernel_rfl
theorem Tryd.rt:(Tryd.prog.cutTypes.find? (·.1 == "internal/reflectlite.rtype")).map (·.2)=some 164:=by kernel_rfl
theorem Tryd.oneRow:((List.range Tryd.prog.types.size).filter fun t=>Tryd.prog.rowNamed t [101,114,114,111,114])=[28]:=by kernel_rfl
def theLaid:List (String × DataW Unit):=[("errors.errorType",.iface "internal/reflectlite.rtype" (.agg [.ptr (.lit (.string [101,114,114,111,114]))]))]
theorem glob_of_laid {W:World} (h:laidMetH Tryd.prog theLaid W):Glob W:=by
 have h':laidMet Tryd.prog [] W∧handlesMet Tryd.prog theLaid W:=h
 obtain ⟨name,u,ty,e1,e2,e3,e4,e5⟩:=h'.2 _ (List.mem_singleton.2 rfl)
 have en:name=[101,114,114,111,114]:=(Option.some.inj e1).symm
 subst en
 obtain rfl:=Option.some.inj (Tryd.rt.symm.trans e2)
 have hm:ty∈(List.range Tryd.prog.types.size).filter fun t=>Tryd.prog.rowNamed t [101,114,114,111,114]:=List.mem_filter.2 ⟨List.mem_range.2 e3,e4⟩
 rw[Tryd.oneRow] at hm
 obtain rfl:=List.mem_singleton.1 hm
 have hh:typeHandle Tryd.prog 28 = .pointer (some ⟨2,28,none⟩):=by kernel_rfl
 rw[hh] at e5
 simpa [Glob] using World.var?_cell Tryd.et e5 0
noncomputable def laidWorld (os:Os):World :=
 let w0:=World.holding Tryd.prog os ⟨#[],#[],[]⟩
 { w0 with heap:=w0.heap.modify 0 fun
   | .cells _ t frozen => .cells #[.iface 164 (.agg #[.pointer (some ⟨2,28,none⟩)])] t frozen
   | o=>o }
theorem laidWorld_met (os:Os) (args:Array Value):laidMetH Tryd.prog theLaid ((laidWorld os).forCall (fun _ _=>0) ⟨#[],args,[]⟩).memory :=
 laidMetH_of_parts (laidMet_nil _ _) (by kernel_rfl)
end Go.Proofs.YtcblkndiclkacaaDoor
