/-
  ExTakes, HiTakes
-/
import Derived.Test.YtjbingoliffjiaaGreatDoorKit
import Derived.ProofKit
import Derived.OpenShut
import Derived.JoinedCond
import Derived.SizedLaws
import Derived.Carry
import Derived.Test.YtjbingoliffjiaaGreatDoorErrNew
import Derived.Test.YtjbingoliffjiaaGreatDoorCards
import Derived.Test.YtjbingoliffjiaaGreatDoorTie
import Derived.Deep.DeepHandedRow
import Derived.LaidLaws
import Derived.LaidHandle
import Derived.Stop.Joined
import Derived.Test.YtjbingoliffjiaaGreatDoorExBack
import Derived.Test.YtjbingoliffjiaaGreatDoorHiBack
set_option maxRecDepth 1000000
set_option maxHeartbeats 16000000
namespace Go.Proofs.YtjbingoliffjiaaGreatDoor
open Go.ChangeShapes Go.WideShapes Go.ChangeAt Go.RowKit
theorem trodAll_below {H:Type} {enc:TypeId × Value→H} {P:Program} (hl:laidOutB P=true) {W W':World} (hb:Below W.heap.size W W') :
  ∀ {ts:List TypeId} {vs:List Value} {ds:List (DataW H)} {ps:List MemPlace},(∀ t∈ts,P.readableRec t=true∧t<P.types.size) →
   DataW.TrodAll enc P W 0 (fun _=>true) true ts vs ds ps→(∀ x∈ps,x.block<W.heap.size)→DataW.TrodAll enc P W' 0 (fun b=>decide (b<W.heap.size)) true ts vs ds ps
 | [],[],[],_,_,h,_=>h
 | t::ts,v::vs,d::ds,ps,hr,h,hlt=>by
  obtain ⟨p,q,h1,h2,rfl⟩:=h
  exact ⟨p,q,Below.trod hl (hr t (by simp)).1 (hr t (by simp)).2 h1 hb (fun x hx=>hlt x (by simp[hx])),
   trodAll_below hl hb (fun u hu=>hr u (by simp[hu])) h2 (fun x hx=>hlt x (by simp[hx])),rfl⟩
 | [],_::_,_,_,_,h,_=>h.elim
 | [],[],_::_,_,_,h,_=>h.elim
 | _::_,[],_,_,_,h,_=>h.elim
 | _::_,_::_,[],_,_,h,_=>h.elim
theorem law_post {H:Type} {enc:TypeId × Value→H} {P:Program} {f:Func} {spec:ChangeSpec} {B:TypeId} {W W':World} {args:Array Value} {ds gs:List (DataW H)} {before:List MemPlace}
  (hl:laidOutB P=true) (hr:f.params.toList.all (fun t=>P.readableRec t&&decide (t<P.types.size))=true) (hres:f.resultTypes=#[B]) (hB:P.underlying B=some .bool) (hv:spec.vars=[])
  (hW:DataW.Whole enc P f.params.toList spec.vars false W args.toList ds gs before) (hfn:∀ ds,ds.length=f.params.size→spec.fn H ds={ results:=[.lit (.bool true)],args:=ds })
  (hb:Below W.heap.size W W'):spec.post enc P f false true false false W args (.bool true) W':=by
 have hW0:=hW
 obtain ⟨p,q,hA,hV,rfl,_,_⟩:=hW
 have hgs:gs=[]∧q=[]:=by
  rw[hv] at hV
  cases gs with
  | nil=>exact ⟨rfl,hV⟩
  | cons g r=>exact hV.elim
 obtain ⟨rfl,rfl⟩:=hgs
 have hlen:∀ {ts:List TypeId} {vs:List Value} {ds:List (DataW H)} {ps:List MemPlace},DataW.TrodAll enc P W 0 (fun _=>true) true ts vs ds ps→ds.length=ts.length:=by
  intro ts
  induction ts with
  | nil=>intro vs ds ps h;cases vs<;>cases ds<;>first|rfl|exact h.elim
  | cons t ts ih=>intro vs ds ps h;cases vs<;>cases ds<;>first|exact h.elim|(obtain ⟨_,_,_,h2,_⟩:=h;simp[ih h2])
 have hd:ds.length=f.params.size:=by rw[hlen hA];simp
 have e:=hfn ds hd
 have hr':∀ t∈f.params.toList,P.readableRec t=true∧t<P.types.size:=fun t ht=>by
  have:=List.all_eq_true.1 hr t ht
  simpa using this
 refine ⟨ds,[],p++[],[],p,[],hW0,?_,?_,?_,hb.frame _,fun h=>by cases h⟩
 ·rw[List.append_nil,e,hres];exact trodAll_mk1 (shut_bool hB true)
 ·rw[List.append_nil,e];exact trodAll_below hl hb hr' hA (fun x hx=>by simpa using hW0.lt x (by simpa using hx))
 ·rw[List.append_nil,e,hv];rfl
open Go.ChangeShapes Go.WideShapes Go.ChangeAt Go.RowKit
theorem Tryz.own:ownKnob Tryz.prog.godebug=none:=by kernel_rfl
theorem Tryz.et:Tryz.prog.globalNamed "errors.errorType" = some 0:=by kernel_rfl
theorem Tryz.rt:(Tryz.prog.cutTypes.find? (·.1 == "internal/reflectlite.rtype")).map (·.2)=some 240:=by kernel_rfl
theorem Tryz.oneRow:((List.range Tryz.prog.types.size).filter fun t=>Tryz.prog.rowNamed t [101,114,114,111,114])=[30]:=by kernel_rfl
def theLaid:List (String × DataW Unit):=[("errors.errorType",.iface "internal/reflectlite.rtype" (.agg [.ptr (.lit (.string [101,114,114,111,114]))]))]
theorem glob_of_laid {W:World} (h:laidMetH Tryz.prog theLaid W):Glob W:=by
 have h':laidMet Tryz.prog [] W∧handlesMet Tryz.prog theLaid W:=h
 obtain ⟨name,u,ty,e1,e2,e3,e4,e5⟩:=h'.2 _ (List.mem_singleton.2 rfl)
 have en:name=[101,114,114,111,114]:=(Option.some.inj e1).symm
 subst en
 obtain rfl:=Option.some.inj (Tryz.rt.symm.trans e2)
 have hm:ty∈(List.range Tryz.prog.types.size).filter fun t=>Tryz.prog.rowNamed t [101,114,114,111,114]:=List.mem_filter.2 ⟨List.mem_range.2 e3,e4⟩
 rw[Tryz.oneRow] at hm
 obtain rfl:=List.mem_singleton.1 hm
 have hh:typeHandle Tryz.prog 30 = .pointer (some ⟨2,30,none⟩):=by kernel_rfl
 rw[hh] at e5
 simpa [Glob] using World.var?_cell Tryz.et e5 0
noncomputable def laidWorld (os:Os):World :=
 let w0:=World.holding Tryz.prog os ⟨#[],#[],[]⟩
 { w0 with heap:=w0.heap.modify 0 fun
   | .cells _ t frozen => .cells #[.iface 240 (.agg #[.pointer (some ⟨2,30,none⟩)])] t frozen
   | o=>o }
theorem laidWorld_met (os:Os) (args:Array Value):laidMetH Tryz.prog theLaid ((laidWorld os).forCall (fun _ _=>0) ⟨#[],args,[]⟩).memory :=
 laidMetH_of_parts (laidMet_nil _ _) (by kernel_rfl)
open Go.RowKit
theorem extakes_any (r:Rec) (w:World):Calls Tryz.prog 124 #[.int .i64 (r.num:Int),.int .i64 (r.ty:Int)] w fun e w'=>e = .returned (.bool (exF.tk r))∧w=w':=by
 obtain ⟨num,ty,n,s,raw⟩:=r
 have hq:=exF_tk ⟨num,ty,n,s,raw⟩
 dsimp only at hq
 obtain ⟨q,hqe⟩:∃ q,exF.tk ⟨num,ty,n,s,raw⟩=q:=⟨_,rfl⟩
 rw[hqe] at hq ⊢
 clear hqe
 by_cases h2:num=2
 ·subst h2
  have hb:Hid (q=((ty:Int) == (1:Int))):=Lib.hid (by rw[show ((1:Int))=((1:Nat):Int) from rfl,ibeq,hq];exact decide_eq_decide.2 (by omega))
  clear hq
  go_enter Tryz.func124,Tryz.ntmps124
  go_wp2_with fail
  go_ret
  exact ⟨by rw[hb.out];rfl,rfl⟩
 by_cases h6:num=6
 ·subst h6
  have hb:Hid (q=((ty:Int) == (1:Int))):=Lib.hid (by rw[show ((1:Int))=((1:Nat):Int) from rfl,ibeq,hq];exact decide_eq_decide.2 (by omega))
  clear hq
  go_enter Tryz.func124,Tryz.ntmps124
  go_wp2_with fail
  go_ret
  exact ⟨by rw[hb.out];rfl,rfl⟩
 by_cases h3:num=3
 ·subst h3
  have hb:Hid (q=((ty:Int) == (1:Int))):=Lib.hid (by rw[show ((1:Int))=((1:Nat):Int) from rfl,ibeq,hq];exact decide_eq_decide.2 (by omega))
  clear hq
  go_enter Tryz.func124,Tryz.ntmps124
  go_wp2_with fail
  go_ret
  exact ⟨by rw[hb.out];rfl,rfl⟩
 by_cases h4:num=4
 ·subst h4
  have hb:Hid (q=((ty:Int) == (2:Int))):=Lib.hid (by rw[show ((2:Int))=((2:Nat):Int) from rfl,ibeq,hq];exact decide_eq_decide.2 (by omega))
  clear hq
  go_enter Tryz.func124,Tryz.ntmps124
  go_wp2_with fail
  go_ret
  exact ⟨by rw[hb.out];rfl,rfl⟩
 by_cases h5:num=5
 ·subst h5
  have hb:Hid (q=((ty:Int) == (2:Int))):=Lib.hid (by rw[show ((2:Int))=((2:Nat):Int) from rfl,ibeq,hq];exact decide_eq_decide.2 (by omega))
  clear hq
  go_enter Tryz.func124,Tryz.ntmps124
  go_wp2_with fail
  go_ret
  exact ⟨by rw[hb.out];rfl,rfl⟩
 by_cases h7:num=7
 ·subst h7
  have hb:Hid (q=((ty:Int) == (2:Int))):=Lib.hid (by rw[show ((2:Int))=((2:Nat):Int) from rfl,ibeq,hq];exact decide_eq_decide.2 (by omega))
  clear hq
  go_enter Tryz.func124,Tryz.ntmps124
  go_wp2_with fail
  go_ret
  exact ⟨by rw[hb.out];rfl,rfl⟩
 have d2:((num:Int) == (2:Int))=false:=by rw[beq_eq_false_iff_ne];omega
 have d6:((num:Int) == (6:Int))=false:=by rw[beq_eq_false_iff_ne];omega
 have d3:((num:Int) == (3:Int))=false:=by rw[beq_eq_false_iff_ne];omega
 have d4:((num:Int) == (4:Int))=false:=by rw[beq_eq_false_iff_ne];omega
 have d5:((num:Int) == (5:Int))=false:=by rw[beq_eq_false_iff_ne];omega
 have d7:((num:Int) == (7:Int))=false:=by rw[beq_eq_false_iff_ne];omega
 have hb:Hid (q=false):=Lib.hid (by rw[hq];exact decide_eq_false (by omega))
 clear h2 h6 h3 h4 h5 h7 hq
 go_enter Tryz.func124,Tryz.ntmps124
 go_wp2_with fail
 go_ret
 exact ⟨by rw[hb.out];rfl,rfl⟩
open Go.RowKit
theorem hitakes_any (r:Rec) (w:World):Calls Tryz.prog 81 #[.int .i64 (r.num:Int),.int .i64 (r.ty:Int)] w fun e w'=>e = .returned (.bool (hiF.tk r))∧w=w':=by
 obtain ⟨num,ty,n,s,raw⟩:=r
 have hq:=hiF_tk ⟨num,ty,n,s,raw⟩
 dsimp only at hq
 obtain ⟨q,hqe⟩:∃ q,hiF.tk ⟨num,ty,n,s,raw⟩=q:=⟨_,rfl⟩
 rw[hqe] at hq ⊢
 clear hqe
 by_cases h2:num=2
 ·subst h2
  have hb:Hid (q=((ty:Int) == (1:Int))):=Lib.hid (by rw[show ((1:Int))=((1:Nat):Int) from rfl,ibeq,hq];exact decide_eq_decide.2 (by omega))
  clear hq
  go_enter Tryz.func81,Tryz.ntmps81
  go_wp2_with fail
  go_ret
  exact ⟨by rw[hb.out];rfl,rfl⟩
 by_cases h3:num=3
 ·subst h3
  have hb:Hid (q=((ty:Int) == (1:Int))):=Lib.hid (by rw[show ((1:Int))=((1:Nat):Int) from rfl,ibeq,hq];exact decide_eq_decide.2 (by omega))
  clear hq
  go_enter Tryz.func81,Tryz.ntmps81
  go_wp2_with fail
  go_ret
  exact ⟨by rw[hb.out];rfl,rfl⟩
 by_cases h4:num=4
 ·subst h4
  have hb:Hid (q=((ty:Int) == (1:Int))):=Lib.hid (by rw[show ((1:Int))=((1:Nat):Int) from rfl,ibeq,hq];exact decide_eq_decide.2 (by omega))
  clear hq
  go_enter Tryz.func81,Tryz.ntmps81
  go_wp2_with fail
  go_ret
  exact ⟨by rw[hb.out];rfl,rfl⟩
 by_cases h5:num=5
 ·subst h5
  have hb:Hid (q=((ty:Int) == (1:Int))):=Lib.hid (by rw[show ((1:Int))=((1:Nat):Int) from rfl,ibeq,hq];exact decide_eq_decide.2 (by omega))
  clear hq
  go_enter Tryz.func81,Tryz.ntmps81
  go_wp2_with fail
  go_ret
  exact ⟨by rw[hb.out];rfl,rfl⟩
 by_cases h6:num=6
 ·subst h6
  by_cases h2t:ty=2
  ·have hb:Hid (q=true):=Lib.hid (by rw[hq];exact decide_eq_true (by omega))
   have dt:((ty:Int) == 2)=true:=by rw[beq_iff_eq];omega
   clear hq
   go_enter Tryz.func81,Tryz.ntmps81
   go_wp2_with fail
   go_ret
   exact ⟨by rw[hb.out];rfl,rfl⟩
  ·have hb:Hid (q=((ty:Int) == (1:Int))):=Lib.hid (by rw[show ((1:Int))=((1:Nat):Int) from rfl,ibeq,hq];exact decide_eq_decide.2 (by omega))
   have dt:((ty:Int) == 2)=false:=by rw[beq_eq_false_iff_ne];omega
   clear hq h2t
   go_enter Tryz.func81,Tryz.ntmps81
   go_wp2_with fail
   go_ret
   exact ⟨by rw[hb.out];rfl,rfl⟩
 by_cases h7:num=7
 ·subst h7
  by_cases h2t:ty=2
  ·have hb:Hid (q=true):=Lib.hid (by rw[hq];exact decide_eq_true (by omega))
   have dt:((ty:Int) == 2)=true:=by rw[beq_iff_eq];omega
   clear hq
   go_enter Tryz.func81,Tryz.ntmps81
   go_wp2_with fail
   go_ret
   exact ⟨by rw[hb.out];rfl,rfl⟩
  ·have hb:Hid (q=((ty:Int) == (1:Int))):=Lib.hid (by rw[show ((1:Int))=((1:Nat):Int) from rfl,ibeq,hq];exact decide_eq_decide.2 (by omega))
   have dt:((ty:Int) == 2)=false:=by rw[beq_eq_false_iff_ne];omega
   clear hq h2t
   go_enter Tryz.func81,Tryz.ntmps81
   go_wp2_with fail
   go_ret
   exact ⟨by rw[hb.out];rfl,rfl⟩
 by_cases h8:num=8
 ·subst h8
  have hb:Hid (q=((ty:Int) == (2:Int))):=Lib.hid (by rw[show ((2:Int))=((2:Nat):Int) from rfl,ibeq,hq];exact decide_eq_decide.2 (by omega))
  clear hq
  go_enter Tryz.func81,Tryz.ntmps81
  go_wp2_with fail
  go_ret
  exact ⟨by rw[hb.out];rfl,rfl⟩
 by_cases h9:num=9
 ·subst h9
  have hb:Hid (q=((ty:Int) == (2:Int))):=Lib.hid (by rw[show ((2:Int))=((2:Nat):Int) from rfl,ibeq,hq];exact decide_eq_decide.2 (by omega))
  clear hq
  go_enter Tryz.func81,Tryz.ntmps81
  go_wp2_with fail
  go_ret
  exact ⟨by rw[hb.out];rfl,rfl⟩
 by_cases h10:num=10
 ·subst h10
  have hb:Hid (q=((ty:Int) == (0:Int))):=Lib.hid (by rw[show ((0:Int))=((0:Nat):Int) from rfl,ibeq,hq];exact decide_eq_decide.2 (by omega))
  clear hq
  go_enter Tryz.func81,Tryz.ntmps81
  go_wp2_with fail
  go_ret
  exact ⟨by rw[hb.out];rfl,rfl⟩
 by_cases h11:num=11
 ·subst h11
  have hb:Hid (q=((ty:Int) == (1:Int))):=Lib.hid (by rw[show ((1:Int))=((1:Nat):Int) from rfl,ibeq,hq];exact decide_eq_decide.2 (by omega))
  clear hq
  go_enter Tryz.func81,Tryz.ntmps81
  go_wp2_with fail
  go_ret
  exact ⟨by rw[hb.out];rfl,rfl⟩
 by_cases h12:num=12
 ·subst h12
  have hb:Hid (q=((ty:Int) == (1:Int))):=Lib.hid (by rw[show ((1:Int))=((1:Nat):Int) from rfl,ibeq,hq];exact decide_eq_decide.2 (by omega))
  clear hq
  go_enter Tryz.func81,Tryz.ntmps81
  go_wp2_with fail
  go_ret
  exact ⟨by rw[hb.out];rfl,rfl⟩
 have d2:((num:Int) == (2:Int))=false:=by rw[beq_eq_false_iff_ne];omega
 have d3:((num:Int) == (3:Int))=false:=by rw[beq_eq_false_iff_ne];omega
 have d4:((num:Int) == (4:Int))=false:=by rw[beq_eq_false_iff_ne];omega
 have d5:((num:Int) == (5:Int))=false:=by rw[beq_eq_false_iff_ne];omega
 have d6:((num:Int) == (6:Int))=false:=by rw[beq_eq_false_iff_ne];omega
 have d7:((num:Int) == (7:Int))=false:=by rw[beq_eq_false_iff_ne];omega
 have d8:((num:Int) == (8:Int))=false:=by rw[beq_eq_false_iff_ne];omega
 have d9:((num:Int) == (9:Int))=false:=by rw[beq_eq_false_iff_ne];omega
 have d10:((num:Int) == (10:Int))=false:=by rw[beq_eq_false_iff_ne];omega
 have d11:((num:Int) == (11:Int))=false:=by rw[beq_eq_false_iff_ne];omega
 have d12:((num:Int) == (12:Int))=false:=by rw[beq_eq_false_iff_ne];omega
 have hb:Hid (q=false):=Lib.hid (by rw[hq];exact decide_eq_false (by omega))
 clear h2 h3 h4 h5 h6 h7 h8 h9 h10 h11 h12 hq
 go_enter Tryz.func81,Tryz.ntmps81
 go_wp2_with fail
 go_ret
 exact ⟨by rw[hb.out];rfl,rfl⟩
end Go.Proofs.YtjbingoliffjiaaGreatDoor
