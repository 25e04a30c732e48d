/-
  Tail, XrTakes
-/
import Derived.Test.YtficgfemmijaaaaGreatValKey
import Derived.Test.YtficgfemmijaaaaGreatExRead
import Derived.Test.YtficgfemmijaaaaGreatKit
import Derived.ProofKit
import Derived.OpenShut
import Derived.JoinedCond
import Derived.SizedLaws
import Derived.Carry
import Derived.Test.YtficgfemmijaaaaGreatXrFld
set_option maxRecDepth 1000000
set_option maxHeartbeats 16000000
namespace Go.Proofs.YtficgfemmijaaaaGreat
open Go.RowKit
open Lib (hid)
theorem ex_un (X:ByteArray)(d:Int)(w:World)(hX:X.size≤500000)(hd:-9223372036854775808≤d∧d≤9223372036854775807) :
  Calls Tryz.prog 75 #[.string X,.int .i64 d] w (RdPost exCel exzero (exrd X.data.toList d) X.size w):=unex_if X d (hid (fun _ _ _=>ukey_any)) w hX hd
open Go.ChangeShapes Go.WideShapes Go.ChangeAt Go.RowKit
theorem trodAll_below {H:Type}{enc:TypeId × Value→H}{P:Program}(hl:laidOutB P=true){W W':World}(hb:Below W.heap.size W W') :
  ∀ {ts:List TypeId} {vs:List Value} {ds:List (DataW H)} {ps:List MemPlace},(∀ t∈ts,P.readableRec t=true∧t<P.types.size) →
   DataW.TrodAll enc P W 0 (fun _=>true) true ts vs ds ps→(∀ x∈ps,x.block<W.heap.size)→DataW.TrodAll enc P W' 0 (fun b=>decide (b<W.heap.size)) true ts vs ds ps
 | [],[],[],_,_,h,_=>h
 | t::ts,v::vs,d::ds,ps,hr,h,hlt=>by
  obtain ⟨p,q,h1,h2,rfl⟩:=h
  exact ⟨p,q,Below.trod hl (hr t (by simp)).1 (hr t (by simp)).2 h1 hb (fun x hx=>hlt x (by simp[hx])),
   trodAll_below hl hb (fun u hu=>hr u (by simp[hu])) h2 (fun x hx=>hlt x (by simp[hx])),rfl⟩
 | [],_::_,_,_,_,h,_=>h.elim
 | [],[],_::_,_,_,h,_=>h.elim
 | _::_,[],_,_,_,h,_=>h.elim
 | _::_,_::_,[],_,_,h,_=>h.elim
theorem law_post {H:Type} {enc:TypeId × Value→H} {P:Program} {f:Func} {spec:ChangeSpec} {B:TypeId} {W W':World} {args:Array Value} {ds gs:List (DataW H)} {before:List MemPlace}
  (hl:laidOutB P=true) (hr:f.params.toList.all (fun t=>P.readableRec t&&decide (t<P.types.size))=true) (hres:f.resultTypes=#[B]) (hB:P.underlying B=some .bool) (hv:spec.vars=[])
  (hW:DataW.Whole enc P f.params.toList spec.vars false W args.toList ds gs before) (hfn:∀ ds,ds.length=f.params.size→spec.fn H ds={ results:=[.lit (.bool true)],args:=ds })
  (hb:Below W.heap.size W W'):spec.post enc P f false true false false W args (.bool true) W':=by
 have hW0:=hW;obtain ⟨p,q,hA,hV,rfl,_,_⟩:=hW
 have hgs:gs=[]∧q=[]:=by
  rw[hv] at hV
  cases gs with
  | nil=>exact ⟨rfl,hV⟩
  | cons g r=>exact hV.elim
 obtain ⟨rfl,rfl⟩:=hgs
 have hlen:∀ {ts:List TypeId} {vs:List Value} {ds:List (DataW H)} {ps:List MemPlace},DataW.TrodAll enc P W 0 (fun _=>true) true ts vs ds ps→ds.length=ts.length:=by
  intro ts
  induction ts with
  | nil=>intro vs ds ps h;cases vs<;>cases ds<;>first|rfl|exact h.elim
  | cons t ts ih=>intro vs ds ps h;cases vs<;>cases ds<;>first|exact h.elim|(obtain ⟨_,_,_,h2,_⟩:=h;simp[ih h2])
 have hd:ds.length=f.params.size:=by rw[hlen hA];simp
 have e:=hfn ds hd
 have hr':∀ t∈f.params.toList,P.readableRec t=true∧t<P.types.size:=fun t ht=>by
  have:=List.all_eq_true.1 hr t ht
  simpa using this
 refine ⟨ds,[],p++[],[],p,[],hW0,?_,?_,?_,hb.frame _,fun h=>by cases h⟩
 ·rw[List.append_nil,e,hres];exact trodAll_mk1 (shut_bool hB true)
 ·rw[List.append_nil,e];exact trodAll_below hl hb hr' hA (fun x hx=>by simpa using hW0.lt x (by simpa using hx))
 ·rw[List.append_nil,e,hv];rfl
open Go.RowKit
def tailOk (ops:Array Oper)(r N:Nat):List Oper→List Nat→Bool
 | [],F=>F.contains r
 | o::rest,F=>match o.guard with
  | some (g,b)=>b&&((match ops[g]? with
   | some og=>(match og.dst with
    | some s=>F.contains s
    | none=>false)
   | none=>false)&&((match o.dst with
   | some d=>!F.contains d
   | none=>true)&&tailOk ops r N rest F))
  | none=>match o.dst with
   | none=>false
   | some d=>(match o.op with
    | .move (.tmp s)=>F.contains s
    | .assign (.tmp s)=>F.contains s
    | .pick (.tmp s) _ (.const (.bool false))=>F.contains s
    | _=>false)&&(decide (d<N)&&tailOk ops r N rest (d::F))
theorem put_same {a:Act}{d N:Nat}{v:Value}(h:a.tmps.size=N)(hd:d<N):(a.put (some d) v).tmps[d]? = some v:=by
 simp[Act.put,h,hd]
theorem put_other {a:Act}{d s:Nat}{v:Value}(h:s≠d):(a.put (some d) v).tmps[s]? = a.tmps[s]?:=by
 simp[Act.put,Ne.symm h]
theorem put_size {a:Act}{d:Option Nat}{v:Value}:(a.put d v).tmps.size=a.tmps.size:=by
 cases d<;>simp[Act.put]
theorem put_defers {a:Act}{d:Option Nat}{v:Value}:(a.put d v).defers=a.defers:=by
 cases d<;>rfl
theorem tail_false {P:Program}{ops:Array Oper}{Q:Exit→Act→World→Prop}{r N:Nat}{w:World}:∀ (rest:List Oper) (F:List Nat) (a:Act),tailOk ops r N rest F=true→a.tmps.size=N→(∀ s,F.contains s=true→a.tmps[s]? = some (.bool false))→(∀ a':Act,a'.defers=a.defers→a'.tmps[r]? = some (.bool false)→Q .normal a' w)→wpList P ops Q rest a w
 | [],F,a,h,_,hF,hq=>hq a rfl (hF r h)
 | o :: rest,F,a,h,hN,hF,hq=>by
  refine wpList_step fun K hK=>?_
  unfold tailOk at h
  split at h
  ·rename_i g b hg
   simp only[Bool.and_eq_true] at h
   obtain ⟨rfl,h1,h2,h3⟩:=h
   have hw:¬Region.wanted o (yielded ops a.tmps)=true:=by
    split at h1
    ·rename_i og ho
     split at h1
     ·rename_i s hd
      simp[Region.wanted,hg,yielded,ho,hd,hF s h1]
     ·cases h1
    ·cases h1
   rw[if_neg hw];refine hK _ _ (tail_false rest F _ h3 (by rw[put_size];exact hN) (fun s hs=>?_) (fun a' e1 e2=>hq a' (e1.trans put_defers) e2))
   split at h2
   ·rename_i d hd
    rw[hd];rw[put_other (fun e=>by subst e;rw[hs] at h2;cases h2)];exact hF s hs
   ·rename_i hd
    rw[hd];exact hF s hs
  ·rename_i hg
   have hw:Region.wanted o (yielded ops a.tmps)=true:=by simp[Region.wanted,hg]
   rw[if_pos hw]
   split at h
   ·cases h
   ·rename_i d hd
    simp only[Bool.and_eq_true,decide_eq_true_eq] at h
    obtain ⟨h1,h2,h3⟩:=h
    have key:o.wp P a w K Q↔K (a.put (some d) (.bool false)) w:=by
     obtain ⟨dst,op,ty,pos,after,guard⟩:=o;dsimp only at hd hg h1;subst hd
     split at h1
     ·rename_i s
      have e:=hF s h1
      simp[Oper.wp,execOp,Act.eval,Array.getD_eq_getD_getElem?,e,Oper.upon]
     ·rename_i s
      have e:=hF s h1
      simp[Oper.wp,execOp,Act.eval,Array.getD_eq_getD_getElem?,e,Oper.upon]
     ·rename_i s _
      have e:=hF s h1;have ea:(asBool (Value.bool false)).run P w = .ok false w:=rfl
      simp[Oper.wp,execOp,Act.eval,Array.getD_eq_getD_getElem?,e,Oper.upon,ea,Result.andThen]
     ·cases h1
    rw[key];refine hK _ _ (tail_false rest (d::F) _ h3 (by rw[put_size];exact hN) (fun s hs=>?_) (fun a' e1 e2=>hq a' (e1.trans put_defers) e2))
    by_cases e:s=d
    ·subst e
     exact put_same hN h2
    ·rw[put_other e]
     refine hF s ?_
     simpa [e] using hs
open Go.RowKit
theorem xrtakes_any (r:Rec)(w:World):Calls Tryz.prog 37 #[.int .i64 r.num,.int .i64 r.ty] w fun e w'=>e = .returned (.bool (xrF.tk r))∧w=w':=by
 obtain ⟨num,ty,n,s,raw⟩:=r;have hq:=xrF_tk ⟨num,ty,n,s,raw⟩;dsimp only at hq;obtain ⟨q,hqe⟩:∃ q,xrF.tk ⟨num,ty,n,s,raw⟩=q:=⟨_,rfl⟩
 rw[hqe] at hq ⊢;clear hqe
 by_cases h2:num=2
 ·subst h2
  have hb:Hid (q=((ty:Int) == (1:Int))):=hid (by rw[show ((1:Int))=((1:Nat):Int) from rfl,ibeq,hq];exact decide_eq_decide.2 (by omega));clear hq;go_enter Tryz.func37,Tryz.ntmps37;go_wp2_with fail;go_ret;exact ⟨by rw[hb.out];rfl,rfl⟩
 by_cases h3:num=3
 ·subst h3
  have hb:Hid (q=((ty:Int) == (1:Int))):=hid (by rw[show ((1:Int))=((1:Nat):Int) from rfl,ibeq,hq];exact decide_eq_decide.2 (by omega));clear hq;go_enter Tryz.func37,Tryz.ntmps37;go_wp2_with fail;go_ret;exact ⟨by rw[hb.out];rfl,rfl⟩
 by_cases h4:num=4
 ·subst h4
  have hb:Hid (q=((ty:Int) == (1:Int))):=hid (by rw[show ((1:Int))=((1:Nat):Int) from rfl,ibeq,hq];exact decide_eq_decide.2 (by omega));clear hq;go_enter Tryz.func37,Tryz.ntmps37;go_wp2_with fail;go_ret;exact ⟨by rw[hb.out];rfl,rfl⟩
 by_cases h5:num=5
 ·subst h5
  have hb:Hid (q=((ty:Int) == (1:Int))):=hid (by rw[show ((1:Int))=((1:Nat):Int) from rfl,ibeq,hq];exact decide_eq_decide.2 (by omega));clear hq;go_enter Tryz.func37,Tryz.ntmps37;go_wp2_with fail;go_ret;exact ⟨by rw[hb.out];rfl,rfl⟩
 by_cases h7:num=7
 ·subst h7
  have hb:Hid (q=((ty:Int) == (1:Int))):=hid (by rw[show ((1:Int))=((1:Nat):Int) from rfl,ibeq,hq];exact decide_eq_decide.2 (by omega));clear hq;go_enter Tryz.func37,Tryz.ntmps37;go_wp2_with fail;go_ret;exact ⟨by rw[hb.out];rfl,rfl⟩
 by_cases h12:num=12
 ·subst h12
  have hb:Hid (q=((ty:Int) == (1:Int))):=hid (by rw[show ((1:Int))=((1:Nat):Int) from rfl,ibeq,hq];exact decide_eq_decide.2 (by omega));clear hq;go_enter Tryz.func37,Tryz.ntmps37;go_wp2_with fail;go_ret;exact ⟨by rw[hb.out];rfl,rfl⟩
 by_cases h13:num=13
 ·subst h13
  have hb:Hid (q=((ty:Int) == (1:Int))):=hid (by rw[show ((1:Int))=((1:Nat):Int) from rfl,ibeq,hq];exact decide_eq_decide.2 (by omega));clear hq;go_enter Tryz.func37,Tryz.ntmps37;go_wp2_with fail;go_ret;exact ⟨by rw[hb.out];rfl,rfl⟩
 by_cases h14:num=14
 ·subst h14
  have hb:Hid (q=((ty:Int) == (1:Int))):=hid (by rw[show ((1:Int))=((1:Nat):Int) from rfl,ibeq,hq];exact decide_eq_decide.2 (by omega));clear hq;go_enter Tryz.func37,Tryz.ntmps37;go_wp2_with fail;go_ret;exact ⟨by rw[hb.out];rfl,rfl⟩
 by_cases h6:num=6
 ·subst h6
  have hb:Hid (q=((ty:Int) == (0:Int))):=hid (by rw[show ((0:Int))=((0:Nat):Int) from rfl,ibeq,hq];exact decide_eq_decide.2 (by omega));clear hq;go_enter Tryz.func37,Tryz.ntmps37;go_wp2_with fail;go_ret;exact ⟨by rw[hb.out];rfl,rfl⟩
 by_cases h10:num=10
 ·subst h10
  have hb:Hid (q=((ty:Int) == (0:Int))):=hid (by rw[show ((0:Int))=((0:Nat):Int) from rfl,ibeq,hq];exact decide_eq_decide.2 (by omega));clear hq;go_enter Tryz.func37,Tryz.ntmps37;go_wp2_with fail;go_ret;exact ⟨by rw[hb.out];rfl,rfl⟩
 by_cases h1:num=1
 ·subst h1
  have hb:Hid (q=((ty:Int) == (2:Int))):=hid (by rw[show ((2:Int))=((2:Nat):Int) from rfl,ibeq,hq];exact decide_eq_decide.2 (by omega));clear hq;go_enter Tryz.func37,Tryz.ntmps37;go_wp2_with fail;go_ret;exact ⟨by rw[hb.out];rfl,rfl⟩
 by_cases h8:num=8
 ·subst h8
  have hb:Hid (q=((ty:Int) == (2:Int))):=hid (by rw[show ((2:Int))=((2:Nat):Int) from rfl,ibeq,hq];exact decide_eq_decide.2 (by omega));clear hq;go_enter Tryz.func37,Tryz.ntmps37;go_wp2_with fail;go_ret;exact ⟨by rw[hb.out];rfl,rfl⟩
 by_cases h9:num=9
 ·subst h9
  have hb:Hid (q=((ty:Int) == (2:Int))):=hid (by rw[show ((2:Int))=((2:Nat):Int) from rfl,ibeq,hq];exact decide_eq_decide.2 (by omega));clear hq;go_enter Tryz.func37,Tryz.ntmps37;go_wp2_with fail;go_ret;exact ⟨by rw[hb.out];rfl,rfl⟩
 by_cases h11:num=11
 ·subst h11
  have hb:Hid (q=((ty:Int) == (2:Int))):=hid (by rw[show ((2:Int))=((2:Nat):Int) from rfl,ibeq,hq];exact decide_eq_decide.2 (by omega));clear hq;go_enter Tryz.func37,Tryz.ntmps37;go_wp2_with fail;go_ret;exact ⟨by rw[hb.out];rfl,rfl⟩
 have d2:((num:Int) == (2:Int))=false:=by rw[beq_eq_false_iff_ne];omega
 have d3:((num:Int) == (3:Int))=false:=by rw[beq_eq_false_iff_ne];omega
 have d4:((num:Int) == (4:Int))=false:=by rw[beq_eq_false_iff_ne];omega
 have d5:((num:Int) == (5:Int))=false:=by rw[beq_eq_false_iff_ne];omega
 have d7:((num:Int) == (7:Int))=false:=by rw[beq_eq_false_iff_ne];omega
 have d12:((num:Int) == (12:Int))=false:=by rw[beq_eq_false_iff_ne];omega
 have d13:((num:Int) == (13:Int))=false:=by rw[beq_eq_false_iff_ne];omega
 have d14:((num:Int) == (14:Int))=false:=by rw[beq_eq_false_iff_ne];omega
 have d6:((num:Int) == (6:Int))=false:=by rw[beq_eq_false_iff_ne];omega
 have d10:((num:Int) == (10:Int))=false:=by rw[beq_eq_false_iff_ne];omega
 have d1:((num:Int) == (1:Int))=false:=by rw[beq_eq_false_iff_ne];omega
 have d8:((num:Int) == (8:Int))=false:=by rw[beq_eq_false_iff_ne];omega
 have d9:((num:Int) == (9:Int))=false:=by rw[beq_eq_false_iff_ne];omega
 have d11:((num:Int) == (11:Int))=false:=by rw[beq_eq_false_iff_ne];omega
 have hb:Hid (q=false):=hid (by rw[hq];exact decide_eq_false (by omega));clear h2 h3 h4 h5 h7 h12 h13 h14 h6 h10 h1 h8 h9 h11 hq;go_enter Tryz.func37,Tryz.ntmps37;go_wp2_with fail;go_ret;exact ⟨by rw[hb.out];rfl,rfl⟩
end Go.Proofs.YtficgfemmijaaaaGreat
