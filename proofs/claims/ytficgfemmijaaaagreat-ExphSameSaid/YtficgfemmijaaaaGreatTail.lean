/-
  Of 'a && b && ..' the rest, once one of them is false: what is left of the region is passed in one step.
-/
import Derived.Test.YtficgfemmijaaaaGreatKit
namespace Go.Proofs.YtficgfemmijaaaaGreat
open Go.RowKit
def tailOk (ops:Array Oper) (r N:Nat):List Oper→List Nat→Bool
 | [],F=>F.contains r
 | o::rest,F=>match o.guard with
  | some (g,b)=>b&&((match ops[g]? with
   | some og=>(match og.dst with
    | some s=>F.contains s
    | none=>false)
   | none=>false)&&((match o.dst with
   | some d=>!F.contains d
   | none=>true)&&tailOk ops r N rest F))
  | none=>match o.dst with
   | none=>false
   | some d=>(match o.op with
    | .move (.tmp s)=>F.contains s
    | .assign (.tmp s)=>F.contains s
    | .pick (.tmp s) _ (.const (.bool false))=>F.contains s
    | _=>false)&&(decide (d<N)&&tailOk ops r N rest (d::F))
theorem put_same {a:Act} {d N:Nat} {v:Value} (h:a.tmps.size=N) (hd:d<N):(a.put (some d) v).tmps[d]? = some v:=by
 simp[Act.put,h,hd]
theorem put_other {a:Act} {d s:Nat} {v:Value} (h:s≠d):(a.put (some d) v).tmps[s]? = a.tmps[s]?:=by
 simp[Act.put,Ne.symm h]
theorem put_size {a:Act} {d:Option Nat} {v:Value}:(a.put d v).tmps.size=a.tmps.size:=by
 cases d<;>simp[Act.put]
theorem put_defers {a:Act} {d:Option Nat} {v:Value}:(a.put d v).defers=a.defers:=by
 cases d<;>rfl
theorem tail_false {P:Program} {ops:Array Oper} {Q:Exit→Act→World→Prop} {r N:Nat} {w:World}:∀ (rest:List Oper) (F:List Nat) (a:Act),tailOk ops r N rest F=true→a.tmps.size=N→(∀ s,F.contains s=true→a.tmps[s]? = some (.bool false))→(∀ a':Act,a'.defers=a.defers→a'.tmps[r]? = some (.bool false)→Q .normal a' w)→wpList P ops Q rest a w
 | [],F,a,h,_,hF,hq=>hq a rfl (hF r h)
 | o :: rest,F,a,h,hN,hF,hq=>by
  refine wpList_step fun K hK=>?_
  unfold tailOk at h
  split at h
  ·rename_i g b hg
   simp only[Bool.and_eq_true] at h
   obtain ⟨rfl,h1,h2,h3⟩:=h
   have hw:¬Region.wanted o (yielded ops a.tmps)=true:=by
    split at h1
    ·rename_i og ho
     split at h1
     ·rename_i s hd
      simp[Region.wanted,hg,yielded,ho,hd,hF s h1]
     ·cases h1
    ·cases h1
   rw[if_neg hw]
   refine hK _ _ (tail_false rest F _ h3 (by rw[put_size];exact hN) (fun s hs=>?_) (fun a' e1 e2=>hq a' (e1.trans put_defers) e2))
   split at h2
   ·rename_i d hd
    rw[hd]
    rw[put_other (fun e=>by subst e;rw[hs] at h2;cases h2)]
    exact hF s hs
   ·rename_i hd
    rw[hd]
    exact hF s hs
  ·rename_i hg
   have hw:Region.wanted o (yielded ops a.tmps)=true:=by simp[Region.wanted,hg]
   rw[if_pos hw]
   split at h
   ·cases h
   ·rename_i d hd
    simp only[Bool.and_eq_true,decide_eq_true_eq] at h
    obtain ⟨h1,h2,h3⟩:=h
    have key:o.wp P a w K Q↔K (a.put (some d) (.bool false)) w:=by
     obtain ⟨dst,op,ty,pos,after,guard⟩:=o
     dsimp only at hd hg h1
     subst hd
     split at h1
     ·rename_i s
      have e:=hF s h1
      simp[Oper.wp,execOp,Act.eval,Array.getD_eq_getD_getElem?,e,Oper.upon]
     ·rename_i s
      have e:=hF s h1
      simp[Oper.wp,execOp,Act.eval,Array.getD_eq_getD_getElem?,e,Oper.upon]
     ·rename_i s _
      have e:=hF s h1
      have ea:(asBool (Value.bool false)).run P w = .ok false w:=rfl
      simp[Oper.wp,execOp,Act.eval,Array.getD_eq_getD_getElem?,e,Oper.upon,ea,Result.andThen]
     ·cases h1
    rw[key]
    refine hK _ _ (tail_false rest (d::F) _ h3 (by rw[put_size];exact hN) (fun s hs=>?_) (fun a' e1 e2=>hq a' (e1.trans put_defers) e2))
    by_cases e:s=d
    ·subst e
     exact put_same hN h2
    ·rw[put_other e]
     refine hF s ?_
     simpa [e] using hs
end Go.Proofs.YtficgfemmijaaaaGreat
