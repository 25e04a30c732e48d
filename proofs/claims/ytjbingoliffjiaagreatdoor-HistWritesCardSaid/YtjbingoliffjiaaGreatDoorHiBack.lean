/-
  Points of histograms: by their fields; in memory; there and back; joined.
-/
import Derived.Test.YtjbingoliffjiaaGreatDoorNumsK
import Derived.Test.YtjbingoliffjiaaGreatDoorExSub
namespace Go.Proofs.YtjbingoliffjiaaGreatDoor
open Go.RowKit
def hiF:Fld:=(numF 2).and ((numF 3).and ((numF 4).and ((optF 5).and ((numsF 6).and ((numsF 7).and ((listF 8 exSb).and ((listF 9 kvS).and ((var32F 10).and ((optF 11).and (optF 12))))))))))
theorem hiF_ok:hiF.Ok:=(numF_ok (by omega) (by omega)).and ((numF_ok (by omega) (by omega)).and ((numF_ok (by omega) (by omega)).and ((optF_ok (by omega) (by omega)).and ((numsF_ok (by omega) (by omega)).and ((numsF_ok (by omega) (by omega)).and ((listF_ok exSb_ok (by omega) (by omega)).and ((listF_ok kvS_ok (by omega) (by omega)).and ((var32F_ok (by omega) (by omega)).and ((optF_ok (by omega) (by omega)).and (optF_ok (by omega) (by omega)) (apart_of fun r h=>by simp only[optF,decide_eq_true_eq] at h;simp only[optF,decide_eq_false_iff_not];omega)) (apart_of fun r h=>by simp only[var32F,decide_eq_true_eq] at h;simp only[Fld.and,optF,Bool.or_eq_false_iff,decide_eq_false_iff_not];omega)) (apart_of fun r h=>by simp only[listF,listTk,decide_eq_true_eq] at h;simp only[Fld.and,optF,var32F,Bool.or_eq_false_iff,decide_eq_false_iff_not];omega)) (apart_of fun r h=>by simp only[listF,listTk,decide_eq_true_eq] at h;simp only[Fld.and,optF,var32F,listF,listTk,Bool.or_eq_false_iff,decide_eq_false_iff_not];omega)) (apart_of fun r h=>by simp only[numsF,decide_eq_true_eq] at h;simp only[Fld.and,optF,var32F,listF,listTk,Bool.or_eq_false_iff,decide_eq_false_iff_not];omega)) (apart_of fun r h=>by simp only[numsF,decide_eq_true_eq] at h;simp only[Fld.and,optF,numsF,var32F,listF,listTk,Bool.or_eq_false_iff,decide_eq_false_iff_not];omega)) (apart_of fun r h=>by simp only[optF,decide_eq_true_eq] at h;simp only[Fld.and,optF,numsF,var32F,listF,listTk,Bool.or_eq_false_iff,decide_eq_false_iff_not];omega)) (apart_of fun r h=>by simp only[numF,decide_eq_true_eq] at h;simp only[Fld.and,optF,numsF,var32F,listF,listTk,Bool.or_eq_false_iff,decide_eq_false_iff_not];omega)) (apart_of fun r h=>by simp only[numF,decide_eq_true_eq] at h;simp only[Fld.and,numF,optF,numsF,var32F,listF,listTk,Bool.or_eq_false_iff,decide_eq_false_iff_not];omega)) (apart_of fun r h=>by simp only[numF,decide_eq_true_eq] at h;simp only[Fld.and,numF,optF,numsF,var32F,listF,listTk,Bool.or_eq_false_iff,decide_eq_false_iff_not];omega)
theorem hiF_tk (r:Rec):hiF.tk r=decide ((r.num=2∧r.ty=1)∨((r.num=3∧r.ty=1)∨((r.num=4∧r.ty=1)∨((r.num=5∧r.ty=1)∨((r.num=6∧(r.ty=1∨r.ty=2))∨((r.num=7∧(r.ty=1∨r.ty=2))∨((r.num=8∧r.ty=2)∨((r.num=9∧r.ty=2)∨((r.num=10∧r.ty=0)∨((r.num=11∧r.ty=1)∨(r.num=12∧r.ty=1))))))))))):=by
 rw[Bool.eq_iff_iff]
 simp only[hiF,Fld.and,numF,optF,numsF,var32F,listF,listTk,Bool.or_eq_true,decide_eq_true_eq]
theorem hiF_2 {r:Rec} (h:r.num=2∧r.ty=1) (d:Int) (a:Nat) (t:Nat) (k:Nat) (ph:Bool) (pn:Nat) (nc:List Nat) (nb:List Nat) (es:List Ex) (l:List KV) (f:Nat) (mh:Bool) (mn:Nat) (gh:Bool) (gn:Nat):hiF.step d (a,(t,(k,((ph,pn),(nc,(nb,(es,(l,(f,((mh,mn),(gh,gn))))))))))) r = .ok (r.n,(t,(k,((ph,pn),(nc,(nb,(es,(l,(f,((mh,mn),(gh,gn))))))))))) :=
 (Fld.and_1ok (by simp only[numF,decide_eq_true_eq];omega) rfl)
theorem hiF_3 {r:Rec} (h:r.num=3∧r.ty=1) (d:Int) (a:Nat) (t:Nat) (k:Nat) (ph:Bool) (pn:Nat) (nc:List Nat) (nb:List Nat) (es:List Ex) (l:List KV) (f:Nat) (mh:Bool) (mn:Nat) (gh:Bool) (gn:Nat):hiF.step d (a,(t,(k,((ph,pn),(nc,(nb,(es,(l,(f,((mh,mn),(gh,gn))))))))))) r = .ok (a,(r.n,(k,((ph,pn),(nc,(nb,(es,(l,(f,((mh,mn),(gh,gn))))))))))) :=
 (Fld.and_2ok (by simp only[numF,decide_eq_false_iff_not];omega) (Fld.and_1ok (by simp only[numF,decide_eq_true_eq];omega) rfl))
theorem hiF_4 {r:Rec} (h:r.num=4∧r.ty=1) (d:Int) (a:Nat) (t:Nat) (k:Nat) (ph:Bool) (pn:Nat) (nc:List Nat) (nb:List Nat) (es:List Ex) (l:List KV) (f:Nat) (mh:Bool) (mn:Nat) (gh:Bool) (gn:Nat):hiF.step d (a,(t,(k,((ph,pn),(nc,(nb,(es,(l,(f,((mh,mn),(gh,gn))))))))))) r = .ok (a,(t,(r.n,((ph,pn),(nc,(nb,(es,(l,(f,((mh,mn),(gh,gn))))))))))) :=
 (Fld.and_2ok (by simp only[numF,decide_eq_false_iff_not];omega) (Fld.and_2ok (by simp only[numF,decide_eq_false_iff_not];omega) (Fld.and_1ok (by simp only[numF,decide_eq_true_eq];omega) rfl)))
theorem hiF_5 {r:Rec} (h:r.num=5∧r.ty=1) (d:Int) (a:Nat) (t:Nat) (k:Nat) (ph:Bool) (pn:Nat) (nc:List Nat) (nb:List Nat) (es:List Ex) (l:List KV) (f:Nat) (mh:Bool) (mn:Nat) (gh:Bool) (gn:Nat):hiF.step d (a,(t,(k,((ph,pn),(nc,(nb,(es,(l,(f,((mh,mn),(gh,gn))))))))))) r = .ok (a,(t,(k,((true,r.n),(nc,(nb,(es,(l,(f,((mh,mn),(gh,gn))))))))))) :=
 (Fld.and_2ok (by simp only[numF,decide_eq_false_iff_not];omega) (Fld.and_2ok (by simp only[numF,decide_eq_false_iff_not];omega) (Fld.and_2ok (by simp only[numF,decide_eq_false_iff_not];omega) (Fld.and_1ok (by simp only[optF,decide_eq_true_eq];omega) rfl))))
theorem hiF_6 {r:Rec} (h:r.num=6∧(r.ty=1∨r.ty=2)) (d:Int) (a:Nat) (t:Nat) (k:Nat) (ph:Bool) (pn:Nat) (nc:List Nat) (nb:List Nat) (es:List Ex) (l:List KV) (f:Nat) (mh:Bool) (mn:Nat) (gh:Bool) (gn:Nat):hiF.step d (a,(t,(k,((ph,pn),(nc,(nb,(es,(l,(f,((mh,mn),(gh,gn))))))))))) r=match fstep nc r with
  | .error c => .error c
  | .ok x => .ok (a,(t,(k,((ph,pn),(x,(nb,(es,(l,(f,((mh,mn),(gh,gn))))))))))):=by
 cases e:fstep nc r with
 | error c=>exact (Fld.and_2no (by simp only[numF,decide_eq_false_iff_not];omega) (Fld.and_2no (by simp only[numF,decide_eq_false_iff_not];omega) (Fld.and_2no (by simp only[numF,decide_eq_false_iff_not];omega) (Fld.and_2no (by simp only[optF,decide_eq_false_iff_not];omega) (Fld.and_1no (by simp only[numsF,decide_eq_true_eq];omega) (show (numsF 6).step d nc r = .error c from e))))))
 | ok x=>exact (Fld.and_2ok (by simp only[numF,decide_eq_false_iff_not];omega) (Fld.and_2ok (by simp only[numF,decide_eq_false_iff_not];omega) (Fld.and_2ok (by simp only[numF,decide_eq_false_iff_not];omega) (Fld.and_2ok (by simp only[optF,decide_eq_false_iff_not];omega) (Fld.and_1ok (by simp only[numsF,decide_eq_true_eq];omega) (show (numsF 6).step d nc r = .ok x from e))))))
theorem hiF_7 {r:Rec} (h:r.num=7∧(r.ty=1∨r.ty=2)) (d:Int) (a:Nat) (t:Nat) (k:Nat) (ph:Bool) (pn:Nat) (nc:List Nat) (nb:List Nat) (es:List Ex) (l:List KV) (f:Nat) (mh:Bool) (mn:Nat) (gh:Bool) (gn:Nat):hiF.step d (a,(t,(k,((ph,pn),(nc,(nb,(es,(l,(f,((mh,mn),(gh,gn))))))))))) r=match fstep nb r with
  | .error c => .error c
  | .ok x => .ok (a,(t,(k,((ph,pn),(nc,(x,(es,(l,(f,((mh,mn),(gh,gn))))))))))):=by
 cases e:fstep nb r with
 | error c=>exact (Fld.and_2no (by simp only[numF,decide_eq_false_iff_not];omega) (Fld.and_2no (by simp only[numF,decide_eq_false_iff_not];omega) (Fld.and_2no (by simp only[numF,decide_eq_false_iff_not];omega) (Fld.and_2no (by simp only[optF,decide_eq_false_iff_not];omega) (Fld.and_2no (by simp only[numsF,decide_eq_false_iff_not];omega) (Fld.and_1no (by simp only[numsF,decide_eq_true_eq];omega) (show (numsF 7).step d nb r = .error c from e)))))))
 | ok x=>exact (Fld.and_2ok (by simp only[numF,decide_eq_false_iff_not];omega) (Fld.and_2ok (by simp only[numF,decide_eq_false_iff_not];omega) (Fld.and_2ok (by simp only[numF,decide_eq_false_iff_not];omega) (Fld.and_2ok (by simp only[optF,decide_eq_false_iff_not];omega) (Fld.and_2ok (by simp only[numsF,decide_eq_false_iff_not];omega) (Fld.and_1ok (by simp only[numsF,decide_eq_true_eq];omega) (show (numsF 7).step d nb r = .ok x from e)))))))
theorem hiF_8 {r:Rec} (h:r.num=8∧r.ty=2) (d:Int) (a:Nat) (t:Nat) (k:Nat) (ph:Bool) (pn:Nat) (nc:List Nat) (nb:List Nat) (es:List Ex) (l:List KV) (f:Nat) (mh:Bool) (mn:Nat) (gh:Bool) (gn:Nat):hiF.step d (a,(t,(k,((ph,pn),(nc,(nb,(es,(l,(f,((mh,mn),(gh,gn))))))))))) r=match exrd r.s (d - 1) with
  | .error c => .error c
  | .ok x => .ok (a,(t,(k,((ph,pn),(nc,(nb,(es++[x],(l,(f,((mh,mn),(gh,gn))))))))))):=by
 cases e:exrd r.s (d - 1) with
 | error c=>exact (Fld.and_2no (by simp only[numF,decide_eq_false_iff_not];omega) (Fld.and_2no (by simp only[numF,decide_eq_false_iff_not];omega) (Fld.and_2no (by simp only[numF,decide_eq_false_iff_not];omega) (Fld.and_2no (by simp only[optF,decide_eq_false_iff_not];omega) (Fld.and_2no (by simp only[numsF,decide_eq_false_iff_not];omega) (Fld.and_2no (by simp only[numsF,decide_eq_false_iff_not];omega) (Fld.and_1no (by simp only[listF,listTk,decide_eq_true_eq];omega) (lst_no (S:=exSb) e))))))))
 | ok x=>exact (Fld.and_2ok (by simp only[numF,decide_eq_false_iff_not];omega) (Fld.and_2ok (by simp only[numF,decide_eq_false_iff_not];omega) (Fld.and_2ok (by simp only[numF,decide_eq_false_iff_not];omega) (Fld.and_2ok (by simp only[optF,decide_eq_false_iff_not];omega) (Fld.and_2ok (by simp only[numsF,decide_eq_false_iff_not];omega) (Fld.and_2ok (by simp only[numsF,decide_eq_false_iff_not];omega) (Fld.and_1ok (by simp only[listF,listTk,decide_eq_true_eq];omega) (lst_ok (S:=exSb) e))))))))
theorem hiF_9 {r:Rec} (h:r.num=9∧r.ty=2) (d:Int) (a:Nat) (t:Nat) (k:Nat) (ph:Bool) (pn:Nat) (nc:List Nat) (nb:List Nat) (es:List Ex) (l:List KV) (f:Nat) (mh:Bool) (mn:Nat) (gh:Bool) (gn:Nat):hiF.step d (a,(t,(k,((ph,pn),(nc,(nb,(es,(l,(f,((mh,mn),(gh,gn))))))))))) r=match kread 1000001 r.s (d - 1) with
  | .error c => .error c
  | .ok x => .ok (a,(t,(k,((ph,pn),(nc,(nb,(es,(l++[x],(f,((mh,mn),(gh,gn))))))))))):=by
 cases e:kread 1000001 r.s (d - 1) with
 | error c=>exact (Fld.and_2no (by simp only[numF,decide_eq_false_iff_not];omega) (Fld.and_2no (by simp only[numF,decide_eq_false_iff_not];omega) (Fld.and_2no (by simp only[numF,decide_eq_false_iff_not];omega) (Fld.and_2no (by simp only[optF,decide_eq_false_iff_not];omega) (Fld.and_2no (by simp only[numsF,decide_eq_false_iff_not];omega) (Fld.and_2no (by simp only[numsF,decide_eq_false_iff_not];omega) (Fld.and_2no (by simp only[listF,listTk,decide_eq_false_iff_not];omega) (Fld.and_1no (by simp only[listF,listTk,decide_eq_true_eq];omega) (kv_no e)))))))))
 | ok x=>exact (Fld.and_2ok (by simp only[numF,decide_eq_false_iff_not];omega) (Fld.and_2ok (by simp only[numF,decide_eq_false_iff_not];omega) (Fld.and_2ok (by simp only[numF,decide_eq_false_iff_not];omega) (Fld.and_2ok (by simp only[optF,decide_eq_false_iff_not];omega) (Fld.and_2ok (by simp only[numsF,decide_eq_false_iff_not];omega) (Fld.and_2ok (by simp only[numsF,decide_eq_false_iff_not];omega) (Fld.and_2ok (by simp only[listF,listTk,decide_eq_false_iff_not];omega) (Fld.and_1ok (by simp only[listF,listTk,decide_eq_true_eq];omega) (kv_ok e)))))))))
theorem hiF_10 {r:Rec} (h:r.num=10∧r.ty=0) (d:Int) (a:Nat) (t:Nat) (k:Nat) (ph:Bool) (pn:Nat) (nc:List Nat) (nb:List Nat) (es:List Ex) (l:List KV) (f:Nat) (mh:Bool) (mn:Nat) (gh:Bool) (gn:Nat):hiF.step d (a,(t,(k,((ph,pn),(nc,(nb,(es,(l,(f,((mh,mn),(gh,gn))))))))))) r = .ok (a,(t,(k,((ph,pn),(nc,(nb,(es,(l,(r.n % 4294967296,((mh,mn),(gh,gn))))))))))) :=
 (Fld.and_2ok (by simp only[numF,decide_eq_false_iff_not];omega) (Fld.and_2ok (by simp only[numF,decide_eq_false_iff_not];omega) (Fld.and_2ok (by simp only[numF,decide_eq_false_iff_not];omega) (Fld.and_2ok (by simp only[optF,decide_eq_false_iff_not];omega) (Fld.and_2ok (by simp only[numsF,decide_eq_false_iff_not];omega) (Fld.and_2ok (by simp only[numsF,decide_eq_false_iff_not];omega) (Fld.and_2ok (by simp only[listF,listTk,decide_eq_false_iff_not];omega) (Fld.and_2ok (by simp only[listF,listTk,decide_eq_false_iff_not];omega) (Fld.and_1ok (by simp only[var32F,decide_eq_true_eq];omega) rfl)))))))))
theorem hiF_11 {r:Rec} (h:r.num=11∧r.ty=1) (d:Int) (a:Nat) (t:Nat) (k:Nat) (ph:Bool) (pn:Nat) (nc:List Nat) (nb:List Nat) (es:List Ex) (l:List KV) (f:Nat) (mh:Bool) (mn:Nat) (gh:Bool) (gn:Nat):hiF.step d (a,(t,(k,((ph,pn),(nc,(nb,(es,(l,(f,((mh,mn),(gh,gn))))))))))) r = .ok (a,(t,(k,((ph,pn),(nc,(nb,(es,(l,(f,((true,r.n),(gh,gn))))))))))) :=
 (Fld.and_2ok (by simp only[numF,decide_eq_false_iff_not];omega) (Fld.and_2ok (by simp only[numF,decide_eq_false_iff_not];omega) (Fld.and_2ok (by simp only[numF,decide_eq_false_iff_not];omega) (Fld.and_2ok (by simp only[optF,decide_eq_false_iff_not];omega) (Fld.and_2ok (by simp only[numsF,decide_eq_false_iff_not];omega) (Fld.and_2ok (by simp only[numsF,decide_eq_false_iff_not];omega) (Fld.and_2ok (by simp only[listF,listTk,decide_eq_false_iff_not];omega) (Fld.and_2ok (by simp only[listF,listTk,decide_eq_false_iff_not];omega) (Fld.and_2ok (by simp only[var32F,decide_eq_false_iff_not];omega) (Fld.and_1ok (by simp only[optF,decide_eq_true_eq];omega) rfl))))))))))
theorem hiF_12 {r:Rec} (h:r.num=12∧r.ty=1) (d:Int) (a:Nat) (t:Nat) (k:Nat) (ph:Bool) (pn:Nat) (nc:List Nat) (nb:List Nat) (es:List Ex) (l:List KV) (f:Nat) (mh:Bool) (mn:Nat) (gh:Bool) (gn:Nat):hiF.step d (a,(t,(k,((ph,pn),(nc,(nb,(es,(l,(f,((mh,mn),(gh,gn))))))))))) r = .ok (a,(t,(k,((ph,pn),(nc,(nb,(es,(l,(f,((mh,mn),(true,r.n))))))))))) :=
 (Fld.and_2ok (by simp only[numF,decide_eq_false_iff_not];omega) (Fld.and_2ok (by simp only[numF,decide_eq_false_iff_not];omega) (Fld.and_2ok (by simp only[numF,decide_eq_false_iff_not];omega) (Fld.and_2ok (by simp only[optF,decide_eq_false_iff_not];omega) (Fld.and_2ok (by simp only[numsF,decide_eq_false_iff_not];omega) (Fld.and_2ok (by simp only[numsF,decide_eq_false_iff_not];omega) (Fld.and_2ok (by simp only[listF,listTk,decide_eq_false_iff_not];omega) (Fld.and_2ok (by simp only[listF,listTk,decide_eq_false_iff_not];omega) (Fld.and_2ok (by simp only[var32F,decide_eq_false_iff_not];omega) (Fld.and_2ok (by simp only[optF,decide_eq_false_iff_not];omega) rfl))))))))))
abbrev Hi:Type:=(Nat × Nat × Nat × (Bool × Nat) × List Nat × List Nat × List Ex × List KV × Nat × (Bool × Nat) × Bool × Nat) × List UInt8
def HiRel (w:World) (P:Nat→Prop):Hi→List Value→Prop
 | ((a,(t,(k,((ph,pn),(nc,(nb,(es,(l,(f,((mh,mn),(gh,gn))))))))))),u),cs=>∃ (lo:Option Addr) (lc:Nat) (nco:Option Addr) (ncc:Nat) (nbo:Option Addr) (nbc:Nat) (eo:Option Addr) (ec:Nat),cs=[.slice lo l.length lc,.int .u64 (a:Int),.int .u64 (t:Int),.int .u64 (k:Int),.bool ph,.int .u64 (pn:Int),.bool mh,.int .u64 (mn:Int),.bool gh,.int .u64 (gn:Int),.slice nco nc.length ncc,.slice nbo nb.length nbc,.slice eo es.length ec,.int .u32 (f:Int),strV u]∧KRels w P l lo 0∧CRels natCel w P nc nco∧CRels natCel w P nb nbo∧CRels exCel w P es eo
def hiCel:Cel Hi where
 R:=HiRel
 size:=15
 len:=by rintro w P ⟨⟨a,⟨t,⟨k,⟨⟨ph,pn⟩,⟨nc,⟨nb,⟨es,⟨l,⟨f,⟨⟨mh,mn⟩,⟨gh,gn⟩⟩⟩⟩⟩⟩⟩⟩⟩⟩⟩,u⟩ cs ⟨lo,lc,nco,ncc,nbo,nbc,eo,ec,rfl,_,_,_,_⟩;rfl
 upd:=by rintro w w' S P Q ⟨⟨a,⟨t,⟨k,⟨⟨ph,pn⟩,⟨nc,⟨nb,⟨es,⟨l,⟨f,⟨⟨mh,mn⟩,⟨gh,gn⟩⟩⟩⟩⟩⟩⟩⟩⟩⟩⟩,u⟩ cs hu hs hq ⟨lo,lc,nco,ncc,nbo,nbc,eo,ec,h,h0,h1,h2,h3⟩;exact ⟨lo,lc,nco,ncc,nbo,nbc,eo,ec,h,KRels.upd hu hs hq _ _ _ h0,CRels.upd hu hs hq h1,CRels.upd hu hs hq h2,CRels.upd hu hs hq h3⟩
 lt:=by rintro w P ⟨⟨a,⟨t,⟨k,⟨⟨ph,pn⟩,⟨nc,⟨nb,⟨es,⟨l,⟨f,⟨⟨mh,mn⟩,⟨gh,gn⟩⟩⟩⟩⟩⟩⟩⟩⟩⟩⟩,u⟩ cs ⟨lo,lc,nco,ncc,nbo,nbc,eo,ec,h,h0,h1,h2,h3⟩;exact ⟨lo,lc,nco,ncc,nbo,nbc,eo,ec,h,KRels.lt _ _ _ h0,CRels.lt h1,CRels.lt h2,CRels.lt h3⟩
def hizero:Array Value:=#[.slice none 0 0,.int .u64 0,.int .u64 0,.int .u64 0,.bool false,.int .u64 0,.bool false,.int .u64 0,.bool false,.int .u64 0,.slice none 0 0,.slice none 0 0,.slice none 0 0,.int .u32 0,.string ⟨#[]⟩]
def hird (l:List UInt8) (d:Int):Except Nat Hi:=mread (σ:=Nat × Nat × Nat × (Bool × Nat) × List Nat × List Nat × List Ex × List KV × Nat × (Bool × Nat) × Bool × Nat) hiF.tk (hiF.step d) hiF.z l d
theorem opt_seg (num n:Nat) (b:Bool):(if b=true then (rF num n).raw else []).length≤20:=by
 split
 ·show (vput (8 * num+1)++eight 8 n).length≤20
  have:=vput_le10 (8 * num+1);have:=eight_len 8 n;rw[List.length_append];omega
 ·simp
theorem nums_seg (num:Nat) (l:List Nat):(if l=[] then [] else (rB num (eights l)).raw).length≤20+8 * l.length:=by
 split
 ·simp
 ·show (vput (8 * num+2)++(vput (eights l).length++eights l)).length≤_
  have:=vput_le10 (8 * num+2);have:=vput_le10 (eights l).length;have:=eights_len l;simp only[List.length_append];omega
def hi_may (d:Int):Hi→Bool
 | ((_,(_,(_,((ph,pn),(_,(_,(es,(l,(_,((mh,mn),(gh,gn))))))))))),u)=>decide (0≤d)&&(((ph||decide (pn=0))&&(lmays exSb es d&&(kmays l d&&((mh||decide (mn=0))&&(gh||decide (gn=0))))))&&munkOk hiF.tk u d)
def hi_out:Hi→List UInt8
 | ((a,(t,(k,((ph,pn),(nc,(nb,(es,(l,(f,((mh,mn),(gh,gn))))))))))),u)=>(if a=0 then [] else (rF 2 a).raw)++(if t=0 then [] else (rF 3 t).raw)++(if k=0 then [] else (rF 4 k).raw)++(if ph=true then (rF 5 pn).raw else [])++(if nc=[] then [] else (rB 6 (eights nc)).raw)++(if nb=[] then [] else (rB 7 (eights nb)).raw)++louts exSb 8 es++kouts 9 l++(if f=0 then [] else (rN 10 f).raw)++(if mh=true then (rF 11 mn).raw else [])++(if gh=true then (rF 12 gn).raw else [])++u
def hi_wt:Hi→Nat
 | ((_,(_,(_,((_,_),(nc,(nb,(es,(l,(_,((_,_),(_,_))))))))))),u)=>60+(8 * nc.length+8 * nb.length+lwt exSb es+ksw l+u.length)
def hi_fit:Hi→Prop
 | ((a,(t,(k,((_,pn),(nc,(nb,(es,(l,(f,((_,mn),(_,gn))))))))))),u)=>a<18446744073709551616∧t<18446744073709551616∧k<18446744073709551616∧pn<18446744073709551616∧(∀ n∈nc,n<18446744073709551616)∧(∀ n∈nb,n<18446744073709551616)∧(∀ x∈es,ex_fit x)∧ksfit l∧f<4294967296∧mn<18446744073709551616∧gn<18446744073709551616∧8 * nc.length+8 * nb.length+lwt exSb es+ksw l+u.length≤400000
def hi_arg:Hi→Prop
 | ((a,(t,(k,((_,pn),(nc,(nb,(es,(l,(f,((_,mn),(_,gn))))))))))),u)=>a<18446744073709551616∧t<18446744073709551616∧k<18446744073709551616∧pn<18446744073709551616∧(∀ n∈nc,n<18446744073709551616)∧nc.length≤9223372036854775807∧(∀ n∈nb,n<18446744073709551616)∧nb.length≤9223372036854775807∧(∀ x∈es,ex_arg x)∧es.length≤9223372036854775807∧ksfit l∧kslim l∧l.length≤9223372036854775807∧f<4294967296∧mn<18446744073709551616∧gn<18446744073709551616∧u.length≤9223372036854775807
theorem hi_olen {a:Nat} {t:Nat} {k:Nat} {ph:Bool} {pn:Nat} {nc:List Nat} {nb:List Nat} {es:List Ex} {l:List KV} {f:Nat} {mh:Bool} {mn:Nat} {gh:Bool} {gn:Nat} {u:List UInt8} (h:hi_fit ((a,(t,(k,((ph,pn),(nc,(nb,(es,(l,(f,((mh,mn),(gh,gn))))))))))),u)):(hi_out ((a,(t,(k,((ph,pn),(nc,(nb,(es,(l,(f,((mh,mn),(gh,gn))))))))))),u)).length≤500000:=by
 obtain ⟨_,_,_,_,_,_,_,_,_,_,_,hw⟩:=h
 have hzl:=ksw_len l
 have hzes:=exs_len es
 have g0:=num_seg 2 a
 have g1:=num_seg 3 t
 have g2:=num_seg 4 k
 have g3:=opt_seg 5 pn ph
 have g4:=nums_seg 6 nc
 have g5:=nums_seg 7 nb
 have g6:=exs_olen (num:=8) (by omega) es
 have g7:=kouts_le 9 (by omega) l
 have g8:=var_seg 10 f
 have g9:=opt_seg 11 mn mh
 have g10:=opt_seg 12 gn gh
 show ((if a=0 then [] else (rF 2 a).raw)++(if t=0 then [] else (rF 3 t).raw)++(if k=0 then [] else (rF 4 k).raw)++(if ph=true then (rF 5 pn).raw else [])++(if nc=[] then [] else (rB 6 (eights nc)).raw)++(if nb=[] then [] else (rB 7 (eights nb)).raw)++louts exSb 8 es++kouts 9 l++(if f=0 then [] else (rN 10 f).raw)++(if mh=true then (rF 11 mn).raw else [])++(if gh=true then (rF 12 gn).raw else [])++u).length≤_
 simp only[List.length_append]
 omega
end Go.Proofs.YtjbingoliffjiaaGreatDoor
