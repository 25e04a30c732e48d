/-
  RefTab, RowL
-/
import Derived.Test.YtficgfemmijaaaaGreatDoorFld
import Derived.Test.YtficgfemmijaaaaGreatDoorRefMsg
import Derived.Test.YtficgfemmijaaaaGreatDoorExRoom
import Derived.Test.YtficgfemmijaaaaGreatDoorValMar
import Derived.Test.YtficgfemmijaaaaGreatDoorVal
import Derived.Test.YtficgfemmijaaaaGreatDoorUtfRefW
set_option maxRecDepth 1000000
set_option maxHeartbeats 16000000
namespace Go.Proofs.YtficgfemmijaaaaGreatDoor
open Go.RowKit
open Lib (hid)
def optF (num:Nat):Fld where
  σ:=Bool × Nat
  z:=(false,0)
  tk r:=decide (r.num=num∧r.ty=1)
  step _ _ r := .ok (true,r.n)
  out s:=if s.1=true then [rF num s.2] else []
  may _ s:=s.1||decide (s.2=0)
  fit s:=s.2<18446744073709551616
  wt _:=0
  w0:=0
  inv _ s _:=(s.1=true∨s.2=0)∧s.2<18446744073709551616
open Go.RowKit
theorem nats_tab6 (w:World)(a0 a1 a2 a3 a4 a5:Nat):Nats .i64 (w.alloc (.cells #[.int .i64 a0,.int .i64 a1,.int .i64 a2,.int .i64 a3,.int .i64 a4,.int .i64 a5] 3)) (some ⟨w.heap.size,0,none⟩) [a0,a1,a2,a3,a4,a5]:=by
 intro _;refine ⟨w.heap.size,0,rfl,by simp,fun j hj=>?_⟩;have:j=0∨j=1∨j=2∨j=3∨j=4∨j=5:=by simp at hj;omega
 rcases this with rfl|rfl|rfl|rfl|rfl|rfl
 ·exact row_cell (heap_alloc_new w _) (j:=0) rfl
 ·exact row_cell (heap_alloc_new w _) (j:=1) rfl
 ·exact row_cell (heap_alloc_new w _) (j:=2) rfl
 ·exact row_cell (heap_alloc_new w _) (j:=3) rfl
 ·exact row_cell (heap_alloc_new w _) (j:=4) rfl
 ·exact row_cell (heap_alloc_new w _) (j:=5) rfl
theorem ex_tab (w:World):Calls Tryz.prog 91 #[] w fun e w'=>∃ ao,e = .returned (.slice ao 6 6)∧Hid (Nats .i64 w' ao [17,25,34,42,49,58])∧Below w.heap.size w w':=by
 have HN:=hid (nats_tab6 w 17 25 34 42 49 58);go_enter Tryz.func91,Tryz.ntmps91;go_wp2_with fail;go_ret;exact ⟨_,rfl,HN,below_new _ _⟩
theorem ex_rtk (r:Rec):exF.tk r=rtk [17,25,34,42,49,58] r:=by
 rw[exF_tk];unfold rtk;rw[Bool.eq_iff_iff]
 simp
 omega
open Go.RowKit
theorem kmays_ref (d:Int)(_:0≤d)(l:List KV):(l.all fun x=>kmayD x (d - 1))=kmays l d:=by
 have h:=kmays_all (d+1) l;rw[show d+1 - 1=d by omega,show d+1 - 2=d - 1 by omega] at h;exact h.symm
open Go.RowKit
theorem nats_new (w:World)(l:List Nat)(T:TypeId):Nats .i64 (w.alloc (.cells (l.map fun n:Nat=>Value.int .i64 n).toArray T)) (some ⟨w.heap.size,0,none⟩) l:=fun _ =>
  ⟨w.heap.size,0,rfl,by simp,fun j hj=>row_cell (heap_alloc_new w _) (by rw[Nat.zero_add];simp[List.getElem?_eq_getElem hj])⟩
theorem tabV_any (w:World):Calls Tryz.prog 141 #[] w fun e w'=>∃ ao,e = .returned (.slice ao 7 7)∧Hid (Nats .i64 w' ao [10,16,24,33,42,50,58])∧Below w.heap.size w w':=by
  have HN:=hid (nats_new w [10,16,24,33,42,50,58] 3);go_enter Tryz.func141,Tryz.ntmps141;go_wp2_with fail;go_ret;exact ⟨_,rfl,HN,below_new _ _⟩
theorem tabK_any (w:World):Calls Tryz.prog 87 #[] w fun e w'=>∃ ao,e = .returned (.slice ao 2 2)∧Hid (Nats .i64 w' ao [10,18])∧Below w.heap.size w w':=by
  have HN:=hid (nats_new w [10,18] 3);go_enter Tryz.func87,Tryz.ntmps87;go_wp2_with fail;go_ret;exact ⟨_,rfl,HN,below_new _ _⟩
theorem tabI_any (w:World):Calls Tryz.prog 177 #[] w fun e w'=>∃ ao,e = .returned (.slice ao 1 1)∧Hid (Nats .i64 w' ao [10])∧Below w.heap.size w w':=by
  have HN:=hid (nats_new w [10] 3);go_enter Tryz.func177,Tryz.ntmps177;go_wp2_with fail;go_ret;exact ⟨_,rfl,HN,below_new _ _⟩
theorem vtk_rtk (r:Rec):vtk r=rtk [10,16,24,33,42,50,58] r:=by
  unfold vtk rtk;rw[Bool.eq_iff_iff]
  simp
  omega
theorem ktk_rtk (r:Rec):ktk r=rtk [10,18] r:=by
  unfold ktk rtk;rw[Bool.eq_iff_iff]
  simp
  omega
theorem itk_rtk (r:Rec):itk r=rtk [10] r:=by
  unfold itk rtk;rw[Bool.eq_iff_iff]
  simp
  omega
theorem text8_key (X:ByteArray)(w:World)(hX:X.size≤1000000):Calls Tryz.prog 88 #[.string X] w fun e w'=>e = .returned (.bool (uvalid X.data.toList))∧w=w':=by
  have HB:=hid (rbad_any X w hX);go_enter Tryz.func88,Tryz.ntmps88;go_wp2_with fail;refine HB.out.mono ?_;rintro e w' ⟨rfl,rfl⟩;go_wp2_with fail;go_ret;exact ⟨rfl,rfl⟩
open Go.RowKit
structure LPart (σ:Type) (lo:Nat) where
  V:Type
  rel:σ→V→(Nat→Prop)→World→Prop
  lt:∀ {st v P w},rel st v P w→∀ k,P k→lo≤k∧k<w.heap.size
  kept:∀ {st v P w w'},rel st v P w→Upd (fun k=>¬P k) w w'→rel st v P w'
  same:σ→σ→Prop
  conv:∀ {st st' v P w},same st st'→rel st v P w→rel st' v P w
section
variable {σ:Type} {bx:Nat} {A:LPart σ (bx+1)} {T0:TypeId} {row:σ→A.V→Array Value} {st st':σ} {v:A.V} {P1:Nat→Prop} {w:World}
end
def louts {α:Type}(S:Sub α)(num:Nat)(l:List α):List UInt8:=(l.map fun x=>rB num (S.out x)).flatMap Rec.raw
def lmays {α:Type}(S:Sub α)(l:List α)(d:Int):Bool:=l.all fun x=>decide (1≤d)&&S.may (d - 1) x
def lwt {α:Type}(S:Sub α)(l:List α):Nat:=lsum (l.map S.wt)
section
variable {α:Type} {S:Sub α}
theorem louts_app (num:Nat)(a b:List α):louts S num (a++b)=louts S num a++louts S num b:=by unfold louts;rw[List.map_append,List.flatMap_append]
theorem louts_one (num:Nat)(x:α):louts S num [x]=(rB num (S.out x)).raw:=by unfold louts;simp
theorem lmays_app (a b:List α)(d:Int):lmays S (a++b) d=(lmays S a d&&lmays S b d):=by unfold lmays;rw[List.all_append]
theorem lmays_one (x:α)(d:Int):lmays S [x] d=(decide (1≤d)&&S.may (d - 1) x):=by unfold lmays;simp
theorem lwt_cons (x:α)(l:List α):lwt S (x::l)=S.wt x+lwt S l:=rfl
theorem lwt_app (a b:List α):lwt S (a++b)=lwt S a+lwt S b:=by
  induction a with
  | nil=>simp[lwt,lsum]
  | cons x a ih=>rw[List.cons_append,lwt_cons,lwt_cons,ih];omega
theorem lwt_one (x:α):lwt S [x]=S.wt x:=by rw[lwt_cons];simp[lwt,lsum]
theorem lwt_mem {l:List α}{x:α}(h:x∈l):S.wt x≤lwt S l:=lsum_mem (List.mem_map_of_mem (f:=S.wt) h)
theorem lwt_at {l:List α}{j:Nat}(hj:j<l.length):lwt S (l.take j)+S.wt l[j]≤lwt S l:=by
  have h:=congrArg (lwt S) (List.take_append_drop (j+1) l);rw[lwt_app,List.take_succ_eq_append_getElem hj,lwt_app,lwt_one] at h;omega
theorem lwt_len {k:Nat}(h:∀ x,k≤S.wt x):∀ l:List α,l.length * k≤lwt S l
  | []=>by simp
  | x::l=>by rw[lwt_cons,List.length_cons,Nat.add_mul];have:=lwt_len h l;have:=h x;omega
theorem vput_one {n:Nat}(h:n<128):(vput n).length=1:=by
  rw[show vput n=vputF (8+1) n from rfl,vputF,if_pos h];rfl
theorem louts_le {num:Nat}(hn:1≤num∧num≤15)(h:∀ x,(S.out x).length+11≤S.wt x):∀ l:List α,(louts S num l).length≤lwt S l
  | []=>by simp[louts]
  | x :: l=>by
    have e:louts S num (x::l)=(rB num (S.out x)).raw++louts S num l:=by rw[show x::l=[x]++l from rfl,louts_app,louts_one]
    rw[e,List.length_append,lwt_cons];have:=louts_le hn h l;have:=h x;have h1:(vput (8 * num+2)).length=1:=vput_one (by omega)
    have h2:(rB num (S.out x)).raw.length=(vput (8 * num+2)).length+((vput (S.out x).length).length+(S.out x).length):=by
      show (vput (8 * num+2)++(vput (S.out x).length++S.out x)).length=_
      rw[List.length_append,List.length_append]
    have:=vput_le10 (S.out x).length;omega
end
end Go.Proofs.YtficgfemmijaaaaGreatDoor
