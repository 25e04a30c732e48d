/-
  PutsV, PackR
-/
import Derived.Test.YtficgfemmijaaaaGreatDoorBukRef
import Derived.Test.YtficgfemmijaaaaGreatDoorFnl
import Derived.Test.YtficgfemmijaaaaGreatDoorRefOut
import Derived.Test.YtficgfemmijaaaaGreatDoorPartK
import Derived.Test.YtficgfemmijaaaaGreatDoorNumsW
import Derived.Test.YtficgfemmijaaaaGreatDoorWireRA
set_option maxRecDepth 1000000
set_option maxHeartbeats 16000000
namespace Go.Proofs.YtficgfemmijaaaaGreatDoor
open Go.RowKit
open Lib (hid)
def bkSb:Sub (Bk × List UInt8) where
  rd d t:=bread t d
  out x:=bput x.1 x.2
  may d x:=bmay x.2 d
  fit x:=BkOk x.1
  wt x:=10 * x.1.cs.length+x.2.length
theorem bkSb_ok:bkSb.Ok where
  len:=fun x=>by have:=bput_len x.1 x.2;show (bput x.1 x.2).length≤10 * x.1.cs.length+x.2.length+1000;omega
  back:=fun x d hf hw hd hm=>by
    obtain ⟨x,u⟩:=x;have hw:10 * x.cs.length+u.length≤1000000:=hw;have:=vputs_len10 x.cs;exact bread_put (x:=x) (u:=u) hf (by omega) hm
  less:=fun x d d' hf hw hd hm hle hn=>by
    obtain ⟨x,u⟩:=x;have hw:10 * x.cs.length+u.length≤1000000:=hw;have:=vputs_len10 x.cs;refine bread_put_less (x:=x) (u:=u) hf (by omega) hm hle ?_
    rcases hn with h|h
    · unfold bmay;rw[decide_eq_false (by omega)];rfl
    · exact h
  twice:=fun t x d ht h=>by
    obtain ⟨x,u⟩:=x;have h:bread t d = .ok (x,u):=h;have h1:=bread_may h;have h2:=bread_cs h;have h3:=bread_unk h
    have h0:0≤d:=by
      have h4:=h1;unfold bmay at h4
      rw[Bool.and_eq_true,decide_eq_true_eq] at h4;exact h4.1
    exact ⟨h0,h1,h2.2,by show 10 * x.cs.length+u.length≤_;omega⟩
def bkz (x:Bk × List UInt8):Bool:=decide (x.1.off=0)&&(x.1.cs.isEmpty&&x.2.isEmpty)
theorem bkz_iff (x:Bk × List UInt8):bkz x=true↔x=(⟨0,[]⟩,[]):=by
  obtain ⟨⟨o,cs⟩,u⟩:=x;unfold bkz
  simp only[Bool.and_eq_true,decide_eq_true_eq,List.isEmpty_iff,Prod.mk.injEq,Bk.mk.injEq,and_assoc]
open Go.RowKit
theorem fixed8_any (num n:Nat)(w:World)(h1:1≤num)(h2:num≤536870911)(_:n<18446744073709551616):Calls Tryz.prog 117 #[.int .i64 num,.int .u64 n] w (RoPost (rF num n).raw w) :=
 (rfixedr_any (num:Int) n w (by omega) (by omega)).mono fun _ _ h=>⟨h.2,_,h.1,hid (rF_wrec h1 h2 n)⟩
theorem putnum8_any (num n:Nat)(w:World)(h1:1≤num)(h2:num≤536870911)(hn:n<18446744073709551616):Calls Tryz.prog 62 #[.int .i64 num,.int .u64 n] w (RoPost (if n=0 then [] else (rF num n).raw) w):=by
 by_cases h0:n=0
 ·subst h0
  go_enter Tryz.func62,Tryz.ntmps62;go_wp2_with fail;go_ret;exact ⟨Below.refl _ _,_,rfl,hid rfl⟩
 ·have d1:((n:Int) == 0)=false:=by rw[beq_eq_false_iff_ne];omega
  have HF:=hid (fixed8_any num n w h1 h2 hn);rw[if_neg h0];clear h0;go_enter Tryz.func62,Tryz.ntmps62;go_wp2_with fail;refine HF.out.mono ?_;rintro e w1 ⟨hb,R,rfl,hR⟩;have HB:=hid hb;clear hb;go_wp2_with fail;go_ret;exact ⟨HB.out,R,rfl,hR⟩
theorem if18_any (c:Prop)[Decidable c](b:Bool)(X:ByteArray)(t:List UInt8)(w:World)(hb:b=true↔c)(hX:Hid (X.data.toList=t)):Calls Tryz.prog 159 #[.bool b,.string X] w (RoPost (if c then t else []) w):=by
 cases b with
 | true =>
  rw[if_pos (hb.1 rfl)];clear hb;go_enter Tryz.func159,Tryz.ntmps159;go_wp2_with fail;go_ret;exact ⟨Below.refl _ _,_,rfl,hX⟩
 | false =>
  rw[if_neg (fun h=>by have:=hb.2 h;cases this)];clear hb;go_enter Tryz.func159,Tryz.ntmps159;go_wp2_with fail;go_ret;exact ⟨Below.refl _ _,_,rfl,hid rfl⟩
theorem puttext8r_any (num:Nat)(X:ByteArray)(t:List UInt8)(w:World)(h1:1≤num)(h2:num≤536870911)(hX:Hid (X.data.toList=t))(ht:t.length≤1000000):Calls Tryz.prog 155 #[.int .i64 num,.string X] w (RoPost (if t=[] then [] else (rB num t).raw) w) :=
 (puttext8_any num X t w h2 hX ht).mono fun _ _ h=>⟨h.2,_,h.1,hid (wbytesP_raw num h1 h2 t)⟩
open Go.RowKit
theorem wvarP_rawx (num:Nat)(h1:1≤num)(h2:num≤536870911)(n:Nat):(wvarP num n).flatten=if n=0 then [] else (rN num n).raw:=by
  unfold wvarP
  split
  · rfl
  · have e:=wrec_raw (num:=num) (ty:=0) h1 h2 (by omega) (vput n)
    have e2:wrec (num:Int) 0 (vput n)=(rN num n).raw:=e;rw[e2]
    simp
theorem putvar8r_any (num n:Nat)(w:World)(h1:1≤num)(h2:num≤536870911)(hn:n<2 ^ 64):Calls Tryz.prog 64 #[.int .i64 num,.int .u64 n] w (RoPost (if n=0 then [] else (rN num n).raw) w) :=
  (putvar8_any num n w h2 hn).mono fun _ _ h=>⟨h.2,_,h.1,hid (wvarP_rawx num h1 h2 n)⟩
open Go.RowKit
theorem putopt8_any (num:Nat)(c:Bool)(n:Nat)(w:World)(h1:1≤num)(h2:num≤536870911)(hn:n<18446744073709551616):Calls Tryz.prog 63 #[.int .i64 num,.agg #[.bool c,.int .u64 n]] w (RoPost (if c=true then (rF num n).raw else []) w):=by
  obtain ⟨W0,hW0⟩:∃ W,w.alloc (.cells #[.bool c,.int .u64 n] 26)=W:=⟨_,rfl⟩
  have HB0:Hid (Below w.heap.size w W0):=hid (by rw[←hW0];exact below_new _ _);have HF:=hid (fixed8_any num n W0 h1 h2 hn);have HW0:=hid hW0;clear hW0
  cases c with
  | false =>
    rw[if_neg (by simp)];go_enter Tryz.func63,Tryz.ntmps63;go_wp2_with fail;rw[HW0.out];go_ret;exact ⟨HB0.out,_,rfl,hid rfl⟩
  | true =>
    rw[if_pos rfl];go_enter Tryz.func63,Tryz.ntmps63;go_wp2_with fail;rw[HW0.out];refine HF.out.mono ?_;rintro e w1 ⟨hb,R,rfl,hR⟩;have HB1:=hid (below_step HB0.out hb);clear hb;go_wp2_with fail;go_ret;exact ⟨HB1.out,R,rfl,hR⟩
theorem mayopt8_any (c:Bool)(n:Nat)(w:World):Calls Tryz.prog 98 #[.agg #[.bool c,.int .u64 n]] w fun e w'=>e = .returned (.bool (c||decide (n=0)))∧Below w.heap.size w w':=by
  have HB0:Hid (Below w.heap.size w (w.alloc (.cells #[.bool c,.int .u64 n] 26))):=hid (below_new _ _)
  cases c with
  | true =>
    go_enter Tryz.func98,Tryz.ntmps98;go_wp2_with fail;go_ret;exact ⟨rfl,HB0.out⟩
  | false =>
    have hb:Hid ((false||decide (n=0))=((n:Int) == 0)):=hid (by
      rw[Bool.false_or,show ((0:Int))=((0:Nat):Int) from rfl,ibeq])
    go_enter Tryz.func98,Tryz.ntmps98;go_wp2_with fail;go_ret;exact ⟨by rw[hb.out];rfl,HB0.out⟩
theorem row2o {w:World}{g:Nat}{c0 c1:Value}{T:TypeId}{fr:Nat × Nat}(h:w.heap[g]? = some (.cells #[c0,c1] T fr)):w.cell? ⟨g,0,none⟩=some c0∧w.cell? ⟨g,1,none⟩=some c1:=⟨row_cell h (j:=0) rfl,row_cell h (j:=1) rfl⟩
theorem opts8_any (a:Bool)(x:Nat)(b:Bool)(y:Nat)(c:Bool)(z:Nat)(w:World):Calls Tryz.prog 43 #[.agg #[.bool a,.int .u64 x],.agg #[.bool b,.int .u64 y],.agg #[.bool c,.int .u64 z]] w fun e w'=>e = .returned (.bool ((a||decide (x=0))&&((b||decide (y=0))&&(c||decide (z=0)))))∧Below w.heap.size w w':=by
  obtain ⟨ba,hba⟩:∃ ba,w.heap.size=ba:=⟨_,rfl⟩
  obtain ⟨W0,hW0⟩:∃ W,((w.alloc (.cells #[.bool a,.int .u64 x] 26)).alloc (.cells #[.bool b,.int .u64 y] 26)).alloc (.cells #[.bool c,.int .u64 z] 26)=W:=⟨_,rfl⟩
  have HB0:Hid (Below w.heap.size w W0):=hid (by rw[←hW0];exact below_step (below_step (below_new _ _) (below_new _ _)) (below_new _ _));have h3:=new_three_c hba (.cells #[.bool a,.int .u64 x] 26) (.cells #[.bool b,.int .u64 y] 26) (.cells #[.bool c,.int .u64 z] 26);rw[hW0] at h3;have H1:=hid h3.1;have H2:=hid h3.2.1;have H3:=hid h3.2.2;have HA:=hid (fun w'=>mayopt8_any a x w');have HBB:=hid (fun w'=>mayopt8_any b y w');have HC:=hid (fun w'=>mayopt8_any c z w');obtain ⟨qa,hqa⟩:∃ q,(a||decide (x=0))=q:=⟨_,rfl⟩
  obtain ⟨qb,hqb⟩:∃ q,(b||decide (y=0))=q:=⟨_,rfl⟩
  obtain ⟨qc,hqc⟩:∃ q,(c||decide (z=0))=q:=⟨_,rfl⟩
  rw[hqa] at HA ⊢;rw[hqb] at HBB ⊢;rw[hqc] at HC ⊢;have HW0:=hid hW0;have HBA:=hid hba;obtain ⟨p0,p1⟩:=row2o H1.out;clear hW0 hba h3 hqa hqb hqc;go_enter Tryz.func43,Tryz.ntmps43;go_wp2_with fail;rw[HW0.out,HBA.out];go_wp2_with fail;refine (HA.out W0).mono ?_;rintro e w4 ⟨rfl,hb4⟩;have HB4:=hid (below_step HB0.out hb4);have K2:=hid ((hb4.block _ (row_lt H2.out)).trans H2.out);have K3:=hid ((hb4.block _ (row_lt H3.out)).trans H3.out);clear p0 p1 hb4
  cases qa with
  | false =>
    go_wp2_with fail;go_ret;exact ⟨rfl,HB4.out⟩
  | true =>
    obtain ⟨p0,p1⟩:=row2o K2.out;go_wp2_with fail;refine (HBB.out w4).mono ?_;rintro e w5 ⟨rfl,hb5⟩;have HB5:=hid (below_step HB4.out hb5);have L3:=hid ((hb5.block _ (row_lt K3.out)).trans K3.out);clear p0 p1 hb5
    cases qb with
    | false =>
      go_wp2_with fail;go_ret;exact ⟨rfl,HB5.out⟩
    | true =>
      obtain ⟨p0,p1⟩:=row2o L3.out;go_wp2_with fail;refine (HC.out w5).mono ?_;rintro e w6 ⟨rfl,hb6⟩;have HB6:=hid (below_step HB5.out hb6);clear p0 p1 hb6
      cases qc
      all_goals
        go_wp2_with fail;go_ret;exact ⟨rfl,HB6.out⟩
end Go.Proofs.YtficgfemmijaaaaGreatDoor
