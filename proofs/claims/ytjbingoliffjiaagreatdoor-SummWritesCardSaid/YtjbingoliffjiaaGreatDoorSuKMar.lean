/-
  PutsV, SuKMar
-/
import Derived.Test.YtjbingoliffjiaaGreatDoorRefOut
import Derived.Test.YtjbingoliffjiaaGreatDoorPartK
import Derived.Test.YtjbingoliffjiaaGreatDoorSuFirst
import Derived.Test.YtjbingoliffjiaaGreatDoorValMar
set_option maxRecDepth 1000000
set_option maxHeartbeats 16000000
namespace Go.Proofs.YtjbingoliffjiaaGreatDoor
open Go.RowKit
theorem fixed8_any (num n:Nat) (w:World) (h1:1≤num) (h2:num≤536870911) (_:n<18446744073709551616):Calls Tryz.prog 76 #[.int .i64 (num:Int),.int .u64 (n:Int)] w (RoPost (rF num n).raw w) :=
 (rfixedr_any (num:Int) n w (by omega) (by omega)).mono fun _ _ h=>⟨h.2,_,h.1,Lib.hid (rF_wrec h1 h2 n)⟩
theorem putnum8_any (num n:Nat) (w:World) (h1:1≤num) (h2:num≤536870911) (hn:n<18446744073709551616):Calls Tryz.prog 74 #[.int .i64 (num:Int),.int .u64 (n:Int)] w (RoPost (if n=0 then [] else (rF num n).raw) w):=by
 by_cases h0:n=0
 ·subst h0
  go_enter Tryz.func74,Tryz.ntmps74
  go_wp2_with fail
  go_ret
  exact ⟨Below.refl _ _,_,rfl,Lib.hid rfl⟩
 ·have d1:((n:Int) == 0)=false:=by rw[beq_eq_false_iff_ne];omega
  have HF:=Lib.hid (fixed8_any num n w h1 h2 hn)
  rw[if_neg h0]
  clear h0
  go_enter Tryz.func74,Tryz.ntmps74
  go_wp2_with fail
  refine HF.out.mono ?_;rintro e w1 ⟨hb,R,rfl,hR⟩
  have HB:=Lib.hid hb
  clear hb
  go_wp2_with fail
  go_ret
  exact ⟨HB.out,R,rfl,hR⟩
open Go.RowKit
theorem wvarP_rawx (num:Nat) (h1:1≤num) (h2:num≤536870911) (n:Nat):(wvarP num n).flatten=if n=0 then [] else (rN num n).raw:=by
  unfold wvarP
  split
  · rfl
  · have e:=wrec_raw (num:=num) (ty:=0) h1 h2 (by omega) (vput n)
    have e2:wrec (num:Int) 0 (vput n)=(rN num n).raw:=e
    rw[e2]
    simp
theorem putvar8r_any (num n:Nat) (w:World) (h1:1≤num) (h2:num≤536870911) (hn:n<2 ^ 64):Calls Tryz.prog 79 #[.int .i64 (num:Int),.int .u64 (n:Int)] w (RoPost (if n=0 then [] else (rN num n).raw) w) :=
  (putvar8_any num n w h2 hn).mono fun _ _ h=>⟨h.2,_,h.1,Lib.hid (wvarP_rawx num h1 h2 n)⟩
open Go.RowKit
theorem su_marshal (x:Su) (cs:List Value) (Q:Nat→Prop) (d:Int) (w:World) (hf:su_fit x) (hr:suCel.R w Q x cs) (hd : -9223372036854775808≤d∧d≤9223372036854775807) :
    Calls Tryz.prog 39 #[.agg cs.toArray,.int .i64 d] w (MarPost (su_may d x) (su_out x) w):=su_marshal_if x (Lib.hid fun _=>kmar_any) cs Q d w hf hr hd
theorem su_size_if (x:Su) (hMl:Hid (x.1.2.2.2.2.2.1≠[]→KMar)) (cs:List Value) (Q:Nat→Prop) (w:World) (hf:su_fit x) (hr:suCel.R w Q x cs) (hm:su_may 262144 x=true) :
 Calls Tryz.prog 42 #[.agg cs.toArray] w fun e w'=>e = .returned (.int .i64 ((su_out x).length:Int))∧Below w.heap.size w w':=by
 have HL:=Lib.hid (su_olen hf)
 have HM:=Lib.hid (fun w' (hb:Below w.heap.size w w')=>su_marshal_if x hMl cs Q 262144 w' hf (suCel.upd (Upd.of_new (S:=fun _=>False) hb) (fun _ _ h=>h) (fun _ h=>h) hr) (by omega))
 rw[hm] at HM
 obtain ⟨o,ho⟩:∃ o,su_out x=o:=⟨_,rfl⟩
 rw[ho] at HM HL ⊢
 obtain ⟨⟨a,⟨t,⟨k,⟨n,⟨qs,⟨l,f⟩⟩⟩⟩⟩⟩,u⟩:=x
 obtain ⟨lo,lc,qo,qc,rfl,_,_⟩:=hr
 dsimp only[strV] at HM ⊢
 obtain ⟨Xu,hXu⟩:∃ U:ByteArray,(⟨u.toArray⟩:ByteArray)=U:=⟨_,rfl⟩
 rw[hXu] at HM ⊢
 clear hXu hf hm ho
 obtain ⟨W,hW⟩:∃ W,w.alloc (.cells #[.slice lo l.length lc,.int .u64 (a:Int),.int .u64 (t:Int),.int .u64 (k:Int),.int .u64 (n:Int),.slice qo qs.length qc,.int .u32 (f:Int),.string Xu] 64)=W:=⟨_,rfl⟩
 have HB0:Hid (Below w.heap.size w W):=Lib.hid (by rw[←hW];exact below_new _ _)
 have HW:=Lib.hid hW
 clear hW
 go_enter Tryz.func42,Tryz.ntmps42
 go_wp2_with fail
 rw[HW.out]
 refine (HM.out W HB0.out).mono ?_;rintro e w1 ⟨hb,hcase⟩
 have HB1:=Lib.hid (below_step HB0.out hb)
 clear hb
 rw[if_pos rfl] at hcase
 subst hcase
 obtain ⟨P,hP⟩:∃ P:ByteArray,(⟨o.toArray⟩:ByteArray)=P:=⟨_,rfl⟩
 have hz:P.size=o.length:=by rw[←hP];simp[ByteArray.size]
 rw[hP]
 have HZ:=Lib.hid hz
 clear hP hz
 go_wp2_with fail
 go_ret
 exact ⟨by rw[HZ.out];rfl,HB1.out⟩
theorem su_size (x:Su) (cs:List Value) (Q:Nat→Prop) (w:World) (hf:su_fit x) (hr:suCel.R w Q x cs) (hm:su_may 262144 x=true) :
 Calls Tryz.prog 42 #[.agg cs.toArray] w fun e w'=>e = .returned (.int .i64 ((su_out x).length:Int))∧Below w.heap.size w w':=su_size_if x (Lib.hid fun _=>kmar_any) cs Q w hf hr hm
theorem su_mayc (x:Su) (cs:List Value) (Q:Nat→Prop) (d:Int) (w:World) (hf:su_fit x) (hr:suCel.R w Q x cs) (hd : -9223372036854775808≤d∧d≤9223372036854775807) :
 Calls Tryz.prog 40 #[.agg cs.toArray,.int .i64 d] w fun e w'=>e = .returned (.bool (su_may d x))∧Below w.heap.size w w':=by
 have HM:=Lib.hid (fun w' (hb:Below w.heap.size w w')=>su_marshal x cs Q d w' hf (suCel.upd (Upd.of_new (S:=fun _=>False) hb) (fun _ _ h=>h) (fun _ h=>h) hr) hd)
 obtain ⟨⟨a,⟨t,⟨k,⟨n,⟨qs,⟨l,f⟩⟩⟩⟩⟩⟩,u⟩:=x
 obtain ⟨lo,lc,qo,qc,rfl,_,_⟩:=hr
 obtain ⟨g,hg⟩:∃ g,su_may d ((a,(t,(k,(n,(qs,(l,f)))))),u)=g:=⟨_,rfl⟩
 rw[hg] at HM ⊢
 dsimp only[strV] at HM ⊢
 obtain ⟨Xu,hXu⟩:∃ U:ByteArray,(⟨u.toArray⟩:ByteArray)=U:=⟨_,rfl⟩
 rw[hXu] at HM ⊢
 clear hXu
 obtain ⟨W,hW⟩:∃ W,w.alloc (.cells #[.slice lo l.length lc,.int .u64 (a:Int),.int .u64 (t:Int),.int .u64 (k:Int),.int .u64 (n:Int),.slice qo qs.length qc,.int .u32 (f:Int),.string Xu] 64)=W:=⟨_,rfl⟩
 have HB0:Hid (Below w.heap.size w W):=Lib.hid (by rw[←hW];exact below_new _ _)
 have HW:=Lib.hid hW
 clear hW hf hg hd
 go_enter Tryz.func40,Tryz.ntmps40
 go_wp2_with fail
 rw[HW.out]
 refine (HM.out W HB0.out).mono ?_;rintro e w1 ⟨hb,hcase⟩
 have HB1:=Lib.hid (below_step HB0.out hb)
 clear hb
 cases g with
 | true =>
  rw[if_pos rfl] at hcase
  subst hcase
  go_wp2_with fail
  go_ret
  exact ⟨rfl,HB1.out⟩
 | false =>
  rw[if_neg (by simp)] at hcase
  obtain ⟨v,rfl,hec⟩:=hcase
  obtain ⟨T',y,rfl⟩:=hec.iface
  clear hec
  go_wp2_with fail
  go_ret
  exact ⟨rfl,HB1.out⟩
end Go.Proofs.YtjbingoliffjiaaGreatDoor
