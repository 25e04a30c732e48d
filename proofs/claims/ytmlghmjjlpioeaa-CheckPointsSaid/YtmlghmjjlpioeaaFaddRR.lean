/-
  Doubles added: the reference's rounding.
-/
import Derived.Test.YtmlghmjjlpioeaaFaddAdd
import Derived.Lib.MinMax
set_option maxRecDepth 1000000
set_option maxHeartbeats 16000000
namespace Go.Proofs.Ytmlghmjjlpioeaa
open Go.RowKit
open Lib (hid)
theorem g_rest (m s:Nat)(hs:1≤s):Fm.g (Fm.stk (4 * m) s)=m / 2^s+(if 2^(s-1)<m % 2^s∨(m % 2^s=2^(s-1)∧m / 2^s % 2=1) then 1 else 0):=by
 have hp:0<2^s:=Nat.two_pow_pos s
 have e1:2^s=2 * 2^(s-1):=by rw[Nat.mul_comm,←Nat.pow_succ];congr 1;omega
 have hx:=Nat.div_add_mod m (2^s)
 have hr:=Nat.mod_lt m hp
 generalize m / 2^s=q at *
 generalize m % 2^s=r at *
 have e2:4 * m=2 * (2 * q) * 2^s+4 * r:=by rw[←hx,Nat.mul_add];congr 1;rw[Nat.mul_comm (2^s),←Nat.mul_assoc,←Nat.mul_assoc]
 rw[e2,Fm.stk_add rfl]
 have a:=Fm.stk_spec (4 * r) s 1
 have b:=Fm.stk_spec (4 * r) s 2
 have c:=Fm.stk_spec (4 * r) s 0
 generalize Fm.stk (4 * r) s=f at *
 rw[e1] at a b hr
 generalize 2^(s-1)=P at *
 unfold Fm.g
 split<;>split<;>omega
theorem inf_or (s:Nat)(hs:s=0∨s=1){v:Int}(hv:v=((s * 2^63:Nat):Int)):bits .or .u64 v 9218868437227405312=((s * 2^63+2047 * 2^52:Nat):Int):=by
 have h:=join_sign s (2047 * 2^52) hs (by decide)
 have e:((2047 * 2^52:Nat):Int)=9218868437227405312:=by decide
 rw[e] at h
 rw[hv]
 exact h
theorem mid_or (s x f:Nat)(hs:s=0∨s=1)(hx:x<2047)(hf:f<2^52){v y z:Int}(hv:v=((s * 2^63:Nat):Int))(hy:y=((x * 2^52:Nat):Int))(hz:z=(f:Int)) :
  bits .or .u64 (bits .or .u64 v y) z=((s * 2^63+(x * 2^52+f):Nat):Int):=by
 rw[hv,hy,hz,join_sign s (x * 2^52) hs (by omega),join64 (s * 2^63+x * 2^52) f 52 (by omega) hf (by omega),Nat.add_assoc]
theorem low_or (s q:Nat)(hs:s=0∨s=1)(hq:q<2^52){v:Int}(hv:v=((s * 2^63:Nat):Int)):bits .or .u64 v (q:Int)=((s * 2^63+q:Nat):Int):=by
 rw[hv];exact join_sign s q hs (by omega)
theorem top_more {m j:Nat}(hm:0<m)(h:j<m.log2){q:Nat}(hq:(m:Int) / 2 ^ j=(q:Int)):1<q:=by
 have h1:2^m.log2≤m:=Nat.log2_self_le (by omega)
 have h2:2^(j+1)≤2^m.log2:=Nat.pow_le_pow_right (by decide) (by omega)
 have e:m / 2^j=q:=by
  have:((m / 2^j:Nat):Int)=(q:Int):=by rw[←hq];simp
  omega
 rw[Nat.pow_succ,Nat.mul_comm] at h2
 have h3:2≤m / 2^j:=(Nat.le_div_iff_mul_le (Nat.two_pow_pos j)).2 (by omega)
 omega
theorem top_done {m j:Nat}(h:j=m.log2){q:Nat}(hq:(m:Int) / 2 ^ j=(q:Int)):q≤1:=by
 have h1:m<2^(m.log2+1):=Nat.lt_log2_self
 have e:m / 2^j=q:=by
  have:((m / 2^j:Nat):Int)=(q:Int):=by rw[←hq];simp
  omega
 rw[←h,Nat.pow_succ,Nat.mul_comm] at h1
 have h3:m / 2^j<2:=(Nat.div_lt_iff_lt_mul (Nat.two_pow_pos j)).2 h1
 omega
theorem rr_b1p (m L Q R k:Nat) (e lo:Int) (w:World) (hm0:0<m) (hm:m<2^64) (hL:Hid (m.log2=L)) (hL1:L<64) (hlo:max (e+(L:Int) - 52) (-1074)=lo) (he : -1084≤e) (he2:e≤962) (hl1 : -1074≤lo) (hl2:lo≤973)
  (HK:Hid (lo=(k:Int) - 1074)) (hQ:Q<4503599627370496∨Q=9007199254740992∨(4503599627370496≤Q∧Q<9007199254740992))
  (HR1:Hid (Q<4503599627370496→R=0 * 2^63+Q)) (HR2:Hid (Q=9007199254740992→R=0 * 2^63+if 2047≤k+2 then 2047 * 2^52 else (k+2) * 2^52)) (HR3:Hid (4503599627370496≤Q∧Q<9007199254740992→R=0 * 2^63+if 2047≤k+1 then 2047 * 2^52 else (k+1) * 2^52+Q % 2^52)) {s s1 q0 r0 h0:Nat} {M0:Int} (hsh:lo - e=(s:Int)) (hs:1≤s) (hs64:s≤63) (hs1:(s:Int) - 1=(s1:Int)) (e_q:(m:Int) / 2 ^ s=(q0:Int)) (e_m:IntKind.u64.wrap (IntKind.u64.wrap (2 ^ s) - 1)=M0) (e_r:bits .and .u64 (m:Int) M0=(r0:Int)) (e_h:IntKind.u64.wrap (2 ^ s1)=(h0:Int)) (lq:q0<9007199254740992) (d1:h0<r0) (e_Q:(q0:Int)+1=(Q:Int)) :
  Calls Try.prog 62 #[.bool false,.int .u64 m,.int .i64 e] w fun x w'=>x = .returned (.int .u64 (R:Nat))∧w=w':=by
 go_enter Try.func62,Try.ntmps62
 go_wp2
 go_loop [8] (fun k=>∃ j:Nat,k = .int .i64 (j:Int)∧j≤L) (fun k=>L - (intOf k).toNat)
 case atStart=>exact ⟨0,rfl,by omega⟩
 case round =>
  obtain ⟨j,rfl,hj⟩:=hrel
  rcases (by omega:j<L∨j=L) with hc|hc
  ·obtain ⟨q1,Q1⟩:∃ q1:Nat,(m:Int) / 2 ^ j=(q1:Int):=⟨m / 2^j,by simp⟩
   have hq1:1<q1:=top_more hm0 (by rw[hL.out];exact hc) Q1
   go_wp2
   exact ⟨⟨j+1,int_eq (by omega),by omega⟩,by simp[intOf];omega⟩
  ·subst hc
   obtain ⟨q1,Q1⟩:∃ q1:Nat,(m:Int) / 2 ^ j=(q1:Int):=⟨m / 2^j,by simp⟩
   have hq1:¬1<q1:=Nat.not_lt.2 (top_done hL.out.symm Q1)
   rcases hQ with hq|hq|⟨hq,hq'⟩
   ·have f1:((Q:Int) / 9007199254740992 == 1)=false:=beq_eq_false_iff_ne.2 (by omega)
    have f2:((Q:Int) / 4503599627370496 == 0)=true:=beq_iff_eq.2 (by omega)
    have HQ:=hid hq
    clear hq
    go_wp2_with fail
    go_ret
    refine ⟨ret_int ?_,rfl⟩
    show bits .or .u64 0 (Q:Int)=(R:Int)
    rw[HR1.out HQ.out,low_or 0 Q (.inl rfl) HQ.out (by decide)]
   ·have f1:((Q:Int) / 9007199254740992 == 1)=true:=beq_iff_eq.2 (by omega)
    have f2:((Q:Int) / 2)=4503599627370496:=by omega
    have HQ:=hid hq
    clear hq
    by_cases hx:2047≤lo+1+1075
    ·go_wp2_with fail
     go_ret
     refine ⟨ret_int ?_,rfl⟩
     show bits .or .u64 0 9218868437227405312=(R:Int)
     rw[HR2.out HQ.out,if_pos (by have:=HK.out;omega),inf_or 0 (.inl rfl) (by decide)]
    ·go_wp2_with fail
     go_ret
     refine ⟨ret_int ?_,rfl⟩
     show bits .or .u64 (bits .or .u64 0 ((lo+1+1075) * 4503599627370496)) (bits .and .u64 4503599627370496 4503599627370495)=(R:Int)
     have hk:=HK.out
     rw[HR2.out HQ.out,if_neg (by omega),mid_or 0 (k+2) 0 (.inl rfl) (by omega) (by decide) (by decide) (by omega) (by decide),Nat.add_zero]
   ·have f1:((Q:Int) / 9007199254740992 == 1)=false:=beq_eq_false_iff_ne.2 (by omega)
    have f2:((Q:Int) / 4503599627370496 == 0)=false:=beq_eq_false_iff_ne.2 (by omega)
    have HQ:=hid (And.intro hq hq')
    clear hq hq'
    by_cases hx:2047≤lo+1075
    ·go_wp2_with fail
     go_ret
     refine ⟨ret_int ?_,rfl⟩
     show bits .or .u64 0 9218868437227405312=(R:Int)
     rw[HR3.out HQ.out,if_pos (by have:=HK.out;omega),inf_or 0 (.inl rfl) (by decide)]
    ·go_wp2_with fail
     go_ret
     refine ⟨ret_int ?_,rfl⟩
     show bits .or .u64 (bits .or .u64 0 ((lo+1075) * 4503599627370496)) (bits .and .u64 (Q:Int) 4503599627370495)=(R:Int)
     have hk:=HK.out
     have hq:=HQ.out
     rw[HR3.out HQ.out,if_neg (by omega),mid_or 0 (k+1) (Q % 2^52) (.inl rfl) (by omega) (by omega) (by decide) (by omega) (mask64 Q 52 (by omega) (by decide) (by decide))]
theorem rr_b2p (m L Q R k:Nat) (e lo:Int) (w:World) (hm0:0<m) (hm:m<2^64) (hL:Hid (m.log2=L)) (hL1:L<64) (hlo:max (e+(L:Int) - 52) (-1074)=lo) (he : -1084≤e) (he2:e≤962) (hl1 : -1074≤lo) (hl2:lo≤973)
  (HK:Hid (lo=(k:Int) - 1074)) (hQ:Q<4503599627370496∨Q=9007199254740992∨(4503599627370496≤Q∧Q<9007199254740992))
  (HR1:Hid (Q<4503599627370496→R=0 * 2^63+Q)) (HR2:Hid (Q=9007199254740992→R=0 * 2^63+if 2047≤k+2 then 2047 * 2^52 else (k+2) * 2^52)) (HR3:Hid (4503599627370496≤Q∧Q<9007199254740992→R=0 * 2^63+if 2047≤k+1 then 2047 * 2^52 else (k+1) * 2^52+Q % 2^52)) {s s1 q0 r0 h0:Nat} {M0:Int} (hsh:lo - e=(s:Int)) (hs:1≤s) (hs64:s≤63) (hs1:(s:Int) - 1=(s1:Int)) (e_q:(m:Int) / 2 ^ s=(q0:Int)) (e_m:IntKind.u64.wrap (IntKind.u64.wrap (2 ^ s) - 1)=M0) (e_r:bits .and .u64 (m:Int) M0=(r0:Int)) (e_h:IntKind.u64.wrap (2 ^ s1)=(h0:Int)) (lq:q0<9007199254740992) (d1:¬h0<r0) (d2:((r0:Int) == (h0:Int))=true) (d3:bits .and .u64 (q0:Int) 1=1) (e_Q:(q0:Int)+1=(Q:Int)) :
  Calls Try.prog 62 #[.bool false,.int .u64 m,.int .i64 e] w fun x w'=>x = .returned (.int .u64 (R:Nat))∧w=w':=by
 go_enter Try.func62,Try.ntmps62
 go_wp2
 go_loop [8] (fun k=>∃ j:Nat,k = .int .i64 (j:Int)∧j≤L) (fun k=>L - (intOf k).toNat)
 case atStart=>exact ⟨0,rfl,by omega⟩
 case round =>
  obtain ⟨j,rfl,hj⟩:=hrel
  rcases (by omega:j<L∨j=L) with hc|hc
  ·obtain ⟨q1,Q1⟩:∃ q1:Nat,(m:Int) / 2 ^ j=(q1:Int):=⟨m / 2^j,by simp⟩
   have hq1:1<q1:=top_more hm0 (by rw[hL.out];exact hc) Q1
   go_wp2
   exact ⟨⟨j+1,int_eq (by omega),by omega⟩,by simp[intOf];omega⟩
  ·subst hc
   obtain ⟨q1,Q1⟩:∃ q1:Nat,(m:Int) / 2 ^ j=(q1:Int):=⟨m / 2^j,by simp⟩
   have hq1:¬1<q1:=Nat.not_lt.2 (top_done hL.out.symm Q1)
   rcases hQ with hq|hq|⟨hq,hq'⟩
   ·have f1:((Q:Int) / 9007199254740992 == 1)=false:=beq_eq_false_iff_ne.2 (by omega)
    have f2:((Q:Int) / 4503599627370496 == 0)=true:=beq_iff_eq.2 (by omega)
    have HQ:=hid hq
    clear hq
    go_wp2_with fail
    go_ret
    refine ⟨ret_int ?_,rfl⟩
    show bits .or .u64 0 (Q:Int)=(R:Int)
    rw[HR1.out HQ.out,low_or 0 Q (.inl rfl) HQ.out (by decide)]
   ·have f1:((Q:Int) / 9007199254740992 == 1)=true:=beq_iff_eq.2 (by omega)
    have f2:((Q:Int) / 2)=4503599627370496:=by omega
    have HQ:=hid hq
    clear hq
    by_cases hx:2047≤lo+1+1075
    ·go_wp2_with fail
     go_ret
     refine ⟨ret_int ?_,rfl⟩
     show bits .or .u64 0 9218868437227405312=(R:Int)
     rw[HR2.out HQ.out,if_pos (by have:=HK.out;omega),inf_or 0 (.inl rfl) (by decide)]
    ·go_wp2_with fail
     go_ret
     refine ⟨ret_int ?_,rfl⟩
     show bits .or .u64 (bits .or .u64 0 ((lo+1+1075) * 4503599627370496)) (bits .and .u64 4503599627370496 4503599627370495)=(R:Int)
     have hk:=HK.out
     rw[HR2.out HQ.out,if_neg (by omega),mid_or 0 (k+2) 0 (.inl rfl) (by omega) (by decide) (by decide) (by omega) (by decide),Nat.add_zero]
   ·have f1:((Q:Int) / 9007199254740992 == 1)=false:=beq_eq_false_iff_ne.2 (by omega)
    have f2:((Q:Int) / 4503599627370496 == 0)=false:=beq_eq_false_iff_ne.2 (by omega)
    have HQ:=hid (And.intro hq hq')
    clear hq hq'
    by_cases hx:2047≤lo+1075
    ·go_wp2_with fail
     go_ret
     refine ⟨ret_int ?_,rfl⟩
     show bits .or .u64 0 9218868437227405312=(R:Int)
     rw[HR3.out HQ.out,if_pos (by have:=HK.out;omega),inf_or 0 (.inl rfl) (by decide)]
    ·go_wp2_with fail
     go_ret
     refine ⟨ret_int ?_,rfl⟩
     show bits .or .u64 (bits .or .u64 0 ((lo+1075) * 4503599627370496)) (bits .and .u64 (Q:Int) 4503599627370495)=(R:Int)
     have hk:=HK.out
     have hq:=HQ.out
     rw[HR3.out HQ.out,if_neg (by omega),mid_or 0 (k+1) (Q % 2^52) (.inl rfl) (by omega) (by omega) (by decide) (by omega) (mask64 Q 52 (by omega) (by decide) (by decide))]
theorem rr_b3p (m L Q R k:Nat) (e lo:Int) (w:World) (hm0:0<m) (hm:m<2^64) (hL:Hid (m.log2=L)) (hL1:L<64) (hlo:max (e+(L:Int) - 52) (-1074)=lo) (he : -1084≤e) (he2:e≤962) (hl1 : -1074≤lo) (hl2:lo≤973)
  (HK:Hid (lo=(k:Int) - 1074)) (hQ:Q<4503599627370496∨Q=9007199254740992∨(4503599627370496≤Q∧Q<9007199254740992))
  (HR1:Hid (Q<4503599627370496→R=0 * 2^63+Q)) (HR2:Hid (Q=9007199254740992→R=0 * 2^63+if 2047≤k+2 then 2047 * 2^52 else (k+2) * 2^52)) (HR3:Hid (4503599627370496≤Q∧Q<9007199254740992→R=0 * 2^63+if 2047≤k+1 then 2047 * 2^52 else (k+1) * 2^52+Q % 2^52)) {s s1 r0 h0:Nat} {M0:Int} (hsh:lo - e=(s:Int)) (hs:1≤s) (hs64:s≤63) (hs1:(s:Int) - 1=(s1:Int)) (e_q:(m:Int) / 2 ^ s=(Q:Int)) (e_m:IntKind.u64.wrap (IntKind.u64.wrap (2 ^ s) - 1)=M0) (e_r:bits .and .u64 (m:Int) M0=(r0:Int)) (e_h:IntKind.u64.wrap (2 ^ s1)=(h0:Int)) (d1:¬h0<r0) (d2:((r0:Int) == (h0:Int))=true) (d3:bits .and .u64 (Q:Int) 1=0) :
  Calls Try.prog 62 #[.bool false,.int .u64 m,.int .i64 e] w fun x w'=>x = .returned (.int .u64 (R:Nat))∧w=w':=by
 go_enter Try.func62,Try.ntmps62
 go_wp2
 go_loop [8] (fun k=>∃ j:Nat,k = .int .i64 (j:Int)∧j≤L) (fun k=>L - (intOf k).toNat)
 case atStart=>exact ⟨0,rfl,by omega⟩
 case round =>
  obtain ⟨j,rfl,hj⟩:=hrel
  rcases (by omega:j<L∨j=L) with hc|hc
  ·obtain ⟨q1,Q1⟩:∃ q1:Nat,(m:Int) / 2 ^ j=(q1:Int):=⟨m / 2^j,by simp⟩
   have hq1:1<q1:=top_more hm0 (by rw[hL.out];exact hc) Q1
   go_wp2
   exact ⟨⟨j+1,int_eq (by omega),by omega⟩,by simp[intOf];omega⟩
  ·subst hc
   obtain ⟨q1,Q1⟩:∃ q1:Nat,(m:Int) / 2 ^ j=(q1:Int):=⟨m / 2^j,by simp⟩
   have hq1:¬1<q1:=Nat.not_lt.2 (top_done hL.out.symm Q1)
   rcases hQ with hq|hq|⟨hq,hq'⟩
   ·have f1:((Q:Int) / 9007199254740992 == 1)=false:=beq_eq_false_iff_ne.2 (by omega)
    have f2:((Q:Int) / 4503599627370496 == 0)=true:=beq_iff_eq.2 (by omega)
    have HQ:=hid hq
    clear hq
    go_wp2_with fail
    go_ret
    refine ⟨ret_int ?_,rfl⟩
    show bits .or .u64 0 (Q:Int)=(R:Int)
    rw[HR1.out HQ.out,low_or 0 Q (.inl rfl) HQ.out (by decide)]
   ·have f1:((Q:Int) / 9007199254740992 == 1)=true:=beq_iff_eq.2 (by omega)
    have f2:((Q:Int) / 2)=4503599627370496:=by omega
    have HQ:=hid hq
    clear hq
    by_cases hx:2047≤lo+1+1075
    ·go_wp2_with fail
     go_ret
     refine ⟨ret_int ?_,rfl⟩
     show bits .or .u64 0 9218868437227405312=(R:Int)
     rw[HR2.out HQ.out,if_pos (by have:=HK.out;omega),inf_or 0 (.inl rfl) (by decide)]
    ·go_wp2_with fail
     go_ret
     refine ⟨ret_int ?_,rfl⟩
     show bits .or .u64 (bits .or .u64 0 ((lo+1+1075) * 4503599627370496)) (bits .and .u64 4503599627370496 4503599627370495)=(R:Int)
     have hk:=HK.out
     rw[HR2.out HQ.out,if_neg (by omega),mid_or 0 (k+2) 0 (.inl rfl) (by omega) (by decide) (by decide) (by omega) (by decide),Nat.add_zero]
   ·have f1:((Q:Int) / 9007199254740992 == 1)=false:=beq_eq_false_iff_ne.2 (by omega)
    have f2:((Q:Int) / 4503599627370496 == 0)=false:=beq_eq_false_iff_ne.2 (by omega)
    have HQ:=hid (And.intro hq hq')
    clear hq hq'
    by_cases hx:2047≤lo+1075
    ·go_wp2_with fail
     go_ret
     refine ⟨ret_int ?_,rfl⟩
     show bits .or .u64 0 9218868437227405312=(R:Int)
     rw[HR3.out HQ.out,if_pos (by have:=HK.out;omega),inf_or 0 (.inl rfl) (by decide)]
    ·go_wp2_with fail
     go_ret
     refine ⟨ret_int ?_,rfl⟩
     show bits .or .u64 (bits .or .u64 0 ((lo+1075) * 4503599627370496)) (bits .and .u64 (Q:Int) 4503599627370495)=(R:Int)
     have hk:=HK.out
     have hq:=HQ.out
     rw[HR3.out HQ.out,if_neg (by omega),mid_or 0 (k+1) (Q % 2^52) (.inl rfl) (by omega) (by omega) (by decide) (by omega) (mask64 Q 52 (by omega) (by decide) (by decide))]
theorem rr_b4p (m L Q R k:Nat) (e lo:Int) (w:World) (hm0:0<m) (hm:m<2^64) (hL:Hid (m.log2=L)) (hL1:L<64) (hlo:max (e+(L:Int) - 52) (-1074)=lo) (he : -1084≤e) (he2:e≤962) (hl1 : -1074≤lo) (hl2:lo≤973)
  (HK:Hid (lo=(k:Int) - 1074)) (hQ:Q<4503599627370496∨Q=9007199254740992∨(4503599627370496≤Q∧Q<9007199254740992))
  (HR1:Hid (Q<4503599627370496→R=0 * 2^63+Q)) (HR2:Hid (Q=9007199254740992→R=0 * 2^63+if 2047≤k+2 then 2047 * 2^52 else (k+2) * 2^52)) (HR3:Hid (4503599627370496≤Q∧Q<9007199254740992→R=0 * 2^63+if 2047≤k+1 then 2047 * 2^52 else (k+1) * 2^52+Q % 2^52)) {s s1 r0 h0:Nat} {M0:Int} (hsh:lo - e=(s:Int)) (hs:1≤s) (hs64:s≤63) (hs1:(s:Int) - 1=(s1:Int)) (e_q:(m:Int) / 2 ^ s=(Q:Int)) (e_m:IntKind.u64.wrap (IntKind.u64.wrap (2 ^ s) - 1)=M0) (e_r:bits .and .u64 (m:Int) M0=(r0:Int)) (e_h:IntKind.u64.wrap (2 ^ s1)=(h0:Int)) (d1:¬h0<r0) (d2:((r0:Int) == (h0:Int))=false) :
  Calls Try.prog 62 #[.bool false,.int .u64 m,.int .i64 e] w fun x w'=>x = .returned (.int .u64 (R:Nat))∧w=w':=by
 go_enter Try.func62,Try.ntmps62
 go_wp2
 go_loop [8] (fun k=>∃ j:Nat,k = .int .i64 (j:Int)∧j≤L) (fun k=>L - (intOf k).toNat)
 case atStart=>exact ⟨0,rfl,by omega⟩
 case round =>
  obtain ⟨j,rfl,hj⟩:=hrel
  rcases (by omega:j<L∨j=L) with hc|hc
  ·obtain ⟨q1,Q1⟩:∃ q1:Nat,(m:Int) / 2 ^ j=(q1:Int):=⟨m / 2^j,by simp⟩
   have hq1:1<q1:=top_more hm0 (by rw[hL.out];exact hc) Q1
   go_wp2
   exact ⟨⟨j+1,int_eq (by omega),by omega⟩,by simp[intOf];omega⟩
  ·subst hc
   obtain ⟨q1,Q1⟩:∃ q1:Nat,(m:Int) / 2 ^ j=(q1:Int):=⟨m / 2^j,by simp⟩
   have hq1:¬1<q1:=Nat.not_lt.2 (top_done hL.out.symm Q1)
   rcases hQ with hq|hq|⟨hq,hq'⟩
   ·have f1:((Q:Int) / 9007199254740992 == 1)=false:=beq_eq_false_iff_ne.2 (by omega)
    have f2:((Q:Int) / 4503599627370496 == 0)=true:=beq_iff_eq.2 (by omega)
    have HQ:=hid hq
    clear hq
    go_wp2_with fail
    go_ret
    refine ⟨ret_int ?_,rfl⟩
    show bits .or .u64 0 (Q:Int)=(R:Int)
    rw[HR1.out HQ.out,low_or 0 Q (.inl rfl) HQ.out (by decide)]
   ·have f1:((Q:Int) / 9007199254740992 == 1)=true:=beq_iff_eq.2 (by omega)
    have f2:((Q:Int) / 2)=4503599627370496:=by omega
    have HQ:=hid hq
    clear hq
    by_cases hx:2047≤lo+1+1075
    ·go_wp2_with fail
     go_ret
     refine ⟨ret_int ?_,rfl⟩
     show bits .or .u64 0 9218868437227405312=(R:Int)
     rw[HR2.out HQ.out,if_pos (by have:=HK.out;omega),inf_or 0 (.inl rfl) (by decide)]
    ·go_wp2_with fail
     go_ret
     refine ⟨ret_int ?_,rfl⟩
     show bits .or .u64 (bits .or .u64 0 ((lo+1+1075) * 4503599627370496)) (bits .and .u64 4503599627370496 4503599627370495)=(R:Int)
     have hk:=HK.out
     rw[HR2.out HQ.out,if_neg (by omega),mid_or 0 (k+2) 0 (.inl rfl) (by omega) (by decide) (by decide) (by omega) (by decide),Nat.add_zero]
   ·have f1:((Q:Int) / 9007199254740992 == 1)=false:=beq_eq_false_iff_ne.2 (by omega)
    have f2:((Q:Int) / 4503599627370496 == 0)=false:=beq_eq_false_iff_ne.2 (by omega)
    have HQ:=hid (And.intro hq hq')
    clear hq hq'
    by_cases hx:2047≤lo+1075
    ·go_wp2_with fail
     go_ret
     refine ⟨ret_int ?_,rfl⟩
     show bits .or .u64 0 9218868437227405312=(R:Int)
     rw[HR3.out HQ.out,if_pos (by have:=HK.out;omega),inf_or 0 (.inl rfl) (by decide)]
    ·go_wp2_with fail
     go_ret
     refine ⟨ret_int ?_,rfl⟩
     show bits .or .u64 (bits .or .u64 0 ((lo+1075) * 4503599627370496)) (bits .and .u64 (Q:Int) 4503599627370495)=(R:Int)
     have hk:=HK.out
     have hq:=HQ.out
     rw[HR3.out HQ.out,if_neg (by omega),mid_or 0 (k+1) (Q % 2^52) (.inl rfl) (by omega) (by omega) (by decide) (by omega) (mask64 Q 52 (by omega) (by decide) (by decide))]
theorem rr_ap (m L Q R k:Nat) (e lo:Int) (w:World) (hm0:0<m) (hm:m<2^64) (hL:Hid (m.log2=L)) (hL1:L<64) (hlo:max (e+(L:Int) - 52) (-1074)=lo) (he : -1084≤e) (he2:e≤962) (hl1 : -1074≤lo) (hl2:lo≤973)
  (HK:Hid (lo=(k:Int) - 1074)) (hQ:Q<4503599627370496∨Q=9007199254740992∨(4503599627370496≤Q∧Q<9007199254740992))
  (HR1:Hid (Q<4503599627370496→R=0 * 2^63+Q)) (HR2:Hid (Q=9007199254740992→R=0 * 2^63+if 2047≤k+2 then 2047 * 2^52 else (k+2) * 2^52)) (HR3:Hid (4503599627370496≤Q∧Q<9007199254740992→R=0 * 2^63+if 2047≤k+1 then 2047 * 2^52 else (k+1) * 2^52+Q % 2^52)) {t:Nat} (hsh:lo - e = -(t:Int)) (ht:t≤63) (e_Q:IntKind.u64.wrap ((m:Int) * 2 ^ t)=(Q:Int)) :
  Calls Try.prog 62 #[.bool false,.int .u64 m,.int .i64 e] w fun x w'=>x = .returned (.int .u64 (R:Nat))∧w=w':=by
 go_enter Try.func62,Try.ntmps62
 go_wp2
 go_loop [8] (fun k=>∃ j:Nat,k = .int .i64 (j:Int)∧j≤L) (fun k=>L - (intOf k).toNat)
 case atStart=>exact ⟨0,rfl,by omega⟩
 case round =>
  obtain ⟨j,rfl,hj⟩:=hrel
  rcases (by omega:j<L∨j=L) with hc|hc
  ·obtain ⟨q1,Q1⟩:∃ q1:Nat,(m:Int) / 2 ^ j=(q1:Int):=⟨m / 2^j,by simp⟩
   have hq1:1<q1:=top_more hm0 (by rw[hL.out];exact hc) Q1
   go_wp2
   exact ⟨⟨j+1,int_eq (by omega),by omega⟩,by simp[intOf];omega⟩
  ·subst hc
   obtain ⟨q1,Q1⟩:∃ q1:Nat,(m:Int) / 2 ^ j=(q1:Int):=⟨m / 2^j,by simp⟩
   have hq1:¬1<q1:=Nat.not_lt.2 (top_done hL.out.symm Q1)
   rcases hQ with hq|hq|⟨hq,hq'⟩
   ·have f1:((Q:Int) / 9007199254740992 == 1)=false:=beq_eq_false_iff_ne.2 (by omega)
    have f2:((Q:Int) / 4503599627370496 == 0)=true:=beq_iff_eq.2 (by omega)
    have HQ:=hid hq
    clear hq
    go_wp2_with fail
    go_ret
    refine ⟨ret_int ?_,rfl⟩
    show bits .or .u64 0 (Q:Int)=(R:Int)
    rw[HR1.out HQ.out,low_or 0 Q (.inl rfl) HQ.out (by decide)]
   ·have f1:((Q:Int) / 9007199254740992 == 1)=true:=beq_iff_eq.2 (by omega)
    have f2:((Q:Int) / 2)=4503599627370496:=by omega
    have HQ:=hid hq
    clear hq
    by_cases hx:2047≤lo+1+1075
    ·exfalso;omega
    ·go_wp2_with fail
     go_ret
     refine ⟨ret_int ?_,rfl⟩
     show bits .or .u64 (bits .or .u64 0 ((lo+1+1075) * 4503599627370496)) (bits .and .u64 4503599627370496 4503599627370495)=(R:Int)
     have hk:=HK.out
     rw[HR2.out HQ.out,if_neg (by omega),mid_or 0 (k+2) 0 (.inl rfl) (by omega) (by decide) (by decide) (by omega) (by decide),Nat.add_zero]
   ·have f1:((Q:Int) / 9007199254740992 == 1)=false:=beq_eq_false_iff_ne.2 (by omega)
    have f2:((Q:Int) / 4503599627370496 == 0)=false:=beq_eq_false_iff_ne.2 (by omega)
    have HQ:=hid (And.intro hq hq')
    clear hq hq'
    by_cases hx:2047≤lo+1075
    ·exfalso;omega
    ·go_wp2_with fail
     go_ret
     refine ⟨ret_int ?_,rfl⟩
     show bits .or .u64 (bits .or .u64 0 ((lo+1075) * 4503599627370496)) (bits .and .u64 (Q:Int) 4503599627370495)=(R:Int)
     have hk:=HK.out
     have hq:=HQ.out
     rw[HR3.out HQ.out,if_neg (by omega),mid_or 0 (k+1) (Q % 2^52) (.inl rfl) (by omega) (by omega) (by decide) (by omega) (mask64 Q 52 (by omega) (by decide) (by decide))]
theorem rr_b1n (m L Q R k:Nat) (e lo:Int) (w:World) (hm0:0<m) (hm:m<2^64) (hL:Hid (m.log2=L)) (hL1:L<64) (hlo:max (e+(L:Int) - 52) (-1074)=lo) (he : -1084≤e) (he2:e≤962) (hl1 : -1074≤lo) (hl2:lo≤973)
  (HK:Hid (lo=(k:Int) - 1074)) (hQ:Q<4503599627370496∨Q=9007199254740992∨(4503599627370496≤Q∧Q<9007199254740992))
  (HR1:Hid (Q<4503599627370496→R=1 * 2^63+Q)) (HR2:Hid (Q=9007199254740992→R=1 * 2^63+if 2047≤k+2 then 2047 * 2^52 else (k+2) * 2^52)) (HR3:Hid (4503599627370496≤Q∧Q<9007199254740992→R=1 * 2^63+if 2047≤k+1 then 2047 * 2^52 else (k+1) * 2^52+Q % 2^52)) {s s1 q0 r0 h0:Nat} {M0:Int} (hsh:lo - e=(s:Int)) (hs:1≤s) (hs64:s≤63) (hs1:(s:Int) - 1=(s1:Int)) (e_q:(m:Int) / 2 ^ s=(q0:Int)) (e_m:IntKind.u64.wrap (IntKind.u64.wrap (2 ^ s) - 1)=M0) (e_r:bits .and .u64 (m:Int) M0=(r0:Int)) (e_h:IntKind.u64.wrap (2 ^ s1)=(h0:Int)) (lq:q0<9007199254740992) (d1:h0<r0) (e_Q:(q0:Int)+1=(Q:Int)) :
  Calls Try.prog 62 #[.bool true,.int .u64 m,.int .i64 e] w fun x w'=>x = .returned (.int .u64 (R:Nat))∧w=w':=by
 go_enter Try.func62,Try.ntmps62
 go_wp2
 go_loop [8] (fun k=>∃ j:Nat,k = .int .i64 (j:Int)∧j≤L) (fun k=>L - (intOf k).toNat)
 case atStart=>exact ⟨0,rfl,by omega⟩
 case round =>
  obtain ⟨j,rfl,hj⟩:=hrel
  rcases (by omega:j<L∨j=L) with hc|hc
  ·obtain ⟨q1,Q1⟩:∃ q1:Nat,(m:Int) / 2 ^ j=(q1:Int):=⟨m / 2^j,by simp⟩
   have hq1:1<q1:=top_more hm0 (by rw[hL.out];exact hc) Q1
   go_wp2
   exact ⟨⟨j+1,int_eq (by omega),by omega⟩,by simp[intOf];omega⟩
  ·subst hc
   obtain ⟨q1,Q1⟩:∃ q1:Nat,(m:Int) / 2 ^ j=(q1:Int):=⟨m / 2^j,by simp⟩
   have hq1:¬1<q1:=Nat.not_lt.2 (top_done hL.out.symm Q1)
   rcases hQ with hq|hq|⟨hq,hq'⟩
   ·have f1:((Q:Int) / 9007199254740992 == 1)=false:=beq_eq_false_iff_ne.2 (by omega)
    have f2:((Q:Int) / 4503599627370496 == 0)=true:=beq_iff_eq.2 (by omega)
    have HQ:=hid hq
    clear hq
    go_wp2_with fail
    go_ret
    refine ⟨ret_int ?_,rfl⟩
    show bits .or .u64 9223372036854775808 (Q:Int)=(R:Int)
    rw[HR1.out HQ.out,low_or 1 Q (.inr rfl) HQ.out (by decide)]
   ·have f1:((Q:Int) / 9007199254740992 == 1)=true:=beq_iff_eq.2 (by omega)
    have f2:((Q:Int) / 2)=4503599627370496:=by omega
    have HQ:=hid hq
    clear hq
    by_cases hx:2047≤lo+1+1075
    ·go_wp2_with fail
     go_ret
     refine ⟨ret_int ?_,rfl⟩
     show bits .or .u64 9223372036854775808 9218868437227405312=(R:Int)
     rw[HR2.out HQ.out,if_pos (by have:=HK.out;omega),inf_or 1 (.inr rfl) (by decide)]
    ·go_wp2_with fail
     go_ret
     refine ⟨ret_int ?_,rfl⟩
     show bits .or .u64 (bits .or .u64 9223372036854775808 ((lo+1+1075) * 4503599627370496)) (bits .and .u64 4503599627370496 4503599627370495)=(R:Int)
     have hk:=HK.out
     rw[HR2.out HQ.out,if_neg (by omega),mid_or 1 (k+2) 0 (.inr rfl) (by omega) (by decide) (by decide) (by omega) (by decide),Nat.add_zero]
   ·have f1:((Q:Int) / 9007199254740992 == 1)=false:=beq_eq_false_iff_ne.2 (by omega)
    have f2:((Q:Int) / 4503599627370496 == 0)=false:=beq_eq_false_iff_ne.2 (by omega)
    have HQ:=hid (And.intro hq hq')
    clear hq hq'
    by_cases hx:2047≤lo+1075
    ·go_wp2_with fail
     go_ret
     refine ⟨ret_int ?_,rfl⟩
     show bits .or .u64 9223372036854775808 9218868437227405312=(R:Int)
     rw[HR3.out HQ.out,if_pos (by have:=HK.out;omega),inf_or 1 (.inr rfl) (by decide)]
    ·go_wp2_with fail
     go_ret
     refine ⟨ret_int ?_,rfl⟩
     show bits .or .u64 (bits .or .u64 9223372036854775808 ((lo+1075) * 4503599627370496)) (bits .and .u64 (Q:Int) 4503599627370495)=(R:Int)
     have hk:=HK.out
     have hq:=HQ.out
     rw[HR3.out HQ.out,if_neg (by omega),mid_or 1 (k+1) (Q % 2^52) (.inr rfl) (by omega) (by omega) (by decide) (by omega) (mask64 Q 52 (by omega) (by decide) (by decide))]
theorem rr_b2n (m L Q R k:Nat) (e lo:Int) (w:World) (hm0:0<m) (hm:m<2^64) (hL:Hid (m.log2=L)) (hL1:L<64) (hlo:max (e+(L:Int) - 52) (-1074)=lo) (he : -1084≤e) (he2:e≤962) (hl1 : -1074≤lo) (hl2:lo≤973)
  (HK:Hid (lo=(k:Int) - 1074)) (hQ:Q<4503599627370496∨Q=9007199254740992∨(4503599627370496≤Q∧Q<9007199254740992))
  (HR1:Hid (Q<4503599627370496→R=1 * 2^63+Q)) (HR2:Hid (Q=9007199254740992→R=1 * 2^63+if 2047≤k+2 then 2047 * 2^52 else (k+2) * 2^52)) (HR3:Hid (4503599627370496≤Q∧Q<9007199254740992→R=1 * 2^63+if 2047≤k+1 then 2047 * 2^52 else (k+1) * 2^52+Q % 2^52)) {s s1 q0 r0 h0:Nat} {M0:Int} (hsh:lo - e=(s:Int)) (hs:1≤s) (hs64:s≤63) (hs1:(s:Int) - 1=(s1:Int)) (e_q:(m:Int) / 2 ^ s=(q0:Int)) (e_m:IntKind.u64.wrap (IntKind.u64.wrap (2 ^ s) - 1)=M0) (e_r:bits .and .u64 (m:Int) M0=(r0:Int)) (e_h:IntKind.u64.wrap (2 ^ s1)=(h0:Int)) (lq:q0<9007199254740992) (d1:¬h0<r0) (d2:((r0:Int) == (h0:Int))=true) (d3:bits .and .u64 (q0:Int) 1=1) (e_Q:(q0:Int)+1=(Q:Int)) :
  Calls Try.prog 62 #[.bool true,.int .u64 m,.int .i64 e] w fun x w'=>x = .returned (.int .u64 (R:Nat))∧w=w':=by
 go_enter Try.func62,Try.ntmps62
 go_wp2
 go_loop [8] (fun k=>∃ j:Nat,k = .int .i64 (j:Int)∧j≤L) (fun k=>L - (intOf k).toNat)
 case atStart=>exact ⟨0,rfl,by omega⟩
 case round =>
  obtain ⟨j,rfl,hj⟩:=hrel
  rcases (by omega:j<L∨j=L) with hc|hc
  ·obtain ⟨q1,Q1⟩:∃ q1:Nat,(m:Int) / 2 ^ j=(q1:Int):=⟨m / 2^j,by simp⟩
   have hq1:1<q1:=top_more hm0 (by rw[hL.out];exact hc) Q1
   go_wp2
   exact ⟨⟨j+1,int_eq (by omega),by omega⟩,by simp[intOf];omega⟩
  ·subst hc
   obtain ⟨q1,Q1⟩:∃ q1:Nat,(m:Int) / 2 ^ j=(q1:Int):=⟨m / 2^j,by simp⟩
   have hq1:¬1<q1:=Nat.not_lt.2 (top_done hL.out.symm Q1)
   rcases hQ with hq|hq|⟨hq,hq'⟩
   ·have f1:((Q:Int) / 9007199254740992 == 1)=false:=beq_eq_false_iff_ne.2 (by omega)
    have f2:((Q:Int) / 4503599627370496 == 0)=true:=beq_iff_eq.2 (by omega)
    have HQ:=hid hq
    clear hq
    go_wp2_with fail
    go_ret
    refine ⟨ret_int ?_,rfl⟩
    show bits .or .u64 9223372036854775808 (Q:Int)=(R:Int)
    rw[HR1.out HQ.out,low_or 1 Q (.inr rfl) HQ.out (by decide)]
   ·have f1:((Q:Int) / 9007199254740992 == 1)=true:=beq_iff_eq.2 (by omega)
    have f2:((Q:Int) / 2)=4503599627370496:=by omega
    have HQ:=hid hq
    clear hq
    by_cases hx:2047≤lo+1+1075
    ·go_wp2_with fail
     go_ret
     refine ⟨ret_int ?_,rfl⟩
     show bits .or .u64 9223372036854775808 9218868437227405312=(R:Int)
     rw[HR2.out HQ.out,if_pos (by have:=HK.out;omega),inf_or 1 (.inr rfl) (by decide)]
    ·go_wp2_with fail
     go_ret
     refine ⟨ret_int ?_,rfl⟩
     show bits .or .u64 (bits .or .u64 9223372036854775808 ((lo+1+1075) * 4503599627370496)) (bits .and .u64 4503599627370496 4503599627370495)=(R:Int)
     have hk:=HK.out
     rw[HR2.out HQ.out,if_neg (by omega),mid_or 1 (k+2) 0 (.inr rfl) (by omega) (by decide) (by decide) (by omega) (by decide),Nat.add_zero]
   ·have f1:((Q:Int) / 9007199254740992 == 1)=false:=beq_eq_false_iff_ne.2 (by omega)
    have f2:((Q:Int) / 4503599627370496 == 0)=false:=beq_eq_false_iff_ne.2 (by omega)
    have HQ:=hid (And.intro hq hq')
    clear hq hq'
    by_cases hx:2047≤lo+1075
    ·go_wp2_with fail
     go_ret
     refine ⟨ret_int ?_,rfl⟩
     show bits .or .u64 9223372036854775808 9218868437227405312=(R:Int)
     rw[HR3.out HQ.out,if_pos (by have:=HK.out;omega),inf_or 1 (.inr rfl) (by decide)]
    ·go_wp2_with fail
     go_ret
     refine ⟨ret_int ?_,rfl⟩
     show bits .or .u64 (bits .or .u64 9223372036854775808 ((lo+1075) * 4503599627370496)) (bits .and .u64 (Q:Int) 4503599627370495)=(R:Int)
     have hk:=HK.out
     have hq:=HQ.out
     rw[HR3.out HQ.out,if_neg (by omega),mid_or 1 (k+1) (Q % 2^52) (.inr rfl) (by omega) (by omega) (by decide) (by omega) (mask64 Q 52 (by omega) (by decide) (by decide))]
theorem rr_b3n (m L Q R k:Nat) (e lo:Int) (w:World) (hm0:0<m) (hm:m<2^64) (hL:Hid (m.log2=L)) (hL1:L<64) (hlo:max (e+(L:Int) - 52) (-1074)=lo) (he : -1084≤e) (he2:e≤962) (hl1 : -1074≤lo) (hl2:lo≤973)
  (HK:Hid (lo=(k:Int) - 1074)) (hQ:Q<4503599627370496∨Q=9007199254740992∨(4503599627370496≤Q∧Q<9007199254740992))
  (HR1:Hid (Q<4503599627370496→R=1 * 2^63+Q)) (HR2:Hid (Q=9007199254740992→R=1 * 2^63+if 2047≤k+2 then 2047 * 2^52 else (k+2) * 2^52)) (HR3:Hid (4503599627370496≤Q∧Q<9007199254740992→R=1 * 2^63+if 2047≤k+1 then 2047 * 2^52 else (k+1) * 2^52+Q % 2^52)) {s s1 r0 h0:Nat} {M0:Int} (hsh:lo - e=(s:Int)) (hs:1≤s) (hs64:s≤63) (hs1:(s:Int) - 1=(s1:Int)) (e_q:(m:Int) / 2 ^ s=(Q:Int)) (e_m:IntKind.u64.wrap (IntKind.u64.wrap (2 ^ s) - 1)=M0) (e_r:bits .and .u64 (m:Int) M0=(r0:Int)) (e_h:IntKind.u64.wrap (2 ^ s1)=(h0:Int)) (d1:¬h0<r0) (d2:((r0:Int) == (h0:Int))=true) (d3:bits .and .u64 (Q:Int) 1=0) :
  Calls Try.prog 62 #[.bool true,.int .u64 m,.int .i64 e] w fun x w'=>x = .returned (.int .u64 (R:Nat))∧w=w':=by
 go_enter Try.func62,Try.ntmps62
 go_wp2
 go_loop [8] (fun k=>∃ j:Nat,k = .int .i64 (j:Int)∧j≤L) (fun k=>L - (intOf k).toNat)
 case atStart=>exact ⟨0,rfl,by omega⟩
 case round =>
  obtain ⟨j,rfl,hj⟩:=hrel
  rcases (by omega:j<L∨j=L) with hc|hc
  ·obtain ⟨q1,Q1⟩:∃ q1:Nat,(m:Int) / 2 ^ j=(q1:Int):=⟨m / 2^j,by simp⟩
   have hq1:1<q1:=top_more hm0 (by rw[hL.out];exact hc) Q1
   go_wp2
   exact ⟨⟨j+1,int_eq (by omega),by omega⟩,by simp[intOf];omega⟩
  ·subst hc
   obtain ⟨q1,Q1⟩:∃ q1:Nat,(m:Int) / 2 ^ j=(q1:Int):=⟨m / 2^j,by simp⟩
   have hq1:¬1<q1:=Nat.not_lt.2 (top_done hL.out.symm Q1)
   rcases hQ with hq|hq|⟨hq,hq'⟩
   ·have f1:((Q:Int) / 9007199254740992 == 1)=false:=beq_eq_false_iff_ne.2 (by omega)
    have f2:((Q:Int) / 4503599627370496 == 0)=true:=beq_iff_eq.2 (by omega)
    have HQ:=hid hq
    clear hq
    go_wp2_with fail
    go_ret
    refine ⟨ret_int ?_,rfl⟩
    show bits .or .u64 9223372036854775808 (Q:Int)=(R:Int)
    rw[HR1.out HQ.out,low_or 1 Q (.inr rfl) HQ.out (by decide)]
   ·have f1:((Q:Int) / 9007199254740992 == 1)=true:=beq_iff_eq.2 (by omega)
    have f2:((Q:Int) / 2)=4503599627370496:=by omega
    have HQ:=hid hq
    clear hq
    by_cases hx:2047≤lo+1+1075
    ·go_wp2_with fail
     go_ret
     refine ⟨ret_int ?_,rfl⟩
     show bits .or .u64 9223372036854775808 9218868437227405312=(R:Int)
     rw[HR2.out HQ.out,if_pos (by have:=HK.out;omega),inf_or 1 (.inr rfl) (by decide)]
    ·go_wp2_with fail
     go_ret
     refine ⟨ret_int ?_,rfl⟩
     show bits .or .u64 (bits .or .u64 9223372036854775808 ((lo+1+1075) * 4503599627370496)) (bits .and .u64 4503599627370496 4503599627370495)=(R:Int)
     have hk:=HK.out
     rw[HR2.out HQ.out,if_neg (by omega),mid_or 1 (k+2) 0 (.inr rfl) (by omega) (by decide) (by decide) (by omega) (by decide),Nat.add_zero]
   ·have f1:((Q:Int) / 9007199254740992 == 1)=false:=beq_eq_false_iff_ne.2 (by omega)
    have f2:((Q:Int) / 4503599627370496 == 0)=false:=beq_eq_false_iff_ne.2 (by omega)
    have HQ:=hid (And.intro hq hq')
    clear hq hq'
    by_cases hx:2047≤lo+1075
    ·go_wp2_with fail
     go_ret
     refine ⟨ret_int ?_,rfl⟩
     show bits .or .u64 9223372036854775808 9218868437227405312=(R:Int)
     rw[HR3.out HQ.out,if_pos (by have:=HK.out;omega),inf_or 1 (.inr rfl) (by decide)]
    ·go_wp2_with fail
     go_ret
     refine ⟨ret_int ?_,rfl⟩
     show bits .or .u64 (bits .or .u64 9223372036854775808 ((lo+1075) * 4503599627370496)) (bits .and .u64 (Q:Int) 4503599627370495)=(R:Int)
     have hk:=HK.out
     have hq:=HQ.out
     rw[HR3.out HQ.out,if_neg (by omega),mid_or 1 (k+1) (Q % 2^52) (.inr rfl) (by omega) (by omega) (by decide) (by omega) (mask64 Q 52 (by omega) (by decide) (by decide))]
theorem rr_b4n (m L Q R k:Nat) (e lo:Int) (w:World) (hm0:0<m) (hm:m<2^64) (hL:Hid (m.log2=L)) (hL1:L<64) (hlo:max (e+(L:Int) - 52) (-1074)=lo) (he : -1084≤e) (he2:e≤962) (hl1 : -1074≤lo) (hl2:lo≤973)
  (HK:Hid (lo=(k:Int) - 1074)) (hQ:Q<4503599627370496∨Q=9007199254740992∨(4503599627370496≤Q∧Q<9007199254740992))
  (HR1:Hid (Q<4503599627370496→R=1 * 2^63+Q)) (HR2:Hid (Q=9007199254740992→R=1 * 2^63+if 2047≤k+2 then 2047 * 2^52 else (k+2) * 2^52)) (HR3:Hid (4503599627370496≤Q∧Q<9007199254740992→R=1 * 2^63+if 2047≤k+1 then 2047 * 2^52 else (k+1) * 2^52+Q % 2^52)) {s s1 r0 h0:Nat} {M0:Int} (hsh:lo - e=(s:Int)) (hs:1≤s) (hs64:s≤63) (hs1:(s:Int) - 1=(s1:Int)) (e_q:(m:Int) / 2 ^ s=(Q:Int)) (e_m:IntKind.u64.wrap (IntKind.u64.wrap (2 ^ s) - 1)=M0) (e_r:bits .and .u64 (m:Int) M0=(r0:Int)) (e_h:IntKind.u64.wrap (2 ^ s1)=(h0:Int)) (d1:¬h0<r0) (d2:((r0:Int) == (h0:Int))=false) :
  Calls Try.prog 62 #[.bool true,.int .u64 m,.int .i64 e] w fun x w'=>x = .returned (.int .u64 (R:Nat))∧w=w':=by
 go_enter Try.func62,Try.ntmps62
 go_wp2
 go_loop [8] (fun k=>∃ j:Nat,k = .int .i64 (j:Int)∧j≤L) (fun k=>L - (intOf k).toNat)
 case atStart=>exact ⟨0,rfl,by omega⟩
 case round =>
  obtain ⟨j,rfl,hj⟩:=hrel
  rcases (by omega:j<L∨j=L) with hc|hc
  ·obtain ⟨q1,Q1⟩:∃ q1:Nat,(m:Int) / 2 ^ j=(q1:Int):=⟨m / 2^j,by simp⟩
   have hq1:1<q1:=top_more hm0 (by rw[hL.out];exact hc) Q1
   go_wp2
   exact ⟨⟨j+1,int_eq (by omega),by omega⟩,by simp[intOf];omega⟩
  ·subst hc
   obtain ⟨q1,Q1⟩:∃ q1:Nat,(m:Int) / 2 ^ j=(q1:Int):=⟨m / 2^j,by simp⟩
   have hq1:¬1<q1:=Nat.not_lt.2 (top_done hL.out.symm Q1)
   rcases hQ with hq|hq|⟨hq,hq'⟩
   ·have f1:((Q:Int) / 9007199254740992 == 1)=false:=beq_eq_false_iff_ne.2 (by omega)
    have f2:((Q:Int) / 4503599627370496 == 0)=true:=beq_iff_eq.2 (by omega)
    have HQ:=hid hq
    clear hq
    go_wp2_with fail
    go_ret
    refine ⟨ret_int ?_,rfl⟩
    show bits .or .u64 9223372036854775808 (Q:Int)=(R:Int)
    rw[HR1.out HQ.out,low_or 1 Q (.inr rfl) HQ.out (by decide)]
   ·have f1:((Q:Int) / 9007199254740992 == 1)=true:=beq_iff_eq.2 (by omega)
    have f2:((Q:Int) / 2)=4503599627370496:=by omega
    have HQ:=hid hq
    clear hq
    by_cases hx:2047≤lo+1+1075
    ·go_wp2_with fail
     go_ret
     refine ⟨ret_int ?_,rfl⟩
     show bits .or .u64 9223372036854775808 9218868437227405312=(R:Int)
     rw[HR2.out HQ.out,if_pos (by have:=HK.out;omega),inf_or 1 (.inr rfl) (by decide)]
    ·go_wp2_with fail
     go_ret
     refine ⟨ret_int ?_,rfl⟩
     show bits .or .u64 (bits .or .u64 9223372036854775808 ((lo+1+1075) * 4503599627370496)) (bits .and .u64 4503599627370496 4503599627370495)=(R:Int)
     have hk:=HK.out
     rw[HR2.out HQ.out,if_neg (by omega),mid_or 1 (k+2) 0 (.inr rfl) (by omega) (by decide) (by decide) (by omega) (by decide),Nat.add_zero]
   ·have f1:((Q:Int) / 9007199254740992 == 1)=false:=beq_eq_false_iff_ne.2 (by omega)
    have f2:((Q:Int) / 4503599627370496 == 0)=false:=beq_eq_false_iff_ne.2 (by omega)
    have HQ:=hid (And.intro hq hq')
    clear hq hq'
    by_cases hx:2047≤lo+1075
    ·go_wp2_with fail
     go_ret
     refine ⟨ret_int ?_,rfl⟩
     show bits .or .u64 9223372036854775808 9218868437227405312=(R:Int)
     rw[HR3.out HQ.out,if_pos (by have:=HK.out;omega),inf_or 1 (.inr rfl) (by decide)]
    ·go_wp2_with fail
     go_ret
     refine ⟨ret_int ?_,rfl⟩
     show bits .or .u64 (bits .or .u64 9223372036854775808 ((lo+1075) * 4503599627370496)) (bits .and .u64 (Q:Int) 4503599627370495)=(R:Int)
     have hk:=HK.out
     have hq:=HQ.out
     rw[HR3.out HQ.out,if_neg (by omega),mid_or 1 (k+1) (Q % 2^52) (.inr rfl) (by omega) (by omega) (by decide) (by omega) (mask64 Q 52 (by omega) (by decide) (by decide))]
theorem rr_an (m L Q R k:Nat) (e lo:Int) (w:World) (hm0:0<m) (hm:m<2^64) (hL:Hid (m.log2=L)) (hL1:L<64) (hlo:max (e+(L:Int) - 52) (-1074)=lo) (he : -1084≤e) (he2:e≤962) (hl1 : -1074≤lo) (hl2:lo≤973)
  (HK:Hid (lo=(k:Int) - 1074)) (hQ:Q<4503599627370496∨Q=9007199254740992∨(4503599627370496≤Q∧Q<9007199254740992))
  (HR1:Hid (Q<4503599627370496→R=1 * 2^63+Q)) (HR2:Hid (Q=9007199254740992→R=1 * 2^63+if 2047≤k+2 then 2047 * 2^52 else (k+2) * 2^52)) (HR3:Hid (4503599627370496≤Q∧Q<9007199254740992→R=1 * 2^63+if 2047≤k+1 then 2047 * 2^52 else (k+1) * 2^52+Q % 2^52)) {t:Nat} (hsh:lo - e = -(t:Int)) (ht:t≤63) (e_Q:IntKind.u64.wrap ((m:Int) * 2 ^ t)=(Q:Int)) :
  Calls Try.prog 62 #[.bool true,.int .u64 m,.int .i64 e] w fun x w'=>x = .returned (.int .u64 (R:Nat))∧w=w':=by
 go_enter Try.func62,Try.ntmps62
 go_wp2
 go_loop [8] (fun k=>∃ j:Nat,k = .int .i64 (j:Int)∧j≤L) (fun k=>L - (intOf k).toNat)
 case atStart=>exact ⟨0,rfl,by omega⟩
 case round =>
  obtain ⟨j,rfl,hj⟩:=hrel
  rcases (by omega:j<L∨j=L) with hc|hc
  ·obtain ⟨q1,Q1⟩:∃ q1:Nat,(m:Int) / 2 ^ j=(q1:Int):=⟨m / 2^j,by simp⟩
   have hq1:1<q1:=top_more hm0 (by rw[hL.out];exact hc) Q1
   go_wp2
   exact ⟨⟨j+1,int_eq (by omega),by omega⟩,by simp[intOf];omega⟩
  ·subst hc
   obtain ⟨q1,Q1⟩:∃ q1:Nat,(m:Int) / 2 ^ j=(q1:Int):=⟨m / 2^j,by simp⟩
   have hq1:¬1<q1:=Nat.not_lt.2 (top_done hL.out.symm Q1)
   rcases hQ with hq|hq|⟨hq,hq'⟩
   ·have f1:((Q:Int) / 9007199254740992 == 1)=false:=beq_eq_false_iff_ne.2 (by omega)
    have f2:((Q:Int) / 4503599627370496 == 0)=true:=beq_iff_eq.2 (by omega)
    have HQ:=hid hq
    clear hq
    go_wp2_with fail
    go_ret
    refine ⟨ret_int ?_,rfl⟩
    show bits .or .u64 9223372036854775808 (Q:Int)=(R:Int)
    rw[HR1.out HQ.out,low_or 1 Q (.inr rfl) HQ.out (by decide)]
   ·have f1:((Q:Int) / 9007199254740992 == 1)=true:=beq_iff_eq.2 (by omega)
    have f2:((Q:Int) / 2)=4503599627370496:=by omega
    have HQ:=hid hq
    clear hq
    by_cases hx:2047≤lo+1+1075
    ·exfalso;omega
    ·go_wp2_with fail
     go_ret
     refine ⟨ret_int ?_,rfl⟩
     show bits .or .u64 (bits .or .u64 9223372036854775808 ((lo+1+1075) * 4503599627370496)) (bits .and .u64 4503599627370496 4503599627370495)=(R:Int)
     have hk:=HK.out
     rw[HR2.out HQ.out,if_neg (by omega),mid_or 1 (k+2) 0 (.inr rfl) (by omega) (by decide) (by decide) (by omega) (by decide),Nat.add_zero]
   ·have f1:((Q:Int) / 9007199254740992 == 1)=false:=beq_eq_false_iff_ne.2 (by omega)
    have f2:((Q:Int) / 4503599627370496 == 0)=false:=beq_eq_false_iff_ne.2 (by omega)
    have HQ:=hid (And.intro hq hq')
    clear hq hq'
    by_cases hx:2047≤lo+1075
    ·exfalso;omega
    ·go_wp2_with fail
     go_ret
     refine ⟨ret_int ?_,rfl⟩
     show bits .or .u64 (bits .or .u64 9223372036854775808 ((lo+1075) * 4503599627370496)) (bits .and .u64 (Q:Int) 4503599627370495)=(R:Int)
     have hk:=HK.out
     have hq:=HQ.out
     rw[HR3.out HQ.out,if_neg (by omega),mid_or 1 (k+1) (Q % 2^52) (.inr rfl) (by omega) (by omega) (by decide) (by omega) (mask64 Q 52 (by omega) (by decide) (by decide))]
end Go.Proofs.Ytmlghmjjlpioeaa
