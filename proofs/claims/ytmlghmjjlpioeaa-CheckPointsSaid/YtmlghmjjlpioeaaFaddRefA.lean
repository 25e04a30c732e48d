/-
  FaddRef, FaddRefA
-/
import Derived.Test.YtmlghmjjlpioeaaFaddRR
set_option maxRecDepth 1000000
set_option maxHeartbeats 16000000
namespace Go.Proofs.Ytmlghmjjlpioeaa
open Go.RowKit
open Lib (hid)
theorem pow_lt64 {s:Nat}(h:s≤63):IntKind.u64.wrap (2 ^ s)=((2^s:Nat):Int):=by
 have h1:2^s<2^64:=Nat.pow_lt_pow_right (by decide) (by omega)
 have e:((2:Int) ^ s)=((2^s:Nat):Int):=by simp
 rw[e,IntKind.wrap_u64]
 generalize 2^s=P at *
 omega
theorem rround_at (neg:Bool)(m j S R:Nat)(e:Int)(w:World)(hK:Fm.K S j m)(hS:0<S)(hj:j≤2045)(he:e=(j:Int) - 1084)(hR:Hid ((if neg then 1 else 0) * 2^63+Fm.rnd S=R)) :
  Calls Try.prog 62 #[.bool neg,.int .u64 m,.int .i64 e] w fun x w'=>x = .returned (.int .u64 (R:Nat))∧w=w':=by
 obtain ⟨hm0,hk⟩:=hK.place hS
 have hm:=hK.1
 have hL1:m.log2<64:=(Nat.log2_lt (by omega)).2 hm
 have hq:=Fm.rne_rk S
 have q1:=@Fm.ref_small S
 have q2:=@Fm.ref_great S
 have q3:=@Fm.ref_mid S
 have rr:=@Fm.K.right S j m hK hS
 have ll:=@Fm.K.left S j m hK hS
 obtain ⟨k,hkk⟩:∃ k,Fm.rk S=k:=⟨_,rfl⟩
 rw[hkk] at hk hq q1 q2 q3 rr ll
 obtain ⟨Q,hQ⟩:∃ Q,Fm.rne S k=Q:=⟨_,rfl⟩
 rw[hQ] at hq q1 q2 q3
 obtain ⟨lo,hlo⟩:∃ lo:Int,lo=(k:Int) - 1074:=⟨_,rfl⟩
 have hmax:max (e+(m.log2:Int) - 52) (-1074)=lo:=by omega
 have hQ3:Q<4503599627370496∨Q=9007199254740992∨(4503599627370496≤Q∧Q<9007199254740992):=by omega
 have HL:Hid (m.log2=m.log2):=hid rfl
 have HK:=hid hlo
 have hRR:=hR.out
 by_cases hs:j<k+10
 ·obtain ⟨s,hse⟩:∃ s,s=k+10 - j:=⟨_,rfl⟩
  have hg:=g_rest m s (by omega)
  rw[rr (s:=s) (by omega) (by omega),hQ] at hg
  have hqm:m / 2^s≤m:=Nat.div_le_self _ _
  have e_q:(m:Int) / 2 ^ s=((m / 2^s:Nat):Int):=by simp
  have e_m:=wrap_mask s (by omega)
  have e_r:=mask64 m s hm (by omega) rfl
  have e_h:=pow_lt64 (s:=s - 1) (by omega)
  have o1:=u64_and_one (m / 2^s)
  generalize m / 2^s=q0 at *
  generalize m % 2^s=r0 at *
  generalize 2^(s-1)=h0 at *
  by_cases d1:h0<r0
  ·rw[if_pos (.inl d1)] at hg
   cases neg
   ·exact rr_b1p m _ Q R k e lo w hm0 hm HL hL1 hmax (by omega) (by omega) (by omega) (by omega) HK hQ3 (hid fun h=>by rw[←hRR,q1 h];rfl) (hid fun h=>by rw[←hRR,q2 h];rfl) (hid fun h=>by rw[←hRR,q3 h.2 h.1];rfl) (s:=s) (s1:=s - 1) (by omega) (by omega) (by omega) (by omega) e_q e_m e_r e_h (by omega) d1 (by omega)
   ·exact rr_b1n m _ Q R k e lo w hm0 hm HL hL1 hmax (by omega) (by omega) (by omega) (by omega) HK hQ3 (hid fun h=>by rw[←hRR,q1 h];rfl) (hid fun h=>by rw[←hRR,q2 h];rfl) (hid fun h=>by rw[←hRR,q3 h.2 h.1];rfl) (s:=s) (s1:=s - 1) (by omega) (by omega) (by omega) (by omega) e_q e_m e_r e_h (by omega) d1 (by omega)
  ·by_cases d2:r0=h0
   ·have d2':((r0:Int) == (h0:Int))=true:=beq_iff_eq.2 (by omega)
    by_cases d3:q0 % 2=1
    ·rw[if_pos (.inr ⟨d2,d3⟩)] at hg
     rw[d3] at o1
     cases neg
     ·exact rr_b2p m _ Q R k e lo w hm0 hm HL hL1 hmax (by omega) (by omega) (by omega) (by omega) HK hQ3 (hid fun h=>by rw[←hRR,q1 h];rfl) (hid fun h=>by rw[←hRR,q2 h];rfl) (hid fun h=>by rw[←hRR,q3 h.2 h.1];rfl) (s:=s) (s1:=s - 1) (by omega) (by omega) (by omega) (by omega) e_q e_m e_r e_h (by omega) d1 d2' o1 (by omega)
     ·exact rr_b2n m _ Q R k e lo w hm0 hm HL hL1 hmax (by omega) (by omega) (by omega) (by omega) HK hQ3 (hid fun h=>by rw[←hRR,q1 h];rfl) (hid fun h=>by rw[←hRR,q2 h];rfl) (hid fun h=>by rw[←hRR,q3 h.2 h.1];rfl) (s:=s) (s1:=s - 1) (by omega) (by omega) (by omega) (by omega) e_q e_m e_r e_h (by omega) d1 d2' o1 (by omega)
    ·rw[if_neg (by omega),Nat.add_zero] at hg
     have d4:q0 % 2=0:=by omega
     rw[d4,←hg] at o1
     rw[←hg] at e_q
     cases neg
     ·exact rr_b3p m _ Q R k e lo w hm0 hm HL hL1 hmax (by omega) (by omega) (by omega) (by omega) HK hQ3 (hid fun h=>by rw[←hRR,q1 h];rfl) (hid fun h=>by rw[←hRR,q2 h];rfl) (hid fun h=>by rw[←hRR,q3 h.2 h.1];rfl) (s:=s) (s1:=s - 1) (by omega) (by omega) (by omega) (by omega) e_q e_m e_r e_h d1 d2' o1
     ·exact rr_b3n m _ Q R k e lo w hm0 hm HL hL1 hmax (by omega) (by omega) (by omega) (by omega) HK hQ3 (hid fun h=>by rw[←hRR,q1 h];rfl) (hid fun h=>by rw[←hRR,q2 h];rfl) (hid fun h=>by rw[←hRR,q3 h.2 h.1];rfl) (s:=s) (s1:=s - 1) (by omega) (by omega) (by omega) (by omega) e_q e_m e_r e_h d1 d2' o1
   ·have d2':((r0:Int) == (h0:Int))=false:=beq_eq_false_iff_ne.2 (by omega)
    rw[if_neg (by omega),Nat.add_zero] at hg
    rw[←hg] at e_q
    cases neg
    ·exact rr_b4p m _ Q R k e lo w hm0 hm HL hL1 hmax (by omega) (by omega) (by omega) (by omega) HK hQ3 (hid fun h=>by rw[←hRR,q1 h];rfl) (hid fun h=>by rw[←hRR,q2 h];rfl) (hid fun h=>by rw[←hRR,q3 h.2 h.1];rfl) (s:=s) (s1:=s - 1) (by omega) (by omega) (by omega) (by omega) e_q e_m e_r e_h d1 d2'
    ·exact rr_b4n m _ Q R k e lo w hm0 hm HL hL1 hmax (by omega) (by omega) (by omega) (by omega) HK hQ3 (hid fun h=>by rw[←hRR,q1 h];rfl) (hid fun h=>by rw[←hRR,q2 h];rfl) (hid fun h=>by rw[←hRR,q3 h.2 h.1];rfl) (s:=s) (s1:=s - 1) (by omega) (by omega) (by omega) (by omega) e_q e_m e_r e_h d1 d2'
 ·obtain ⟨t,hte⟩:∃ t,t=j - (k+10):=⟨_,rfl⟩
  have hg:=ll (s:=t) (by omega)
  rw[hQ] at hg
  have e_Q:IntKind.u64.wrap ((m:Int) * 2 ^ t)=(Q:Int):=by
   have e:((m:Int) * 2 ^ t)=((m * 2^t:Nat):Int):=by simp
   rw[e,hg,IntKind.wrap_u64]
   omega
  cases neg
  ·exact rr_ap m _ Q R k e lo w hm0 hm HL hL1 hmax (by omega) (by omega) (by omega) (by omega) HK hQ3 (hid fun h=>by rw[←hRR,q1 h];rfl) (hid fun h=>by rw[←hRR,q2 h];rfl) (hid fun h=>by rw[←hRR,q3 h.2 h.1];rfl) (t:=t) (by omega) (by omega) e_Q
  ·exact rr_an m _ Q R k e lo w hm0 hm HL hL1 hmax (by omega) (by omega) (by omega) (by omega) HK hQ3 (hid fun h=>by rw[←hRR,q1 h];rfl) (hid fun h=>by rw[←hRR,q2 h];rfl) (hid fun h=>by rw[←hRR,q3 h.2 h.1];rfl) (t:=t) (by omega) (by omega) e_Q
open Go.RowKit
theorem expo' (a:Nat)(ha:a<2^64):bits .and .u64 ((a:Int) / 4503599627370496) 2047=((Fm.sz a / 2^52:Nat):Int):=by
 have e:((a:Int) / 4503599627370496)=((a / 2^52:Nat):Int):=by omega
 rw[e,mask64 (a / 2^52) 11 (by omega) (by decide) (by decide)]
 congr 1
 unfold Fm.sz
 omega
theorem frac (a:Nat)(ha:a<2^64):bits .and .u64 (a:Int) 4503599627370495=((Fm.sz a % 2^52:Nat):Int):=by
 rw[mask64 a 52 ha (by decide) (M:=4503599627370495) (by decide)]
 congr 1
 unfold Fm.sz
 omega
theorem cls_split (a:Nat):Fm.cls a=if Fm.sz a / 2^52=2047∧0<Fm.sz a % 2^52 then 4 else if Fm.sz a / 2^52=2047 then 3 else if 0<Fm.sz a / 2^52 then 2 else if 0<Fm.sz a % 2^52 then 1 else 0:=by
 have hi:Fm.inf=2047*2^52:=rfl
 have:=Fm.sz_lt a
 unfold Fm.cls
 repeat' split
 all_goals omega
theorem rclass_is (a:Nat)(w:World)(ha:a<2^64){c:Int}(hC:Hid (c=(Fm.cls a:Nat))) :
  Calls Try.prog 44 #[.int .u64 a] w fun e w'=>e = .returned (.int .i64 c)∧w=w':=by
 have h1:=expo' a ha
 have h2:=frac a ha
 have HC:=hid (cls_split a)
 rw[hC.out]
 generalize Fm.cls a=x at HC ⊢
 generalize Fm.sz a / 2^52=E at h1 HC
 generalize Fm.sz a % 2^52=F at h2 HC
 go_enter Try.func44,Try.ntmps44
 go_wp2
 all_goals go_ret
 all_goals (refine ⟨ret_int ?_,rfl⟩;rw[HC.out];repeat' split)
 all_goals first|rfl|(simp at *;omega)
theorem rsize_at (a A:Nat)(w:World)(ha:a<2^64)(hA:Hid (Fm.sz a=A)) :
  Calls Try.prog 60 #[.int .u64 a] w fun e w'=>e = .returned (.int .u64 A)∧w=w':=by
 have h1:bits .and .u64 (a:Int) 9223372036854775807=(A:Int):=by rw[←hA.out];exact mask64 a 63 ha (by decide) (M:=9223372036854775807) (by decide)
 go_enter Try.func60,Try.ntmps60
 go_wp2
 go_ret
 exact ⟨rfl,rfl⟩
theorem rneg_at (a:Nat)(b:Bool)(w:World)(_ha:a<2^64)(hb:Hid (decide (Fm.sg a=1)=b)) :
  Calls Try.prog 61 #[.int .u64 a] w fun e w'=>e = .returned (.bool b)∧w=w':=by
 have h1:((a:Int) / 9223372036854775808 == 1)=b:=by
  rw[←hb.out,Bool.eq_iff_iff]
  unfold Fm.sg
  simp
  omega
 go_enter Try.func61,Try.ntmps61
 go_wp2
 all_goals go_ret
 all_goals exact ⟨by first|rfl|simp_all,rfl⟩
end Go.Proofs.Ytmlghmjjlpioeaa
