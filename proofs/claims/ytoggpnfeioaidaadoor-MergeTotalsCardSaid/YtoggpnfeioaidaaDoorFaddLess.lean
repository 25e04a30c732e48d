/-
  FaddF, FaddLess
-/
import Derived.Test.YtoggpnfeioaidaaDoorMxIs
import Derived.Lib.MinMax
set_option maxRecDepth 1000000
set_option maxHeartbeats 16000000
namespace Go.Proofs.YtoggpnfeioaidaaDoor
open Go.RowKit
theorem g_eight (M:Nat):Fm.g (Fm.stk M 1)=M / 8+(if 4<M % 8∨(M % 8=4∧M / 8 % 2=1) then 1 else 0):=by
 unfold Fm.g Fm.stk
 split<;>split<;>split<;>omega
theorem round_bits {S e M:Nat} (h:Fm.J S e M) (hs:2^55≤M∨e=1) :
  (4<M % 8→min ((e - 1) * 2^52+(M / 8+1)) Fm.inf=Fm.rnd S)∧(M % 8=4→M / 8 % 2=1→min ((e - 1) * 2^52+(M / 8+1)) Fm.inf=Fm.rnd S) ∧
  (M % 8=4→M / 8 % 2=0→min ((e - 1) * 2^52+M / 8) Fm.inf=Fm.rnd S)∧(M % 8<4→min ((e - 1) * 2^52+M / 8) Fm.inf=Fm.rnd S):=by
 have hd:=h.done hs
 rw[g_eight] at hd
 refine ⟨fun h1=>?_,fun h1 h2=>?_,fun h1 h2=>?_,fun h1=>?_⟩
 ·rw[if_pos (.inl h1)] at hd;exact hd
 ·rw[if_pos (.inr ⟨h1,h2⟩)] at hd;exact hd
 ·rw[if_neg (by omega)] at hd;exact hd
 ·rw[if_neg (by omega)] at hd;exact hd
theorem min_int {e q R:Nat} {m:Int} (he:1≤e) (h:min ((e - 1) * 2^52+q) Fm.inf=R) (hm:m=((q:Nat):Int):=by omega) :
  min (((e:Int) - 1) * 4503599627370496+m) 9218868437227405312=((R:Nat):Int):=by
 have hi:Fm.inf=2047 * 2^52:=rfl
 rw[hi] at h
 omega
theorem round_any' (S e M R:Nat) (w:World) (hR:Hid (Fm.rnd S=R)) (h:Hid (Fm.J0 S e M)) (he:e≤2046) (he1:1≤e) (hM:M<144115188075855872) :
  Calls Tryd.prog 66 #[.int .i64 e,.int .u64 M] w fun x w'=>x = .returned (.int .u64 (R:Int))∧w=w':=by
 rcases Nat.lt_or_ge M 72057594037927936 with hm|hm
 ·have h1:decide ((M:Int) ≥ 72057594037927936)=false:=by simp;omega
  have HJ:=Lib.hid (h.out.low hm)
  go_enter Tryd.func66,Tryd.ntmps66
  go_wp2
  go_loop [0,1] (fun v k=>∃ (e' M':Nat),v = .int .i64 (e':Int)∧k = .int .u64 (M':Int)∧Fm.J S e' M'∧e'≤2047) (fun v _=>(intOf v).toNat)
  case atStart=>exact ⟨e,M,rfl,rfl,HJ.out,by omega⟩
  case round =>
   obtain ⟨e',M',rfl,rfl,HR0,hle⟩:=hrel
   have hb:M' < 72057594037927936:=HR0.2.1
   have hp:=HR0.1
   have HR:=Lib.hid HR0
   clear HR0
   rcases (by omega:(M' < 2^55∧1<e')∨(2^55≤M'∨e'=1)) with ⟨hc,hc1⟩|hc
   ·have R:=Lib.hid (HR.out.step hc hc1)
    have hx:IntKind.u64.wrap ((M':Int) * 2)=((M' * 2:Nat):Int):=by rw[IntKind.wrap_u64];omega
    have hd1:decide ((M':Int)<36028797018963968)=true:=by simp;omega
    have hd2:decide ((e':Int)>1)=true:=by simp;omega
    clear hc
    go_wp2
    refine ⟨⟨e' - 1,M' * 2,int_eq (by omega),int_eq (by omega),R.out,by omega⟩,by simp[intOf];omega⟩
   ·have HB:=Lib.hid (round_bits HR.out hc)
    have HM:=mask64 M' 3 (by omega) (by decide) (M:=7) (by decide)
    have HO:=u64_and_one (M' / 8)
    have hq:((M' / 8:Nat):Int)=(M':Int) / 8:=by omega
    rw[hq] at HO
    clear hq
    have hd:(decide ((M':Int)<36028797018963968)=false∨(decide ((M':Int)<36028797018963968)=true∧decide ((e':Int)>1)=false)):=by
     rcases Nat.lt_or_ge M' (2^55) with h|h
     ·right;constructor
      ·simp;omega
      ·simp;omega
     ·left;simp;omega
    have hr:(M' % 8<4∨4<M' % 8∨(M' % 8=4∧M' / 8 % 2=1)∨(M' % 8=4∧M' / 8 % 2=0)):=by omega
    clear hc
    rcases hr with hr|hr|⟨hr,hr2⟩|⟨hr,hr2⟩
    ·have HF:=Lib.hid ((HB.out.2.2.2 hr).trans hR.out)
     have e2:decide (((M' % 2^3:Nat):Int)>4)=false:=by simp;omega
     have e3:(((M' % 2^3:Nat):Int) == 4)=false:=by simp;omega
     clear hr HO
     generalize ((M' % 2^3:Nat):Int)=r at HM e2 e3
     rcases hd with hd1|⟨hd1,hd2⟩ <;>
     ·go_wp2
      go_ret
      exact ⟨ret_int (min_int hp HF.out),rfl⟩
    ·have HF:=Lib.hid ((HB.out.1 hr).trans hR.out)
     have e2:decide (((M' % 2^3:Nat):Int)>4)=true:=by simp;omega
     clear hr HO
     generalize ((M' % 2^3:Nat):Int)=r at HM e2
     rcases hd with hd1|⟨hd1,hd2⟩ <;>
     ·go_wp2
      go_ret
      exact ⟨ret_int (min_int hp HF.out),rfl⟩
    ·have HF:=Lib.hid ((HB.out.2.1 hr hr2).trans hR.out)
     have e2:bits .and .u64 (M':Int) 7=4:=by rw[HM,show 2^3=8 from rfl,hr];rfl
     rw[hr2] at HO
     clear hr HM hr2
     rcases hd with hd1|⟨hd1,hd2⟩ <;>
     ·go_wp2
      go_ret
      exact ⟨ret_int (min_int hp HF.out),rfl⟩
    ·have HF:=Lib.hid ((HB.out.2.2.1 hr hr2).trans hR.out)
     have e2:bits .and .u64 (M':Int) 7=4:=by rw[HM,show 2^3=8 from rfl,hr];rfl
     rw[hr2] at HO
     clear hr HM hr2
     rcases hd with hd1|⟨hd1,hd2⟩ <;>
     ·go_wp2
      go_ret
      exact ⟨ret_int (min_int hp HF.out),rfl⟩
 ·have h1:decide ((M:Int) ≥ 72057594037927936)=true:=by simp;omega
  have HJ:=Lib.hid (h.out.high hm)
  go_enter Tryd.func66,Tryd.ntmps66
  go_wp2_with fail
  refine (shrink_any M 1 _ (by omega)).mono ?_;rintro x w' ⟨rfl,rfl⟩
  go_wp2
  go_loop [0,1] (fun v k=>∃ (e' M':Nat),v = .int .i64 (e':Int)∧k = .int .u64 (M':Int)∧Fm.J S e' M'∧e'≤2047) (fun v _=>(intOf v).toNat)
  case atStart=>exact ⟨e+1,Fm.stk M 1,rfl,rfl,HJ.out,by omega⟩
  case round =>
   obtain ⟨e',M',rfl,rfl,HR0,hle⟩:=hrel
   have hb:M' < 72057594037927936:=HR0.2.1
   have hp:=HR0.1
   have HR:=Lib.hid HR0
   clear HR0
   rcases (by omega:(M' < 2^55∧1<e')∨(2^55≤M'∨e'=1)) with ⟨hc,hc1⟩|hc
   ·have R:=Lib.hid (HR.out.step hc hc1)
    have hx:IntKind.u64.wrap ((M':Int) * 2)=((M' * 2:Nat):Int):=by rw[IntKind.wrap_u64];omega
    have hd1:decide ((M':Int)<36028797018963968)=true:=by simp;omega
    have hd2:decide ((e':Int)>1)=true:=by simp;omega
    clear hc
    go_wp2
    refine ⟨⟨e' - 1,M' * 2,int_eq (by omega),int_eq (by omega),R.out,by omega⟩,by simp[intOf];omega⟩
   ·have HB:=Lib.hid (round_bits HR.out hc)
    have HM:=mask64 M' 3 (by omega) (by decide) (M:=7) (by decide)
    have HO:=u64_and_one (M' / 8)
    have hq:((M' / 8:Nat):Int)=(M':Int) / 8:=by omega
    rw[hq] at HO
    clear hq
    have hd:(decide ((M':Int)<36028797018963968)=false∨(decide ((M':Int)<36028797018963968)=true∧decide ((e':Int)>1)=false)):=by
     rcases Nat.lt_or_ge M' (2^55) with h|h
     ·right;constructor
      ·simp;omega
      ·simp;omega
     ·left;simp;omega
    have hr:(M' % 8<4∨4<M' % 8∨(M' % 8=4∧M' / 8 % 2=1)∨(M' % 8=4∧M' / 8 % 2=0)):=by omega
    clear hc
    rcases hr with hr|hr|⟨hr,hr2⟩|⟨hr,hr2⟩
    ·have HF:=Lib.hid ((HB.out.2.2.2 hr).trans hR.out)
     have e2:decide (((M' % 2^3:Nat):Int)>4)=false:=by simp;omega
     have e3:(((M' % 2^3:Nat):Int) == 4)=false:=by simp;omega
     clear hr HO
     generalize ((M' % 2^3:Nat):Int)=r at HM e2 e3
     rcases hd with hd1|⟨hd1,hd2⟩ <;>
     ·go_wp2
      go_ret
      exact ⟨ret_int (min_int hp HF.out),rfl⟩
    ·have HF:=Lib.hid ((HB.out.1 hr).trans hR.out)
     have e2:decide (((M' % 2^3:Nat):Int)>4)=true:=by simp;omega
     clear hr HO
     generalize ((M' % 2^3:Nat):Int)=r at HM e2
     rcases hd with hd1|⟨hd1,hd2⟩ <;>
     ·go_wp2
      go_ret
      exact ⟨ret_int (min_int hp HF.out),rfl⟩
    ·have HF:=Lib.hid ((HB.out.2.1 hr hr2).trans hR.out)
     have e2:bits .and .u64 (M':Int) 7=4:=by rw[HM,show 2^3=8 from rfl,hr];rfl
     rw[hr2] at HO
     clear hr HM hr2
     rcases hd with hd1|⟨hd1,hd2⟩ <;>
     ·go_wp2
      go_ret
      exact ⟨ret_int (min_int hp HF.out),rfl⟩
    ·have HF:=Lib.hid ((HB.out.2.2.1 hr hr2).trans hR.out)
     have e2:bits .and .u64 (M':Int) 7=4:=by rw[HM,show 2^3=8 from rfl,hr];rfl
     rw[hr2] at HO
     clear hr HM hr2
     rcases hd with hd1|⟨hd1,hd2⟩ <;>
     ·go_wp2
      go_ret
      exact ⟨ret_int (min_int hp HF.out),rfl⟩
open Go.RowKit
theorem parts_at (a e m:Nat) (w:World) (ha:a<2^64) (hE:Hid (Fm.pe (Fm.sz a)=e)) (hM:Hid (Fm.pm (Fm.sz a) * 8=m)) :
  Calls Tryd.prog 64 #[.int .u64 a] w fun x w'=>x = .returned (.tuple #[.int .i64 (e:Nat),.int .u64 (m:Nat)])∧w=w':=by
 have h:=parts_any a w ha
 rw[hE.out,hM.out] at h
 exact h
theorem shrink_at (m d n:Nat) (w:World) (hm:m<2^64) (hN:Hid (Fm.stk m d=n)) {D:Int} (hD:D=(d:Int)) :
  Calls Tryd.prog 65 #[.int .u64 m,.int .i64 D] w fun e w'=>e = .returned (.int .u64 (n:Nat))∧w=w':=by
 have h:=shrink_any m d w hm
 rw[hN.out] at h
 rw[hD]
 exact h
theorem round_at (S e M R:Nat) (w:World) (h:Hid (Fm.J0 S e M)) (he:e≤2046) (hR:Hid (Fm.rnd S=R)) {M':Int} (hM:M'=(M:Int)) :
  Calls Tryd.prog 66 #[.int .i64 e,.int .u64 M'] w fun x w'=>x = .returned (.int .u64 (R:Nat))∧w=w':=by
 rw[hM]
 exact round_any' S e M R w hR h he h.out.1 h.out.2.1
theorem sg_and (a b:Nat):Fm.sg (a &&& b)=Fm.sg a &&& Fm.sg b:=by
 unfold Fm.sg
 rw[Nat.and_div_two_pow]
theorem and_sign (a b:Nat) (ha:a<2^64) (hb:b<2^64):bits .and .u64 (bits .and .u64 (a:Int) (b:Int)) 9223372036854775808=(((Fm.sg a &&& Fm.sg b) * 2^63:Nat):Int):=by
 rw[and64 a b ha hb,sign_of _ (Nat.and_lt_two_pow _ hb),sg_and]
theorem join_sign (s r:Nat) (hs:s=0∨s=1) (hr:r<2^63):bits .or .u64 ((s * 2^63:Nat):Int) (r:Int)=((s * 2^63+r:Nat):Int) :=
 join64 _ _ 63 (by omega) hr (by omega)
theorem fin_diff {a b:Nat} (hs:Fm.sg a≠Fm.sg b) (fa:Fm.sz a<Fm.inf) (h:Fm.sz b≤Fm.sz a) :
  Fm.fin a b=if Fm.dec (Fm.sz a) - Fm.dec (Fm.sz b)=0 then 0 else Fm.sg a * 2^63+Fm.rnd (Fm.dec (Fm.sz a) - Fm.dec (Fm.sz b)):=by
 have hd:=@Fm.dec_lt (Fm.sz b) (Fm.sz a) (by omega) (by omega)
 unfold Fm.fin
 rw[if_neg hs]
 split
 ·rename_i h1
  rw[if_pos (by rw[h1];omega)]
 ·rename_i h1
  rw[if_pos (by omega),if_neg (by omega)]
theorem low_le {x y:Nat} (hx:x<Fm.inf) (h:y≤x):Fm.stk (Fm.pm y * 8) (Fm.pe x - Fm.pe y)≤Fm.pm x * 8:=by
 have h1:=Fm.low_stk h 8
 have h2:Fm.stk (8 * Fm.dec x) (Fm.pe x - 1)=Fm.pm x * 8:=Fm.stk_exact (by rw[Fm.dec_parts,Nat.mul_comm (Fm.pm x) 8,Nat.mul_assoc])
 rw[←h1,←h2]
 exact Fm.stk_mono _ (Nat.mul_le_mul_left _ (Fm.dec_le (by omega) (by omega) h))
theorem finite_same (a b:Nat) (w:World) (ha:a<2^64) (hb:b<2^64) (fa:Hid (Fm.sz a<Fm.inf)) (h:Hid (Fm.sz b≤Fm.sz a)) (hs:Hid (Fm.sg a=Fm.sg b)) :
  Calls Tryd.prog 46 #[.int .u64 a,.int .u64 b] w fun e w'=>e = .returned (.int .u64 (Fm.fin a b:Nat))∧w=w':=by
 have HF:=Lib.hid (show Fm.fin a b=Fm.sg a * 2^63+Fm.rnd (Fm.dec (Fm.sz a)+Fm.dec (Fm.sz b)) by unfold Fm.fin;rw[if_pos hs.out])
 have HJ:=Lib.hid (Fm.J0_sum h.out)
 have hm1:=Fm.pm_lt (Fm.sz a)
 have hm2:=Fm.pm_lt (Fm.sz b)
 have hMM:=HJ.out.2.1
 have hee:=Fm.pe_mono h.out
 have he1:Fm.pe (Fm.sz a)≤2046:=by
  have h1:=fa.out
  have hi:Fm.inf=2047 * 2^52:=rfl
  unfold Fm.pe;split<;>omega
 obtain ⟨S,HS⟩:∃ S,Hid (Fm.dec (Fm.sz a)+Fm.dec (Fm.sz b)=S):=⟨_,Lib.hid rfl⟩
 obtain ⟨R,HR⟩:∃ R,Hid (Fm.rnd S=R):=⟨_,Lib.hid rfl⟩
 obtain ⟨e1,E1⟩:∃ e1,Hid (Fm.pe (Fm.sz a)=e1):=⟨_,Lib.hid rfl⟩
 obtain ⟨m1,M1⟩:∃ m1,Hid (Fm.pm (Fm.sz a) * 8=m1):=⟨_,Lib.hid rfl⟩
 obtain ⟨e2,E2⟩:∃ e2,Hid (Fm.pe (Fm.sz b)=e2):=⟨_,Lib.hid rfl⟩
 obtain ⟨m2,M2⟩:∃ m2,Hid (Fm.pm (Fm.sz b) * 8=m2):=⟨_,Lib.hid rfl⟩
 obtain ⟨n,N1⟩:∃ n,Hid (Fm.stk m2 (e1 - e2)=n):=⟨_,Lib.hid rfl⟩
 obtain ⟨F,FF⟩:∃ F,Hid (Fm.fin a b=F):=⟨_,Lib.hid rfl⟩
 have HJ:=HJ.out
 rw[M2.out,E1.out,E2.out,M1.out,N1.out] at HJ hMM
 rw[HS.out] at HJ
 rw[E1.out] at hee he1
 rw[E2.out] at hee
 have HJ:=Lib.hid HJ
 have HF:=HF.out
 have hR:R<2^63:=by rw[←HR.out];exact Nat.lt_of_le_of_lt (Fm.rnd_le S) Fm.inf_lt
 rw[HS.out,HR.out,FF.out] at HF
 rw[FF.out]
 have HZ:Hid (m1+n=0→R=0):=Lib.hid fun h0=>by
  have h1:=HJ.out.2.2.1
  have h2:=Fm.stk_spec (8 * S) (e1 - 1) 0
  have:S=0:=by omega
  rw[←HR.out,this];exact Fm.rnd_zero
 have hsg:=Lib.hid (Fm.sg_lt ha)
 have S1:=Lib.hid (sign_of a ha)
 have S2:=Lib.hid (sign_of b hb)
 have S3:=Lib.hid (and_sign a b ha hb)
 have S4:=Lib.hid (join_sign (Fm.sg a) R hsg.out hR)
 have hS:(bits .and .u64 (a:Int) 9223372036854775808 == bits .and .u64 (b:Int) 9223372036854775808)=true:=by rw[S1.out,S2.out,hs.out];simp
 have hm1':m1<72057594037927936:=by have:=M1.out;omega
 have hm2':m2<72057594037927936:=by have:=M2.out;omega
 have hMM':m1+n<144115188075855872:=hMM
 have HF:=Lib.hid HF
 clear hm1 hm2 hMM
 go_enter Tryd.func46,Tryd.ntmps46
 go_wp2_with fail
 refine (parts_at a e1 m1 _ ha E1 M1).mono ?_;rintro e w' ⟨rfl,rfl⟩
 go_wp2_with fail
 refine (parts_at b e2 m2 _ hb E2 M2).mono ?_;rintro e w' ⟨rfl,rfl⟩
 go_wp2_with fail
 refine (shrink_at m2 (e1 - e2) n _ (by omega) N1 (by omega)).mono ?_;rintro e w' ⟨rfl,rfl⟩
 go_wp2_with fail
 ·rename_i hz
  go_ret
  refine ⟨ret_int ?_,rfl⟩
  have h0:m1+n=0:=by simp at hz;omega
  rw[S3.out,HF.out,HZ.out h0,←hs.out,Nat.and_self,Nat.add_zero]
 ·refine (round_at S e1 (m1+n) R _ HJ he1 HR (by omega)).mono ?_;rintro e w' ⟨rfl,rfl⟩
  go_wp2_with fail
  go_ret
  refine ⟨ret_int ?_,rfl⟩
  rw[S1.out,S4.out,HF.out]
theorem finite_diff (a b:Nat) (w:World) (ha:a<2^64) (hb:b<2^64) (fa:Hid (Fm.sz a<Fm.inf)) (h:Hid (Fm.sz b≤Fm.sz a)) (hs:Hid (Fm.sg a≠Fm.sg b)) :
  Calls Tryd.prog 46 #[.int .u64 a,.int .u64 b] w fun e w'=>e = .returned (.int .u64 (Fm.fin a b:Nat))∧w=w':=by
 have HF:=Lib.hid (show Fm.fin a b=if Fm.dec (Fm.sz a) - Fm.dec (Fm.sz b)=0 then 0 else Fm.sg a * 2^63+Fm.rnd (Fm.dec (Fm.sz a) - Fm.dec (Fm.sz b)) from fin_diff hs.out fa.out h.out)
 have HJ:=Lib.hid (Fm.J0_diff (Nat.le_of_lt fa.out) h.out)
 have hm1:=Fm.pm_lt (Fm.sz a)
 have hm2:=Fm.pm_lt (Fm.sz b)
 have hMM:=HJ.out.2.1
 have hee:=Fm.pe_mono h.out
 have he1:Fm.pe (Fm.sz a)≤2046:=by
  have h1:=fa.out
  have hi:Fm.inf=2047 * 2^52:=rfl
  unfold Fm.pe;split<;>omega
 have hnm:=low_le fa.out h.out
 obtain ⟨S,HS⟩:∃ S,Hid (Fm.dec (Fm.sz a) - Fm.dec (Fm.sz b)=S):=⟨_,Lib.hid rfl⟩
 obtain ⟨R,HR⟩:∃ R,Hid (Fm.rnd S=R):=⟨_,Lib.hid rfl⟩
 obtain ⟨e1,E1⟩:∃ e1,Hid (Fm.pe (Fm.sz a)=e1):=⟨_,Lib.hid rfl⟩
 obtain ⟨m1,M1⟩:∃ m1,Hid (Fm.pm (Fm.sz a) * 8=m1):=⟨_,Lib.hid rfl⟩
 obtain ⟨e2,E2⟩:∃ e2,Hid (Fm.pe (Fm.sz b)=e2):=⟨_,Lib.hid rfl⟩
 obtain ⟨m2,M2⟩:∃ m2,Hid (Fm.pm (Fm.sz b) * 8=m2):=⟨_,Lib.hid rfl⟩
 obtain ⟨n,N1⟩:∃ n,Hid (Fm.stk m2 (e1 - e2)=n):=⟨_,Lib.hid rfl⟩
 obtain ⟨F,FF⟩:∃ F,Hid (Fm.fin a b=F):=⟨_,Lib.hid rfl⟩
 have HJ:=HJ.out
 rw[M2.out,E1.out,E2.out,M1.out,N1.out] at HJ hMM
 rw[M2.out,E1.out,E2.out,M1.out,N1.out] at hnm
 rw[HS.out] at HJ
 rw[E1.out] at hee he1
 rw[E2.out] at hee
 have HJ:=Lib.hid HJ
 have HF:=HF.out
 have hR:R<2^63:=by rw[←HR.out];exact Nat.lt_of_le_of_lt (Fm.rnd_le S) Fm.inf_lt
 rw[HS.out,HR.out,FF.out] at HF
 rw[FF.out]
 have HZ:Hid (m1 - n=0↔S=0):=Lib.hid (by
  have h1:=HJ.out.2.2.1
  have h2:=Fm.stk_spec (8 * S) (e1 - 1) 0
  omega)
 have hsg:=Lib.hid (Fm.sg_lt ha)
 have S1:=Lib.hid (sign_of a ha)
 have S2:=Lib.hid (sign_of b hb)
 have S3:=Lib.hid (and_sign a b ha hb)
 have S4:=Lib.hid (join_sign (Fm.sg a) R hsg.out hR)
 have hS:(bits .and .u64 (a:Int) 9223372036854775808 == bits .and .u64 (b:Int) 9223372036854775808)=false:=by rw[S1.out,S2.out];have h1:=hs.out;simp;omega
 have hm1':m1<72057594037927936:=by have:=M1.out;omega
 have hm2':m2<72057594037927936:=by have:=M2.out;omega
 have hMM':m1 - n<144115188075855872:=hMM
 have HF:=Lib.hid HF
 clear hm1 hm2 hMM
 go_enter Tryd.func46,Tryd.ntmps46
 go_wp2_with fail
 refine (parts_at a e1 m1 _ ha E1 M1).mono ?_;rintro e w' ⟨rfl,rfl⟩
 go_wp2_with fail
 refine (parts_at b e2 m2 _ hb E2 M2).mono ?_;rintro e w' ⟨rfl,rfl⟩
 go_wp2_with fail
 refine (shrink_at m2 (e1 - e2) n _ (by omega) N1 (by omega)).mono ?_;rintro e w' ⟨rfl,rfl⟩
 go_wp2_with fail
 ·rename_i hz
  go_ret
  refine ⟨ret_int ?_,rfl⟩
  have h0:m1 - n=0:=by simp at hz;omega
  rw[S3.out,HF.out,if_pos (HZ.out.1 h0)]
  have h1:=hs.out
  have h2:=hsg.out
  have h3:=Fm.sg_lt hb
  have h4:Fm.sg a &&& Fm.sg b=0:=by
   rcases h2 with h2|h2
   ·rw[h2,Nat.zero_and]
   ·rw[h2,show Fm.sg b=0 by omega];rfl
  rw[h4]
 ·have hz:(((m1:Int) - (n:Int)) == 0)=false:=by assumption
  have HN:Hid (¬S=0):=Lib.hid fun h0=>by have h1:=HZ.out.2 h0;simp at hz;omega
  refine (round_at S e1 (m1 - n) R _ HJ he1 HR (by omega)).mono ?_;rintro e w' ⟨rfl,rfl⟩
  go_wp2_with fail
  go_ret
  refine ⟨ret_int ?_,rfl⟩
  rw[S1.out,S4.out,HF.out,if_neg HN.out]
open Go.RowKit
theorem class_is (a:Nat) (w:World) (ha:a<2^64) {c:Int} (hC:Hid (c=(Fm.cls a:Nat))) :
  Calls Tryd.prog 44 #[.int .u64 a] w fun e w'=>e = .returned (.int .i64 c)∧w=w':=by
 rw[hC.out]
 exact class_any a w ha
theorem quiet_is (a q:Nat) (w:World) (ha:a<2^64) (hQ:Hid (Fm.quiet a=q)) :
  Calls Tryd.prog 45 #[.int .u64 a] w fun e w'=>e = .returned (.int .u64 q)∧w=w':=by
 rw[←hQ.out]
 exact quiet_any a w ha
theorem finite_is (a b R:Nat) (w:World) (ha:a<2^64) (hb:b<2^64) (fa:Hid (Fm.sz a<Fm.inf)) (h:Hid (Fm.sz b≤Fm.sz a)) (hR:Hid (Fm.fin a b=R)) :
  Calls Tryd.prog 46 #[.int .u64 a,.int .u64 b] w fun e w'=>e = .returned (.int .u64 R)∧w=w':=by
 rw[←hR.out]
 rcases Nat.lt_trichotomy (Fm.sg a) (Fm.sg b) with hs|hs|hs
 ·exact finite_diff a b w ha hb fa h (Lib.hid (Nat.ne_of_lt hs))
 ·exact finite_same a b w ha hb fa h (Lib.hid hs)
 ·exact finite_diff a b w ha hb fa h (Lib.hid (Nat.ne_of_gt hs))
theorem add_nan1 (a b R:Nat) (w:World) (ha:a<2^64) (hb:b<2^64) {c1 c2:Int} (C1:Hid (c1=(Fm.cls a:Nat))) (C2:Hid (c2=(Fm.cls b:Nat))) (e1:(c1 == 4)=true) (HA:Hid (Fm.quiet a=R)) :
  Calls Tryd.prog 23 #[.int .u64 a,.int .u64 b] w fun e w'=>e = .returned (.int .u64 R)∧w=w':=by
 go_enter Tryd.func23,Tryd.ntmps23
 go_wp2_with fail
 refine (class_is a _ ha C1).mono ?_;rintro e w' ⟨rfl,rfl⟩
 go_wp2_with fail
 refine (class_is b _ hb C2).mono ?_;rintro e w' ⟨rfl,rfl⟩
 go_wp2_with fail
 refine (quiet_is a R _ ha HA).mono ?_;rintro e w' ⟨rfl,rfl⟩
 go_wp2_with fail
 go_ret
 exact ⟨rfl,rfl⟩
theorem add_nan2 (a b R:Nat) (w:World) (ha:a<2^64) (hb:b<2^64) {c1 c2:Int} (C1:Hid (c1=(Fm.cls a:Nat))) (C2:Hid (c2=(Fm.cls b:Nat))) (e1:(c1 == 4)=false) (e2:(c2 == 4)=true) (HA:Hid (Fm.quiet b=R)) :
  Calls Tryd.prog 23 #[.int .u64 a,.int .u64 b] w fun e w'=>e = .returned (.int .u64 R)∧w=w':=by
 go_enter Tryd.func23,Tryd.ntmps23
 go_wp2_with fail
 refine (class_is a _ ha C1).mono ?_;rintro e w' ⟨rfl,rfl⟩
 go_wp2_with fail
 refine (class_is b _ hb C2).mono ?_;rintro e w' ⟨rfl,rfl⟩
 go_wp2_with fail
 refine (quiet_is b R _ hb HA).mono ?_;rintro e w' ⟨rfl,rfl⟩
 go_wp2_with fail
 go_ret
 exact ⟨rfl,rfl⟩
theorem add_infs (a b R:Nat) (w:World) (ha:a<2^64) (hb:b<2^64) {c1 c2:Int} (C1:Hid (c1=(Fm.cls a:Nat))) (C2:Hid (c2=(Fm.cls b:Nat))) (e1:(c1 == 4)=false) (e2:(c2 == 4)=false) (e3:(c1 == 3)=true) (e4:(c2 == 3)=true) (e5:((a:Int) != (b:Int))=true) (HA:Hid ((9221120237041090560:Int)=(R:Int))) :
  Calls Tryd.prog 23 #[.int .u64 a,.int .u64 b] w fun e w'=>e = .returned (.int .u64 R)∧w=w':=by
 go_enter Tryd.func23,Tryd.ntmps23
 go_wp2_with fail
 refine (class_is a _ ha C1).mono ?_;rintro e w' ⟨rfl,rfl⟩
 go_wp2_with fail
 refine (class_is b _ hb C2).mono ?_;rintro e w' ⟨rfl,rfl⟩
 go_wp2_with fail
 go_ret
 exact ⟨ret_int HA.out,rfl⟩
theorem add_inf1 (a b R:Nat) (w:World) (ha:a<2^64) (hb:b<2^64) {c1 c2:Int} (C1:Hid (c1=(Fm.cls a:Nat))) (C2:Hid (c2=(Fm.cls b:Nat))) (e1:(c1 == 4)=false) (e2:(c2 == 4)=false) (e3:(c1 == 3)=true) (e4:(c2 == 3)=false) (HA:Hid ((a:Int)=(R:Int))) :
  Calls Tryd.prog 23 #[.int .u64 a,.int .u64 b] w fun e w'=>e = .returned (.int .u64 R)∧w=w':=by
 go_enter Tryd.func23,Tryd.ntmps23
 go_wp2_with fail
 refine (class_is a _ ha C1).mono ?_;rintro e w' ⟨rfl,rfl⟩
 go_wp2_with fail
 refine (class_is b _ hb C2).mono ?_;rintro e w' ⟨rfl,rfl⟩
 go_wp2_with fail
 go_ret
 exact ⟨ret_int HA.out,rfl⟩
theorem add_inf11 (a b R:Nat) (w:World) (ha:a<2^64) (hb:b<2^64) {c1 c2:Int} (C1:Hid (c1=(Fm.cls a:Nat))) (C2:Hid (c2=(Fm.cls b:Nat))) (e1:(c1 == 4)=false) (e2:(c2 == 4)=false) (e3:(c1 == 3)=true) (e4:(c2 == 3)=true) (e5:((a:Int) != (b:Int))=false) (HA:Hid ((a:Int)=(R:Int))) :
  Calls Tryd.prog 23 #[.int .u64 a,.int .u64 b] w fun e w'=>e = .returned (.int .u64 R)∧w=w':=by
 go_enter Tryd.func23,Tryd.ntmps23
 go_wp2_with fail
 refine (class_is a _ ha C1).mono ?_;rintro e w' ⟨rfl,rfl⟩
 go_wp2_with fail
 refine (class_is b _ hb C2).mono ?_;rintro e w' ⟨rfl,rfl⟩
 go_wp2_with fail
 go_ret
 exact ⟨ret_int HA.out,rfl⟩
theorem add_inf2 (a b R:Nat) (w:World) (ha:a<2^64) (hb:b<2^64) {c1 c2:Int} (C1:Hid (c1=(Fm.cls a:Nat))) (C2:Hid (c2=(Fm.cls b:Nat))) (e1:(c1 == 4)=false) (e2:(c2 == 4)=false) (e3:(c1 == 3)=false) (e4:(c2 == 3)=true) (HA:Hid ((b:Int)=(R:Int))) :
  Calls Tryd.prog 23 #[.int .u64 a,.int .u64 b] w fun e w'=>e = .returned (.int .u64 R)∧w=w':=by
 go_enter Tryd.func23,Tryd.ntmps23
 go_wp2_with fail
 refine (class_is a _ ha C1).mono ?_;rintro e w' ⟨rfl,rfl⟩
 go_wp2_with fail
 refine (class_is b _ hb C2).mono ?_;rintro e w' ⟨rfl,rfl⟩
 go_wp2_with fail
 go_ret
 exact ⟨ret_int HA.out,rfl⟩
theorem add_low (a b R:Nat) (w:World) (ha:a<2^64) (hb:b<2^64) {c1 c2:Int} (C1:Hid (c1=(Fm.cls a:Nat))) (C2:Hid (c2=(Fm.cls b:Nat))) (e1:(c1 == 4)=false) (e2:(c2 == 4)=false) (e3:(c1 == 3)=false) (e4:(c2 == 3)=false) (fb:Hid (Fm.sz b<Fm.inf)) (hl:Hid (Fm.sz a≤Fm.sz b)) (hd:decide (bits .andNot .u64 (a:Int) 9223372036854775808<bits .andNot .u64 (b:Int) 9223372036854775808)=true) (HA:Hid (Fm.fin b a=R)) :
  Calls Tryd.prog 23 #[.int .u64 a,.int .u64 b] w fun e w'=>e = .returned (.int .u64 R)∧w=w':=by
 go_enter Tryd.func23,Tryd.ntmps23
 go_wp2_with fail
 refine (class_is a _ ha C1).mono ?_;rintro e w' ⟨rfl,rfl⟩
 go_wp2_with fail
 refine (class_is b _ hb C2).mono ?_;rintro e w' ⟨rfl,rfl⟩
 go_wp2_with fail
 refine (finite_is b a R _ hb ha fb hl HA).mono ?_;rintro e w' ⟨rfl,rfl⟩
 go_wp2_with fail
 go_ret
 exact ⟨rfl,rfl⟩
theorem add_high (a b R:Nat) (w:World) (ha:a<2^64) (hb:b<2^64) {c1 c2:Int} (C1:Hid (c1=(Fm.cls a:Nat))) (C2:Hid (c2=(Fm.cls b:Nat))) (e1:(c1 == 4)=false) (e2:(c2 == 4)=false) (e3:(c1 == 3)=false) (e4:(c2 == 3)=false) (fa:Hid (Fm.sz a<Fm.inf)) (hl:Hid (Fm.sz b≤Fm.sz a)) (hd:decide (bits .andNot .u64 (a:Int) 9223372036854775808<bits .andNot .u64 (b:Int) 9223372036854775808)=false) (HA:Hid (Fm.fin a b=R)) :
  Calls Tryd.prog 23 #[.int .u64 a,.int .u64 b] w fun e w'=>e = .returned (.int .u64 R)∧w=w':=by
 go_enter Tryd.func23,Tryd.ntmps23
 go_wp2_with fail
 refine (class_is a _ ha C1).mono ?_;rintro e w' ⟨rfl,rfl⟩
 go_wp2_with fail
 refine (class_is b _ hb C2).mono ?_;rintro e w' ⟨rfl,rfl⟩
 go_wp2_with fail
 refine (finite_is a b R _ ha hb fa hl HA).mono ?_;rintro e w' ⟨rfl,rfl⟩
 go_wp2_with fail
 go_ret
 exact ⟨rfl,rfl⟩
theorem add_at (a b R:Nat) (w:World) (ha:a<2^64) (hb:b<2^64) (hR:Hid (Fm.add a b=R)) :
  Calls Tryd.prog 23 #[.int .u64 a,.int .u64 b] w fun e w'=>e = .returned (.int .u64 R)∧w=w':=by
 have h1:=Fm.cls_cases a
 have h2:=Fm.cls_cases b
 have HA:=hR.out
 unfold Fm.add at HA
 have C1:Hid (((Fm.cls a:Nat):Int)=(Fm.cls a:Nat)):=Lib.hid rfl
 have C2:Hid (((Fm.cls b:Nat):Int)=(Fm.cls b:Nat)):=Lib.hid rfl
 have yes:∀ {x k:Nat},x=k→(((x:Nat):Int) == ((k:Nat):Int))=true:=fun h=>by rw[h];simp
 have no:∀ {x k:Nat},x≠k→(((x:Nat):Int) == ((k:Nat):Int))=false:=fun h=>by simp;omega
 by_cases n1:Fm.cls a=4
 ·rw[if_pos n1] at HA
  exact add_nan1 a b R w ha hb C1 C2 (yes n1) (Lib.hid HA)
 rw[if_neg n1] at HA
 by_cases n2:Fm.cls b=4
 ·rw[if_pos n2] at HA
  exact add_nan2 a b R w ha hb C1 C2 (no n1) (yes n2) (Lib.hid HA)
 rw[if_neg n2] at HA
 by_cases n3:Fm.cls a=3
 ·by_cases n4:Fm.cls b=3
  ·by_cases n5:a=b
   ·rw[if_neg (fun h=>h.2.2 n5),if_pos n3] at HA
    exact add_inf11 a b R w ha hb C1 C2 (no n1) (no n2) (yes n3) (yes n4) (by subst n5;simp) (Lib.hid (by rw[HA]))
   ·rw[if_pos ⟨n3,n4,n5⟩] at HA
    exact add_infs a b R w ha hb C1 C2 (no n1) (no n2) (yes n3) (yes n4) (by simp;omega) (Lib.hid (by rw[←HA];rfl))
  ·rw[if_neg (fun h=>n4 h.2.1),if_pos n3] at HA
   exact add_inf1 a b R w ha hb C1 C2 (no n1) (no n2) (yes n3) (no n4) (Lib.hid (by rw[HA]))
 by_cases n4:Fm.cls b=3
 ·rw[if_neg (fun h=>n3 h.1),if_neg n3,if_pos n4] at HA
  exact add_inf2 a b R w ha hb C1 C2 (no n1) (no n2) (no n3) (yes n4) (Lib.hid (by rw[HA]))
 rw[if_neg (fun h=>n3 h.1),if_neg n3,if_neg n4] at HA
 have fa:=Lib.hid (Fm.cls_fin.1 (show Fm.cls a≤2 by omega))
 have fb:=Lib.hid (Fm.cls_fin.1 (show Fm.cls b≤2 by omega))
 have S1:=not_sign a ha
 have S2:=not_sign b hb
 rcases Nat.lt_or_ge (Fm.sz a) (Fm.sz b) with hl|hl
 ·rw[Fm.fin_comm] at HA
  exact add_low a b R w ha hb C1 C2 (no n1) (no n2) (no n3) (no n4) fb (Lib.hid (Nat.le_of_lt hl)) (by rw[S1,S2];exact decide_eq_true (Int.ofNat_lt.2 hl)) (Lib.hid HA)
 ·exact add_high a b R w ha hb C1 C2 (no n1) (no n2) (no n3) (no n4) fa (Lib.hid hl) (by rw[S1,S2];exact decide_eq_false (fun h=>absurd (Int.ofNat_lt.1 h) (Nat.not_lt.2 hl))) (Lib.hid HA)
open Go.RowKit
theorem cls_zero_iff {a:Nat}:Fm.cls a=0↔Fm.sz a=0:=by
 have hi:Fm.inf=2047*2^52:=rfl
 unfold Fm.cls
 repeat' split
 all_goals omega
theorem number_zero (a:Nat) (w:World) (ha:a<2^64) {c:Int} (C:Hid (c=(Fm.cls a:Nat))) (h4:(c == 4)=false) (h0:(c == 0)=true) :
  Calls Tryd.prog 67 #[.int .u64 a] w fun x w'=>x = .returned (.tuple #[.int .i64 0,.bool true])∧w=w':=by
 go_enter Tryd.func67,Tryd.ntmps67
 go_wp2_with fail
 refine (class_is a _ ha C).mono ?_;rintro e w' ⟨rfl,rfl⟩
 go_wp2_with fail
 go_ret2
 exact ⟨rfl,rfl⟩
theorem number_plus (a s:Nat) (w:World) (ha:a<2^64) {c:Int} (C:Hid (c=(Fm.cls a:Nat))) (h4:(c == 4)=false) (h0:(c == 0)=false)
  (e1:bits .andNot .u64 (a:Int) 9223372036854775808=(s:Int)) (hs:s<9223372036854775808) (e2:(bits .and .u64 (a:Int) 9223372036854775808 != 0)=false) :
  Calls Tryd.prog 67 #[.int .u64 a] w fun x w'=>x = .returned (.tuple #[.int .i64 s,.bool true])∧w=w':=by
 go_enter Tryd.func67,Tryd.ntmps67
 go_wp2_with fail
 refine (class_is a _ ha C).mono ?_;rintro e w' ⟨rfl,rfl⟩
 go_wp2_with fail
 go_ret2
 refine ⟨tuple_eq (int_eq ?_) rfl,rfl⟩
 first|rfl|(rw[wrap64_id (by omega) (by omega)])
theorem number_minus (a s:Nat) (w:World) (ha:a<2^64) {c:Int} (C:Hid (c=(Fm.cls a:Nat))) (h4:(c == 4)=false) (h0:(c == 0)=false)
  (e1:bits .andNot .u64 (a:Int) 9223372036854775808=(s:Int)) (hs:s<9223372036854775808) (e2:(bits .and .u64 (a:Int) 9223372036854775808 != 0)=true) :
  Calls Tryd.prog 67 #[.int .u64 a] w fun x w'=>x = .returned (.tuple #[.int .i64 (-(s:Int)),.bool true])∧w=w':=by
 go_enter Tryd.func67,Tryd.ntmps67
 go_wp2_with fail
 refine (class_is a _ ha C).mono ?_;rintro e w' ⟨rfl,rfl⟩
 go_wp2_with fail
 go_ret2
 refine ⟨tuple_eq (int_eq ?_) rfl,rfl⟩
 first|rfl|(rw[wrap64_id (by omega) (by omega)])
theorem number_at (a:Nat) (v:Int) (w:World) (ha:a<2^64) (hc:Hid (Fm.cls a≠4)) (hv:Hid (Fm.num a=v)) :
  Calls Tryd.prog 67 #[.int .u64 a] w fun x w'=>x = .returned (.tuple #[.int .i64 v,.bool true])∧w=w':=by
 have yes:∀ {x k:Nat},x=k→(((x:Nat):Int) == ((k:Nat):Int))=true:=fun h=>by rw[h];simp
 have no:∀ {x k:Nat},x≠k→(((x:Nat):Int) == ((k:Nat):Int))=false:=fun h=>by simp;omega
 have C:Hid (((Fm.cls a:Nat):Int)=(Fm.cls a:Nat)):=Lib.hid rfl
 have h4:=no hc.out
 rw[←hv.out]
 by_cases h0:Fm.cls a=0
 ·have hz:=cls_zero_iff.1 h0
  have hn:Fm.num a=0:=by unfold Fm.num;rw[hz];split<;>rfl
  rw[hn]
  exact number_zero a w ha C h4 (yes h0)
 ·have S:=sign_of a ha
  rcases Fm.sg_lt ha with hs|hs
  ·rw[Fm.num_of (by omega)]
   exact number_plus a _ w ha C h4 (no h0) (not_sign a ha) (Fm.sz_lt a) (by rw[S,hs];rfl)
  ·rw[Fm.num_of1 hs]
   exact number_minus a _ w ha C h4 (no h0) (not_sign a ha) (Fm.sz_lt a) (by rw[S,hs];rfl)
end Go.Proofs.YtoggpnfeioaidaaDoor
