/-
  The functions of package varint and of its reference (but Get): what each call returns; the world grows at most.
-/
import Derived.Test.YtmlghmjjlpioeaaGreatDoorKit
set_option maxRecDepth 1000000
set_option maxHeartbeats 16000000
namespace Go.Proofs.YtmlghmjjlpioeaaGreatDoor
open Go.RowKit
open Lib (hid)
theorem Tryz.elU8:Elem Tryz.prog 176 5 (.int .u8 0) 1 1:=⟨Tryz.underlying176,by kernel_rfl,by decide⟩
theorem z1f (n:Nat)(w:World)(hn:J7 n n 9 []) :
  Calls Tryz.prog 85 #[.int .u64 n] w fun e w'=>e=.returned (.string ⟨(vput n).toArray⟩)/\Below w.heap.size w w':=by
 obtain⟨i0,hi,hz0,hz1,hz2⟩:=info_parts Tryz.elU8.2.1;go_enter Tryz.func85,Tryz.ntmps85;go_wp2_with (at_make;refine wpList_make_own _ rfl _ _ 176 rfl w.heap.size 5 i0 (.int .u8 0) 1 Tryz.underlying176 hi hz0 hz1 _ _ _ 10 rfl rfl (by omega) (by rw[hz2];omega) (by unfold maxLen;omega) (Nat.le_refl _) ?_;intro w0 hown0 hgrow0)
 go_loopw [0,3] (fun v b wr=>∃(m f:Nat) (acc:List UInt8),v=.int .u64 m/\wr.ownsRow w.heap.size 5 1 b acc.length (bys acc)/\J7 n m f acc/\Below w.heap.size w wr)
  (fun v _ _=>(intOf v).toNat)
 case atStart=>exact⟨n,9,[],rfl,hown0,hn,(Below.refl _ _).grown hgrow0 (Nat.le_refl _) (by simp)⟩
 case round =>
  obtain⟨m,f,acc,rfl,hown,HR,hb⟩:=hrel;have hbs:=hb.size
  by_cases hc:128<=m
  ·have R:=zfs HR hc
   have hl:acc.length<=9:=by have:=HR.1;omega
   go_wp2_with (at_builtin;refine kc rfl _ _ 176 rfl Tryz.elU8 (by decide) hown rfl rfl rfl (by simp[Value.oneCell']) (by unfold maxLen;omega) (by omega) hbs ?_;intro v' w1 hown' hgrow);obtain⟨g,rfl,R'⟩:=R;exact⟨⟨m/128,g,_,by simp,by simpa [z7x,byte_or] using hown',R',hb.grown hgrow hbs (fun k hk=>(hown.lt k hk).1)⟩,by simp[intOf];omega⟩
  ·have R:=put_end HR (by omega)
   have hl:=R.2;have HE:=hid R.1;clear R;have hc':m<128:=by omega
   go_wp2_with (at_builtin;refine kc rfl _ _ 176 rfl Tryz.elU8 (by decide) hown rfl rfl rfl (by simp[Value.oneCell']) (by unfold maxLen;omega) (by omega) hbs ?_;intro v' w1 hown' hgrow;rw[zes _ (UInt8.ofNat m) (by simp;omega)]at hown';have hcv:=z68 (P:=Tryz.prog) (src:=176) (dst:=9) Tryz.underlying176 Tryz.underlying5 Tryz.underlying9 hown');go_ret;exact⟨by simp[HE.out],hb.grown hgrow hbs (fun k hk=>(hown.lt k hk).1)⟩
theorem zb1 (n:Nat)(w:World)(hn:Hid (n<2^64)) :
  Calls Tryz.prog 71 #[.int .u64 n] w fun e w'=>e=.returned (.int .i64 (zag n))/\w=w':=by
 go_enter Tryz.func71,Tryz.ntmps71
 go_wp2
 all_goals go_ret
 all_goals refine⟨zl ?_,rfl⟩
 all_goals have h:=hn.out
 ·have h1:((n:Int)%2 == 1)=true:=by assumption
  have h1:=eq_of_beq h1;rw[zag,if_pos (by omega),IntKind.wrap_u64]
  simp only[wrap64]
  omega
 ·have h1:((n:Int)%2 == 1)=false:=by assumption
  have h1:¬(n:Int)%2=1:=by simpa using h1
  rw[zag,if_neg (by omega),IntKind.wrap_u64]
  simp only[wrap64]
  omega
theorem zbx (n:Int)(w:World)(h1:-2147483648<=n)(h2:n<=2147483647) :
  Calls Tryz.prog 48 #[.int .i32 n] w fun e w'=>e=.returned (.int .u64 (zig n))/\w=w':=by
 have H1:=hid h1;have H2:=hid h2;clear h1 h2;go_enter Tryz.func48,Tryz.ntmps48
 go_wp2
 go_ret;refine⟨zl ?_,rfl⟩;have h1:=H1.out;have h2:=H2.out;unfold zig
 by_cases hn:n<0
 ·rw[show n/2147483648%4294967296=4294967295 by omega,z64,if_pos hn,IntKind.wrap_u64]
  omega
 ·rw[show n/2147483648%4294967296=0 by omega,z62,if_neg hn,IntKind.wrap_u64]
  omega
theorem z5h (n:Nat)(w:World)(hn:Hid (n<2^64)) :
  Calls Tryz.prog 58 #[.int .u64 n] w fun e w'=>e=.returned (.int .i32 (zag (n%2^32)))/\w=w':=by
 go_enter Tryz.func58,Tryz.ntmps58
 go_wp2
 go_ret;refine⟨zl ?_,rfl⟩;have h:=hn.out;rw[show(n:Int)%4294967296=((n%2^32:Nat):Int)by omega,z87]
 generalize hm:n%2^32=m
 have hm':m<4294967296:=by omega
 unfold zag
 rcases(by omega:m%2=0∨m%2=1)with h0|h0
 ·rw[h0,if_neg (by omega),Qx (n:=((0:Nat):Int)) (by omega) (by omega),Qx (n := -((0:Nat):Int)) (by omega) (by omega),show -((0:Nat):Int)=0 from rfl,z7w,z1i (by omega) (by omega)]
  omega
 ·rw[h0,if_pos rfl,Qx (n:=((1:Nat):Int)) (by omega) (by omega),Qx (n := -((1:Nat):Int)) (by omega) (by omega),show -((1:Nat):Int) = -1 from rfl,z7t,z1i (by omega) (by omega)]
  omega
theorem z0h (n:Nat)(w:World)(hn:Hid (n<2^64)) :
  Calls Tryz.prog 26 #[.int .u64 n] w fun e w'=>e=.returned (.int .i32 (zag (n%2^32)))/\w=w':=by
 go_enter Tryz.func26,Tryz.ntmps26;go_wp2_with fail;rw[show(4294967295:Int)=((4294967295:Nat):Int)from rfl,u64_and_nat n 4294967295 (by have:=hn.out;omega) (by omega),show 4294967295=2^32-1 from rfl,Nat.and_two_pow_sub_one_eq_mod];refine(zb1 (n%2^32) w (hid (by omega))).mono ?_;rintro e w' ⟨rfl,rfl⟩
 go_wp2
 go_ret;refine⟨zl ?_,rfl⟩;have hm:n%2^32<4294967296:=by omega
 generalize n%2^32=m at hm ⊢
 unfold zag
 split<;>(simp only[wrap32];omega)
theorem qe (n:Int)(t:TypeId)(v:Value)(w:World) :
  Calls Tryz.prog 53 #[.int .i64 n,.iface t v] w fun e w'=>e=.returned (.iface 162 (.pointer (some ⟨w.heap.size,0,none⟩)))/\w'=w.alloc (.cells #[.int .i64 n,.iface t v] 166):=by
 go_enter Tryz.func53,Tryz.ntmps53
 go_wp2
 all_goals go_ret
 all_goals exact⟨rfl,rfl⟩
def Ji (r:Except Nat (Nat × Nat))(p:Int)(w:World)(e:Ending)(w':World):Prop :=
 match r with
 | .ok (n,q)=>e=.returned (.tuple #[.int .u64 n,.int .i64 q,.nilIface])/\w=w'
 | .error c=>e=.returned (.tuple #[.int .u64 0,.int .i64 0,.iface 162 (.pointer (some ⟨w.heap.size,0,none⟩))])/\w'=w.alloc (.cells #[.int .i64 p,.iface 103 (.int .i64 c)] 166)
theorem Zy {r:Except Nat (Nat × Nat)}{c:Nat}(h:r=.error c){p:Int}{w:World}{c':Int}(hc:c'=c) :
  Ji r p w (.returned (.tuple #[.int .u64 0,.int .i64 0,.iface 162 (.pointer (some ⟨w.heap.size,0,none⟩))])) (w.alloc (.cells #[.int .i64 p,.iface 103 (.int .i64 c')] 166)):=by
 subst h;subst hc;exact⟨rfl,rfl⟩
theorem z2q {r:Except Nat (Nat × Nat)}{n q:Nat}(h:r=.ok (n,q)){p:Int}{w:World}{n' q':Int}(hn:n'=n)(hq:q'=q) :
  Ji r p w (.returned (.tuple #[.int .u64 n',.int .i64 q',.nilIface])) w:=by
 subst h;subst hn;subst hq;exact⟨rfl,rfl⟩
theorem get_in (s:ByteArray)(p:Nat)(w:World)(hs:s.size<=maxLen)(hp:p<=s.size) :
  Calls Tryz.prog 140 #[.string s,.int .i64 p] w (Ji (vget s.data.toList p) p w):=by
 unfold maxLen at hs
 have hlen:s.data.toList.length=s.size:=by simp
 have HL:=hid hlen;have hpl:=hid (show p<=s.data.toList.length by omega);clear hlen;have hst:=z4m s.data.toList p (by have:=HL.out;omega);have hd1:decide (s.size<p)=false:=by simp;omega
 have hd2:decide ((p:Int)<0)=false:=by simp
 go_enter Tryz.func140,Tryz.ntmps140
 go_wp2
 go_loop [7,8] (fun n i=>∃(k m:Nat),n=.int .u64 m/\i=.int .i64 k/\Z2 s.data.toList p k m) (fun _ i=>12-(intOf i).toNat)
 case atStart=>exact⟨0,0,rfl,rfl,hst⟩
 case round =>
  obtain⟨k,m,rfl,rfl,HR⟩:=hrel;have hk:p+k<=s.size:=by have:=HR.2.2.2;have:=HL.out;omega
  have hk':k<=10:=HR.2.2.1
  by_cases h10:k<10
  ·by_cases hsh:(k:Int)=(s.size:Int)-(p:Int)
   ·have HE:=hid (z4j HR h10 (by have:=HL.out;omega) hpl.out)
    have hsh':((k:Int) == (s.size:Int)-(p:Int))=true:=by simp;omega
    clear hsh;go_wp2_with (go_at_call 53;refine(qe _ _ _ _).mono ?_;rintro e w' ⟨rfl,rfl⟩)
    go_ret3
    exact Zy HE.out rfl
   ·have hsh':((k:Int) == (s.size:Int)-(p:Int))=false:=by simp;omega
    have hlt:p+k<s.size:=by omega
    have HC:=hid (z9o s (p+k) hlt)
    rcases(by omega:k=9∨k<9)with h9|h9
    ·subst h9
     have hg:∀h1:(s[p+9]'hlt).toNat<=1,Hid (vget s.data.toList p=.ok (m+(s[p+9]'hlt).toNat*128^9,p+9+1)):=fun h1=>hid (Jp HR (by omega) hpl.out HC.out (fun _=>h1) (by omega))
     have hbig:∀h1:1<(s[p+9]'hlt).toNat,Hid (vget s.data.toList p=.error 4):=fun h1=>hid (z9p HR rfl hpl.out HC.out h1)
     have hm:=hid HR.2.1;go_wp2_with (go_at_call 53;refine(qe _ _ _ _).mono ?_;rintro e w' ⟨rfl,rfl⟩)
     ·go_ret3
      exact Zy (hbig (by omega)).out rfl
     ·go_ret3
      have h1:(s[p+9]'hlt).toNat<=1:=by omega
      exact z2q (hg h1).out (by rw[z8z m _ hm.out h1,Nat.mod_eq_of_lt (by omega)]) (by omega)
    ·have hg:∀h2:(s[p+k]'hlt).toNat<128,Hid (vget s.data.toList p=.ok (m+(s[p+k]'hlt).toNat*128^k,p+k+1)):=fun h2=>hid (Jp HR h10 hpl.out HC.out (by omega) h2)
     have hmo:∀h2:128<=(s[p+k]'hlt).toNat,Hid (Z2 s.data.toList p (k+1) (m+((s[p+k]'hlt).toNat-128)*128^k)):=fun h2=>hid (z7r HR h10 HC.out (by omega) h2).2
     have hm:=hid HR.2.1;go_wp2_with (go_at_call 53;refine(qe _ _ _ _).mono ?_;rintro e w' ⟨rfl,rfl⟩)
     ·go_ret3
      have h2:(s[p+k]'hlt).toNat<128:=by omega
      exact z2q (hg h2).out (by rw[z0k m k _ hm.out h10 (by omega),Nat.mod_eq_of_lt (by omega)]) (by omega)
     ·have h2:128<=(s[p+k]'hlt).toNat:=by omega
      have hb:=(s[p+k]'hlt).toNat_lt;have R:=(hmo h2).out;rw[show(s[p+k]'hlt).toNat-128=(s[p+k]'hlt).toNat%128 by omega]at R;exact⟨⟨k+1,_,by rw[z0k m k _ hm.out h10 (by omega)],by simp,R⟩,by simp[intOf];omega⟩
  ·obtain rfl:k=10:=by omega
   have HE:=hid (z8v HR hpl.out);go_wp2_with (go_at_call 53;refine(qe _ _ _ _).mono ?_;rintro e w' ⟨rfl,rfl⟩)
   go_ret3
   exact Zy HE.out rfl
theorem z8c (s:ByteArray)(p:Int)(w:World)(hp:p<0∨s.size<p) :
  Calls Tryz.prog 140 #[.string s,.int .i64 p] w (Ji (vget s.data.toList p) p w):=by
 have HE:=hid (z9z (l:=s.data.toList) (p:=p) (by simpa using hp))
 by_cases h0:p<0
 ·go_enter Tryz.func140,Tryz.ntmps140
  go_wp2_with (go_at_call 53;refine(qe _ _ _ _).mono ?_;rintro e w' ⟨rfl,rfl⟩)
  go_ret3
  exact Zy HE.out rfl
 ·obtain⟨q,rfl⟩:=Int.eq_ofNat_of_zero_le (by omega:0<=p)
  have h1:s.size<q:=by omega
  go_enter Tryz.func140,Tryz.ntmps140;go_wp2_with (go_at_call 53;refine(qe _ _ _ _).mono ?_;rintro e w' ⟨rfl,rfl⟩)
  go_ret3
  exact Zy HE.out rfl
theorem z9x (s:ByteArray)(p:Int)(w:World)(hs:s.size<=maxLen) :
  Calls Tryz.prog 140 #[.string s,.int .i64 p] w (Ji (vget s.data.toList p) p w):=by
 by_cases h:p<0∨s.size<p
 ·exact z8c s p w h
 ·obtain⟨q,rfl⟩:=Int.eq_ofNat_of_zero_le (by omega:0<=p)
  exact get_in s q w hs (by omega)
theorem Jn (s:ByteArray)(p:Int)(w:World)(hs:s.size<=maxLen){n q:Nat}(h:vget s.data.toList p=.ok (n,q)) :
  Calls Tryz.prog 140 #[.string s,.int .i64 p] w fun e w'=>e=.returned (.tuple #[.int .u64 n,.int .i64 q,.nilIface])/\w=w' :=
 (z9x s p w hs).mono fun e w' hp=>by rw[h]at hp;exact hp
theorem z1c (s:ByteArray)(p:Int)(w:World)(hs:s.size<=maxLen){c:Nat}(h:vget s.data.toList p=.error c) :
  Calls Tryz.prog 140 #[.string s,.int .i64 p] w fun e w'=>e=.returned (.tuple #[.int .u64 0,.int .i64 0,.iface 162 (.pointer (some ⟨w.heap.size,0,none⟩))])/\w'=w.alloc (.cells #[.int .i64 p,.iface 103 (.int .i64 c)] 166) :=
 (z9x s p w hs).mono fun e w' hp=>by rw[h]at hp;exact hp
end Go.Proofs.YtmlghmjjlpioeaaGreatDoor
