/-
  hygref2.GetVarint, with every answer that it can give.
-/
import Derived.Test.YtficgfemmijaaaaGreatDoorUpd
import Derived.Test.YtficgfemmijaaaaGreatDoorMsgMath
import Derived.Test.YtficgfemmijaaaaGreatDoorWireMath
import Derived.Test.YtficgfemmijaaaaGreatDoorWireR5
import Derived.Test.YtficgfemmijaaaaGreatDoorJoinLaid
set_option maxRecDepth 1000000
set_option maxHeartbeats 16000000
namespace Go.Proofs.YtficgfemmijaaaaGreatDoor
open Go.RowKit
open Lib (hid)
def RefPost (r:Except Nat (Nat × Nat))(w:World)(e:Ending)(w':World):Prop :=
 w=w'∧e = .returned (match r with
 | .ok (n,q) => .tuple #[.int .u64 n,.int .i64 q,.int .i64 0]
 | .error c => .tuple #[.int .u64 0,.int .i64 0,.int .i64 c])
theorem refPost_err {r:Except Nat (Nat × Nat)}{c:Nat}(h:r = .error c){w:World}{c':Int}(hc:c'=c) :
  RefPost r w (.returned (.tuple #[.int .u64 0,.int .i64 0,.int .i64 c'])) w:=by
 subst h;subst hc;exact ⟨rfl,rfl⟩
theorem refPost_ok {r:Except Nat (Nat × Nat)}{n q:Nat}(h:r = .ok (n,q)){w:World}{n' q':Int}(hn:n'=n)(hq:q'=q) :
  RefPost r w (.returned (.tuple #[.int .u64 n',.int .i64 q',.int .i64 0])) w:=by
 subst h;subst hn;subst hq;exact ⟨rfl,rfl⟩
theorem refget_in (s:ByteArray)(p:Nat)(w:World)(hs:s.size≤4611686018427387904)(hp:p≤s.size) :
  Calls Tryz.prog 143 #[.string s,.int .i64 p] w (RefPost (vget s.data.toList p) w):=by
 have hlen:s.data.toList.length=s.size:=by simp
 have HL:=hid hlen;have hpl:=hid (show p≤s.data.toList.length by omega);clear hlen;have hst:=get_start s.data.toList p (by have:=HL.out;omega);have hd1:decide (s.size<p)=false:=by simp;omega
 have hd2:decide ((p:Int)<0)=false:=by simp
 go_enter Tryz.func143,Tryz.ntmps143
 go_wp2
 go_loop [7,8] (fun n i=>∃ (k m:Nat),n = .int .u64 m∧i = .int .i64 k∧GetRel s.data.toList p k m) (fun _ i=>12 - (intOf i).toNat)
 case atStart=>exact ⟨0,0,rfl,rfl,hst⟩
 case round =>
  obtain ⟨k,m,rfl,rfl,HR⟩:=hrel;have hk:p+k≤s.size:=by have:=HR.2.2.2;have:=HL.out;omega
  have hk':k≤10:=HR.2.2.1
  by_cases h10:k<10
  ·by_cases hsh:p+k=s.size
   ·have HE:=hid (get_short HR h10 (by have:=HL.out;omega) hpl.out)
    have hsh':s.size≤p+k:=by omega
    clear hsh
    go_wp2
    go_ret3
    exact refPost_err HE.out rfl
   ·have hlt:p+k<s.size:=by omega
    have HC:=hid (byte_at s (p+k) hlt)
    rcases (by omega:k=9∨k<9) with h9|h9
    ·subst h9
     have hg:∀ h1:(s[p+9]'hlt).toNat≤1,Hid (vget s.data.toList p = .ok (m+(s[p+9]'hlt).toNat * 128 ^ 9,p+9+1)):=fun h1=>hid (get_done HR (by omega) hpl.out HC.out (fun _=>h1) (by omega))
     have hbig:∀ h1:1<(s[p+9]'hlt).toNat,Hid (vget s.data.toList p = .error 4):=fun h1=>hid (get_big HR rfl hpl.out HC.out h1)
     have hm:=hid HR.2.1
     go_wp2
     ·go_ret3
      exact refPost_err (hbig (by omega)).out rfl
     ·go_ret3
      have h1:(s[p+9]'hlt).toNat≤1:=by omega
      exact refPost_ok (hg h1).out (by rw[get_or9 m _ hm.out h1,Nat.mod_eq_of_lt (by omega)]) (by omega)
    ·have hg:∀ h2:(s[p+k]'hlt).toNat<128,Hid (vget s.data.toList p = .ok (m+(s[p+k]'hlt).toNat * 128 ^ k,p+k+1)):=fun h2=>hid (get_done HR h10 hpl.out HC.out (by omega) h2)
     have hmo:∀ h2:128≤(s[p+k]'hlt).toNat,Hid (GetRel s.data.toList p (k+1) (m+((s[p+k]'hlt).toNat - 128) * 128 ^ k)):=fun h2=>hid (get_more HR h10 HC.out (by omega) h2).2
     have hm:=hid HR.2.1
     go_wp2
     ·go_ret3
      have h2:(s[p+k]'hlt).toNat<128:=by omega
      exact refPost_ok (hg h2).out (by rw[get_or m k _ hm.out h10 (by omega),Nat.mod_eq_of_lt (by omega)]) (by omega)
     ·have h2:128≤(s[p+k]'hlt).toNat:=by omega
      have hb:=(s[p+k]'hlt).toNat_lt;have R:=(hmo h2).out;rw[show (s[p+k]'hlt).toNat - 128=(s[p+k]'hlt).toNat % 128 by omega] at R;exact ⟨⟨k+1,_,by rw[get_or m k _ hm.out h10 (by omega)],by simp,R⟩,by simp[intOf];omega⟩
  ·obtain rfl:k=10:=by omega
   have HE:=hid (get_ten HR hpl.out)
   go_wp2
   go_ret3
   exact refPost_err HE.out rfl
theorem refget_any (s:ByteArray)(p:Int)(w:World)(hs:s.size≤4611686018427387904) :
  Calls Tryz.prog 143 #[.string s,.int .i64 p] w (RefPost (vget s.data.toList p) w):=by
 by_cases h:p<0∨s.size<p
 ·have HE:=hid (get_out (l:=s.data.toList) (p:=p) (by simpa using h))
  by_cases h0:p<0
  ·go_enter Tryz.func143,Tryz.ntmps143
   go_wp2
   go_ret3
   exact refPost_err HE.out rfl
  ·obtain ⟨q,rfl⟩:=Int.eq_ofNat_of_zero_le (by omega:0≤p)
   have h1:s.size<q:=by omega
   go_enter Tryz.func143,Tryz.ntmps143
   go_wp2
   go_ret3
   exact refPost_err HE.out rfl
 ·obtain ⟨q,rfl⟩:=Int.eq_ofNat_of_zero_le (by omega:0≤p)
  exact refget_in s q w hs (by omega)
open Go.RowKit
theorem wlit_drop (s:ByteArray)(i:Nat)(h:i<s.size):wlit (s.data.toList.drop i)=(s[i]'h).toNat+256 * wlit (s.data.toList.drop (i+1)):=by
 have hl:i<s.data.toList.length:=by simpa using h
 rw[List.drop_eq_getElem_cons hl];rfl
theorem wlit_dlt (s:ByteArray)(i:Nat)(hs:s.size≤8)(hi:1≤i):wlit (s.data.toList.drop i)<256 ^ 7:=by
 refine Nat.lt_of_lt_of_le (wlit_lt _) (Nat.pow_le_pow_right (by omega) ?_)
 simp;omega
theorem rfix_or (m:Nat)(c:UInt8)(hm:m<256 ^ 7):bits .or .u64 ((m:Int) * 256) (c.toNat:Int)=((c.toNat+256 * m:Nat):Int):=by
 have hc:=c.toNat_lt;have e:(m:Int) * 256=((m * 256:Nat):Int):=by simp
 rw[e,u64_or_nat _ _ (by omega) (by omega),nat_join 8 (m * 256) c.toNat (by omega) (by omega)]
 congr 1
 omega
theorem rfixed_any (s:ByteArray)(w:World)(hs:s.size≤8) :
  Calls Tryz.prog 174 #[.string s] w fun e w'=>e = .returned (.int .u64 (wlit s.data.toList:Nat))∧w=w':=by
 have HL:=hid (show s.data.toList.length=s.size by simp);go_enter Tryz.func174,Tryz.ntmps174
 go_wp2
 go_loopg [3,4] s.size (fun k n i wr=>k≤s.size∧i = .int .i64 ((k:Int) - 1)∧n = .int .u64 (wlit (s.data.toList.drop k):Nat)∧wr=w)
 case atStart=>exact ⟨Nat.le_refl _,rfl,by rw[List.drop_eq_nil_of_le (by have:=HL.out;omega)];rfl,rfl⟩
 case round =>
  obtain ⟨hk,rfl,rfl,rfl⟩:=hrel
  match gk,hk with
  | 0,hk =>
   go_wp2
   go_ret;exact ⟨rfl,rfl⟩
  | k+1,hk =>
   have HW:=hid (wlit_drop s k (by omega));obtain ⟨m,HM⟩:∃ m,Hid (m=wlit (s.data.toList.drop (k+1))):=⟨_,hid rfl⟩
   have hm7:m<72057594037927936:=by rw[HM.out];exact wlit_dlt s (k+1) hs (by omega)
   have hor:=rfix_or m (s[k]'(by omega)) hm7;have hwb:IntKind.u64.wrap ((s[k]'(by omega)).toNat:Int)=((s[k]'(by omega)).toNat:Int):=by have:=(s[k]'(by omega)).toNat_lt;exact u64_wrap_id (by omega) (by omega)
   rw[←HM.out];have hkk:((k:Int)+1 - 1)=k:=by omega
   go_wp2
   go_roundg k
   case measure=>omega
   case rel=>exact ⟨by omega,by simp,by rw[HW.out,←HM.out];first|rfl|simp|simp[hwb,hor],rfl⟩
theorem rtag_any (num kind:Int)(w:World)(h1:-9223372036854775808≤num)(h2:num≤9223372036854775807)(h3:-9223372036854775808≤kind)(h4:kind≤9223372036854775807) :
  Calls Tryz.prog 153 #[.int .i64 num,.int .i64 kind] w fun e w'=>e = .returned (.string ⟨(wtag num kind).toArray⟩)∧Below w.heap.size w w':=by
 by_cases hb:num<1∨536870911<num∨kind<0∨5<kind
 ·have HF:=hid (wtag_bad hb)
  rcases (by omega:num<1∨(1≤num∧536870911<num)∨(1≤num∧num≤536870911∧kind<0)∨(1≤num∧num≤536870911∧0≤kind∧5<kind)) with h|⟨h,h'⟩|⟨h,h',h''⟩|⟨h,h',h'',h'''⟩
  all_goals clear hb
  all_goals go_enter Tryz.func153,Tryz.ntmps153
  all_goals go_wp2
  all_goals go_ret
  all_goals exact ⟨by rw[HF.out];rfl,Below.refl _ _⟩
 ·obtain ⟨n,rfl⟩:=Int.eq_ofNat_of_zero_le (show 0≤num by omega)
  obtain ⟨k,rfl⟩:=Int.eq_ofNat_of_zero_le (show 0≤kind by omega);have hn1:1≤n:=by omega
  have hn2:n≤536870911:=by omega
  have hk:k≤5:=by omega
  have HF:=hid (wtag_ok hn1 hn2 hk);have hor:=tag_or hn2 hk;have hlt64:8 * n+k<2 ^ 64:=by omega
  have HP:=hid (put_start (n:=8 * n+k) (by omega));clear hb h1 h2 h3 h4;have hn3:¬(536870912:Int)≤(n:Int):=by omega
  go_enter Tryz.func153,Tryz.ntmps153;have hput:=fun w=>refput_any (8 * n+k) w HP.out (hid hlt64)
  rw[show ((8 * n+k:Nat):Int)=8 * (n:Int)+(k:Int) by simp] at hput;have HPUT:=hid hput;clear hput;go_wp2_with fail;refine (HPUT.out w).mono ?_;rintro e w' ⟨rfl,hb⟩;have HB:=hid hb;clear hb;go_wp2_with fail;go_ret;exact ⟨by rw[HF.out];rfl,HB.out⟩
theorem reight_any (n:Nat)(w:World) :
  Calls Tryz.prog 157 #[.int .u64 n] w fun e w'=>e = .returned (.string ⟨(eight 8 n).toArray⟩)∧Below w.heap.size w w':=by
 have HE8:=hid (eight_8 n);go_enter Tryz.func157,Tryz.ntmps157;go_wp2_with fail
 go_loopg [3,4] 8 (fun k v i wr=>∃ j:Nat,j+k=8∧i = .int .i64 j∧wr.ownsRow w.heap.size 5 1 v j (bys ((eight 8 n).take j))∧Below w.heap.size w wr)
 case atStart=>exact ⟨0,by omega,rfl,World.ownsRow_nil _ _ _ _,Below.refl _ _⟩
 case round =>
  obtain ⟨j,hj,rfl,hown,hb⟩:=hrel;have HJ:=hid hj;have HB:=hid hb;have hbs:=hb.size;have hj8:j≤8:=by omega
  clear hj hb
  by_cases hlt:j<8
  ·have hmin:min (8 * j) 64=8 * j:=by omega
   have hmin2:min (8 * (j:Int)) 64=8 * j:=by omega
   have hl:j<(eight 8 n).length:=by rw[eight_len];exact hlt
   have hbyte:((n:Int) / 2 ^ (8 * j)) % 256=(((eight 8 n)[j]'hl).toNat:Int):=by
    have e:(eight 8 n)[j]? = some (UInt8.ofNat (n / 256 ^ j)):=by
     rw[HE8.out]
     rcases (by omega:j=0∨j=1∨j=2∨j=3∨j=4∨j=5∨j=6∨j=7) with rfl|rfl|rfl|rfl|rfl|rfl|rfl|rfl
     all_goals simp
     all_goals apply UInt8.toNat_inj.1
     all_goals simp
    have e2:(eight 8 n)[j]'hl=UInt8.ofNat (n / 256 ^ j):=by
     rw[List.getElem?_eq_getElem hl] at e;exact Option.some.inj e
    rw[e2,ofNat_val (n / 256 ^ j) (((n / 256 ^ j % 256:Nat)):Int) rfl];rw[show 256=2 ^ 8 from rfl,←Nat.pow_mul]
    simp
   go_wp2_with (at_builtin;refine wpList_app1 rfl _ _ 193 rfl Tryz.elU8 (by decide) hown rfl rfl rfl (by simp[Value.oneCell']) (by unfold maxLen;omega) (by omega) hbs ?_;intro v' w1 hown' hgrow)
   have HO2:Hid (w1.ownsRow w.heap.size 5 1 v' (j+1) (bys ((eight 8 n).take (j+1)))):=hid (by
    rw[List.take_succ_eq_append_getElem hl,bys_snoc];exact hown')
   have HB2:Hid (Below w.heap.size w w1):=hid (HB.out.grown hgrow hbs (fun k hk=>(hown.lt _ hk).1));have hj:=HJ.out
   go_roundg (gk - 1)
   case measure=>omega
   case rel=>exact ⟨j+1,by omega,by simp,HO2.out,HB2.out⟩
  ·obtain rfl:j=8:=by omega
   rw[List.take_of_length_le (by rw[eight_len];omega)] at hown;have hcv:=run_conv_own (P:=Tryz.prog) (src:=193) (dst:=9) Tryz.underlying193 Tryz.underlying5 Tryz.underlying9 hown;clear hown;go_wp2_with fail;go_ret;exact ⟨rfl,HB.out⟩
theorem rnum_any (num:Int)(n:Nat)(w:World)(h1:-9223372036854775808≤num)(h2:num≤9223372036854775807)(hn:n<2 ^ 64) :
  Calls Tryz.prog 118 #[.int .i64 num,.int .u64 n] w fun e w'=>e = .returned (.string ⟨(wrec num 0 (vput n)).toArray⟩)∧Below w.heap.size w w':=by
 have HP:=hid (put_start hn);have HN:=hid hn;have hv:=vput_len n;clear hn
 cases ht:wtag num 0 with
 | nil =>
  have HF:Hid (wrec num 0 (vput n)=[]):=hid (by unfold wrec;rw[if_pos ht]);have HT:=hid ht;clear ht;go_enter Tryz.func118,Tryz.ntmps118;go_wp2_with fail;refine (rtag_any num 0 w h1 h2 (by omega) (by omega)).mono ?_;rintro e w' ⟨rfl,hb⟩;have HB:=hid hb;rw[HT.out];clear hb;go_wp2_with fail;go_ret;exact ⟨by rw[HF.out];rfl,HB.out⟩
 | cons b t =>
  have HF:Hid (wrec num 0 (vput n)=(b::t)++(vput n)):=hid (by unfold wrec;rw[if_neg (by rw[ht];simp),ht]);have hlen:t.length≤9:=by have:=wtag_len num 0;rw[ht] at this;simp at this;omega
  have HT:=hid ht;clear ht;go_enter Tryz.func118,Tryz.ntmps118;go_wp2_with fail;refine (rtag_any num 0 w h1 h2 (by omega) (by omega)).mono ?_;rintro e w' ⟨rfl,hb⟩;have HB:=hid hb;rw[HT.out];clear hb;go_wp2_with fail;refine (refput_any n w' HP.out HN).mono ?_;rintro e w2 ⟨rfl,hb2⟩;have HB2:=hid (below_step HB.out hb2);clear hb2;go_wp2_with fail;go_ret;exact ⟨by rw[HF.out];exact ret_str (ba_append _ _),HB2.out⟩
theorem rfixedr_any (num:Int)(n:Nat)(w:World)(h1:-9223372036854775808≤num)(h2:num≤9223372036854775807) :
  Calls Tryz.prog 117 #[.int .i64 num,.int .u64 n] w fun e w'=>e = .returned (.string ⟨(wrec num 1 (eight 8 n)).toArray⟩)∧Below w.heap.size w w':=by
 have hv:=eight_len 8 n
 cases ht:wtag num 1 with
 | nil =>
  have HF:Hid (wrec num 1 (eight 8 n)=[]):=hid (by unfold wrec;rw[if_pos ht]);have HT:=hid ht;clear ht;go_enter Tryz.func117,Tryz.ntmps117;go_wp2_with fail;refine (rtag_any num 1 w h1 h2 (by omega) (by omega)).mono ?_;rintro e w' ⟨rfl,hb⟩;have HB:=hid hb;rw[HT.out];clear hb;go_wp2_with fail;go_ret;exact ⟨by rw[HF.out];rfl,HB.out⟩
 | cons b t =>
  have HF:Hid (wrec num 1 (eight 8 n)=(b::t)++(eight 8 n)):=hid (by unfold wrec;rw[if_neg (by rw[ht];simp),ht]);have hlen:t.length≤9:=by have:=wtag_len num 1;rw[ht] at this;simp at this;omega
  have HT:=hid ht;clear ht;go_enter Tryz.func117,Tryz.ntmps117;go_wp2_with fail;refine (rtag_any num 1 w h1 h2 (by omega) (by omega)).mono ?_;rintro e w' ⟨rfl,hb⟩;have HB:=hid hb;rw[HT.out];clear hb;go_wp2_with fail;refine (reight_any n w').mono ?_;rintro e w2 ⟨rfl,hb2⟩;have HB2:=hid (below_step HB.out hb2);clear hb2;go_wp2_with fail;go_ret;exact ⟨by rw[HF.out];exact ret_str (ba_append _ _),HB2.out⟩
theorem rbytes_any (num:Int)(s:ByteArray)(w:World)(h1:-9223372036854775808≤num)(h2:num≤9223372036854775807)(hs:s.size≤1000000) :
  Calls Tryz.prog 115 #[.int .i64 num,.string s] w fun e w'=>e = .returned (.string ⟨(wrec num 2 (vput s.size++s.data.toList)).toArray⟩)∧Below w.heap.size w w':=by
 have hlt:s.size<2 ^ 64:=by omega
 have HP:=hid (put_start hlt);have HN:=hid hlt;have hv:=vput_len s.size;clear hlt
 cases ht:wtag num 2 with
 | nil =>
  have HF:Hid (wrec num 2 (vput s.size++s.data.toList)=[]):=hid (by unfold wrec;rw[if_pos ht]);have HT:=hid ht;clear ht;go_enter Tryz.func115,Tryz.ntmps115;go_wp2_with fail;refine (rtag_any num 2 w h1 h2 (by omega) (by omega)).mono ?_;rintro e w' ⟨rfl,hb⟩;have HB:=hid hb;rw[HT.out];clear hb;go_wp2_with fail;go_ret;exact ⟨by rw[HF.out];rfl,HB.out⟩
 | cons b t =>
  have HF:Hid (wrec num 2 (vput s.size++s.data.toList)=(b::t)++(vput s.size++s.data.toList)):=hid (by unfold wrec;rw[if_neg (by rw[ht];simp),ht]);have hlen:t.length≤9:=by have:=wtag_len num 2;rw[ht] at this;simp at this;omega
  have HT:=hid ht;clear ht;go_enter Tryz.func115,Tryz.ntmps115;go_wp2_with fail;refine (rtag_any num 2 w h1 h2 (by omega) (by omega)).mono ?_;rintro e w' ⟨rfl,hb⟩;have HB:=hid hb;rw[HT.out];clear hb;go_wp2_with fail;refine (refput_any s.size w' HP.out HN).mono ?_;rintro e w2 ⟨rfl,hb2⟩;have HB2:=hid (below_step HB.out hb2);clear hb2;go_wp2_with fail;go_ret;exact ⟨by rw[HF.out];rw[←List.append_assoc,←ba_append,←ba_append];simp,HB2.out⟩
open Go.RowKit
def RVarsPost (s:ByteArray)(w:World)(e:Ending)(w':World):Prop:=match wvars s.data.toList with
 | .error c=>e = .returned (.tuple #[.slice none 0 0,.int .i64 c])∧Below w.heap.size w w'
 | .ok ns=>∃ u,e = .returned (.tuple #[u,.int .i64 0])∧w'.ownsRow w.heap.size 24 1 u ns.length (nats64 ns)∧ns.length≤s.size∧Below w.heap.size w w'
theorem rvars_no {s:ByteArray}{c:Nat}{w w':World}(h:wvars s.data.toList = .error c)(hB:Below w.heap.size w w'):RVarsPost s w (.returned (.tuple #[.slice none 0 0,.int .i64 c])) w':=by
 unfold RVarsPost;rw[h];exact ⟨rfl,hB⟩
theorem rvars_ok {s:ByteArray}{ns:List Nat}{w w':World}{u:Value}(h:wvars s.data.toList = .ok ns)(ho:w'.ownsRow w.heap.size 24 1 u ns.length (nats64 ns))(hl:ns.length≤s.size)(hB:Below w.heap.size w w'):RVarsPost s w (.returned (.tuple #[u,.int .i64 0])) w':=by
 unfold RVarsPost;rw[h];exact ⟨u,rfl,ho,hl,hB⟩
theorem rget_ok (s:ByteArray)(p:Int)(w:World)(hs:s.size≤1000000000){n q:Nat}(h:vget s.data.toList p = .ok (n,q)) :
  Calls Tryz.prog 143 #[.string s,.int .i64 p] w fun e w'=>e = .returned (.tuple #[.int .u64 n,.int .i64 q,.int .i64 0])∧w=w' :=
 (refget_any s p w (by omega)).mono fun e w' ⟨h1,h2⟩=>by rw[h] at h2;exact ⟨h2,h1⟩
theorem rget_err (s:ByteArray)(p:Int)(w:World)(hs:s.size≤1000000000){c:Nat}(h:vget s.data.toList p = .error c) :
  Calls Tryz.prog 143 #[.string s,.int .i64 p] w fun e w'=>e = .returned (.tuple #[.int .u64 0,.int .i64 0,.int .i64 c])∧w=w' :=
 (refget_any s p w (by omega)).mono fun e w' ⟨h1,h2⟩=>by rw[h] at h2;exact ⟨h2,h1⟩
theorem rvarints_any (s:ByteArray)(w:World)(hs:s.size≤1000000) :
  Calls Tryz.prog 93 #[.string s] w (RVarsPost s w):=by
 have HL:=hid (show s.data.toList.length=s.size by simp);have HS:=hid hs;go_enter Tryz.func93,Tryz.ntmps93;go_wp2_with fail
 go_loopg [4,5] s.size (fun k v a wr=>∃ (q:Nat) (acc:List Nat),q+k=s.size∧a = .int .i64 q∧VsRel s.data.toList q acc∧wr.ownsRow w.heap.size 24 1 v acc.length (nats64 acc)∧Below w.heap.size w wr)
 case atStart=>exact ⟨0,[],by omega,rfl,vs_start _,World.ownsRow_nil _ _ _ _,Below.refl _ _⟩
 case round =>
  obtain ⟨q,acc,hqk,rfl,hal,hown,hb⟩:=hrel;have HA:=hid hal;have HB:=hid hb;have HQ:=hid hqk;have hqs:q≤s.size:=by omega
  have hsz:s.size≤1000000:=HS.out;have hacc:acc.length≤q:=hal.2.1;have hbs:w.heap.size≤wr.heap.size:=hb.size;clear hal hb hqk
  by_cases hlt:q<s.size
  ·cases hn:wv (s.data.toList.drop q) with
   | error c =>
    have HV:=hid (vget_no (by have:=HL.out;omega) hn);have HF:=hid (vs_err HA.out (by have:=HL.out;omega) hn);have hc0:((c:Int) != 0)=true:=by have:=wv_err hn;simp;omega
    clear hn hown;go_wp2_with fail;refine (rget_err s q _ (by omega) HV.out).mono ?_;rintro e w' ⟨rfl,rfl⟩;go_wp2_with fail
    go_ret2
    exact rvars_no HF.out HB.out
   | ok x =>
    obtain ⟨n,j⟩:=x;have HV:=hid (vget_ok (by have:=HL.out;omega) hn);have HG:=hid (vs_next HA.out hn);have HJ:=hid (wv_bounds hn);have hqj:q+j≤s.size:=by have:=HJ.out.2.1;simp at this;have:=HL.out;omega
    have hj1:1≤j:=HJ.out.1;clear hn
    go_wp2_with (first
     | (go_at_call 143;refine (rget_ok s q _ (by omega) HV.out).mono ?_;rintro e w' ⟨rfl,rfl⟩)
     | (at_builtin;refine wpList_app1 rfl _ _ 27 rfl Tryz.elU64 (by decide) hown rfl rfl rfl (by simp[Value.oneCell']) (by unfold maxLen;omega) (by omega) hbs ?_;intro v' w2 hown' hgrow))
    have HO2:Hid (w2.ownsRow w.heap.size 24 1 v' (acc++[n]).length (nats64 (acc++[n]))):=hid (by simpa [nats64] using hown');have HB2:Hid (Below w.heap.size w w2):=hid (HB.out.grown hgrow hbs (fun k hk=>(hown.lt _ hk).1));have hq:=HQ.out
    go_roundg (s.size - (q+j))
    case measure=>omega
    case rel=>exact ⟨q+j,acc++[n],by omega,by simp,HG.out,HO2.out,HB2.out⟩
  ·have HF:=hid (vs_end HA.out (by have:=HL.out;have:=HQ.out;omega))
   have HO:=hid hown;clear hown;go_wp2_with fail
   go_ret2
   exact rvars_ok HF.out HO.out (by omega) HB.out
open Go.RowKit
def RNextPost (s:ByteArray)(p:Nat)(d:Int)(w:World)(e:Ending)(w':World):Prop:=match wnx (s.data.toList.drop p) d with
 | .error _=>e = .returned (.tuple #[rec0,.int .i64 0,.bool false])∧Below w.heap.size w w'
 | .ok (r,j)=>e = .returned (.tuple #[recV r,.int .i64 ((p+j:Nat):Int),.bool true])∧Below w.heap.size w w'
theorem rnext_no {s:ByteArray}{p c:Nat}{d:Int}{w w':World}{V:Value}(h:wnx (s.data.toList.drop p) d = .error c)(hV:V=rec0)(hB:Below w.heap.size w w'):RNextPost s p d w (.returned (.tuple #[V,.int .i64 0,.bool false])) w':=by
 subst hV;unfold RNextPost;rw[h];exact ⟨rfl,hB⟩
theorem rnext_ok {s:ByteArray}{p j:Nat}{d:Int}{r:Rec}{w w':World}(h:wnx (s.data.toList.drop p) d = .ok (r,j)){V:Value}{Q:Int}(hV:V=recV r)(hQ:Q=((p+j:Nat):Int))(hB:Below w.heap.size w w') :
  RNextPost s p d w (.returned (.tuple #[V,.int .i64 Q,.bool true])) w':=by
 subst hV;subst hQ;unfold RNextPost;rw[h];exact ⟨rfl,hB⟩
def RGroupPost (s:ByteArray)(p num:Nat)(d:Int)(w:World)(e:Ending)(w':World):Prop:=match wgroup (s.data.toList.drop p) [num] d with
 | .error _=>(∃ x:Int,e = .returned (.tuple #[.int .i64 x,.bool false]))∧Below w.heap.size w w'
 | .ok k=>e = .returned (.tuple #[.int .i64 ((p+k:Nat):Int),.bool true])∧Below w.heap.size w w'
theorem load_rrec {w:World}{g:Nat}{cs:Array Value}(hg:w.heap[g]? = some (.cells cs 71 (0,0)))(hc:cs.size=5):(loadVar 71 ⟨g,0,none⟩).run Tryz.prog w = .ok (.agg cs) w :=
 run_loadVar_row w g 71 71 cs (0,0) _ hg Tryz.underlying71 rfl (by rw[hc];kernel_rfl)
structure RRow (w:World) (b:Nat) (cs:Array Value):Prop where
 row:w.heap[b]? = some (.cells cs 71 (0,0))
theorem RRow.below {w w':World}{b:Nat}{cs:Array Value}(h:RRow w b cs)(hb:Below w.heap.size w w'):RRow w' b cs:=⟨(hb.block b (row_lt h.row)).trans h.row⟩
theorem RRow.set {w:World}{b:Nat}{cs:Array Value}(h:RRow w b cs)(j:Nat)(u:Value):RRow (w.setCell ⟨b,j,none⟩ u) b (cs.setIfInBounds j u):=⟨row_set h.row j u⟩
theorem RRow.other {w:World}{b b':Nat}{cs:Array Value}(h:RRow w b cs)(hne:b≠b')(j:Nat)(u:Value):RRow (w.setCell ⟨b',j,none⟩ u) b cs:=⟨(Below.heap_setCell w _ _ _ hne).trans h.row⟩
theorem RRow.sets {w:World}{b:Nat}{c0 c1 c2 c3 c4:Value}(h:RRow w b #[c0,c1,c2,c3,c4])(v0 v1 v2 v3 v4:Value) :
  RRow (((((w.setCell ⟨b,0,none⟩ v0).setCell ⟨b,1,none⟩ v1).setCell ⟨b,2,none⟩ v2).setCell ⟨b,3,none⟩ v3).setCell ⟨b,4,none⟩ v4) b #[v0,v1,v2,v3,v4] :=
 ((((h.set 0 v0).set 1 v1).set 2 v2).set 3 v3).set 4 v4
theorem wnx_form {l:List UInt8}{d:Int}{t j:Nat}(h:wv l = .ok (t,j))(hb:t / 8<1∨536870911<t / 8∨5<t % 8):wnx l d = .error 3:=wnx_no (whd_form h hb)
def TagIs (s:ByteArray)(p t j num ty q:Nat):Prop:=wv (s.data.toList.drop p) = .ok (t,j)∧num=t / 8∧ty=t % 8∧q=p+j∧q≤s.size∧t<2 ^ 64
theorem TagIs.whd {s:ByteArray}{p t j num ty q:Nat}(h:TagIs s p t j num ty q)(h1:1≤num)(h2:num≤536870911)(h3:ty≤5):whd (s.data.toList.drop p) = .ok (num,ty,j):=by
 obtain ⟨hv,rfl,rfl,_⟩:=h;exact whd_ok hv h1 h2 h3
theorem TagIs.get {s:ByteArray}{p t j num ty q:Nat}(h:TagIs s p t j num ty q)(hp:p≤s.size):vget s.data.toList p = .ok (t,q):=by
 obtain ⟨hv,_,_,rfl,_⟩:=h;exact vget_ok (by simpa using hp) hv
theorem rnext_wv (s:ByteArray)(p c:Nat)(d:Int)(w:World)(hp:p≤s.size)(hs:s.size≤1000000000)(hv:wv (s.data.toList.drop p) = .error c) :
  Calls Tryz.prog 139 #[.string s,.int .i64 p,.int .i64 d] w (RNextPost s p d w):=by
 have HF:Hid (wnx (s.data.toList.drop p) d = .error c):=hid (wnx_no (whd_no hv));have HG0:=hid (vget_no (p:=p) (by simpa using hp) hv);have hc0:((c:Int) != 0)=true:=by have:=wv_err hv;simp;omega
 clear hv;go_enter Tryz.func139,Tryz.ntmps139;go_wp2_with fail;refine (rget_err s p _ (by omega) HG0.out).mono ?_;rintro e w' ⟨rfl,rfl⟩;go_wp2_with fail;refine body_cell3 rfl rfl (load_rrec (heap_alloc_new _ _) rfl) rfl ?_;exact rnext_no HF.out rfl (below_new _ _)
theorem rnext_num (s:ByteArray)(p t j num ty q:Nat)(d:Int)(w:World)(hp:p≤s.size)(hs:s.size≤1000000000)(hT:TagIs s p t j num ty q)(h1:num<1∨536870911<num) :
  Calls Tryz.prog 139 #[.string s,.int .i64 p,.int .i64 d] w (RNextPost s p d w):=by
 have HF:Hid (wnx (s.data.toList.drop p) d = .error 3):=hid (wnx_form hT.1 (by have:=hT.2.1;omega));have HG0:=hid (hT.get hp);have ht:t<18446744073709551616:=hT.2.2.2.2.2;have ha:=u64_and7 t ht;rw[←hT.2.2.1] at ha;have hsh:(t:Int) / 8=(num:Int):=by have:=hT.2.1;omega
 have hqs:q≤s.size:=hT.2.2.2.2.1;have hpq:p≤q:=by have:=hT.2.2.2.1;omega
 have HQ:=hid hT.2.2.2.1;have HTT:=hid hT;have hnb:num<2305843009213693952:=by have:=hT.2.1;omega
 clear hT HTT
 rcases h1 with h1|h1
 ·go_enter Tryz.func139,Tryz.ntmps139
  go_wp2_with fail;refine (rget_ok s p _ (by omega) HG0.out).mono ?_;rintro e w' ⟨rfl,rfl⟩;go_wp2_with fail;refine body_cell3 rfl rfl (load_rrec (heap_alloc_new _ _) rfl) rfl ?_;exact rnext_no HF.out rfl (below_new _ _)
 ·have h1':1≤num:=by omega
  go_enter Tryz.func139,Tryz.ntmps139;go_wp2_with fail;refine (rget_ok s p _ (by omega) HG0.out).mono ?_;rintro e w' ⟨rfl,rfl⟩;go_wp2_with fail;refine body_cell3 rfl rfl (load_rrec (heap_alloc_new _ _) rfl) rfl ?_;exact rnext_no HF.out rfl (below_new _ _)
theorem rnext_kind (s:ByteArray)(p t j num ty q:Nat)(d:Int)(w:World)(hp:p≤s.size)(hs:s.size≤1000000000)(hT:TagIs s p t j num ty q)(h1:1≤num)(h2:num≤536870911)(h3:ty=4∨ty=6∨ty=7) :
  Calls Tryz.prog 139 #[.string s,.int .i64 p,.int .i64 d] w (RNextPost s p d w):=by
 have HF:Hid (wnx (s.data.toList.drop p) d = .error 3):=hid (by
  rcases h3 with h3|h3
  ·exact wnx_end (num:=num) (j:=j) (h3 ▸ hT.whd h1 h2 (by omega))
  ·exact wnx_form hT.1 (by have:=hT.2.2.1;omega))
 have HG0:=hid (hT.get hp);have ht:t<18446744073709551616:=hT.2.2.2.2.2;have ha:=u64_and7 t ht;rw[←hT.2.2.1] at ha;have hsh:(t:Int) / 8=(num:Int):=by have:=hT.2.1;omega
 have hqs:q≤s.size:=hT.2.2.2.2.1;have hpq:p≤q:=by have:=hT.2.2.2.1;omega
 have HQ:=hid hT.2.2.2.1;have HTT:=hid hT;clear hT HTT
 rcases h3 with rfl|rfl|rfl
 ·go_enter Tryz.func139,Tryz.ntmps139
  go_wp2_with fail;refine (rget_ok s p _ (by omega) HG0.out).mono ?_;rintro e w' ⟨rfl,rfl⟩;go_wp2_with fail;refine body_cell3 rfl rfl (load_rrec (old_two _ _ _) rfl) rfl ?_;exact rnext_no HF.out rfl (below_step (below_new _ _) (below_new _ _))
 ·go_enter Tryz.func139,Tryz.ntmps139
  go_wp2_with fail;refine (rget_ok s p _ (by omega) HG0.out).mono ?_;rintro e w' ⟨rfl,rfl⟩;go_wp2_with fail;refine body_cell3 rfl rfl (load_rrec (old_two _ _ _) rfl) rfl ?_;exact rnext_no HF.out rfl (below_step (below_new _ _) (below_new _ _))
 ·go_enter Tryz.func139,Tryz.ntmps139
  go_wp2_with fail;refine (rget_ok s p _ (by omega) HG0.out).mono ?_;rintro e w' ⟨rfl,rfl⟩;go_wp2_with fail;refine body_cell3 rfl rfl (load_rrec (old_two _ _ _) rfl) rfl ?_;exact rnext_no HF.out rfl (below_step (below_new _ _) (below_new _ _))
theorem rnext_0no (s:ByteArray)(p t j num ty q:Nat)(d:Int)(w:World)(hp:p≤s.size)(hs:s.size≤1000000000)(hT:TagIs s p t j num ty q)(h1:1≤num)(h2:num≤536870911)(h3:ty=0)(c:Nat)(hv:wv (s.data.toList.drop q) = .error c) :
  Calls Tryz.prog 139 #[.string s,.int .i64 p,.int .i64 d] w (RNextPost s p d w):=by
 have hb:wbd (s.data.toList.drop q) ty = .error c:=by rw[h3];exact wbd_numno hv
 have HF:Hid (wnx (s.data.toList.drop p) d = .error c):=hid (by rw[wnx_body (hT.whd h1 h2 (by omega)) (by omega) (by omega),List.drop_drop,←hT.2.2.2.1,hb]);have HG0:=hid (hT.get hp);have ht:t<18446744073709551616:=hT.2.2.2.2.2;have ha:=u64_and7 t ht;rw[←hT.2.2.1] at ha;have hsh:(t:Int) / 8=(num:Int):=by have:=hT.2.1;omega
 have hqs:q≤s.size:=hT.2.2.2.2.1;have hpq:p≤q:=by have:=hT.2.2.2.1;omega
 have HQ:=hid hT.2.2.2.1;have HTT:=hid hT;have HG1:=hid (vget_no (p:=q) (by simpa using hqs) hv);have hc0:((c:Int) != 0)=true:=by have:=wv_err hv;simp;omega
 clear hT HTT hb hv;subst h3;go_enter Tryz.func139,Tryz.ntmps139;go_wp2_with fail;refine (rget_ok s p _ (by omega) HG0.out).mono ?_;rintro e w' ⟨rfl,rfl⟩;go_wp2_with fail;refine (rget_err s q _ (by omega) HG1.out).mono ?_;rintro e w' ⟨rfl,rfl⟩;go_wp2_with fail;refine body_cell3 rfl rfl (load_rrec (old_two _ _ _) rfl) rfl ?_;exact rnext_no HF.out rfl (below_step (below_new _ _) (below_new _ _))
theorem rnext_0 (s:ByteArray)(p t j num ty q:Nat)(d:Int)(w:World)(hp:p≤s.size)(hs:s.size≤1000000000)(hT:TagIs s p t j num ty q)(h1:1≤num)(h2:num≤536870911)(h3:ty=0)(n k:Nat)(hv:wv (s.data.toList.drop q) = .ok (n,k)) :
  Calls Tryz.prog 139 #[.string s,.int .i64 p,.int .i64 d] w (RNextPost s p d w):=by
 have hb:wbd (s.data.toList.drop q) ty = .ok (n,[],k):=by rw[h3];exact wbd_num hv
 have HF:Hid (wnx (s.data.toList.drop p) d = .ok (⟨num,ty,n,[],(s.data.toList.drop p).take (j+k)⟩,j+k)):=hid (by rw[wnx_body (hT.whd h1 h2 (by omega)) (by omega) (by omega),List.drop_drop,←hT.2.2.2.1,hb]);have HG0:=hid (hT.get hp);have ht:t<18446744073709551616:=hT.2.2.2.2.2;have ha:=u64_and7 t ht;rw[←hT.2.2.1] at ha;have hsh:(t:Int) / 8=(num:Int):=by have:=hT.2.1;omega
 have hqs:q≤s.size:=hT.2.2.2.2.1;have hpq:p≤q:=by have:=hT.2.2.2.1;omega
 have HQ:=hid hT.2.2.2.1;have HTT:=hid hT;have HG1:=hid (vget_ok (p:=q) (by simpa using hqs) hv);have hqk:q+k≤s.size:=by have:=(wv_bounds hv).2.1;simp at this;omega
 clear hT HTT hb hv;subst h3;go_enter Tryz.func139,Tryz.ntmps139;go_wp2_with fail;refine (rget_ok s p _ (by omega) HG0.out).mono ?_;rintro e w' ⟨rfl,rfl⟩;go_wp2_with fail;refine (rget_ok s q _ (by omega) HG1.out).mono ?_;rintro e w' ⟨rfl,rfl⟩;go_wp2_with fail;refine body_cell3 rfl rfl (load_rrec (old_two _ _ _) rfl) rfl ?_;exact rnext_ok HF.out (by rw[ext_str,show q+k - p=j+k by have:=HQ.out;omega];rfl) (by have:=HQ.out;simp;omega) (below_step (below_new _ _) (below_new _ _))
theorem rnext_1no (s:ByteArray)(p t j num ty q:Nat)(d:Int)(w:World)(hp:p≤s.size)(hs:s.size≤1000000000)(hT:TagIs s p t j num ty q)(h1:1≤num)(h2:num≤536870911)(h3:ty=1)(hl:s.size - q<8) :
  Calls Tryz.prog 139 #[.string s,.int .i64 p,.int .i64 d] w (RNextPost s p d w):=by
 have hb:wbd (s.data.toList.drop q) ty = .error 1:=by rw[h3];exact wbd_fix8no (by simpa using hl)
 have HF:Hid (wnx (s.data.toList.drop p) d = .error 1):=hid (by rw[wnx_body (hT.whd h1 h2 (by omega)) (by omega) (by omega),List.drop_drop,←hT.2.2.2.1,hb]);have HG0:=hid (hT.get hp);have ht:t<18446744073709551616:=hT.2.2.2.2.2;have ha:=u64_and7 t ht;rw[←hT.2.2.1] at ha;have hsh:(t:Int) / 8=(num:Int):=by have:=hT.2.1;omega
 have hqs:q≤s.size:=hT.2.2.2.2.1;have hpq:p≤q:=by have:=hT.2.2.2.1;omega
 have HQ:=hid hT.2.2.2.1;have HTT:=hid hT;clear hT HTT hb;subst h3;go_enter Tryz.func139,Tryz.ntmps139;go_wp2_with fail;refine (rget_ok s p _ (by omega) HG0.out).mono ?_;rintro e w' ⟨rfl,rfl⟩;go_wp2_with fail;refine body_cell3 rfl rfl (load_rrec (old_two _ _ _) rfl) rfl ?_;exact rnext_no HF.out rfl (below_step (below_new _ _) (below_new _ _))
theorem rnext_1 (s:ByteArray)(p t j num ty q:Nat)(d:Int)(w:World)(hp:p≤s.size)(hs:s.size≤1000000000)(hT:TagIs s p t j num ty q)(h1:1≤num)(h2:num≤536870911)(h3:ty=1)(hl:q+8≤s.size) :
  Calls Tryz.prog 139 #[.string s,.int .i64 p,.int .i64 d] w (RNextPost s p d w):=by
 have hb:wbd (s.data.toList.drop q) ty = .ok (wlit ((s.data.toList.drop q).take 8),[],8):=by rw[h3];exact wbd_fix8 (by simp;omega)
 have HF:Hid (wnx (s.data.toList.drop p) d = .ok (⟨num,ty,wlit ((s.data.toList.drop q).take 8),[],(s.data.toList.drop p).take (j+8)⟩,j+8)):=hid (by rw[wnx_body (hT.whd h1 h2 (by omega)) (by omega) (by omega),List.drop_drop,←hT.2.2.2.1,hb]);have HG0:=hid (hT.get hp);have ht:t<18446744073709551616:=hT.2.2.2.2.2;have ha:=u64_and7 t ht;rw[←hT.2.2.1] at ha;have hsh:(t:Int) / 8=(num:Int):=by have:=hT.2.1;omega
 have hqs:q≤s.size:=hT.2.2.2.2.1;have hpq:p≤q:=by have:=hT.2.2.2.1;omega
 have HQ:=hid hT.2.2.2.1;have HTT:=hid hT;have HX:Hid ((s.extract q (q+8)).data.toList=(s.data.toList.drop q).take 8):=hid (by rw[ext_list,Nat.add_sub_cancel_left]);have hxs:(s.extract q (q+8)).size≤8:=by simp;omega
 clear hT HTT hb;subst h3;go_enter Tryz.func139,Tryz.ntmps139;go_wp2_with fail;refine (rget_ok s p _ (by omega) HG0.out).mono ?_;rintro e w' ⟨rfl,rfl⟩;go_wp2_with fail;refine (rfixed_any (s.extract q (q+8)) _ hxs).mono ?_;rintro e w' ⟨rfl,rfl⟩;rw[HX.out];go_wp2_with fail;refine body_cell3 rfl rfl (load_rrec (old_two _ _ _) rfl) rfl ?_;exact rnext_ok HF.out (by rw[ext_str,show q+8 - p=j+8 by have:=HQ.out;omega];rfl) (by have:=HQ.out;simp;omega) (below_step (below_new _ _) (below_new _ _))
theorem rnext_5no (s:ByteArray)(p t j num ty q:Nat)(d:Int)(w:World)(hp:p≤s.size)(hs:s.size≤1000000000)(hT:TagIs s p t j num ty q)(h1:1≤num)(h2:num≤536870911)(h3:ty=5)(hl:s.size - q<4) :
  Calls Tryz.prog 139 #[.string s,.int .i64 p,.int .i64 d] w (RNextPost s p d w):=by
 have hb:wbd (s.data.toList.drop q) ty = .error 1:=by rw[h3];exact wbd_fix4no (by simpa using hl)
 have HF:Hid (wnx (s.data.toList.drop p) d = .error 1):=hid (by rw[wnx_body (hT.whd h1 h2 (by omega)) (by omega) (by omega),List.drop_drop,←hT.2.2.2.1,hb]);have HG0:=hid (hT.get hp);have ht:t<18446744073709551616:=hT.2.2.2.2.2;have ha:=u64_and7 t ht;rw[←hT.2.2.1] at ha;have hsh:(t:Int) / 8=(num:Int):=by have:=hT.2.1;omega
 have hqs:q≤s.size:=hT.2.2.2.2.1;have hpq:p≤q:=by have:=hT.2.2.2.1;omega
 have HQ:=hid hT.2.2.2.1;have HTT:=hid hT;clear hT HTT hb;subst h3;go_enter Tryz.func139,Tryz.ntmps139;go_wp2_with fail;refine (rget_ok s p _ (by omega) HG0.out).mono ?_;rintro e w' ⟨rfl,rfl⟩;go_wp2_with fail;refine body_cell3 rfl rfl (load_rrec (old_two _ _ _) rfl) rfl ?_;exact rnext_no HF.out rfl (below_step (below_new _ _) (below_new _ _))
theorem rnext_5 (s:ByteArray)(p t j num ty q:Nat)(d:Int)(w:World)(hp:p≤s.size)(hs:s.size≤1000000000)(hT:TagIs s p t j num ty q)(h1:1≤num)(h2:num≤536870911)(h3:ty=5)(hl:q+4≤s.size) :
  Calls Tryz.prog 139 #[.string s,.int .i64 p,.int .i64 d] w (RNextPost s p d w):=by
 have hb:wbd (s.data.toList.drop q) ty = .ok (wlit ((s.data.toList.drop q).take 4),[],4):=by rw[h3];exact wbd_fix4 (by simp;omega)
 have HF:Hid (wnx (s.data.toList.drop p) d = .ok (⟨num,ty,wlit ((s.data.toList.drop q).take 4),[],(s.data.toList.drop p).take (j+4)⟩,j+4)):=hid (by rw[wnx_body (hT.whd h1 h2 (by omega)) (by omega) (by omega),List.drop_drop,←hT.2.2.2.1,hb]);have HG0:=hid (hT.get hp);have ht:t<18446744073709551616:=hT.2.2.2.2.2;have ha:=u64_and7 t ht;rw[←hT.2.2.1] at ha;have hsh:(t:Int) / 8=(num:Int):=by have:=hT.2.1;omega
 have hqs:q≤s.size:=hT.2.2.2.2.1;have hpq:p≤q:=by have:=hT.2.2.2.1;omega
 have HQ:=hid hT.2.2.2.1;have HTT:=hid hT;have HX:Hid ((s.extract q (q+4)).data.toList=(s.data.toList.drop q).take 4):=hid (by rw[ext_list,Nat.add_sub_cancel_left]);have hxs:(s.extract q (q+4)).size≤8:=by simp;omega
 clear hT HTT hb;subst h3;go_enter Tryz.func139,Tryz.ntmps139;go_wp2_with fail;refine (rget_ok s p _ (by omega) HG0.out).mono ?_;rintro e w' ⟨rfl,rfl⟩;go_wp2_with fail;refine (rfixed_any (s.extract q (q+4)) _ hxs).mono ?_;rintro e w' ⟨rfl,rfl⟩;rw[HX.out];go_wp2_with fail;refine body_cell3 rfl rfl (load_rrec (old_two _ _ _) rfl) rfl ?_;exact rnext_ok HF.out (by rw[ext_str,show q+4 - p=j+4 by have:=HQ.out;omega];rfl) (by have:=HQ.out;simp;omega) (below_step (below_new _ _) (below_new _ _))
open Go.RowKit
theorem rnext_2no (s:ByteArray)(p t j num ty q:Nat)(d:Int)(w:World)(hp:p≤s.size)(hs:s.size≤1000000000)(hT:TagIs s p t j num ty q)(h1:1≤num)(h2:num≤536870911)(h3:ty=2)(c:Nat)(hv:wv (s.data.toList.drop q) = .error c) :
  Calls Tryz.prog 139 #[.string s,.int .i64 p,.int .i64 d] w (RNextPost s p d w):=by
 have hb:wbd (s.data.toList.drop q) ty = .error c:=by rw[h3];exact wbd_lenno hv
 have HF:Hid (wnx (s.data.toList.drop p) d = .error c):=hid (by rw[wnx_body (hT.whd h1 h2 (by omega)) (by omega) (by omega),List.drop_drop,←hT.2.2.2.1,hb]);have HG0:=hid (hT.get hp);have ht:t<18446744073709551616:=hT.2.2.2.2.2;have ha:=u64_and7 t ht;rw[←hT.2.2.1] at ha;have hsh:(t:Int) / 8=(num:Int):=by have:=hT.2.1;omega
 have hqs:q≤s.size:=hT.2.2.2.2.1;have hpq:p≤q:=by have:=hT.2.2.2.1;omega
 have HQ:=hid hT.2.2.2.1;have HTT:=hid hT;have HG1:=hid (vget_no (p:=q) (by simpa using hqs) hv);have hc0:((c:Int) != 0)=true:=by have:=wv_err hv;simp;omega
 clear hT HTT hb hv;subst h3;go_enter Tryz.func139,Tryz.ntmps139;go_wp2_with fail;refine (rget_ok s p _ (by omega) HG0.out).mono ?_;rintro e w' ⟨rfl,rfl⟩;go_wp2_with fail;refine (rget_err s q _ (by omega) HG1.out).mono ?_;rintro e w' ⟨rfl,rfl⟩;go_wp2_with fail;refine body_cell3 rfl rfl (load_rrec (old_two _ _ _) rfl) rfl ?_;exact rnext_no HF.out rfl (below_step (below_new _ _) (below_new _ _))
theorem rnext_2long (s:ByteArray)(p t j num ty q:Nat)(d:Int)(w:World)(hp:p≤s.size)(hs:s.size≤1000000000)(hT:TagIs s p t j num ty q)(h1:1≤num)(h2:num≤536870911)(h3:ty=2)(n m:Nat)(hv:wv (s.data.toList.drop q) = .ok (n,m))(hl:s.size - q - m<n) :
  Calls Tryz.prog 139 #[.string s,.int .i64 p,.int .i64 d] w (RNextPost s p d w):=by
 have hb:wbd (s.data.toList.drop q) ty = .error 1:=by rw[h3];exact wbd_lenlong hv (by simp;omega)
 have HF:Hid (wnx (s.data.toList.drop p) d = .error 1):=hid (by rw[wnx_body (hT.whd h1 h2 (by omega)) (by omega) (by omega),List.drop_drop,←hT.2.2.2.1,hb]);have HG0:=hid (hT.get hp);have ht:t<18446744073709551616:=hT.2.2.2.2.2;have ha:=u64_and7 t ht;rw[←hT.2.2.1] at ha;have hsh:(t:Int) / 8=(num:Int):=by have:=hT.2.1;omega
 have hqs:q≤s.size:=hT.2.2.2.2.1;have hpq:p≤q:=by have:=hT.2.2.2.1;omega
 have HQ:=hid hT.2.2.2.1;have HTT:=hid hT;have HG1:=hid (vget_ok (p:=q) (by simpa using hqs) hv);have hn64:n<18446744073709551616:=(wv_bounds hv).2.2.2;obtain ⟨x,hx⟩:∃ x,x=q+m:=⟨_,rfl⟩
 have hxs:x≤s.size:=by have:=(wv_bounds hv).2.1;simp at this;omega
 have hu:IntKind.u64.wrap ((s.size:Int) - (x:Int))=(s.size:Int) - x:=u64_wrap_id (by omega) (by omega);have hqx:q≤x:=by omega
 rw[←hx] at HG1;have HXX:=hid hx;have hl2:s.size - x<n:=by omega
 clear hT HTT hb hv hx hl;subst h3;go_enter Tryz.func139,Tryz.ntmps139;go_wp2_with fail;refine (rget_ok s p _ (by omega) HG0.out).mono ?_;rintro e w' ⟨rfl,rfl⟩;go_wp2_with fail;refine (rget_ok s q _ (by omega) HG1.out).mono ?_;rintro e w' ⟨rfl,rfl⟩;go_wp2_with fail;refine body_cell3 rfl rfl (load_rrec (old_two _ _ _) rfl) rfl ?_;exact rnext_no HF.out rfl (below_step (below_new _ _) (below_new _ _))
theorem rnext_2 (s:ByteArray)(p t j num ty q:Nat)(d:Int)(w:World)(hp:p≤s.size)(hs:s.size≤1000000000)(hT:TagIs s p t j num ty q)(h1:1≤num)(h2:num≤536870911)(h3:ty=2)(n m:Nat)(hv:wv (s.data.toList.drop q) = .ok (n,m))(hl:q+m+n≤s.size) :
  Calls Tryz.prog 139 #[.string s,.int .i64 p,.int .i64 d] w (RNextPost s p d w):=by
 have hb:wbd (s.data.toList.drop q) ty = .ok (0,((s.data.toList.drop q).drop m).take n,m+n):=by rw[h3];exact wbd_len hv (by simp;omega)
 have HF:Hid (wnx (s.data.toList.drop p) d = .ok (⟨num,ty,0,((s.data.toList.drop q).drop m).take n,(s.data.toList.drop p).take (j+(m+n))⟩,j+(m+n))):=hid (by rw[wnx_body (hT.whd h1 h2 (by omega)) (by omega) (by omega),List.drop_drop,←hT.2.2.2.1,hb]);have HG0:=hid (hT.get hp);have ht:t<18446744073709551616:=hT.2.2.2.2.2;have ha:=u64_and7 t ht;rw[←hT.2.2.1] at ha;have hsh:(t:Int) / 8=(num:Int):=by have:=hT.2.1;omega
 have hqs:q≤s.size:=hT.2.2.2.2.1;have hpq:p≤q:=by have:=hT.2.2.2.1;omega
 have HQ:=hid hT.2.2.2.1;have HTT:=hid hT;have HG1:=hid (vget_ok (p:=q) (by simpa using hqs) hv);have hn64:n<18446744073709551616:=(wv_bounds hv).2.2.2;obtain ⟨x,hx⟩:∃ x,x=q+m:=⟨_,rfl⟩
 have hxs:x≤s.size:=by have:=(wv_bounds hv).2.1;simp at this;omega
 have hu:IntKind.u64.wrap ((s.size:Int) - (x:Int))=(s.size:Int) - x:=u64_wrap_id (by omega) (by omega);have hqx:q≤x:=by omega
 rw[←hx] at HG1;have HXX:=hid hx;have hl2:x+n≤s.size:=by omega
 have hw1:IntKind.i64.wrap (n:Int)=n:=i64_wrap_id (by omega) (by omega);have HS:=hid (show s.extract x (x+n)=ByteArray.mk (((s.data.toList.drop q).drop m).take n).toArray by rw[ext_str,Nat.add_sub_cancel_left,hx,List.drop_drop]);clear hT HTT hb hv hx hl;subst h3;go_enter Tryz.func139,Tryz.ntmps139;go_wp2_with fail;refine (rget_ok s p _ (by omega) HG0.out).mono ?_;rintro e w' ⟨rfl,rfl⟩;go_wp2_with fail;refine (rget_ok s q _ (by omega) HG1.out).mono ?_;rintro e w' ⟨rfl,rfl⟩;go_wp2_with fail;refine body_cell3 rfl rfl (load_rrec (old_two _ _ _) rfl) rfl ?_;exact rnext_ok HF.out (by rw[HS.out,ext_str,show x+n - p=j+(m+n) by have:=HQ.out;have:=HXX.out;omega];rfl) (by have:=HQ.out;have:=HXX.out;simp;omega) (below_step (below_new _ _) (below_new _ _))
theorem rnext_3no (s:ByteArray)(p t j num ty q:Nat)(d:Int)(w:World)(hp:p≤s.size)(hs:s.size≤1000000000)(hT:TagIs s p t j num ty q)(h1:1≤num)(h2:num≤536870911)(h3:ty=3)(hg:∀ w,Calls Tryz.prog 175 #[.string s,.int .i64 q,.int .i64 num,.int .i64 d] w (RGroupPost s q num d w))(c:Nat)(hw:wgroup (s.data.toList.drop q) [num] d = .error c) :
  Calls Tryz.prog 139 #[.string s,.int .i64 p,.int .i64 d] w (RNextPost s p d w):=by
 have HF:Hid (wnx (s.data.toList.drop p) d = .error c):=hid (by rw[wnx_group (h3 ▸ hT.whd h1 h2 (by omega)),List.drop_drop,←hT.2.2.2.1,hw]);have HGR:=hid hg;have HW:=hid hw;have HG0:=hid (hT.get hp);have ht:t<18446744073709551616:=hT.2.2.2.2.2;have ha:=u64_and7 t ht;rw[←hT.2.2.1] at ha;have hsh:(t:Int) / 8=(num:Int):=by have:=hT.2.1;omega
 have hqs:q≤s.size:=hT.2.2.2.2.1;have hpq:p≤q:=by have:=hT.2.2.2.1;omega
 have HQ:=hid hT.2.2.2.1;have HTT:=hid hT;clear hT HTT hg hw;subst h3;go_enter Tryz.func139,Tryz.ntmps139;go_wp2_with fail;refine (rget_ok s p _ (by omega) HG0.out).mono ?_;rintro e w' ⟨rfl,rfl⟩;go_wp2_with fail;refine (HGR.out _).mono ?_;intro e w6 hpost;unfold RGroupPost at hpost
 rw[HW.out] at hpost;obtain ⟨⟨x,rfl⟩,hb6⟩:=hpost;have HR:=hid (RRow.below (w:=(w.alloc (.cells #[.int .i64 0,.int .i64 0,.int .u64 0,.string ⟨#[]⟩,.string ⟨#[]⟩] 71)).alloc (.cells #[.int .i64 num,.int .i64 3,.int .u64 0,.string ⟨#[]⟩,.string ⟨#[]⟩] 71)) (b:=w.heap.size) (cs:=#[.int .i64 0,.int .i64 0,.int .u64 0,.string ⟨#[]⟩,.string ⟨#[]⟩]) ⟨old_two _ _ _⟩ hb6);have HB6:=hid (below_step (below_step (below_new _ _) (below_new _ _)) hb6);clear hb6;have rq0:w6.cell? ⟨w.heap.size,0,none⟩=some (.int .i64 0):=row_cell HR.out.row (j:=0) rfl;have rz0:w6.frozen? ⟨w.heap.size,0,none⟩=false:=row_thaw HR.out.row 0;have rq1:w6.cell? ⟨w.heap.size,1,none⟩=some (.int .i64 0):=row_cell HR.out.row (j:=1) rfl;have rz1:w6.frozen? ⟨w.heap.size,1,none⟩=false:=row_thaw HR.out.row 1;have rq2:w6.cell? ⟨w.heap.size,2,none⟩=some (.int .u64 0):=row_cell HR.out.row (j:=2) rfl;have rz2:w6.frozen? ⟨w.heap.size,2,none⟩=false:=row_thaw HR.out.row 2;have rq3:w6.cell? ⟨w.heap.size,3,none⟩=some (.string ⟨#[]⟩):=row_cell HR.out.row (j:=3) rfl;have rz3:w6.frozen? ⟨w.heap.size,3,none⟩=false:=row_thaw HR.out.row 3;have rq4:w6.cell? ⟨w.heap.size,4,none⟩=some (.string ⟨#[]⟩):=row_cell HR.out.row (j:=4) rfl;have rz4:w6.frozen? ⟨w.heap.size,4,none⟩=false:=row_thaw HR.out.row 4;have rlt:w.heap.size<w6.heap.size:=row_lt HR.out.row;go_wp2_with fail;refine body_cell3 rfl rfl (load_rrec (HR.out.sets _ _ _ _ _).row rfl) rfl ?_;exact rnext_no HF.out rfl (below_sets HB6.out _ _ _ _ _)
theorem rnext_3 (s:ByteArray)(p t j num ty q:Nat)(d:Int)(w:World)(hp:p≤s.size)(hs:s.size≤1000000000)(hT:TagIs s p t j num ty q)(h1:1≤num)(h2:num≤536870911)(h3:ty=3)(hg:∀ w,Calls Tryz.prog 175 #[.string s,.int .i64 q,.int .i64 num,.int .i64 d] w (RGroupPost s q num d w))(k:Nat)(hw:wgroup (s.data.toList.drop q) [num] d = .ok k) :
  Calls Tryz.prog 139 #[.string s,.int .i64 p,.int .i64 d] w (RNextPost s p d w):=by
 have HF:Hid (wnx (s.data.toList.drop p) d = .ok (⟨num,3,0,[],(s.data.toList.drop p).take (j+k)⟩,j+k)):=hid (by rw[wnx_group (h3 ▸ hT.whd h1 h2 (by omega)),List.drop_drop,←hT.2.2.2.1,hw]);have HGR:=hid hg;have HW:=hid hw;have HG0:=hid (hT.get hp);have ht:t<18446744073709551616:=hT.2.2.2.2.2;have ha:=u64_and7 t ht;rw[←hT.2.2.1] at ha;have hsh:(t:Int) / 8=(num:Int):=by have:=hT.2.1;omega
 have hqs:q≤s.size:=hT.2.2.2.2.1;have hpq:p≤q:=by have:=hT.2.2.2.1;omega
 have HQ:=hid hT.2.2.2.1;have HTT:=hid hT;have hqk:q+k≤s.size:=by have:=(wgroup_bounds _ (Nat.lt_succ_self _) hw).1;simp at this;omega
 clear hT HTT hg hw;subst h3;go_enter Tryz.func139,Tryz.ntmps139;go_wp2_with fail;refine (rget_ok s p _ (by omega) HG0.out).mono ?_;rintro e w' ⟨rfl,rfl⟩;go_wp2_with fail;refine (HGR.out _).mono ?_;intro e w6 hpost;unfold RGroupPost at hpost
 rw[HW.out] at hpost;obtain ⟨rfl,hb6⟩:=hpost;have HR:=hid (RRow.below (w:=(w.alloc (.cells #[.int .i64 0,.int .i64 0,.int .u64 0,.string ⟨#[]⟩,.string ⟨#[]⟩] 71)).alloc (.cells #[.int .i64 num,.int .i64 3,.int .u64 0,.string ⟨#[]⟩,.string ⟨#[]⟩] 71)) (b:=w.heap.size) (cs:=#[.int .i64 0,.int .i64 0,.int .u64 0,.string ⟨#[]⟩,.string ⟨#[]⟩]) ⟨old_two _ _ _⟩ hb6);have HB6:=hid (below_step (below_step (below_new _ _) (below_new _ _)) hb6);have HR9:=hid (RRow.below (w:=(w.alloc (.cells #[.int .i64 0,.int .i64 0,.int .u64 0,.string ⟨#[]⟩,.string ⟨#[]⟩] 71)).alloc (.cells #[.int .i64 num,.int .i64 3,.int .u64 0,.string ⟨#[]⟩,.string ⟨#[]⟩] 71)) (b:=w.heap.size+1) (cs:=#[.int .i64 num,.int .i64 3,.int .u64 0,.string ⟨#[]⟩,.string ⟨#[]⟩]) ⟨by have:=heap_alloc_new (w.alloc (.cells #[.int .i64 0,.int .i64 0,.int .u64 0,.string ⟨#[]⟩,.string ⟨#[]⟩] 71)) (.cells #[.int .i64 num,.int .i64 3,.int .u64 0,.string ⟨#[]⟩,.string ⟨#[]⟩] 71);rw[show (w.alloc (.cells #[.int .i64 0,.int .i64 0,.int .u64 0,.string ⟨#[]⟩,.string ⟨#[]⟩] 71)).heap.size=w.heap.size+1 by simp] at this;exact this⟩ hb6);have hne1:w.heap.size≠w.heap.size+1:=by omega
 clear hb6;have rq0:w6.cell? ⟨w.heap.size,0,none⟩=some (.int .i64 0):=row_cell HR.out.row (j:=0) rfl;have rz0:w6.frozen? ⟨w.heap.size,0,none⟩=false:=row_thaw HR.out.row 0;have rq1:w6.cell? ⟨w.heap.size,1,none⟩=some (.int .i64 0):=row_cell HR.out.row (j:=1) rfl;have rz1:w6.frozen? ⟨w.heap.size,1,none⟩=false:=row_thaw HR.out.row 1;have rq2:w6.cell? ⟨w.heap.size,2,none⟩=some (.int .u64 0):=row_cell HR.out.row (j:=2) rfl;have rz2:w6.frozen? ⟨w.heap.size,2,none⟩=false:=row_thaw HR.out.row 2;have rq3:w6.cell? ⟨w.heap.size,3,none⟩=some (.string ⟨#[]⟩):=row_cell HR.out.row (j:=3) rfl;have rz3:w6.frozen? ⟨w.heap.size,3,none⟩=false:=row_thaw HR.out.row 3;have rq4:w6.cell? ⟨w.heap.size,4,none⟩=some (.string ⟨#[]⟩):=row_cell HR.out.row (j:=4) rfl;have rz4:w6.frozen? ⟨w.heap.size,4,none⟩=false:=row_thaw HR.out.row 4;have rlt:w.heap.size<w6.heap.size:=row_lt HR.out.row;have sq0:w6.cell? ⟨w.heap.size+1,0,none⟩=some (.int .i64 num):=row_cell HR9.out.row (j:=0) rfl;have sz0:w6.frozen? ⟨w.heap.size+1,0,none⟩=false:=row_thaw HR9.out.row 0;have sq1:w6.cell? ⟨w.heap.size+1,1,none⟩=some (.int .i64 3):=row_cell HR9.out.row (j:=1) rfl;have sz1:w6.frozen? ⟨w.heap.size+1,1,none⟩=false:=row_thaw HR9.out.row 1;have sq2:w6.cell? ⟨w.heap.size+1,2,none⟩=some (.int .u64 0):=row_cell HR9.out.row (j:=2) rfl;have sz2:w6.frozen? ⟨w.heap.size+1,2,none⟩=false:=row_thaw HR9.out.row 2;have sq3:w6.cell? ⟨w.heap.size+1,3,none⟩=some (.string ⟨#[]⟩):=row_cell HR9.out.row (j:=3) rfl;have sz3:w6.frozen? ⟨w.heap.size+1,3,none⟩=false:=row_thaw HR9.out.row 3;have sq4:w6.cell? ⟨w.heap.size+1,4,none⟩=some (.string ⟨#[]⟩):=row_cell HR9.out.row (j:=4) rfl;have sz4:w6.frozen? ⟨w.heap.size+1,4,none⟩=false:=row_thaw HR9.out.row 4;have slt:w.heap.size+1<w6.heap.size:=row_lt HR9.out.row;go_wp2_with fail;refine body_cell3 rfl rfl (load_rrec ((HR.out.other hne1 _ _).sets _ _ _ _ _).row rfl) rfl ?_;exact rnext_ok HF.out (by rw[ext_str,show q+k - p=j+k by have:=HQ.out;omega];rfl) (by have:=HQ.out;simp;omega) (below_sets (below_set HB6.out (by omega) _ _) _ _ _ _ _)
open Go.RowKit
theorem og_step {l:List UInt8}{num:Nat}{d:Int}(h1:1≤num)(h2:num≤536870911):opt (wgroup l [num] d)=if d<1 then none else match wv l with
  | .error _=>none
  | .ok (t,j)=>if t % 8=4 then (if t / 8=num then some j else none) else match opt (wnx l (d - 1)) with
   | none=>none
   | some (_,k)=>(opt (wgroup (l.drop k) [num] d)).map (k+·):=by
 rw[←rgr_eq (f:=l.length+2) (by omega) h1 h2,rgr]
 split
 ·rfl
 ·cases hv:wv l with
  | error c=>rfl
  | ok x =>
   obtain ⟨t,j⟩:=x;dsimp only
   split
   ·rfl
   ·rw[rnx_eq (by omega)]
    cases hn:wnx l (d - 1) with
    | error c=>rfl
    | ok y =>
     obtain ⟨r,k⟩:=y
     show (rgr (l.length+1) (l.drop k) num d).map (k+·)=_
     rw[rgr_eq (by simp;omega) h1 h2]
     rfl
theorem rg_no {s:ByteArray}{p num:Nat}{d:Int}{w w':World}{x:Int}(h:opt (wgroup (s.data.toList.drop p) [num] d)=none)(hB:Below w.heap.size w w'):RGroupPost s p num d w (.returned (.tuple #[.int .i64 x,.bool false])) w':=by
 unfold RGroupPost
 cases hw:wgroup (s.data.toList.drop p) [num] d with
 | error c=>exact ⟨⟨x,rfl⟩,hB⟩
 | ok k=>rw[hw] at h;cases h
theorem rg_ok {s:ByteArray}{p num k:Nat}{d:Int}{w w':World}{x:Int}(h:opt (wgroup (s.data.toList.drop p) [num] d)=some k)(hx:x=((p+k:Nat):Int))(hB:Below w.heap.size w w'):RGroupPost s p num d w (.returned (.tuple #[.int .i64 x,.bool true])) w':=by
 subst hx;unfold RGroupPost
 cases hw:wgroup (s.data.toList.drop p) [num] d with
 | error c=>rw[hw] at h;cases h
 | ok k' =>
  rw[hw] at h
  simp only[opt,Option.some.injEq] at h
  subst h;exact ⟨rfl,hB⟩
def OgRel (s:ByteArray)(p num:Nat)(d:Int)(q:Nat):Prop:=p≤q∧q≤s.size∧opt (wgroup (s.data.toList.drop p) [num] d)=(opt (wgroup (s.data.toList.drop q) [num] d)).map (q - p+·)
theorem og_start {s:ByteArray}{p num:Nat}{d:Int}(hp:p≤s.size):OgRel s p num d p:=by
 refine ⟨Nat.le_refl _,hp,?_⟩;rw[Nat.sub_self]
 cases opt (wgroup (s.data.toList.drop p) [num] d)<;>simp
theorem og_none {s:ByteArray}{p num q:Nat}{d:Int}(h:OgRel s p num d q)(hn:opt (wgroup (s.data.toList.drop q) [num] d)=none):opt (wgroup (s.data.toList.drop p) [num] d)=none:=by
 rw[h.2.2,hn];rfl
theorem og_next {s:ByteArray}{p num q k:Nat}{d:Int}(h:OgRel s p num d q)(hk:q+k≤s.size)(hn:opt (wgroup (s.data.toList.drop q) [num] d)=(opt (wgroup ((s.data.toList.drop q).drop k) [num] d)).map (k+·)):OgRel s p num d (q+k):=by
 obtain ⟨a,b,c⟩:=h;refine ⟨by omega,hk,?_⟩;rw[c,hn,List.drop_drop]
 cases opt (wgroup (s.data.toList.drop (q+k)) [num] d) with
 | none=>rfl
 | some z=>simp;omega
theorem rgroup_of (s:ByteArray) (p num:Nat) (d:Int) (w:World) (hp:p≤s.size) (hs:s.size≤1000000000) (h1:1≤num) (h2:num≤536870911) (hd:d≤9223372036854775807)
  (hX:∀ q,p≤q→q≤s.size→∀ w,Calls Tryz.prog 139 #[.string s,.int .i64 q,.int .i64 (d - 1)] w (RNextPost s q (d - 1) w)) :
  Calls Tryz.prog 175 #[.string s,.int .i64 p,.int .i64 num,.int .i64 d] w (RGroupPost s p num d w):=by
 have HX:=hid hX;have HP:=hid hp;clear hX
 by_cases hd1:d<1
 ·have HF:Hid (opt (wgroup (s.data.toList.drop p) [num] d)=none):=hid (by rw[og_step h1 h2,if_pos hd1])
  go_enter Tryz.func175,Tryz.ntmps175;go_wp2_with fail
  go_ret2
  exact rg_no HF.out (Below.refl _ _)
 ·have hd0:1≤d:=by omega
  clear hd1;go_enter Tryz.func175,Tryz.ntmps175;go_wp2_with fail
  go_loopg [1] (s.size - p) (fun g a wr=>∃ q:Nat,q+g=s.size∧a = .int .i64 q∧OgRel s p num d q∧Below w.heap.size w wr)
  case atStart=>exact ⟨p,by have:=HP.out;omega,rfl,og_start HP.out,Below.refl _ _⟩
  case round =>
   obtain ⟨q,hqg,rfl,hrel,hb⟩:=hrel;have HR:=hid hrel;have HB:=hid hb;have HQ:=hid hqg;have hqs:q≤s.size:=hrel.2.1;have hpq:p≤q:=hrel.1;have HST:=hid (og_step (l:=s.data.toList.drop q) (d:=d) h1 h2);clear hrel hb hqg
   cases hv:wv (s.data.toList.drop q) with
   | error c =>
    have HF:=hid (og_none HR.out (by rw[HST.out,if_neg (by omega),hv]));have HG:=hid (vget_no (p:=q) (by simpa using hqs) hv);have hc0:((c:Int) != 0)=true:=by have:=wv_err hv;simp;omega
    clear hv;go_wp2_with fail;refine (rget_err s q _ (by omega) HG.out).mono ?_;rintro e w' ⟨rfl,rfl⟩;go_wp2_with fail
    go_ret2
    exact rg_no HF.out HB.out
   | ok x =>
    obtain ⟨t,j⟩:=x;have HG:=hid (vget_ok (p:=q) (by simpa using hqs) hv);have hvb:=wv_bounds hv;have hqj:q+j≤s.size:=by have:=hvb.2.1;simp at this;omega
    have ht:t<18446744073709551616:=hvb.2.2.2;obtain ⟨ty,hty⟩:∃ ty,ty=t % 8:=⟨_,rfl⟩
    obtain ⟨m,hm⟩:∃ m,m=t / 8:=⟨_,rfl⟩
    have ha:=u64_and7 t ht;rw[←hty] at ha;have hsh:(t:Int) / 8=(m:Int):=by omega
    have hST2:=HST.out;rw[if_neg (by omega),hv] at hST2;dsimp only at hST2;rw[←hty,←hm] at hST2;have HS2:=hid hST2;have hty8:ty<8:=by omega
    clear hv hvb hST2 hty hm
    by_cases h4:ty=4
    ·subst h4
     by_cases hmn:m=num
     ·have HF:Hid (opt (wgroup (s.data.toList.drop p) [num] d)=some (q - p+j)):=hid (by rw[HR.out.2.2,HS2.out,if_pos rfl,if_pos hmn];rfl)
      have heq:((m:Int) == (num:Int))=true:=by simp;omega
      clear hmn;go_wp2_with fail;refine (rget_ok s q _ (by omega) HG.out).mono ?_;rintro e w' ⟨rfl,rfl⟩;go_wp2_with fail
      go_ret2
      exact rg_ok HF.out (by simp;omega) HB.out
     ·have HF:=hid (og_none HR.out (by rw[HS2.out,if_pos rfl,if_neg hmn]))
      have heq:((m:Int) == (num:Int))=false:=by simp;omega
      clear hmn;go_wp2_with fail;refine (rget_ok s q _ (by omega) HG.out).mono ?_;rintro e w' ⟨rfl,rfl⟩;go_wp2_with fail
      go_ret2
      exact rg_no HF.out HB.out
    ·have h4':((ty:Int) == 4)=false:=by simp;omega
     cases hn:wnx (s.data.toList.drop q) (d - 1) with
     | error c =>
      have HN:=hid hn;have HF:=hid (og_none HR.out (by rw[HS2.out,if_neg h4,hn];rfl));clear hn h4;go_wp2_with fail;refine (rget_ok s q _ (by omega) HG.out).mono ?_;rintro e w' ⟨rfl,rfl⟩;go_wp2_with fail;refine (HX.out q hpq hqs _).mono ?_;intro e w1 hpost;unfold RNextPost at hpost
      rw[HN.out] at hpost;obtain ⟨rfl,hb1⟩:=hpost;have HB1:=hid (below_step (below_step HB.out hb1) (below_new _ (.cells #[.int .i64 0,.int .i64 0,.int .u64 0,.string ⟨#[]⟩,.string ⟨#[]⟩] 71)));clear hb1;unfold rec0;go_wp2_with fail
      go_ret2
      exact rg_no HF.out HB1.out
     | ok y =>
      obtain ⟨r,k⟩:=y;have HN:=hid hn;have hwl:=wnx_len hn;have hqk:q+k≤s.size:=by have:=hwl.2;simp at this;omega
      have hk2:2≤k:=hwl.1;have HG2:=hid (og_next HR.out hqk (by rw[HS2.out,if_neg h4,hn];rfl));clear hn h4 hwl;go_wp2_with fail;refine (rget_ok s q _ (by omega) HG.out).mono ?_;rintro e w' ⟨rfl,rfl⟩;go_wp2_with fail;refine (HX.out q hpq hqs _).mono ?_;intro e w1 hpost;unfold RNextPost at hpost
      rw[HN.out] at hpost;obtain ⟨rfl,hb1⟩:=hpost;have HB1:=hid (below_step HB.out hb1);clear hb1;unfold recV;go_wp2_with fail;have hq:=HQ.out
      go_roundg (s.size - (q+k))
      case measure=>omega
      case rel=>exact ⟨q+k,by omega,by simp,HG2.out,below_step HB1.out (below_new _ _)⟩
open Go.RowKit
def RNx (s:ByteArray)(p:Nat):Prop:=∀ (d:Int) (w:World),d≤9223372036854775807→Calls Tryz.prog 139 #[.string s,.int .i64 p,.int .i64 d] w (RNextPost s p d w)
def RGx (s:ByteArray)(p:Nat):Prop:=∀ (num:Nat) (d:Int) (w:World),1≤num→num≤536870911→d≤9223372036854775807 →
 Calls Tryz.prog 175 #[.string s,.int .i64 p,.int .i64 num,.int .i64 d] w (RGroupPost s p num d w)
theorem rnext_of (s:ByteArray)(p:Nat)(hs:s.size≤1000000000)(hp:p≤s.size)(hG:∀ q,p<q→q≤s.size→RGx s q):RNx s p:=by
 intro d w hd
 cases hv:wv (s.data.toList.drop p) with
 | error c=>exact rnext_wv s p c d w hp hs hv
 | ok x =>
  obtain ⟨t,j⟩:=x;have hvb:=wv_bounds hv;have hq:p+j≤s.size:=by have:=hvb.2.1;simp at this;omega
  have hT:TagIs s p t j (t / 8) (t % 8) (p+j):=⟨hv,rfl,rfl,rfl,hq,hvb.2.2.2⟩
  by_cases h1:t / 8<1∨536870911<t / 8
  ·exact rnext_num s p t j _ _ _ d w hp hs hT h1
  ·have h1':1≤t / 8:=by omega
   have h2:t / 8≤536870911:=by omega
   have hL:(s.data.toList.drop (p+j)).length=s.size - (p+j):=by simp
   rcases (by omega:t % 8=0∨t % 8=1∨t % 8=2∨t % 8=3∨t % 8=5∨(t % 8=4∨t % 8=6∨t % 8=7)) with h|h|h|h|h|h
   ·cases hv2:wv (s.data.toList.drop (p+j)) with
    | error c=>exact rnext_0no s p t j _ _ _ d w hp hs hT h1' h2 h c hv2
    | ok y=>exact rnext_0 s p t j _ _ _ d w hp hs hT h1' h2 h y.1 y.2 hv2
   ·by_cases hl:s.size - (p+j)<8
    ·exact rnext_1no s p t j _ _ _ d w hp hs hT h1' h2 h hl
    ·exact rnext_1 s p t j _ _ _ d w hp hs hT h1' h2 h (by omega)
   ·cases hv2:wv (s.data.toList.drop (p+j)) with
    | error c=>exact rnext_2no s p t j _ _ _ d w hp hs hT h1' h2 h c hv2
    | ok y =>
     have hyb:=(wv_bounds (n:=y.1) (j:=y.2) hv2).2.1
     by_cases hl:s.size - (p+j) - y.2<y.1
     ·exact rnext_2long s p t j _ _ _ d w hp hs hT h1' h2 h y.1 y.2 hv2 hl
     ·exact rnext_2 s p t j _ _ _ d w hp hs hT h1' h2 h y.1 y.2 hv2 (by omega)
   ·have hg:=fun w=>hG (p+j) (by omega) hq (t / 8) d w h1' h2 hd
    cases hw:wgroup (s.data.toList.drop (p+j)) [t / 8] d with
    | error c=>exact rnext_3no s p t j _ _ _ d w hp hs hT h1' h2 h hg c hw
    | ok k=>exact rnext_3 s p t j _ _ _ d w hp hs hT h1' h2 h hg k hw
   ·by_cases hl:s.size - (p+j)<4
    ·exact rnext_5no s p t j _ _ _ d w hp hs hT h1' h2 h hl
    ·exact rnext_5 s p t j _ _ _ d w hp hs hT h1' h2 h (by omega)
   ·exact rnext_kind s p t j _ _ _ d w hp hs hT h1' h2 h
theorem rall_of (s:ByteArray)(hs:s.size≤1000000000):∀ (N p:Nat),s.size - p≤N→p≤s.size→RNx s p∧RGx s p
 | N,p,hN,hp=>by
  have hG:∀ q,p<q→q≤s.size→RNx s q∧RGx s q:=fun q h1 h2=>by
   match N,hN with
   | 0,hN=>omega
   | N+1,hN=>exact rall_of s hs N q (by omega) h2
  have hX:RNx s p:=rnext_of s p hs hp fun q h1 h2=>(hG q h1 h2).2
  refine ⟨hX,fun num d w h1 h2 hd=>rgroup_of s p num d w hp hs h1 h2 hd fun q h3 h4 w'=>?_⟩
  by_cases hqp:q=p
  ·subst hqp;exact hX (d - 1) w' (by omega)
  ·exact (hG q (by omega) h4).1 (d - 1) w' (by omega)
theorem rnext_any (s:ByteArray)(p:Nat)(d:Int)(w:World)(hp:p≤s.size)(hs:s.size≤1000000000)(hd:d≤9223372036854775807) :
  Calls Tryz.prog 139 #[.string s,.int .i64 p,.int .i64 d] w (RNextPost s p d w):=(rall_of s hs _ p (Nat.le_refl _) hp).1 d w hd
theorem Tryz.elRRec:Elem Tryz.prog 68 71 (.agg #[.int .i64 0,.int .i64 0,.int .u64 0,.string ⟨#[]⟩,.string ⟨#[]⟩]) 5 56:=⟨Tryz.underlying68,by kernel_rfl,by decide⟩
def RAllPost (s:ByteArray)(d:Int)(w:World)(e:Ending)(w':World):Prop:=match wall s.data.toList d with
 | .error _=>e = .returned (.tuple #[.slice none 0 0,.bool false])∧Below w.heap.size w w'
 | .ok rs=>∃ u,e = .returned (.tuple #[u,.bool true])∧w'.ownsRow w.heap.size 71 5 u rs.length (rs.flatMap recCells)∧Below w.heap.size w w'
theorem rall_no {s:ByteArray}{c:Nat}{d:Int}{w w':World}(h:wall s.data.toList d = .error c)(hB:Below w.heap.size w w'):RAllPost s d w (.returned (.tuple #[.slice none 0 0,.bool false])) w':=by
 unfold RAllPost;rw[h];exact ⟨rfl,hB⟩
theorem rall_ok {s:ByteArray}{rs:List Rec}{d:Int}{w w':World}{u:Value}(h:wall s.data.toList d = .ok rs)(ho:w'.ownsRow w.heap.size 71 5 u rs.length (rs.flatMap recCells))(hB:Below w.heap.size w w'):RAllPost s d w (.returned (.tuple #[u,.bool true])) w':=by
 unfold RAllPost;rw[h];exact ⟨u,rfl,ho,hB⟩
theorem rall_any (s:ByteArray)(d:Int)(w:World)(hs:s.size≤1000000000)(hd:d≤9223372036854775807) :
  Calls Tryz.prog 86 #[.string s,.int .i64 d] w (RAllPost s d w):=by
 have HL:=hid (show s.data.toList.length=s.size by simp);have HS:=hid hs;have HD:=hid hd;clear hd;go_enter Tryz.func86,Tryz.ntmps86;go_wp2_with fail
 go_loopg [6,7] s.size (fun k v a wr=>∃ (q:Nat) (acc:List Rec),q+k=s.size∧a = .int .i64 q∧AlRel s.data.toList d q acc∧wr.ownsRow w.heap.size 71 5 v acc.length (acc.flatMap recCells)∧Below w.heap.size w wr)
 case atStart=>exact ⟨0,[],by omega,rfl,al_start _ _,World.ownsRow_nil _ _ _ _,Below.refl _ _⟩
 case round =>
  obtain ⟨q,acc,hqk,rfl,hal,hown,hb⟩:=hrel;have HA:=hid hal;have HB:=hid hb;have HQ:=hid hqk;have hqs:q≤s.size:=by omega
  have hsz:s.size≤1000000000:=HS.out;have hacc:acc.length≤q:=hal.2.1;have hwb:w.heap.size≤wr.heap.size:=hb.size;clear hal hb hqk
  by_cases hlt:q<s.size
  ·cases hn:wnx (s.data.toList.drop q) d with
   | error c =>
    have HN:=hid hn;have HF:=hid (al_err HA.out (by have:=HL.out;omega) hn);clear hn hown;go_wp2_with fail;refine (rnext_any s q d _ hqs hsz HD.out).mono ?_;intro e w1 hpost;unfold RNextPost at hpost
    rw[HN.out] at hpost;obtain ⟨rfl,hb1⟩:=hpost;have HB1:=hid (below_step HB.out hb1);clear hb1;unfold rec0;go_wp2_with fail
    go_ret2
    exact rall_no HF.out (below_step HB1.out (below_new _ _))
   | ok x =>
    obtain ⟨r,j⟩:=x;have HN:=hid hn;have HG:=hid (al_next HA.out hn);have HJ:=hid (wnx_len hn);have hqj:q+j≤s.size:=by have:=HJ.out.2;have:=HL.out;omega
    have hj2:2≤j:=HJ.out.1;clear hn;go_wp2_with fail;refine (rnext_any s q d _ hqs hsz HD.out).mono ?_;intro e w1 hpost;unfold RNextPost at hpost
    rw[HN.out] at hpost;obtain ⟨rfl,hb1⟩:=hpost;have HB1:=hid hb1;have hown1:=(own_below hown hb1).alloc (.cells #[.int .i64 r.num,.int .i64 r.ty,.int .u64 r.n,.string ⟨r.s.toArray⟩,.string ⟨r.raw.toArray⟩] 71);have hs1:=hb1.size;clear hb1 hown;unfold recV;go_wp2_with (at_builtin;refine wpList_app1 (c:=1) (cs:=recCells r) rfl _ _ 68 rfl Tryz.elRRec (by decide) hown1 rfl (by show Value.slice (some ⟨w1.heap.size+1,0,none⟩) 1 1=_;simp) rfl (by simp[recCells,Value.oneCell']) (by unfold maxLen;omega) (by omega) (by simp;omega) ?_;intro v' w2 hown' hgrow)
    have HO2:Hid (w2.ownsRow w.heap.size 71 5 v' (acc++[r]).length ((acc++[r]).flatMap recCells)):=hid (by
     have e1:(acc++[r]).length=acc.length+1:=by simp
     have e2:(acc++[r]).flatMap recCells=acc.flatMap recCells++recCells r:=by simp
     rw[e1,e2];exact hown')
    have HB2:Hid (Below w.heap.size w w2):=hid (((below_step HB.out HB1.out).alloc (by omega) _).grown hgrow (by simp;omega) (fun k hk=>(hown1.lt _ hk).1));have hq:=HQ.out
    go_roundg (s.size - (q+j))
    case measure=>omega
    case rel=>exact ⟨q+j,acc++[r],by omega,by simp,HG.out,HO2.out,HB2.out⟩
  ·have HF:=hid (al_end HA.out (by have:=HL.out;have:=HQ.out;omega))
   have HO:=hid hown;clear hown;go_wp2_with fail
   go_ret2
   exact rall_ok HF.out HO.out HB.out
open Go.RowKit
end Go.Proofs.YtficgfemmijaaaaGreatDoor
