/-
  wire.Tag, record, Varint, Bytes: what they write.
-/
import Derived.Test.YtficgfemmijaaaaGreatDoorWireMath
import Derived.Test.YtficgfemmijaaaaGreatDoorGet
import Derived.Test.YtficgfemmijaaaaGreatDoorUpd
import Derived.Deep.LoopGhost
import Derived.Test.YtficgfemmijaaaaGreatDoorWireR5
set_option maxRecDepth 1000000
set_option maxHeartbeats 16000000
namespace Go.Proofs.YtficgfemmijaaaaGreatDoor
open Go.RowKit
open Lib (hid)
def wtag (num kind:Int):List UInt8:=if num<1∨536870911<num∨kind<0∨5<kind then [] else vput (8 * num.toNat+kind.toNat)
theorem wtag_bad {num kind:Int}(h:num<1∨536870911<num∨kind<0∨5<kind):wtag num kind=[]:=if_pos h
theorem wtag_ok {num kind:Nat}(h1:1≤num)(h2:num≤536870911)(h3:kind≤5):wtag num kind=vput (8 * num+kind):=by
 unfold wtag;rw[if_neg (by omega)];simp
theorem tag_or {num kind:Nat}(h2:num≤536870911)(h3:kind≤5):bits .or .u64 ((num:Int) * 8) (kind:Int)=((8 * num+kind:Nat):Int):=by
 have e:(num:Int) * 8=((num * 8:Nat):Int):=by simp
 rw[e,u64_or_nat _ _ (by omega) (by omega),nat_join 3 (num * 8) kind (by omega) (by omega)]
 congr 1
 omega
theorem tag_any (num kind:Int)(w:World)(h1:-9223372036854775808≤num)(h2:num≤9223372036854775807)(h3:-9223372036854775808≤kind)(h4:kind≤9223372036854775807) :
  Calls Tryz.prog 18 #[.int .i64 num,.int .i64 kind] w fun e w'=>e = .returned (.string ⟨(wtag num kind).toArray⟩)∧Below w.heap.size w w':=by
 by_cases hb:num<1∨536870911<num∨kind<0∨5<kind
 ·have HF:=hid (wtag_bad hb)
  rcases (by omega:num<1∨(1≤num∧536870911<num)∨(1≤num∧num≤536870911∧kind<0)∨(1≤num∧num≤536870911∧0≤kind∧5<kind)) with h|⟨h,h'⟩|⟨h,h',h''⟩|⟨h,h',h'',h'''⟩
  all_goals clear hb
  all_goals go_enter Tryz.func18,Tryz.ntmps18
  all_goals go_wp2
  all_goals go_ret
  all_goals exact ⟨by rw[HF.out];rfl,Below.refl _ _⟩
 ·obtain ⟨n,rfl⟩:=Int.eq_ofNat_of_zero_le (show 0≤num by omega)
  obtain ⟨k,rfl⟩:=Int.eq_ofNat_of_zero_le (show 0≤kind by omega);have hn1:1≤n:=by omega
  have hn2:n≤536870911:=by omega
  have hk:k≤5:=by omega
  have HF:=hid (wtag_ok hn1 hn2 hk);have hor:=tag_or hn2 hk;have HP:=hid (put_start (n:=8 * n+k) (by omega));clear hb h1 h2 h3 h4;go_enter Tryz.func18,Tryz.ntmps18;have hput:=fun w=>put_any (8 * n+k) w HP.out
  rw[show ((8 * n+k:Nat):Int)=8 * (n:Int)+(k:Int) by simp] at hput;have HPUT:=hid hput;clear hput;go_wp2_with fail;refine (HPUT.out w).mono ?_;rintro e w' ⟨rfl,hb⟩;have HB:=hid hb;clear hb;go_wp2_with fail;go_ret;exact ⟨by rw[HF.out];rfl,HB.out⟩
def wrec (num kind:Int)(rest:List UInt8):List UInt8:=if wtag num kind=[] then [] else wtag num kind++rest
theorem vput_ne (n:Nat):vput n≠[]:=by
 intro h;have:=(vput_length n).1;rw[h] at this
 simp at this
theorem vput_len (n:Nat):(vput n).length≤10:=(vput_length n).2
theorem wtag_len (num kind:Int):(wtag num kind).length≤10:=by
 unfold wtag
 split
 ·simp
 ·exact vput_len _
theorem record_any (num kind:Int)(rest:List UInt8)(w:World)(h1:-9223372036854775808≤num)(h2:num≤9223372036854775807)(h3:-9223372036854775808≤kind)(h4:kind≤9223372036854775807)(hr:rest.length≤1000000000) :
  Calls Tryz.prog 151 #[.int .i64 num,.int .i64 kind,.string ⟨rest.toArray⟩] w fun e w'=>e = .returned (.string ⟨(wrec num kind rest).toArray⟩)∧Below w.heap.size w w':=by
 cases ht:wtag num kind with
 | nil =>
  have HF:Hid (wrec num kind rest=[]):=hid (by unfold wrec;rw[if_pos ht]);have HT:=hid ht;clear ht;go_enter Tryz.func151,Tryz.ntmps151;go_wp2_with fail;refine (tag_any num kind w h1 h2 h3 h4).mono ?_;rintro e w' ⟨rfl,hb⟩;have HB:=hid hb;rw[HT.out];clear hb;go_wp2_with fail;go_ret;exact ⟨by rw[HF.out];rfl,HB.out⟩
 | cons b t =>
  have HF:Hid (wrec num kind rest=(b::t)++rest):=hid (by unfold wrec;rw[if_neg (by rw[ht];simp),ht]);have hlen:t.length≤9:=by have:=wtag_len num kind;rw[ht] at this;simp at this;omega
  have HT:=hid ht;clear ht;go_enter Tryz.func151,Tryz.ntmps151;go_wp2_with fail;refine (tag_any num kind w h1 h2 h3 h4).mono ?_;rintro e w' ⟨rfl,hb⟩;have HB:=hid hb;rw[HT.out];clear hb;go_wp2_with fail;go_ret;exact ⟨by rw[HF.out];exact ret_str (ba_append _ _),HB.out⟩
theorem wvarint_any (num:Int)(n:Nat)(w:World)(h1:-9223372036854775808≤num)(h2:num≤9223372036854775807)(hn:n<2 ^ 64) :
  Calls Tryz.prog 107 #[.int .i64 num,.int .u64 n] w fun e w'=>e = .returned (.string ⟨(wrec num 0 (vput n)).toArray⟩)∧Below w.heap.size w w':=by
 have HP:=hid (put_start hn);have HV:=hid (vput_len n);clear hn;go_enter Tryz.func107,Tryz.ntmps107;go_wp2_with fail;refine (put_any n w HP.out).mono ?_;rintro e w1 ⟨rfl,hb1⟩;have HB1:=hid hb1;clear hb1;go_wp2_with fail;refine (record_any num 0 (vput n) w1 h1 h2 (by omega) (by omega) (by have:=HV.out;omega)).mono ?_;rintro e w2 ⟨rfl,hb2⟩;have HB2:=hid hb2;clear hb2;go_wp2_with fail;go_ret;exact ⟨rfl,HB1.out.trans (HB2.out.mono HB1.out.size)⟩
theorem wbytes_any (num:Int)(s:ByteArray)(w:World)(h1:-9223372036854775808≤num)(h2:num≤9223372036854775807)(hs:s.size≤1000000) :
  Calls Tryz.prog 146 #[.int .i64 num,.string s] w fun e w'=>e = .returned (.string ⟨(wrec num 2 (vput s.size++s.data.toList)).toArray⟩)∧Below w.heap.size w w':=by
 have HP:=hid (put_start (n:=s.size) (by omega));have hv:=vput_len s.size;have HL:=hid (show s.data.toList.length=s.size by simp);have HS:Hid ((ByteArray.mk (vput s.size).toArray)++s=ByteArray.mk (vput s.size++s.data.toList).toArray):=hid (by rw[←ba_append]);go_enter Tryz.func146,Tryz.ntmps146;go_wp2_with fail;refine (put_any s.size w HP.out).mono ?_;rintro e w1 ⟨rfl,hb1⟩;have HB1:=hid hb1;clear hb1;go_wp2_with fail;rw[HS.out];refine (record_any num 2 (vput s.size++s.data.toList) w1 h1 h2 (by omega) (by omega) (by simp;have:=HL.out;omega)).mono ?_;rintro e w2 ⟨rfl,hb2⟩;have HB2:=hid hb2;clear hb2;go_wp2_with fail;go_ret;exact ⟨rfl,HB1.out.trans (HB2.out.mono HB1.out.size)⟩
open Go.RowKit
def eight:Nat→Nat→List UInt8
 | 0,_=>[]
 | k+1,n=>UInt8.ofNat (n % 256)::eight k (n / 256)
theorem eight_8 (n:Nat):eight 8 n=[UInt8.ofNat (n % 256),UInt8.ofNat (n / 256 % 256),UInt8.ofNat (n / 65536 % 256),UInt8.ofNat (n / 16777216 % 256),UInt8.ofNat (n / 4294967296 % 256),UInt8.ofNat (n / 1099511627776 % 256),UInt8.ofNat (n / 281474976710656 % 256),UInt8.ofNat (n / 72057594037927936 % 256)]:=by
 simp only[eight,Nat.div_div_eq_div_mul]
theorem ofNat_val (x:Nat)(v:Int)(h:v=((x % 256:Nat):Int)):((UInt8.ofNat x).toNat:Int)=v:=by
 rw[h];simp
theorem conv_eight (n:Nat)(w:World)(hn:n<2 ^ 64) :
  (convert 193 9 (.slice (some ⟨w.heap.size,0,none⟩) 8 8)).run Tryz.prog (w.alloc (.cells #[.int .u8 ((n:Int) % 256),.int .u8 ((n:Int) / 256 % 256),.int .u8 ((n:Int) / 65536 % 256),.int .u8 ((n:Int) / 16777216 % 256),.int .u8 ((n:Int) / 4294967296 % 256),.int .u8 ((n:Int) / 1099511627776 % 256),.int .u8 ((n:Int) / 281474976710656 % 256),.int .u8 ((n:Int) / 72057594037927936)] 225)) = .ok (.string ⟨(eight 8 n).toArray⟩) (w.alloc (.cells #[.int .u8 ((n:Int) % 256),.int .u8 ((n:Int) / 256 % 256),.int .u8 ((n:Int) / 65536 % 256),.int .u8 ((n:Int) / 16777216 % 256),.int .u8 ((n:Int) / 4294967296 % 256),.int .u8 ((n:Int) / 1099511627776 % 256),.int .u8 ((n:Int) / 281474976710656 % 256),.int .u8 ((n:Int) / 72057594037927936)] 225)):=by
 rw[eight_8];refine run_convert_bytes_back _ 193 9 5 ⟨w.heap.size,0,none⟩ 8 [UInt8.ofNat (n % 256),UInt8.ofNat (n / 256 % 256),UInt8.ofNat (n / 65536 % 256),UInt8.ofNat (n / 16777216 % 256),UInt8.ofNat (n / 4294967296 % 256),UInt8.ofNat (n / 1099511627776 % 256),UInt8.ofNat (n / 281474976710656 % 256),UInt8.ofNat (n / 72057594037927936 % 256)] Tryz.underlying193 Tryz.underlying5 Tryz.underlying9 fun j hj=>?_
 have hadd:(⟨w.heap.size,0,none⟩:Addr).add j=⟨w.heap.size,j,none⟩:=by unfold Addr.add;split<;>simp_all
 rw[hadd,World.cell?_alloc_at _ _ _ _ rfl];have hj8:j<8:=hj
 rcases (by omega:j=0∨j=1∨j=2∨j=3∨j=4∨j=5∨j=6∨j=7) with rfl|rfl|rfl|rfl|rfl|rfl|rfl|rfl
 all_goals simp
 all_goals omega
theorem wfixed_any (num:Int)(n:Nat)(w:World)(h1:-9223372036854775808≤num)(h2:num≤9223372036854775807)(hn:n<2 ^ 64) :
  Calls Tryz.prog 105 #[.int .i64 num,.int .u64 n] w fun e w'=>e = .returned (.string ⟨(wrec num 1 (eight 8 n)).toArray⟩)∧Below w.heap.size w w':=by
 have hcv:=conv_eight n w hn;go_enter Tryz.func105,Tryz.ntmps105;go_wp2_with fail;refine wp_loop_rounds 9 ?_
 iterate 9 (rw[rounds_succ];go_wp2_with fail)
 refine (record_any num 1 (eight 8 n) _ h1 h2 (by omega) (by omega) (by rw[eight_8];simp)).mono ?_;rintro e w1 ⟨rfl,hb1⟩;have HB1:=hid (((Below.refl _ w).alloc (Nat.le_refl _) _).trans (hb1.mono (by simp)));clear hb1;go_wp2_with fail;go_ret;exact ⟨rfl,HB1.out⟩
open Go.RowKit
theorem Tryz.elU64:Elem Tryz.prog 27 24 (.int .u64 0) 1 8:=⟨Tryz.underlying27,by kernel_rfl,by decide⟩
def nats64 (l:List Nat):List Value:=l.map fun n:Nat => .int .u64 n
def wvs:Nat→List UInt8→Except Nat (List Nat)
 | 0,_ => .ok []
 | f+1,l=>if l=[] then .ok [] else match wv l with
  | .error c => .error c
  | .ok (n,j)=>match wvs f (l.drop j) with
   | .error c => .error c
   | .ok ns => .ok (n::ns)
def wvars (l:List UInt8):Except Nat (List Nat):=wvs l.length l
theorem wvs_fuel:∀ (f g:Nat) (l:List UInt8),l.length≤f→l.length≤g→wvs f l=wvs g l
 | 0,0,_,_,_=>rfl
 | 0,g+1,l,hf,_=>by
  have:l=[]:=List.length_eq_zero_iff.1 (by omega);rw[wvs,wvs,if_pos this]
 | f+1,0,l,_,hg=>by
  have:l=[]:=List.length_eq_zero_iff.1 (by omega);rw[wvs,wvs,if_pos this]
 | f+1,g+1,l,hf,hg=>by
  rw[wvs,wvs]
  split
  ·rfl
  ·cases h:wv l with
   | error c=>rfl
   | ok x =>
    obtain ⟨n,j⟩:=x;have:=wv_bounds h;dsimp only;rw[wvs_fuel f g _ (by simp;omega) (by simp;omega)]
theorem wvars_nil:wvars [] = .ok []:=rfl
theorem wvars_no {l:List UInt8}{c:Nat}(h0:l≠[])(h:wv l = .error c):wvars l = .error c:=by
 unfold wvars
 cases hl:l.length with
 | zero=>exact absurd (List.length_eq_zero_iff.1 hl) h0
 | succ f=>rw[wvs,if_neg h0,h]
theorem wvars_cons {l:List UInt8}{n j:Nat}(h:wv l = .ok (n,j)):wvars l=match wvars (l.drop j) with
  | .error c => .error c
  | .ok ns => .ok (n::ns):=by
 have hb:=wv_bounds h
 conv=>lhs;unfold wvars
 cases hl:l.length with
 | zero=>omega
 | succ f =>
  rw[wvs,if_neg (by intro e;subst e;simp at hl),h];dsimp only;have e:wvs f (l.drop j)=wvars (l.drop j):=wvs_fuel _ _ _ (by simp;omega) (by simp);rw[e]
def VarsPost (s:ByteArray)(w:World)(e:Ending)(w':World):Prop:=match wvars s.data.toList with
 | .error c=>∃ v,e = .returned (.tuple #[.slice none 0 0,v])∧∃ q:Nat,q≤s.size∧ErrNew w (q:Int) (c:Int) v w'
 | .ok ns=>∃ u,e = .returned (.tuple #[u,.nilIface])∧w'.ownsRow w.heap.size 24 1 u ns.length (nats64 ns)∧ns.length≤s.size∧Below w.heap.size w w'
theorem vars_no {s:ByteArray}{c:Nat}{w w':World}{v:Value}(h:wvars s.data.toList = .error c)(q:Nat)(hq:q≤s.size)(hE:ErrNew w (q:Int) (c:Int) v w'):VarsPost s w (.returned (.tuple #[.slice none 0 0,v])) w':=by
 unfold VarsPost;rw[h];exact ⟨v,rfl,q,hq,hE⟩
theorem vars_ok {s:ByteArray}{ns:List Nat}{w w':World}{u:Value}(h:wvars s.data.toList = .ok ns)(ho:w'.ownsRow w.heap.size 24 1 u ns.length (nats64 ns))(hl:ns.length≤s.size)(hB:Below w.heap.size w w'):VarsPost s w (.returned (.tuple #[u,.nilIface])) w':=by
 unfold VarsPost;rw[h];exact ⟨u,rfl,ho,hl,hB⟩
def VsRel (l:List UInt8)(q:Nat)(acc:List Nat):Prop:=q≤l.length∧acc.length≤q∧wvars l=match wvars (l.drop q) with
 | .error c => .error c
 | .ok ns => .ok (acc++ns)
theorem vs_start (l:List UInt8):VsRel l 0 []:=by
 refine ⟨by omega,by simp,?_⟩;rw[List.drop_zero]
 cases wvars l<;>rfl
theorem vs_err {l:List UInt8}{q c:Nat}{acc:List Nat}(h:VsRel l q acc)(hq:q<l.length)(hn:wv (l.drop q) = .error c):wvars l = .error c:=by
 rw[h.2.2,wvars_no (by intro e;have:=congrArg List.length e;simp at this;omega) hn]
theorem vs_next {l:List UInt8}{q j n:Nat}{acc:List Nat}(h:VsRel l q acc)(hn:wv (l.drop q) = .ok (n,j)):VsRel l (q+j) (acc++[n]):=by
 have hb:=wv_bounds hn
 simp at hb
 obtain ⟨h1,h2,h3⟩:=h;refine ⟨by omega,by simp;omega,?_⟩;rw[h3,wvars_cons hn,List.drop_drop]
 cases wvars (l.drop (q+j)) with
 | error c=>rfl
 | ok rs=>simp
theorem vs_end {l:List UInt8}{acc:List Nat}{q:Nat}(h:VsRel l q acc)(hq:q=l.length):wvars l = .ok acc:=by
 subst hq;rw[h.2.2,List.drop_length,wvars_nil]
 simp
theorem varints_any (s:ByteArray)(w:World)(hs:s.size≤1000000) :
  Calls Tryz.prog 138 #[.string s] w (VarsPost s w):=by
 have HL:=hid (show s.data.toList.length=s.size by simp);have HS:=hid hs;go_enter Tryz.func138,Tryz.ntmps138;go_wp2_with fail
 go_loopg [4,5] s.size (fun k v a wr=>∃ (q:Nat) (acc:List Nat),q+k=s.size∧a = .int .i64 q∧VsRel s.data.toList q acc∧wr.ownsRow w.heap.size 24 1 v acc.length (nats64 acc)∧Below w.heap.size w wr)
 case atStart=>exact ⟨0,[],by omega,rfl,vs_start _,World.ownsRow_nil _ _ _ _,Below.refl _ _⟩
 case round =>
  obtain ⟨q,acc,hqk,rfl,hal,hown,hb⟩:=hrel;have HA:=hid hal;have HB:=hid hb;have HQ:=hid hqk;have hqs:q≤s.size:=by omega
  have hsz:s.size≤1000000:=HS.out;have hacc:acc.length≤q:=hal.2.1;have hbs:w.heap.size≤wr.heap.size:=hb.size;clear hal hb hqk
  by_cases hlt:q<s.size
  ·cases hn:wv (s.data.toList.drop q) with
   | error c =>
    have HV:=hid (vget_no (by have:=HL.out;omega) hn);have HF:=hid (vs_err HA.out (by have:=HL.out;omega) hn);clear hn hown;go_wp2_with fail;refine (get_err s q _ (by unfold maxLen;omega) HV.out).mono ?_;rintro e w' ⟨rfl,rfl⟩;go_wp2_with fail
    go_ret2
    exact vars_no HF.out q hqs (errNew_at HB.out)
   | ok x =>
    obtain ⟨n,j⟩:=x;have HV:=hid (vget_ok (by have:=HL.out;omega) hn);have HG:=hid (vs_next HA.out hn);have HJ:=hid (wv_bounds hn);have hqj:q+j≤s.size:=by have:=HJ.out.2.1;simp at this;have:=HL.out;omega
    have hj1:1≤j:=HJ.out.1;clear hn
    go_wp2_with (first
     | (go_at_call 173;refine (get_ok s q _ (by unfold maxLen;omega) HV.out).mono ?_;rintro e w' ⟨rfl,rfl⟩)
     | (at_builtin;refine wpList_app1 rfl _ _ 27 rfl Tryz.elU64 (by decide) hown rfl rfl rfl (by simp[Value.oneCell']) (by unfold maxLen;omega) (by omega) hbs ?_;intro v' w2 hown' hgrow))
    have HO2:Hid (w2.ownsRow w.heap.size 24 1 v' (acc++[n]).length (nats64 (acc++[n]))):=hid (by simpa [nats64] using hown');have HB2:Hid (Below w.heap.size w w2):=hid (HB.out.grown hgrow hbs (fun k hk=>(hown.lt _ hk).1));have hq:=HQ.out
    go_roundg (s.size - (q+j))
    case measure=>omega
    case rel=>exact ⟨q+j,acc++[n],by omega,by simp,HG.out,HO2.out,HB2.out⟩
  ·have HF:=hid (vs_end HA.out (by have:=HL.out;have:=HQ.out;omega))
   have HO:=hid hown;clear hown;go_wp2_with fail
   go_ret2
   exact vars_ok HF.out HO.out (by omega) HB.out
theorem eight_len:∀ (k n:Nat),(eight k n).length=k
 | 0,_=>rfl
 | k+1,n=>by simp[eight,eight_len k]
theorem wv_vput (n:Nat)(t:List UInt8)(h:n<2 ^ 64):wv (vput n++t) = .ok (n,(vput n).length):=by
 have:=vgetGo_vputF 9 0 0 n t rfl (by omega)
 simpa [wv,vput] using this
theorem wvars_vputs:∀ (l:List Nat),(∀ n∈l,n<2 ^ 64)→wvars (vputs l) = .ok l
 | [],_=>rfl
 | n::l,h=>by
  have e:vputs (n::l)=vput n++vputs l:=rfl;have hv:=wv_vput n (vputs l) (h n List.mem_cons_self);rw[←e] at hv;rw[wvars_cons hv,e,List.drop_left];rw[wvars_vputs l (fun m hm=>h m (List.mem_cons_of_mem _ hm))]
theorem whd_vput {num ty:Nat}(u:List UInt8)(h1:1≤num)(h2:num≤536870911)(h3:ty≤5):whd (vput (8 * num+ty)++u) = .ok (num,ty,(vput (8 * num+ty)).length):=by
 have hv:=wv_vput (8 * num+ty) u (by omega);have:=whd_ok hv (by omega) (by omega) (by omega);rw[show (8 * num+ty) / 8=num by omega,show (8 * num+ty) % 8=ty by omega] at this;exact this
def Txt (t:List UInt8)(r:Rec):Prop:=r.raw=t∧r.ty≠3∧r.ty≠4∧∃ j k,j+k=t.length∧1≤j∧∀ u,whd (t++u) = .ok (r.num,r.ty,j)∧wbd ((t++u).drop j) r.ty = .ok (r.n,r.s,k)
theorem txt_wnx {t:List UInt8}{r:Rec}(h:Txt t r)(u:List UInt8)(d:Int):wnx (t++u) d = .ok (r,t.length):=by
 obtain ⟨h1,h2,h3,j,k,hjk,hj,hu⟩:=h;obtain ⟨ha,hb⟩:=hu u;unfold wnx;rw[ha];dsimp only;rw[if_neg h3,if_neg h2,hb];dsimp only;rw[hjk,List.take_left,←h1]
theorem txt_mk {num ty n:Nat}{s rest:List UInt8}(h1:1≤num)(h2:num≤536870911)(h3:ty=0∨ty=1∨ty=2)(hb:∀ u,wbd (rest++u) ty = .ok (n,s,rest.length)) :
  Txt (vput (8 * num+ty)++rest) ⟨num,ty,n,s,vput (8 * num+ty)++rest⟩:=by
 refine ⟨rfl,by show ty≠3;omega,by show ty≠4;omega,(vput (8 * num+ty)).length,rest.length,by simp,(vput_length _).1,fun u=>⟨?_,?_⟩⟩
 ·rw[List.append_assoc];exact whd_vput _ h1 h2 (by omega)
 ·rw[List.append_assoc,List.drop_left];exact hb u
theorem txt_num {num n:Nat}(h1:1≤num)(h2:num≤536870911)(hn:n<2 ^ 64):Txt (vput (8 * num+0)++vput n) ⟨num,0,n,[],vput (8 * num+0)++vput n⟩ :=
 txt_mk h1 h2 (.inl rfl) fun u=>by
  unfold wbd;rw[if_neg (by decide),if_neg (by decide),wv_vput n u hn]
  rfl
theorem txt_bytes {num:Nat}{s:List UInt8}(h1:1≤num)(h2:num≤536870911)(hs:s.length<2 ^ 64):Txt (vput (8 * num+2)++(vput s.length++s)) ⟨num,2,0,s,vput (8 * num+2)++(vput s.length++s)⟩ :=
 txt_mk h1 h2 (.inr (.inr rfl)) fun u=>by
  unfold wbd;rw[if_neg (by decide),if_neg (by decide),List.append_assoc,wv_vput s.length (s++u) hs];dsimp only;rw[if_neg (by decide),if_neg (by simp),List.drop_left,List.take_left]
  simp
theorem vgetGo_lt:∀ (f k m:Nat) (l:List UInt8) {n j:Nat},vgetGo f k m l = .ok (n,j)→k<j
 | 0,k,m,l,n,j,h=>by simp[vgetGo] at h
 | f+1,k,m,[],n,j,h=>by simp[vgetGo] at h
 | f+1,k,m,c::r,n,j,h=>by
  simp only[vgetGo] at h
  split at h
  ·simp at h
  ·split at h
   ·simp at h;omega
   ·have:=vgetGo_lt f _ _ r h;omega
theorem vgetGo_back:∀ (f k m:Nat) (l t:List UInt8) {n j:Nat},vgetGo f k m (l++t) = .ok (n,j)→j≤k+l.length→vgetGo f k m l = .ok (n,j)
 | 0,k,m,l,t,n,j,h,_=>by simp[vgetGo] at h
 | f+1,k,m,[],t,n,j,h,hj=>by
  have:=vgetGo_lt _ _ _ _ h
  simp at hj;omega
 | f+1,k,m,c::r,t,n,j,h,hj=>by
  simp only[vgetGo,List.cons_append] at h ⊢
  split at h
  ·simp at h
  ·rename_i h1
   rw[if_neg h1]
   split at h
   ·rename_i h2
    rw[if_pos h2];exact h
   ·rename_i h2
    rw[if_neg h2];exact vgetGo_back f _ _ r t h (by simp at hj;omega)
theorem wv_back {l t:List UInt8}{n j:Nat}(h:wv (l++t) = .ok (n,j))(hj:j≤l.length):wv l = .ok (n,j):=vgetGo_back _ _ _ _ t h (by omega)
theorem whd_back {l t:List UInt8}{num ty j:Nat}(h:whd (l++t) = .ok (num,ty,j))(hj:j≤l.length):whd l = .ok (num,ty,j):=by
 have hb:=whd_bounds h;have h1:=wv_back hb.2.2.2.2.2 hj;have:=whd_ok h1 (by omega) (by omega) (by omega);rw[this,show (8 * num+ty) / 8=num by omega,show (8 * num+ty) % 8=ty by omega]
theorem wbd_back {l t:List UInt8}{ty n k:Nat}{s:List UInt8}(h:wbd (l++t) ty = .ok (n,s,k))(hk:k≤l.length):wbd l ty = .ok (n,s,k):=by
 have hb:=wbd_bounds h;unfold wbd at h ⊢
 split at h
 ·rename_i h1
  rw[if_pos h1]
  split at h
  ·cases h
  ·have h8:k=8:=by simp only[Except.ok.injEq,Prod.mk.injEq] at h;omega
   rw[List.take_append_of_le_length (by omega)] at h;rw[if_neg (by omega)];exact h
 ·rename_i h1
  rw[if_neg h1]
  split at h
  ·rename_i h2
   rw[if_pos h2]
   split at h
   ·cases h
   ·have h4:k=4:=by simp only[Except.ok.injEq,Prod.mk.injEq] at h;omega
    rw[List.take_append_of_le_length (by omega)] at h;rw[if_neg (by omega)];exact h
  ·rename_i h2
   rw[if_neg h2]
   cases hv:wv (l++t) with
   | error c=>rw[hv] at h;cases h
   | ok x =>
    obtain ⟨m,j⟩:=x;rw[hv] at h;have hvb:=wv_bounds hv;dsimp only at h
    split at h
    ·rename_i h3
     have hjk:j=k:=by simp only[Except.ok.injEq,Prod.mk.injEq] at h;omega
     rw[wv_back hv (by omega)];dsimp only;rw[if_pos h3];exact h
    ·rename_i h3
     split at h
     ·cases h
     ·rename_i h4
      have hjk:k=j+m:=by simp only[Except.ok.injEq,Prod.mk.injEq] at h;omega
      rw[wv_back hv (by omega)];dsimp only;rw[if_neg h3,if_neg (by omega)];rw[List.drop_append_of_le_length (by omega),List.take_append_of_le_length (by simp;omega)] at h;exact h
theorem wgr_back:∀ (f:Nat) {l:List UInt8} {st:List Nat} {d:Int} {k:Nat} (t:List UInt8),l.length<f→k≤l.length→∀ g,(l++t).length<g→wgr g (l++t) st d = .ok k→wgr f l st d = .ok k
 | 0,_,_,_,_,_,h,_,_,_,_=>by omega
 | f + 1,l,st,d,k,t,hf,hk,g,hg,h=>by
  obtain ⟨g,rfl⟩:∃ g',g=g'+1:=⟨g - 1,by omega⟩
  rw[wgr] at h ⊢
  split at h
  ·rename_i h0
   rw[if_pos h0];exact h
  ·rename_i h0
   rw[if_neg h0]
   split at h
   ·cases h
   ·rename_i h1
    rw[if_neg h1]
    cases hh:whd (l++t) with
    | error c=>rw[hh] at h;cases h
    | ok x =>
     obtain ⟨num,ty,j⟩:=x;rw[hh] at h;have hb:=whd_bounds hh;have hgl:l.length+t.length<g+1:=by simpa using hg
     dsimp only at h
     split at h
     ·rename_i h3
      obtain ⟨i,hi,rfl⟩:=wadd_ok h;have hd:(l++t).drop j=l.drop j++t:=List.drop_append_of_le_length (by omega);rw[whd_back hh (by omega)];dsimp only;rw[if_pos h3];rw[hd] at hi;rw[wgr_back f t (by simp;omega) (by simp;omega) g (by simp;omega) hi];rfl
     ·rename_i h3
      split at h
      ·rename_i h4
       split at h
       ·rename_i h5
        obtain ⟨i,hi,rfl⟩:=wadd_ok h;have hd:(l++t).drop j=l.drop j++t:=List.drop_append_of_le_length (by omega);rw[whd_back hh (by omega)];dsimp only;rw[if_neg h3,if_pos h4,if_pos h5];rw[hd] at hi;rw[wgr_back f t (by simp;omega) (by simp;omega) g (by simp;omega) hi];rfl
       ·cases h
      ·rename_i h4
       cases hbd:wbd ((l++t).drop j) ty with
       | error c=>rw[hbd] at h;cases h
       | ok y =>
        obtain ⟨n,s,m⟩:=y;rw[hbd] at h;dsimp only at h;obtain ⟨i,hi,rfl⟩:=wadd_ok h;have hd:(l++t).drop j=l.drop j++t:=List.drop_append_of_le_length (by omega);have hd2:(l++t).drop (j+m)=l.drop (j+m)++t:=List.drop_append_of_le_length (by omega);rw[whd_back hh (by omega)];dsimp only;rw[if_neg h3,if_neg h4];rw[hd] at hbd;rw[wbd_back hbd (by simp;omega)];dsimp only;rw[hd2] at hi;have hm1:=(wbd_bounds hbd).1;rw[wgr_back f t (by simp;omega) (by simp;omega) g (by simp;omega) hi];rfl
theorem wnx_back {l t:List UInt8}{d:Int}{r:Rec}{q:Nat}(h:wnx (l++t) d = .ok (r,q))(hq:q≤l.length):wnx l d = .ok (r,q):=by
 unfold wnx at h ⊢
 cases hh:whd (l++t) with
 | error c=>rw[hh] at h;cases h
 | ok x =>
  obtain ⟨num,ty,j⟩:=x;rw[hh] at h;have hb:=whd_bounds hh;dsimp only at h
  split at h
  ·cases h
  ·rename_i h4
   split at h
   ·rename_i h3
    cases hg:wgroup ((l++t).drop j) [num] d with
    | error c=>rw[hg] at h;cases h
    | ok k =>
     rw[hg] at h;dsimp only at h;have hjk:j+k=q:=by simp only[Except.ok.injEq,Prod.mk.injEq] at h;exact h.2
     have hd:(l++t).drop j=l.drop j++t:=List.drop_append_of_le_length (by omega);rw[whd_back hh (by omega)];dsimp only;rw[if_neg h4,if_pos h3];rw[hd] at hg;have e:wgroup (l.drop j) [num] d = .ok k:=wgr_back _ t (Nat.lt_succ_self _) (by simp;omega) _ (Nat.lt_succ_self _) hg;rw[e];dsimp only;rw[List.take_append_of_le_length (by omega)] at h;exact h
   ·rename_i h3
    cases hbd:wbd ((l++t).drop j) ty with
    | error c=>rw[hbd] at h;cases h
    | ok y =>
     obtain ⟨n,s,m⟩:=y;rw[hbd] at h;dsimp only at h;have hjk:j+m=q:=by simp only[Except.ok.injEq,Prod.mk.injEq] at h;exact h.2
     have hd:(l++t).drop j=l.drop j++t:=List.drop_append_of_le_length (by omega);rw[whd_back hh (by omega)];dsimp only;rw[if_neg h4,if_neg h3];rw[hd] at hbd;rw[wbd_back hbd (by simp;omega)];dsimp only;rw[List.take_append_of_le_length (by omega)] at h;exact h
theorem wnx_raw {l:List UInt8}{d:Int}{r:Rec}{q:Nat}(h:wnx l d = .ok (r,q))(u:List UInt8):wnx (r.raw++u) d = .ok (r,r.raw.length):=by
 have hb:=wnx_bounds h;have e:l=l.take q++l.drop q:=(List.take_append_drop q l).symm;rw[e] at h;have hl:(l.take q).length=q:=by rw[List.length_take];omega
 have h2:=wnx_append u (wnx_back h (by omega));rw[hb.2.2.1,hl];exact h2
theorem wnx_facts {l:List UInt8}{d:Int}{r:Rec}{q:Nat}(h:wnx l d = .ok (r,q)):r.n<2 ^ 64∧r.s.length≤q:=by
 unfold wnx at h
 cases hh:whd l with
 | error c=>rw[hh] at h;cases h
 | ok x =>
  obtain ⟨num,ty,j⟩:=x;rw[hh] at h;dsimp only at h
  split at h
  ·cases h
  ·split at h
   ·cases hg:wgroup (l.drop j) [num] d with
    | error c=>rw[hg] at h;cases h
    | ok k =>
     rw[hg] at h
     simp only[Except.ok.injEq,Prod.mk.injEq] at h
     obtain ⟨rfl,rfl⟩:=h;exact ⟨by show 0<2 ^ 64;decide,Nat.zero_le _⟩
   ·cases hbd:wbd (l.drop j) ty with
    | error c=>rw[hbd] at h;cases h
    | ok y =>
     obtain ⟨n,s,m⟩:=y;rw[hbd] at h
     simp only[Except.ok.injEq,Prod.mk.injEq] at h
     obtain ⟨rfl,rfl⟩:=h;have hb:=wbd_bounds hbd;refine ⟨?_,by show s.length≤j+m;omega⟩
     show n<2 ^ 64
     unfold wbd at hbd
     split at hbd
     ·split at hbd
      ·cases hbd
      ·simp only[Except.ok.injEq,Prod.mk.injEq] at hbd
       have:=wlit_lt ((l.drop j).take 8);rw[hbd.1,List.length_take] at this;have h8:min 8 (l.drop j).length=8:=by omega
       rw[h8] at this;exact this
     ·split at hbd
      ·split at hbd
       ·cases hbd
       ·simp only[Except.ok.injEq,Prod.mk.injEq] at hbd
        have:=wlit_lt ((l.drop j).take 4);rw[hbd.1,List.length_take] at this;have h8:min 4 (l.drop j).length=4:=by omega
        rw[h8] at this;omega
      ·cases hv:wv (l.drop j) with
       | error c=>rw[hv] at hbd;cases hbd
       | ok x =>
        obtain ⟨m',j'⟩:=x;rw[hv] at hbd;have hvb:=(wv_bounds hv).2.2.2;dsimp only at hbd
        split at hbd
        ·simp only[Except.ok.injEq,Prod.mk.injEq] at hbd
         omega
        ·split at hbd
         ·cases hbd
         ·simp only[Except.ok.injEq,Prod.mk.injEq] at hbd
          omega
def IsRec (d:Int)(r:Rec):Prop:=∀ u,wnx (r.raw++u) d = .ok (r,r.raw.length)
theorem isrec_facts {d:Int}{r:Rec}(h:IsRec d r):r.n<2 ^ 64∧r.s.length≤r.raw.length∧2≤r.raw.length∧1≤r.num∧r.num≤536870911∧r.ty≤5:=by
 have h1:=h [];rw[List.append_nil] at h1;have h2:=wnx_facts h1;have h3:=wnx_bounds h1;exact ⟨h2.1,h2.2,h3.1,h3.2.2.2⟩
theorem wall_recs:∀ (n:Nat) {l:List UInt8} {d:Int} {rs:List Rec},l.length≤n→wall l d = .ok rs→∀ r∈rs,IsRec d r
 | n,l,d,rs,hn,h=>by
  rcases wall_inv h with ⟨_,rfl⟩|⟨r,q,ks,h1,h2,rfl,h4,h5,h6⟩
  ·intro r hr;cases hr
  ·match n,hn with
   | 0,hn=>omega
   | n+1,hn =>
    intro x hx
    rcases List.mem_cons.1 hx with rfl|hx
    ·exact wnx_raw h1
    ·exact wall_recs n (by simp;omega) h2 x hx
theorem recs_wall:∀ (rs:List Rec) (d:Int),(∀ r∈rs,IsRec d r)→wall (rs.flatMap Rec.raw) d = .ok rs
 | [],d,_=>wall_nil d
 | r::rs,d,h=>by
  have h1:=h r (List.mem_cons_self ..) (rs.flatMap Rec.raw);rw[List.flatMap_cons,wall_cons h1,List.drop_left,recs_wall rs d (fun x hx=>h x (List.mem_cons_of_mem _ hx))]
theorem txt_isrec {t:List UInt8}{r:Rec}(h:Txt t r)(d:Int):IsRec d r:=fun u=>by
 have:=txt_wnx h u d;have e:r.raw=t:=h.1;rw[e];exact this
theorem wgr_deeper:∀ (f:Nat) {l:List UInt8} {st:List Nat} {d d':Int} {k:Nat},d'≤d→wgr f l st d' = .ok k→wgr f l st d = .ok k
 | 0,_,_,_,_,_,_,h=>by cases h
 | f + 1,l,st,d,d',k,hd,h=>by
  rw[wgr] at h ⊢
  split at h
  ·rename_i h0
   rw[if_pos h0];exact h
  ·rename_i h0
   rw[if_neg h0]
   split at h
   ·cases h
   ·rename_i h1
    rw[if_neg (by omega)]
    cases hh:whd l with
    | error c=>rw[hh] at h;cases h
    | ok x =>
     obtain ⟨num,ty,j⟩:=x;rw[hh] at h;dsimp only at h ⊢
     split at h
     ·rename_i h3
      rw[if_pos h3];obtain ⟨i,hi,rfl⟩:=wadd_ok h;rw[wgr_deeper f hd hi];rfl
     ·rename_i h3
      rw[if_neg h3]
      split at h
      ·rename_i h4
       rw[if_pos h4]
       split at h
       ·rename_i h5
        rw[if_pos h5];obtain ⟨i,hi,rfl⟩:=wadd_ok h;rw[wgr_deeper f hd hi];rfl
       ·cases h
      ·rename_i h4
       rw[if_neg h4]
       cases hbd:wbd (l.drop j) ty with
       | error c=>rw[hbd] at h;cases h
       | ok y =>
        obtain ⟨n,s,m⟩:=y;rw[hbd] at h;dsimp only at h ⊢;obtain ⟨i,hi,rfl⟩:=wadd_ok h;rw[wgr_deeper f hd hi];rfl
theorem wnx_deeper {l:List UInt8}{d d':Int}{x:Rec × Nat}(hd:d'≤d)(h:wnx l d' = .ok x):wnx l d = .ok x:=by
 unfold wnx at h ⊢
 cases hh:whd l with
 | error c=>rw[hh] at h;cases h
 | ok y =>
  obtain ⟨num,ty,j⟩:=y;rw[hh] at h;dsimp only at h ⊢
  split at h
  ·cases h
  ·rename_i h4
   rw[if_neg h4]
   split at h
   ·rename_i h3
    rw[if_pos h3]
    cases hg:wgroup (l.drop j) [num] d' with
    | error c=>rw[hg] at h;cases h
    | ok k =>
     rw[hg] at h;have e:wgroup (l.drop j) [num] d = .ok k:=wgr_deeper _ hd hg;rw[e];exact h
   ·rename_i h3
    rw[if_neg h3];exact h
theorem wall_deeper:∀ (n:Nat) {l:List UInt8} {d d':Int} {rs:List Rec},d'≤d→l.length≤n→wall l d' = .ok rs→wall l d = .ok rs
 | n,l,d,d',rs,hd,hn,h=>by
  rcases wall_inv h with ⟨rfl,rfl⟩|⟨r,q,ks,h1,h2,rfl,h4,h5,h6⟩
  ·exact wall_nil d
  ·match n,hn with
   | 0,hn=>omega
   | n+1,hn =>
    rw[wall_cons (wnx_deeper hd h1),wall_deeper n hd (by simp;omega) h2]
def mfold {σ:Type}(tk:Rec→Bool)(step:σ→Rec→Except Nat σ):σ→List Rec→Except Nat σ
 | st,[] => .ok st
 | st,r::rs=>if tk r then (match step st r with
  | .error c => .error c
  | .ok st'=>mfold tk step st' rs) else mfold tk step st rs
def mrest (tk:Rec→Bool)(rs:List Rec):List Rec:=rs.filter fun r=>!tk r
def munk (tk:Rec→Bool)(rs:List Rec):List UInt8:=(mrest tk rs).flatMap Rec.raw
def mread {σ:Type}(tk:Rec→Bool)(step:σ→Rec→Except Nat σ)(st:σ)(l:List UInt8)(d:Int):Except Nat (σ × List UInt8) :=
 if d<0 then .error 6 else match wall l d with
  | .error c => .error c
  | .ok rs=>match mfold tk step st rs with
   | .error c => .error c
   | .ok st' => .ok (st',munk tk rs)
def munkOk (tk:Rec→Bool)(l:List UInt8)(d:Int):Bool:=match wall l d with
 | .error _=>false
 | .ok rs=>rs.all fun r=>!tk r
theorem munk_le (tk:Rec→Bool):∀ (rs:List Rec),(munk tk rs).length≤(rs.flatMap Rec.raw).length
 | []=>by simp[munk,mrest]
 | r::rs=>by
  have:=munk_le tk rs;unfold munk mrest at this ⊢
  rw[List.filter_cons,List.flatMap_cons,List.length_append]
  split
  ·rw[List.flatMap_cons,List.length_append];omega
  ·omega
theorem mfold_append {σ:Type}(tk:Rec→Bool)(step:σ→Rec→Except Nat σ):∀ (rs ts:List Rec) (st:σ),mfold tk step st (rs++ts)=match mfold tk step st rs with
  | .error c => .error c
  | .ok st'=>mfold tk step st' ts
 | [],ts,st=>rfl
 | r::rs,ts,st=>by
  simp only[List.cons_append,mfold]
  split
  ·cases step st r with
   | error c=>rfl
   | ok st'=>exact mfold_append tk step rs ts st'
  ·exact mfold_append tk step rs ts st
theorem munk_append (tk:Rec→Bool)(rs ts:List Rec):munk tk (rs++ts)=munk tk rs++munk tk ts:=by simp[munk,mrest]
theorem mfold_rest {σ:Type}(tk:Rec→Bool)(step:σ→Rec→Except Nat σ):∀ (rs:List Rec) (st:σ),(rs.all fun r=>!tk r)=true→mfold tk step st rs = .ok st
 | [],st,_=>rfl
 | r::rs,st,h=>by
  simp only[List.all_cons,Bool.and_eq_true,Bool.not_eq_true'] at h
  rw[mfold,if_neg (by rw[h.1];simp)];exact mfold_rest tk step rs st h.2
theorem mrest_all (tk:Rec→Bool)(rs:List Rec):((mrest tk rs).all fun r=>!tk r)=true:=by
 rw[List.all_eq_true];intro r hr;exact (List.mem_filter.1 hr).2
theorem mrest_id {tk:Rec→Bool}{rs:List Rec}(h:(rs.all fun r=>!tk r)=true):mrest tk rs=rs:=by
 rw[List.all_eq_true] at h;exact List.filter_eq_self.2 h
theorem munk_ok {tk:Rec→Bool}{l:List UInt8}{d:Int}{rs:List Rec}(h:wall l d = .ok rs):munkOk tk (munk tk rs) d=true:=by
 have h1:=wall_recs _ (Nat.le_refl _) h;have h2:=recs_wall (mrest tk rs) d (fun r hr=>h1 r (List.mem_filter.1 hr).1);unfold munkOk munk;rw[h2];exact mrest_all tk rs
theorem mread_put {σ:Type}{tk:Rec→Bool}{step:σ→Rec→Except Nat σ}{st st':σ}{rs:List Rec}{u:List UInt8}{d:Int}(hd:0≤d)(h:∀ r∈rs,∀ d,IsRec d r)(hf:mfold tk step st rs = .ok st')(hk:(rs.all fun r=>tk r)=true) :
  mread tk step st (rs.flatMap Rec.raw++u) d=match wall u d with
   | .error c => .error c
   | .ok us=>match mfold tk step st' us with
    | .error c => .error c
    | .ok st'' => .ok (st'',munk tk us):=by
 have h1:=recs_wall rs d (fun r hr=>h r hr d);unfold mread;rw[if_neg (by omega),wall_append _ u (Nat.le_refl _) h1]
 cases wall u d with
 | error c=>rfl
 | ok us =>
  dsimp only;rw[mfold_append,hf];dsimp only
  cases mfold tk step st' us with
  | error c=>rfl
  | ok st'' =>
   dsimp only
   have e:munk tk rs=[]:=by
    unfold munk mrest;rw[List.filter_eq_nil_iff.2 (fun r hr=>by have:=List.all_eq_true.1 hk r hr;simp[this])]
    rfl
   rw[munk_append,e,List.nil_append]
theorem mread_put_ok {σ:Type}{tk:Rec→Bool}{step:σ→Rec→Except Nat σ}{st st':σ}{rs:List Rec}{u:List UInt8}{d:Int}(hd:0≤d)(h:∀ r∈rs,∀ d,IsRec d r)(hf:mfold tk step st rs = .ok st')(hk:(rs.all fun r=>tk r)=true)(hu:munkOk tk u d=true) :
  mread tk step st (rs.flatMap Rec.raw++u) d = .ok (st',u):=by
 rw[mread_put hd h hf hk];unfold munkOk at hu
 cases hw:wall u d with
 | error c=>rw[hw] at hu;cases hu
 | ok us =>
  rw[hw] at hu;dsimp only at hu ⊢;rw[mfold_rest tk step us st' hu];dsimp only;unfold munk;rw[mrest_id hu,(wall_raws _ (Nat.le_refl _) hw).1]
theorem mread_put_no {σ:Type}{tk:Rec→Bool}{step:σ→Rec→Except Nat σ}{st st':σ}{rs:List Rec}{u:List UInt8}{d d':Int}(h:∀ r∈rs,∀ d,IsRec d r)(hf:mfold tk step st rs = .ok st')(hk:(rs.all fun r=>tk r)=true)(hu:munkOk tk u d=true)(hle:d'≤d)(hn:d' < 0∨munkOk tk u d'=false) :
  ∃ c,mread tk step st (rs.flatMap Rec.raw++u) d' = .error c:=by
 by_cases h0:d' < 0
 ·exact ⟨6,by unfold mread;rw[if_pos h0]⟩
 ·have hn2:munkOk tk u d'=false:=by rcases hn with hn|hn;exact absurd hn h0;exact hn
  rw[mread_put (by omega) h hf hk];unfold munkOk at hn2 hu
  cases hw:wall u d' with
  | error c=>exact ⟨c,rfl⟩
  | ok us =>
   exfalso
   rw[hw] at hn2;have h2:=wall_deeper _ hle (Nat.le_refl _) hw;rw[h2] at hu;dsimp only at hn2 hu;rw[hn2] at hu
   cases hu
end Go.Proofs.YtficgfemmijaaaaGreatDoor
