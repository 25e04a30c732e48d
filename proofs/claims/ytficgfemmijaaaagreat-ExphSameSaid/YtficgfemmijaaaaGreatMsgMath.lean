/-
  wire.Tag, record, Varint, Bytes: what they write.
-/
import Derived.Test.YtficgfemmijaaaaGreatWireMath
import Derived.Test.YtficgfemmijaaaaGreatGet
import Derived.Test.YtficgfemmijaaaaGreatKit
import Derived.Test.YtficgfemmijaaaaGreatUpd
import Derived.Deep.LoopGhost
import Derived.Test.YtficgfemmijaaaaGreatWireR5
set_option maxRecDepth 1000000
set_option maxHeartbeats 16000000
namespace Go.Proofs.YtficgfemmijaaaaGreat
open Go.RowKit
def wtag (num kind:Int):List UInt8:=if num<1∨536870911<num∨kind<0∨5<kind then [] else vput (8 * num.toNat+kind.toNat)
theorem wtag_bad {num kind:Int} (h:num<1∨536870911<num∨kind<0∨5<kind):wtag num kind=[]:=if_pos h
theorem wtag_ok {num kind:Nat} (h1:1≤num) (h2:num≤536870911) (h3:kind≤5):wtag num kind=vput (8 * num+kind):=by
 unfold wtag;rw[if_neg (by omega)];simp
theorem tag_or {num kind:Nat} (h2:num≤536870911) (h3:kind≤5):bits .or .u64 ((num:Int) * 8) (kind:Int)=((8 * num+kind:Nat):Int):=by
 have e:(num:Int) * 8=((num * 8:Nat):Int):=by simp
 rw[e,u64_or_nat _ _ (by omega) (by omega),nat_join 3 (num * 8) kind (by omega) (by omega)]
 congr 1
 omega
theorem tag_any (num kind:Int) (w:World) (h1 : -9223372036854775808≤num) (h2:num≤9223372036854775807) (h3 : -9223372036854775808≤kind) (h4:kind≤9223372036854775807) :
  Calls Tryz.prog 111 #[.int .i64 num,.int .i64 kind] w fun e w'=>e = .returned (.string ⟨(wtag num kind).toArray⟩)∧Below w.heap.size w w':=by
 by_cases hb:num<1∨536870911<num∨kind<0∨5<kind
 ·have HF:=Lib.hid (wtag_bad hb)
  rcases (by omega:num<1∨(1≤num∧536870911<num)∨(1≤num∧num≤536870911∧kind<0)∨(1≤num∧num≤536870911∧0≤kind∧5<kind)) with h|⟨h,h'⟩|⟨h,h',h''⟩|⟨h,h',h'',h'''⟩
  all_goals clear hb
  all_goals go_enter Tryz.func111,Tryz.ntmps111
  all_goals go_wp2
  all_goals go_ret
  all_goals exact ⟨by rw[HF.out];rfl,Below.refl _ _⟩
 ·obtain ⟨n,rfl⟩:=Int.eq_ofNat_of_zero_le (show 0≤num by omega)
  obtain ⟨k,rfl⟩:=Int.eq_ofNat_of_zero_le (show 0≤kind by omega)
  have hn1:1≤n:=by omega
  have hn2:n≤536870911:=by omega
  have hk:k≤5:=by omega
  have HF:=Lib.hid (wtag_ok hn1 hn2 hk)
  have hor:=tag_or hn2 hk
  have HP:=Lib.hid (put_start (n:=8 * n+k) (by omega))
  clear hb h1 h2 h3 h4
  go_enter Tryz.func111,Tryz.ntmps111
  have hput:=fun w=>put_any (8 * n+k) w HP.out
  rw[show ((8 * n+k:Nat):Int)=8 * (n:Int)+(k:Int) by simp] at hput
  have HPUT:=Lib.hid hput
  clear hput
  go_wp2_with fail
  refine (HPUT.out w).mono ?_;rintro e w' ⟨rfl,hb⟩
  have HB:=Lib.hid hb
  clear hb
  go_wp2_with fail
  go_ret
  exact ⟨by rw[HF.out];rfl,HB.out⟩
def wrec (num kind:Int) (rest:List UInt8):List UInt8:=if wtag num kind=[] then [] else wtag num kind++rest
theorem vput_len (n:Nat):(vput n).length≤10:=(vput_length n).2
theorem wtag_len (num kind:Int):(wtag num kind).length≤10:=by
 unfold wtag
 split
 ·simp
 ·exact vput_len _
theorem record_any (num kind:Int) (rest:List UInt8) (w:World) (h1 : -9223372036854775808≤num) (h2:num≤9223372036854775807) (h3 : -9223372036854775808≤kind) (h4:kind≤9223372036854775807) (hr:rest.length≤1000000000) :
  Calls Tryz.prog 92 #[.int .i64 num,.int .i64 kind,.string ⟨rest.toArray⟩] w fun e w'=>e = .returned (.string ⟨(wrec num kind rest).toArray⟩)∧Below w.heap.size w w':=by
 cases ht:wtag num kind with
 | nil =>
  have HF:Hid (wrec num kind rest=[]):=Lib.hid (by unfold wrec;rw[if_pos ht])
  have HT:=Lib.hid ht
  clear ht
  go_enter Tryz.func92,Tryz.ntmps92
  go_wp2_with fail
  refine (tag_any num kind w h1 h2 h3 h4).mono ?_;rintro e w' ⟨rfl,hb⟩
  have HB:=Lib.hid hb
  rw[HT.out]
  clear hb
  go_wp2_with fail
  go_ret
  exact ⟨by rw[HF.out];rfl,HB.out⟩
 | cons b t =>
  have HF:Hid (wrec num kind rest=(b::t)++rest):=Lib.hid (by unfold wrec;rw[if_neg (by rw[ht];simp),ht])
  have hlen:t.length≤9:=by have:=wtag_len num kind;rw[ht] at this;simp at this;omega
  have HT:=Lib.hid ht
  clear ht
  go_enter Tryz.func92,Tryz.ntmps92
  go_wp2_with fail
  refine (tag_any num kind w h1 h2 h3 h4).mono ?_;rintro e w' ⟨rfl,hb⟩
  have HB:=Lib.hid hb
  rw[HT.out]
  clear hb
  go_wp2_with fail
  go_ret
  exact ⟨by rw[HF.out];exact ret_str (ba_append _ _),HB.out⟩
theorem wvarint_any (num:Int) (n:Nat) (w:World) (h1 : -9223372036854775808≤num) (h2:num≤9223372036854775807) (hn:n<2 ^ 64) :
  Calls Tryz.prog 60 #[.int .i64 num,.int .u64 (n:Int)] w fun e w'=>e = .returned (.string ⟨(wrec num 0 (vput n)).toArray⟩)∧Below w.heap.size w w':=by
 have HP:=Lib.hid (put_start hn)
 have HV:=Lib.hid (vput_len n)
 clear hn
 go_enter Tryz.func60,Tryz.ntmps60
 go_wp2_with fail
 refine (put_any n w HP.out).mono ?_;rintro e w1 ⟨rfl,hb1⟩
 have HB1:=Lib.hid hb1
 clear hb1
 go_wp2_with fail
 refine (record_any num 0 (vput n) w1 h1 h2 (by omega) (by omega) (by have:=HV.out;omega)).mono ?_;rintro e w2 ⟨rfl,hb2⟩
 have HB2:=Lib.hid hb2
 clear hb2
 go_wp2_with fail
 go_ret
 exact ⟨rfl,HB1.out.trans (HB2.out.mono HB1.out.size)⟩
theorem wbytes_any (num:Int) (s:ByteArray) (w:World) (h1 : -9223372036854775808≤num) (h2:num≤9223372036854775807) (hs:s.size≤1000000) :
  Calls Tryz.prog 86 #[.int .i64 num,.string s] w fun e w'=>e = .returned (.string ⟨(wrec num 2 (vput s.size++s.data.toList)).toArray⟩)∧Below w.heap.size w w':=by
 have HP:=Lib.hid (put_start (n:=s.size) (by omega))
 have hv:=vput_len s.size
 have HL:=Lib.hid (show s.data.toList.length=s.size by simp)
 have HS:Hid ((ByteArray.mk (vput s.size).toArray)++s=ByteArray.mk (vput s.size++s.data.toList).toArray):=Lib.hid (by rw[←ba_append])
 go_enter Tryz.func86,Tryz.ntmps86
 go_wp2_with fail
 refine (put_any s.size w HP.out).mono ?_;rintro e w1 ⟨rfl,hb1⟩
 have HB1:=Lib.hid hb1
 clear hb1
 go_wp2_with fail
 rw[HS.out]
 refine (record_any num 2 (vput s.size++s.data.toList) w1 h1 h2 (by omega) (by omega) (by simp;have:=HL.out;omega)).mono ?_;rintro e w2 ⟨rfl,hb2⟩
 have HB2:=Lib.hid hb2
 clear hb2
 go_wp2_with fail
 go_ret
 exact ⟨rfl,HB1.out.trans (HB2.out.mono HB1.out.size)⟩
open Go.RowKit
def eight:Nat→Nat→List UInt8
 | 0,_=>[]
 | k+1,n=>UInt8.ofNat (n % 256)::eight k (n / 256)
open Go.RowKit
theorem Tryz.elU64:Elem Tryz.prog 26 23 (.int .u64 0) 1 8:=⟨Tryz.underlying26,by kernel_rfl,by decide⟩
def nats64 (l:List Nat):List Value:=l.map fun n:Nat => .int .u64 (n:Int)
def wvs:Nat→List UInt8→Except Nat (List Nat)
 | 0,_ => .ok []
 | f+1,l=>if l=[] then .ok [] else match wv l with
  | .error c => .error c
  | .ok (n,j)=>match wvs f (l.drop j) with
   | .error c => .error c
   | .ok ns => .ok (n::ns)
def wvars (l:List UInt8):Except Nat (List Nat):=wvs l.length l
theorem wvs_fuel:∀ (f g:Nat) (l:List UInt8),l.length≤f→l.length≤g→wvs f l=wvs g l
 | 0,0,_,_,_=>rfl
 | 0,g+1,l,hf,_=>by
  have:l=[]:=List.length_eq_zero_iff.1 (by omega)
  rw[wvs,wvs,if_pos this]
 | f+1,0,l,_,hg=>by
  have:l=[]:=List.length_eq_zero_iff.1 (by omega)
  rw[wvs,wvs,if_pos this]
 | f+1,g+1,l,hf,hg=>by
  rw[wvs,wvs]
  split
  ·rfl
  ·cases h:wv l with
   | error c=>rfl
   | ok x =>
    obtain ⟨n,j⟩:=x
    have:=wv_bounds h
    dsimp only
    rw[wvs_fuel f g _ (by simp;omega) (by simp;omega)]
theorem wvars_nil:wvars [] = .ok []:=rfl
theorem wvars_no {l:List UInt8} {c:Nat} (h0:l≠[]) (h:wv l = .error c):wvars l = .error c:=by
 unfold wvars
 cases hl:l.length with
 | zero=>exact absurd (List.length_eq_zero_iff.1 hl) h0
 | succ f=>rw[wvs,if_neg h0,h]
theorem wvars_cons {l:List UInt8} {n j:Nat} (h:wv l = .ok (n,j)):wvars l=match wvars (l.drop j) with
  | .error c => .error c
  | .ok ns => .ok (n::ns):=by
 have hb:=wv_bounds h
 conv=>lhs;unfold wvars
 cases hl:l.length with
 | zero=>omega
 | succ f =>
  rw[wvs,if_neg (by intro e;subst e;simp at hl),h]
  dsimp only
  have e:wvs f (l.drop j)=wvars (l.drop j):=wvs_fuel _ _ _ (by simp;omega) (by simp)
  rw[e]
def VarsPost (s:ByteArray) (w:World) (e:Ending) (w':World):Prop:=match wvars s.data.toList with
 | .error c=>∃ v,e = .returned (.tuple #[.slice none 0 0,v])∧∃ q:Nat,q≤s.size∧ErrNew w (q:Int) (c:Int) v w'
 | .ok ns=>∃ u,e = .returned (.tuple #[u,.nilIface])∧w'.ownsRow w.heap.size 23 1 u ns.length (nats64 ns)∧ns.length≤s.size∧Below w.heap.size w w'
theorem vars_no {s:ByteArray} {c:Nat} {w w':World} {v:Value} (h:wvars s.data.toList = .error c) (q:Nat) (hq:q≤s.size) (hE:ErrNew w (q:Int) (c:Int) v w'):VarsPost s w (.returned (.tuple #[.slice none 0 0,v])) w':=by
 unfold VarsPost;rw[h];exact ⟨v,rfl,q,hq,hE⟩
theorem vars_ok {s:ByteArray} {ns:List Nat} {w w':World} {u:Value} (h:wvars s.data.toList = .ok ns) (ho:w'.ownsRow w.heap.size 23 1 u ns.length (nats64 ns)) (hl:ns.length≤s.size) (hB:Below w.heap.size w w'):VarsPost s w (.returned (.tuple #[u,.nilIface])) w':=by
 unfold VarsPost;rw[h];exact ⟨u,rfl,ho,hl,hB⟩
def VsRel (l:List UInt8) (q:Nat) (acc:List Nat):Prop:=q≤l.length∧acc.length≤q∧wvars l=match wvars (l.drop q) with
 | .error c => .error c
 | .ok ns => .ok (acc++ns)
theorem vs_start (l:List UInt8):VsRel l 0 []:=by
 refine ⟨by omega,by simp,?_⟩
 rw[List.drop_zero]
 cases wvars l<;>rfl
theorem vs_err {l:List UInt8} {q c:Nat} {acc:List Nat} (h:VsRel l q acc) (hq:q<l.length) (hn:wv (l.drop q) = .error c):wvars l = .error c:=by
 rw[h.2.2,wvars_no (by intro e;have:=congrArg List.length e;simp at this;omega) hn]
theorem vs_next {l:List UInt8} {q j n:Nat} {acc:List Nat} (h:VsRel l q acc) (hn:wv (l.drop q) = .ok (n,j)):VsRel l (q+j) (acc++[n]):=by
 have hb:=wv_bounds hn
 simp at hb
 obtain ⟨h1,h2,h3⟩:=h
 refine ⟨by omega,by simp;omega,?_⟩
 rw[h3,wvars_cons hn,List.drop_drop]
 cases wvars (l.drop (q+j)) with
 | error c=>rfl
 | ok rs=>simp
theorem vs_end {l:List UInt8} {acc:List Nat} {q:Nat} (h:VsRel l q acc) (hq:q=l.length):wvars l = .ok acc:=by
 subst hq
 rw[h.2.2,List.drop_length,wvars_nil]
 simp
theorem varints_any (s:ByteArray) (w:World) (hs:s.size≤1000000) :
  Calls Tryz.prog 102 #[.string s] w (VarsPost s w):=by
 have HL:=Lib.hid (show s.data.toList.length=s.size by simp)
 have HS:=Lib.hid hs
 go_enter Tryz.func102,Tryz.ntmps102
 go_wp2_with fail
 go_loopg [4,5] s.size (fun k v a wr=>∃ (q:Nat) (acc:List Nat),q+k=s.size∧a = .int .i64 (q:Int)∧VsRel s.data.toList q acc∧wr.ownsRow w.heap.size 23 1 v acc.length (nats64 acc)∧Below w.heap.size w wr)
 case atStart=>exact ⟨0,[],by omega,rfl,vs_start _,World.ownsRow_nil _ _ _ _,Below.refl _ _⟩
 case round =>
  obtain ⟨q,acc,hqk,rfl,hal,hown,hb⟩:=hrel
  have HA:=Lib.hid hal
  have HB:=Lib.hid hb
  have HQ:=Lib.hid hqk
  have hqs:q≤s.size:=by omega
  have hsz:s.size≤1000000:=HS.out
  have hacc:acc.length≤q:=hal.2.1
  have hbs:w.heap.size≤wr.heap.size:=hb.size
  clear hal hb hqk
  by_cases hlt:q<s.size
  ·cases hn:wv (s.data.toList.drop q) with
   | error c =>
    have HV:=Lib.hid (vget_no (by have:=HL.out;omega) hn)
    have HF:=Lib.hid (vs_err HA.out (by have:=HL.out;omega) hn)
    clear hn hown
    go_wp2_with fail
    refine (get_err s q _ (by unfold maxLen;omega) HV.out).mono ?_;rintro e w' ⟨rfl,rfl⟩
    go_wp2_with fail
    go_ret2
    exact vars_no HF.out q hqs (errNew_at HB.out)
   | ok x =>
    obtain ⟨n,j⟩:=x
    have HV:=Lib.hid (vget_ok (by have:=HL.out;omega) hn)
    have HG:=Lib.hid (vs_next HA.out hn)
    have HJ:=Lib.hid (wv_bounds hn)
    have hqj:q+j≤s.size:=by have:=HJ.out.2.1;simp at this;have:=HL.out;omega
    have hj1:1≤j:=HJ.out.1
    clear hn
    go_wp2_with (first
     | (go_at_call 120;refine (get_ok s q _ (by unfold maxLen;omega) HV.out).mono ?_;rintro e w' ⟨rfl,rfl⟩)
     | (at_builtin;refine wpList_app1 rfl _ _ 26 rfl Tryz.elU64 (by decide) hown rfl rfl rfl (by simp[Value.oneCell']) (by unfold maxLen;omega) (by omega) hbs ?_;intro v' w2 hown' hgrow))
    have HO2:Hid (w2.ownsRow w.heap.size 23 1 v' (acc++[n]).length (nats64 (acc++[n]))):=Lib.hid (by simpa [nats64] using hown')
    have HB2:Hid (Below w.heap.size w w2):=Lib.hid (HB.out.grown hgrow hbs (fun k hk=>(hown.lt _ hk).1))
    have hq:=HQ.out
    go_roundg (s.size - (q+j))
    case measure=>omega
    case rel=>exact ⟨q+j,acc++[n],by omega,by simp,HG.out,HO2.out,HB2.out⟩
  ·have HF:=Lib.hid (vs_end HA.out (by have:=HL.out;have:=HQ.out;omega))
   have HO:=Lib.hid hown
   clear hown
   go_wp2_with fail
   go_ret2
   exact vars_ok HF.out HO.out (by omega) HB.out
theorem vgetGo_lt:∀ (f k m:Nat) (l:List UInt8) {n j:Nat},vgetGo f k m l = .ok (n,j)→k<j
 | 0,k,m,l,n,j,h=>by simp[vgetGo] at h
 | f+1,k,m,[],n,j,h=>by simp[vgetGo] at h
 | f+1,k,m,c::r,n,j,h=>by
  simp only[vgetGo] at h
  split at h
  ·simp at h
  ·split at h
   ·simp at h;omega
   ·have:=vgetGo_lt f _ _ r h;omega
theorem vgetGo_back:∀ (f k m:Nat) (l t:List UInt8) {n j:Nat},vgetGo f k m (l++t) = .ok (n,j)→j≤k+l.length→vgetGo f k m l = .ok (n,j)
 | 0,k,m,l,t,n,j,h,_=>by simp[vgetGo] at h
 | f+1,k,m,[],t,n,j,h,hj=>by
  have:=vgetGo_lt _ _ _ _ h
  simp at hj;omega
 | f+1,k,m,c::r,t,n,j,h,hj=>by
  simp only[vgetGo,List.cons_append] at h ⊢
  split at h
  ·simp at h
  ·rename_i h1
   rw[if_neg h1]
   split at h
   ·rename_i h2
    rw[if_pos h2];exact h
   ·rename_i h2
    rw[if_neg h2]
    exact vgetGo_back f _ _ r t h (by simp at hj;omega)
theorem wv_back {l t:List UInt8} {n j:Nat} (h:wv (l++t) = .ok (n,j)) (hj:j≤l.length):wv l = .ok (n,j):=vgetGo_back _ _ _ _ t h (by omega)
theorem whd_back {l t:List UInt8} {num ty j:Nat} (h:whd (l++t) = .ok (num,ty,j)) (hj:j≤l.length):whd l = .ok (num,ty,j):=by
 have hb:=whd_bounds h
 have h1:=wv_back hb.2.2.2.2.2 hj
 have:=whd_ok h1 (by omega) (by omega) (by omega)
 rw[this,show (8 * num+ty) / 8=num by omega,show (8 * num+ty) % 8=ty by omega]
theorem wbd_back {l t:List UInt8} {ty n k:Nat} {s:List UInt8} (h:wbd (l++t) ty = .ok (n,s,k)) (hk:k≤l.length):wbd l ty = .ok (n,s,k):=by
 have hb:=wbd_bounds h
 unfold wbd at h ⊢
 split at h
 ·rename_i h1
  rw[if_pos h1]
  split at h
  ·cases h
  ·have h8:k=8:=by simp only[Except.ok.injEq,Prod.mk.injEq] at h;omega
   rw[List.take_append_of_le_length (by omega)] at h
   rw[if_neg (by omega)]
   exact h
 ·rename_i h1
  rw[if_neg h1]
  split at h
  ·rename_i h2
   rw[if_pos h2]
   split at h
   ·cases h
   ·have h4:k=4:=by simp only[Except.ok.injEq,Prod.mk.injEq] at h;omega
    rw[List.take_append_of_le_length (by omega)] at h
    rw[if_neg (by omega)]
    exact h
  ·rename_i h2
   rw[if_neg h2]
   cases hv:wv (l++t) with
   | error c=>rw[hv] at h;cases h
   | ok x =>
    obtain ⟨m,j⟩:=x
    rw[hv] at h
    have hvb:=wv_bounds hv
    dsimp only at h
    split at h
    ·rename_i h3
     have hjk:j=k:=by simp only[Except.ok.injEq,Prod.mk.injEq] at h;omega
     rw[wv_back hv (by omega)]
     dsimp only
     rw[if_pos h3]
     exact h
    ·rename_i h3
     split at h
     ·cases h
     ·rename_i h4
      have hjk:k=j+m:=by simp only[Except.ok.injEq,Prod.mk.injEq] at h;omega
      rw[wv_back hv (by omega)]
      dsimp only
      rw[if_neg h3,if_neg (by omega)]
      rw[List.drop_append_of_le_length (by omega),List.take_append_of_le_length (by simp;omega)] at h
      exact h
theorem wgr_back:∀ (f:Nat) {l:List UInt8} {st:List Nat} {d:Int} {k:Nat} (t:List UInt8),l.length<f→k≤l.length→∀ g,(l++t).length<g→wgr g (l++t) st d = .ok k→wgr f l st d = .ok k
 | 0,_,_,_,_,_,h,_,_,_,_=>by omega
 | f + 1,l,st,d,k,t,hf,hk,g,hg,h=>by
  obtain ⟨g,rfl⟩:∃ g',g=g'+1:=⟨g - 1,by omega⟩
  rw[wgr] at h ⊢
  split at h
  ·rename_i h0
   rw[if_pos h0];exact h
  ·rename_i h0
   rw[if_neg h0]
   split at h
   ·cases h
   ·rename_i h1
    rw[if_neg h1]
    cases hh:whd (l++t) with
    | error c=>rw[hh] at h;cases h
    | ok x =>
     obtain ⟨num,ty,j⟩:=x
     rw[hh] at h
     have hb:=whd_bounds hh
     have hgl:l.length+t.length<g+1:=by simpa using hg
     dsimp only at h
     split at h
     ·rename_i h3
      obtain ⟨i,hi,rfl⟩:=wadd_ok h
      have hd:(l++t).drop j=l.drop j++t:=List.drop_append_of_le_length (by omega)
      rw[whd_back hh (by omega)]
      dsimp only
      rw[if_pos h3]
      rw[hd] at hi
      rw[wgr_back f t (by simp;omega) (by simp;omega) g (by simp;omega) hi];rfl
     ·rename_i h3
      split at h
      ·rename_i h4
       split at h
       ·rename_i h5
        obtain ⟨i,hi,rfl⟩:=wadd_ok h
        have hd:(l++t).drop j=l.drop j++t:=List.drop_append_of_le_length (by omega)
        rw[whd_back hh (by omega)]
        dsimp only
        rw[if_neg h3,if_pos h4,if_pos h5]
        rw[hd] at hi
        rw[wgr_back f t (by simp;omega) (by simp;omega) g (by simp;omega) hi];rfl
       ·cases h
      ·rename_i h4
       cases hbd:wbd ((l++t).drop j) ty with
       | error c=>rw[hbd] at h;cases h
       | ok y =>
        obtain ⟨n,s,m⟩:=y
        rw[hbd] at h
        dsimp only at h
        obtain ⟨i,hi,rfl⟩:=wadd_ok h
        have hd:(l++t).drop j=l.drop j++t:=List.drop_append_of_le_length (by omega)
        have hd2:(l++t).drop (j+m)=l.drop (j+m)++t:=List.drop_append_of_le_length (by omega)
        rw[whd_back hh (by omega)]
        dsimp only
        rw[if_neg h3,if_neg h4]
        rw[hd] at hbd
        rw[wbd_back hbd (by simp;omega)]
        dsimp only
        rw[hd2] at hi
        have hm1:=(wbd_bounds hbd).1
        rw[wgr_back f t (by simp;omega) (by simp;omega) g (by simp;omega) hi];rfl
theorem wnx_back {l t:List UInt8} {d:Int} {r:Rec} {q:Nat} (h:wnx (l++t) d = .ok (r,q)) (hq:q≤l.length):wnx l d = .ok (r,q):=by
 unfold wnx at h ⊢
 cases hh:whd (l++t) with
 | error c=>rw[hh] at h;cases h
 | ok x =>
  obtain ⟨num,ty,j⟩:=x
  rw[hh] at h
  have hb:=whd_bounds hh
  dsimp only at h
  split at h
  ·cases h
  ·rename_i h4
   split at h
   ·rename_i h3
    cases hg:wgroup ((l++t).drop j) [num] d with
    | error c=>rw[hg] at h;cases h
    | ok k =>
     rw[hg] at h
     dsimp only at h
     have hjk:j+k=q:=by simp only[Except.ok.injEq,Prod.mk.injEq] at h;exact h.2
     have hd:(l++t).drop j=l.drop j++t:=List.drop_append_of_le_length (by omega)
     rw[whd_back hh (by omega)]
     dsimp only
     rw[if_neg h4,if_pos h3]
     rw[hd] at hg
     have e:wgroup (l.drop j) [num] d = .ok k:=wgr_back _ t (Nat.lt_succ_self _) (by simp;omega) _ (Nat.lt_succ_self _) hg
     rw[e]
     dsimp only
     rw[List.take_append_of_le_length (by omega)] at h
     exact h
   ·rename_i h3
    cases hbd:wbd ((l++t).drop j) ty with
    | error c=>rw[hbd] at h;cases h
    | ok y =>
     obtain ⟨n,s,m⟩:=y
     rw[hbd] at h
     dsimp only at h
     have hjk:j+m=q:=by simp only[Except.ok.injEq,Prod.mk.injEq] at h;exact h.2
     have hd:(l++t).drop j=l.drop j++t:=List.drop_append_of_le_length (by omega)
     rw[whd_back hh (by omega)]
     dsimp only
     rw[if_neg h4,if_neg h3]
     rw[hd] at hbd
     rw[wbd_back hbd (by simp;omega)]
     dsimp only
     rw[List.take_append_of_le_length (by omega)] at h
     exact h
theorem wnx_raw {l:List UInt8} {d:Int} {r:Rec} {q:Nat} (h:wnx l d = .ok (r,q)) (u:List UInt8):wnx (r.raw++u) d = .ok (r,r.raw.length):=by
 have hb:=wnx_bounds h
 have e:l=l.take q++l.drop q:=(List.take_append_drop q l).symm
 rw[e] at h
 have hl:(l.take q).length=q:=by rw[List.length_take];omega
 have h2:=wnx_append u (wnx_back h (by omega))
 rw[hb.2.2.1,hl]
 exact h2
theorem wnx_facts {l:List UInt8} {d:Int} {r:Rec} {q:Nat} (h:wnx l d = .ok (r,q)):r.n<2 ^ 64∧r.s.length≤q:=by
 unfold wnx at h
 cases hh:whd l with
 | error c=>rw[hh] at h;cases h
 | ok x =>
  obtain ⟨num,ty,j⟩:=x
  rw[hh] at h
  dsimp only at h
  split at h
  ·cases h
  ·split at h
   ·cases hg:wgroup (l.drop j) [num] d with
    | error c=>rw[hg] at h;cases h
    | ok k =>
     rw[hg] at h
     simp only[Except.ok.injEq,Prod.mk.injEq] at h
     obtain ⟨rfl,rfl⟩:=h
     exact ⟨by show 0<2 ^ 64;decide,Nat.zero_le _⟩
   ·cases hbd:wbd (l.drop j) ty with
    | error c=>rw[hbd] at h;cases h
    | ok y =>
     obtain ⟨n,s,m⟩:=y
     rw[hbd] at h
     simp only[Except.ok.injEq,Prod.mk.injEq] at h
     obtain ⟨rfl,rfl⟩:=h
     have hb:=wbd_bounds hbd
     refine ⟨?_,by show s.length≤j+m;omega⟩
     show n<2 ^ 64
     unfold wbd at hbd
     split at hbd
     ·split at hbd
      ·cases hbd
      ·simp only[Except.ok.injEq,Prod.mk.injEq] at hbd
       have:=wlit_lt ((l.drop j).take 8)
       rw[hbd.1,List.length_take] at this
       have h8:min 8 (l.drop j).length=8:=by omega
       rw[h8] at this
       exact this
     ·split at hbd
      ·split at hbd
       ·cases hbd
       ·simp only[Except.ok.injEq,Prod.mk.injEq] at hbd
        have:=wlit_lt ((l.drop j).take 4)
        rw[hbd.1,List.length_take] at this
        have h8:min 4 (l.drop j).length=4:=by omega
        rw[h8] at this
        omega
      ·cases hv:wv (l.drop j) with
       | error c=>rw[hv] at hbd;cases hbd
       | ok x =>
        obtain ⟨m',j'⟩:=x
        rw[hv] at hbd
        have hvb:=(wv_bounds hv).2.2.2
        dsimp only at hbd
        split at hbd
        ·simp only[Except.ok.injEq,Prod.mk.injEq] at hbd
         omega
        ·split at hbd
         ·cases hbd
         ·simp only[Except.ok.injEq,Prod.mk.injEq] at hbd
          omega
def IsRec (d:Int) (r:Rec):Prop:=∀ u,wnx (r.raw++u) d = .ok (r,r.raw.length)
theorem isrec_facts {d:Int} {r:Rec} (h:IsRec d r):r.n<2 ^ 64∧r.s.length≤r.raw.length∧2≤r.raw.length∧1≤r.num∧r.num≤536870911∧r.ty≤5:=by
 have h1:=h []
 rw[List.append_nil] at h1
 have h2:=wnx_facts h1
 have h3:=wnx_bounds h1
 exact ⟨h2.1,h2.2,h3.1,h3.2.2.2⟩
theorem wall_recs:∀ (n:Nat) {l:List UInt8} {d:Int} {rs:List Rec},l.length≤n→wall l d = .ok rs→∀ r∈rs,IsRec d r
 | n,l,d,rs,hn,h=>by
  rcases wall_inv h with ⟨_,rfl⟩|⟨r,q,ks,h1,h2,rfl,h4,h5,h6⟩
  ·intro r hr;cases hr
  ·match n,hn with
   | 0,hn=>omega
   | n+1,hn =>
    intro x hx
    rcases List.mem_cons.1 hx with rfl|hx
    ·exact wnx_raw h1
    ·exact wall_recs n (by simp;omega) h2 x hx
def mfold {σ:Type} (tk:Rec→Bool) (step:σ→Rec→Except Nat σ):σ→List Rec→Except Nat σ
 | st,[] => .ok st
 | st,r::rs=>if tk r then (match step st r with
  | .error c => .error c
  | .ok st'=>mfold tk step st' rs) else mfold tk step st rs
def mrest (tk:Rec→Bool) (rs:List Rec):List Rec:=rs.filter fun r=>!tk r
def munk (tk:Rec→Bool) (rs:List Rec):List UInt8:=(mrest tk rs).flatMap Rec.raw
def mread {σ:Type} (tk:Rec→Bool) (step:σ→Rec→Except Nat σ) (st:σ) (l:List UInt8) (d:Int):Except Nat (σ × List UInt8) :=
 if d<0 then .error 6 else match wall l d with
  | .error c => .error c
  | .ok rs=>match mfold tk step st rs with
   | .error c => .error c
   | .ok st' => .ok (st',munk tk rs)
def munkOk (tk:Rec→Bool) (l:List UInt8) (d:Int):Bool:=match wall l d with
 | .error _=>false
 | .ok rs=>rs.all fun r=>!tk r
theorem munk_le (tk:Rec→Bool):∀ (rs:List Rec),(munk tk rs).length≤(rs.flatMap Rec.raw).length
 | []=>by simp[munk,mrest]
 | r::rs=>by
  have:=munk_le tk rs
  unfold munk mrest at this ⊢
  rw[List.filter_cons,List.flatMap_cons,List.length_append]
  split
  ·rw[List.flatMap_cons,List.length_append];omega
  ·omega
theorem mfold_append {σ:Type} (tk:Rec→Bool) (step:σ→Rec→Except Nat σ):∀ (rs ts:List Rec) (st:σ),mfold tk step st (rs++ts)=match mfold tk step st rs with
  | .error c => .error c
  | .ok st'=>mfold tk step st' ts
 | [],ts,st=>rfl
 | r::rs,ts,st=>by
  simp only[List.cons_append,mfold]
  split
  ·cases step st r with
   | error c=>rfl
   | ok st'=>exact mfold_append tk step rs ts st'
  ·exact mfold_append tk step rs ts st
end Go.Proofs.YtficgfemmijaaaaGreat
