/-
  attr.Twice: has any key been told twice?
-/
import Derived.Test.YtmlghmjjlpioeaaNumsK
import Derived.Test.YtmlghmjjlpioeaaFaddLess
import Derived.Maps.OwnSet
import Derived.StringKeys
set_option maxRecDepth 1000000
set_option maxHeartbeats 16000000
namespace Go.Proofs.Ytmlghmjjlpioeaa
open Go.RowKit Go.Maps
def kkey:KV→List UInt8
 | .mk k _ _ _=>k
def dup (l:List KV):Bool:=!decide (l.map kkey).Nodup
structure SMap (S:List (List UInt8)) (M:DataW Unit):Prop where
 isMap:IsMap M
 there:∀ t,Maps.has M (.string t)=decide (t∈S)
 le:Maps.size M≤S.length
 iff:Maps.size M=S.length↔S.Nodup
theorem smap_nil:SMap [] (.map []):=⟨isMap_empty,fun t=>by simp;rfl,Nat.le_refl _,⟨fun _=>List.nodup_nil,fun _=>rfl⟩⟩
theorem smap_add {S:List (List UInt8)}{M:DataW Unit}(h:SMap S M)(hT:Tidy M)(t:List UInt8)(d:DataW Unit):SMap (S++[t]) (M.put (.string t) d):=by
 have hs:Maps.size (M.put (.string t) d)=if Maps.has M (.string t) then Maps.size M else Maps.size M+1:=size_put hT d
 rw[h.there t] at hs
 refine ⟨h.isMap.put _ _,fun u=>?_,?_,?_⟩
 ·by_cases e:u=t
  ·subst e
   rw[has_put_same h.isMap (by simp[WideAt.IsKeyLit])]
   simp
  ·rw[has_put_other (fun he=>e (by injection he)),h.there u]
   simp[e]
 ·have h1:=h.le
  rw[hs,List.length_append]
  split<;>simp<;>omega
 ·have h1:=h.le
  have h2:=h.iff
  rw[hs,List.length_append]
  by_cases hm:t∈S
  ·rw[if_pos (by simpa using hm)]
   refine ⟨fun e=>?_,fun e=>?_⟩
   ·simp at e;omega
   ·rw[List.nodup_append] at e
    exact absurd rfl (e.2.2 t hm t (by simp))
  ·rw[if_neg (by simpa using hm)]
   refine ⟨fun e=>?_,fun e=>?_⟩
   ·rw[List.nodup_append]
    refine ⟨h2.1 (by simp at e;omega),by simp,fun a ha b hb e=>hm ?_⟩
    rw[List.mem_singleton] at hb
    rw[←hb,←e]
    exact ha
   ·rw[List.nodup_append] at e
    have:=h2.2 e.1
    simp;omega
theorem run_makeMapN {P:Program}{t k e:TypeId}(w:World)(n:Int)(q:IntKind)(h:P.underlying t=some (.map k e)):(Instr.makeMap t (some (.int q n))).run P w = .ok (.map (some w.heap.size)) (w.alloc (.map #[] 0)):=by
 simp[Instr.makeMap,run_underlying h,asInt,asIntOf,Result.andThen]
theorem below_of_grown2 {w w':World}{b:Nat}{row:Option Nat}(hg:w.grownBy w' row)(hb:b≤w.heap.size)(hr:∀ k,row=some k→b≤k):Below b w w':=(Upd.of_grown hg).below hb (fun k _ hk=>hr k hk)
theorem Try.strKey2:Keyed Try.prog 9:=string_keyed Try.underlying9
def TwAt (w:World)(b:Nat)(S:List (List UInt8)):Prop:=∃ M:DataW Unit,w.ownsMap Try.prog 9 unitElem b S.length M∧SMap S M
theorem kkey_take {l:List KV}{j:Nat}(h:j<l.length):(l.take (j+1)).map kkey=(l.take j).map kkey++[kkey l[j]]:=by
 rw[List.take_succ_eq_append_getElem h,List.map_append];rfl
theorem twice_any (l:List KV)(lo:Option Addr)(lc:Nat)(P:Nat→Prop)(w:World)(hl:l.length≤9223372036854775806)(hlim:ksfit l)(ha:KRels w P l lo 0){r:Bool}(hr:Hid (dup l=r)) :
  Calls Try.prog 57 #[.slice lo l.length lc] w fun e w'=>e = .returned (.bool r)∧Below w.heap.size w w':=by
 have hmm:=fun (w:World) (n:Int)=>run_makeMapN (P:=Try.prog) (t:=129) w n .i64 Try.underlying129
 have HA:=Lib.hid ha
 have HLIM:=Lib.hid hlim
 clear ha hlim
 go_enter Try.func57,Try.ntmps57
 go_wp2_with fail
 obtain ⟨b,hb⟩:∃ b,w.heap.size=b:=⟨_,rfl⟩
 rw[hb]
 go_loopg [11] l.length (fun k i wr=>∃ j:Nat,i = .int .i64 (j:Int)∧j+k=l.length∧Below w.heap.size w wr∧Hid (TwAt wr b ((l.take j).map kkey)))
 case atStart=>exact ⟨0,rfl,by omega,(Below.refl _ _).alloc (Nat.le_refl _) _,Lib.hid ⟨.map [],by rw[←hb];exact World.ownsMap_made w _ _ _,smap_nil⟩⟩
 case round =>
  obtain ⟨j,rfl,hj,hbr,HT⟩:=hrel
  have HBR:=Lib.hid hbr
  have HJ:=Lib.hid hj
  clear hbr hj
  by_cases hlt:j<l.length
  ·obtain ⟨ga,oa,ca,rfl,hga,hca,hra⟩:=krels_at0 (HA.out.below HBR.out) j hlt
   obtain ⟨x,hx⟩:∃ x,l[j]=x:=⟨_,rfl⟩
   have HTK:Hid ((l.take (j+1)).map kkey=(l.take j).map kkey++[kkey x]):=Lib.hid (by rw[kkey_take hlt,hx])
   have HFX:=ksfit_at HLIM.out x (hx ▸ List.getElem_mem hlt)
   rw[hx] at hra
   clear hx
   cases x with|mk key has v u =>
   rw[KRel] at hra
   obtain ⟨cv,hrv,rfl⟩:=hra
   rw[kfit] at HFX
   have HKL:=Lib.hid HFX.1
   obtain ⟨KA,hKA⟩:∃ X:ByteArray,(⟨key.toArray⟩:ByteArray)=X:=⟨_,rfl⟩
   obtain ⟨UA,hUA⟩:∃ X:ByteArray,(⟨u.toArray⟩:ByteArray)=X:=⟨_,rfl⟩
   have hks:KA.size=key.length:=by rw[←hKA];simp[ByteArray.size]
   obtain ⟨k1,S1,b1,n1,l1,ln1,lc1,m1,mn1,mc1,I1,U1,rfl⟩:=hrv.form
   have HCA:Hid (Cells wr ga (oa+11 * j) [.string KA,.bool has,.int .i64 k1,.string S1,.bool b1,.int .u64 n1,.slice l1 ln1 lc1,.slice m1 mn1 mc1,.string I1,.string U1,.string UA]):=Lib.hid (by rw[←hKA,←hUA];exact hca)
   have hkey:keyOf Try.prog 9 (.string KA)=some (.string key):=by rw[←hKA];exact WideMaps.keyOf_string_mk Try.underlying9 (by rw[hKA,hks];have:=HKL.out;unfold maxLen;omega)
   have hlen:((l.take j).map kkey).length=j:=by simp;omega
   have HLEN:=Lib.hid hlen
   clear hlen hKA hUA hks hca hrv HFX
   obtain ⟨M,h1,h2⟩:=HT.out
   have HM2:=Lib.hid h2
   have hc0:wr.cell? ⟨ga,oa+j * 11,none⟩=some (.string KA):=by have:=HCA.out 0 (by simp);rw[show oa+j * 11=oa+11 * j+0 by omega,this];rfl
   have hc1:wr.cell? ⟨ga,oa+j * 11+1,none⟩=some (.bool has):=by have:=HCA.out 1 (by simp);rw[show oa+j * 11+1=oa+11 * j+1 by omega,this];rfl
   have hc2:wr.cell? ⟨ga,oa+j * 11+2,none⟩=some (.int .i64 k1):=by have:=HCA.out 2 (by simp);rw[show oa+j * 11+2=oa+11 * j+2 by omega,this];rfl
   have hc3:wr.cell? ⟨ga,oa+j * 11+3,none⟩=some (.string S1):=by have:=HCA.out 3 (by simp);rw[show oa+j * 11+3=oa+11 * j+3 by omega,this];rfl
   have hc4:wr.cell? ⟨ga,oa+j * 11+4,none⟩=some (.bool b1):=by have:=HCA.out 4 (by simp);rw[show oa+j * 11+4=oa+11 * j+4 by omega,this];rfl
   have hc5:wr.cell? ⟨ga,oa+j * 11+5,none⟩=some (.int .u64 n1):=by have:=HCA.out 5 (by simp);rw[show oa+j * 11+5=oa+11 * j+5 by omega,this];rfl
   have hc6:wr.cell? ⟨ga,oa+j * 11+6,none⟩=some (.slice l1 ln1 lc1):=by have:=HCA.out 6 (by simp);rw[show oa+j * 11+6=oa+11 * j+6 by omega,this];rfl
   have hc7:wr.cell? ⟨ga,oa+j * 11+7,none⟩=some (.slice m1 mn1 mc1):=by have:=HCA.out 7 (by simp);rw[show oa+j * 11+7=oa+11 * j+7 by omega,this];rfl
   have hc8:wr.cell? ⟨ga,oa+j * 11+8,none⟩=some (.string I1):=by have:=HCA.out 8 (by simp);rw[show oa+j * 11+8=oa+11 * j+8 by omega,this];rfl
   have hc9:wr.cell? ⟨ga,oa+j * 11+9,none⟩=some (.string U1):=by have:=HCA.out 9 (by simp);rw[show oa+j * 11+9=oa+11 * j+9 by omega,this];rfl
   have hc10:wr.cell? ⟨ga,oa+j * 11+10,none⟩=some (.string UA):=by have:=HCA.out 10 (by simp);rw[show oa+j * 11+10=oa+11 * j+10 by omega,this];rfl
   clear h2
   go_wp2_with (at_mapUpdate;refine wpList_mapUpdate_own _ rfl _ _ _ 129 rfl 9 130 Try.strKey2 Try.underlying129 _ b ((l.take j).map kkey).length M rfl (h1.alloc _) (by have:=HLEN.out;have:=HJ.out;unfold maxLen;omega) _ _ _ rfl rfl hkey _ [] unitElem_mk ?_;intro w1 hown1 hgrow1)
   have hbw:Below b wr w1:=((Below.refl _ _).alloc (by have:=HBR.out.size;rw[←hb];exact this) _).trans (below_of_grown2 hgrow1 (by have:=HBR.out.size;simp;omega) (fun k e=>by injection e with e;omega))
   have hj:=HJ.out
   go_roundg (gk - 1)
   case measure=>omega
   case rel =>
    refine ⟨j+1,by simp,by omega,HBR.out.trans (by rw[hb];exact hbw),Lib.hid ⟨M.put (.string key) (.agg []),?_,?_⟩⟩
    ·rw[HTK.out,List.length_append];exact hown1
    ·rw[HTK.out];exact smap_add HM2.out (h1.tidy Try.strKey2) _ _
  ·obtain ⟨M,h1,h2⟩:=HT.out
   have hjl:j=l.length:=by have:=HJ.out;omega
   subst hjl
   rw[List.take_length] at h1 h2
   have hr1:decide (Maps.size M<l.length)=r:=by
    rw[←hr.out];unfold dup
    have h3:=h2.le
    have h4:=h2.iff
    rw[List.length_map] at h3 h4
    by_cases hn:(l.map kkey).Nodup
    ·rw[decide_eq_true hn];exact decide_eq_false (by have:=h4.2 hn;omega)
    ·rw[decide_eq_false hn];exact decide_eq_true (by have:¬Maps.size M=l.length:=fun e=>hn (h4.1 e);omega)
   have hr2:decide ((Maps.size M:Int)<(l.length:Int))=r:=by rw[←hr1];simp
   clear h2 hlt
   go_wp2_with (at_len;refine wpList_len_own _ rfl _ 129 rfl 9 130 Try.underlying129 _ b _ M rfl h1 ?_)
   go_ret
   exact ⟨by first|rfl|exact ret_bool hr2,HBR.out⟩
end Go.Proofs.Ytmlghmjjlpioeaa
