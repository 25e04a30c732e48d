/-
  check.total, rise, apart, beyond; flt.Less of any two.
-/
import Derived.Test.YtmlghmjjlpioeaaNumsK
import Derived.Test.YtmlghmjjlpioeaaFaddLess
set_option maxRecDepth 1000000
set_option maxHeartbeats 16000000
namespace Go.Proofs.Ytmlghmjjlpioeaa
open Go.RowKit
open Lib (hid)
def Lists (w:World)(ao:Option Addr)(ls:List (List Nat)):Prop:=∀ j (h:j<ls.length),∃ g off bo cap,ao=some ⟨g,off,none⟩∧w.cell? ⟨g,off+j,none⟩=some (.slice bo ls[j].length cap)∧Nats .u64 w bo ls[j]
theorem flat_take {ls:List (List Nat)}{j:Nat}(h:j<ls.length):(ls.take (j+1)).flatten.sum=(ls.take j).flatten.sum+ls[j].sum:=by
 rw[List.take_succ_eq_append_getElem h,List.flatten_append,List.sum_append];simp
theorem sum_take {l:List Nat}{j:Nat}(h:j<l.length):(l.take (j+1)).sum=(l.take j).sum+l[j]:=by
 rw[List.take_succ_eq_append_getElem h,List.sum_append];simp
theorem sum_take_le (l:List Nat)(j:Nat):(l.take j).sum≤l.sum:=by
 conv=>rhs;rw[←List.take_append_drop j l]
 rw[List.sum_append];omega
theorem flat_take_le (ls:List (List Nat))(j:Nat):(ls.take j).flatten.sum≤ls.flatten.sum:=by
 conv=>rhs;rw[←List.take_append_drop j ls]
 rw[List.flatten_append,List.sum_append];omega
theorem total_any (n:Nat)(ls:List (List Nat))(ao:Option Addr)(cap:Nat)(w:World)(hn:n<18446744073709551616)(hlen:ls.length≤1000)(hll:Hid (∀ l∈ls,l.length≤9223372036854775806))(h:Hid (Lists w ao ls)){r:Bool}(hr:Hid (decide (ls.flatten.sum=n)=r)) :
  Calls Try.prog 34 #[.int .u64 (n:Int),.slice ao ls.length cap] w fun e w'=>e = .returned (.bool r)∧w=w':=by
 go_enter Try.func34,Try.ntmps34
 go_wp2_with fail
 go_loopg [0,11] ls.length (fun k c i wr=>∃ (j cn:Nat),c = .int .u64 (cn:Int)∧i = .int .i64 (j:Int)∧j+k=ls.length∧w=wr∧Hid (cn+(ls.take j).flatten.sum=n))
 case atStart=>exact ⟨0,n,rfl,rfl,by omega,rfl,hid (by simp)⟩
 case round =>
  obtain ⟨g0,rfl⟩:∃ g0,g0=gk:=⟨_,rfl⟩
  obtain ⟨j,cn,rfl,rfl,hj,rfl,HC⟩:=hrel
  have HJ:=hid hj
  clear hj
  by_cases hlt:j<ls.length
  ·obtain ⟨g,off,bo,lc,rfl,hcell,hnat⟩:=h.out j hlt
   obtain ⟨l,hl⟩:∃ l,ls[j]=l:=⟨_,rfl⟩
   have HT:Hid ((ls.take (j+1)).flatten.sum=(ls.take j).flatten.sum+l.sum):=hid (by rw[flat_take hlt,hl])
   have hl9:l.length≤9223372036854775806:=hll.out l (hl ▸ List.getElem_mem hlt)
   rw[hl] at hcell hnat
   have HN:=hid hnat
   clear hl hnat
   go_wp2_with fail
   go_loopg [0,17] l.length (fun k2 c i wr2=>∃ (m cm:Nat),c = .int .u64 (cm:Int)∧i = .int .i64 (m:Int)∧m+k2=l.length∧w=wr2∧Hid (cm+(ls.take j).flatten.sum+(l.take m).sum=n))
   case atStart=>exact ⟨0,cn,rfl,rfl,by omega,rfl,hid (by have:=HC.out;simp;omega)⟩
   case round =>
    obtain ⟨m,cm,rfl,rfl,hm,rfl,HM⟩:=hrel
    have HMM:=hid hm
    clear hm
    by_cases hml:m<l.length
    ·obtain ⟨g2,off2,x,HX,rfl,hbl,hc2⟩:=HN.out.at (i:=m) hml
     have HS:Hid ((l.take (m+1)).sum=(l.take m).sum+x):=hid (by rw[sum_take hml,HX.out])
     by_cases hxc:cm<x
     ·have d1:decide (cm<x)=true:=decide_eq_true hxc
      have hr2:r=false:=by
       rw[←hr.out]
       refine decide_eq_false fun e=>?_
       have h1:=HM.out
       have h2:=HS.out
       have h3:=HT.out
       have h4:=sum_take_le l (m+1)
       have h5:=flat_take_le ls (j+1)
       omega
      subst hr2
      clear hxc
      go_wp2_with fail
      go_ret
      exact ⟨rfl,rfl⟩
     ·have d1:decide (cm<x)=false:=decide_eq_false hxc
      have q1:IntKind.u64.wrap ((cm:Int) - (x:Int))=((cm - x:Nat):Int):=by rw[IntWalk.u64_in _ (by have:=HM.out;omega)];omega
      have HXC:=hid hxc
      clear hxc
      go_wp2_with fail
      have hm:=HMM.out
      go_roundg (gk - 1)
      case measure=>omega
      case rel=>exact ⟨m+1,cm - x,rfl,by simp,by omega,rfl,hid (by have h1:=HM.out;have h2:=HS.out;have h3:=HXC.out;omega)⟩
    ·have hme:m=l.length:=by have:=HMM.out;omega
     have HE:Hid (cm+(ls.take (j+1)).flatten.sum=n):=hid (by have h1:=HM.out;have h3:=HT.out;rw[hme,List.take_length] at h1;omega)
     clear hme
     go_wp2_with fail
     have hj:=HJ.out
     go_roundg (g0 - 1)
     case measure=>omega
     case rel=>exact ⟨j+1,cm,rfl,by simp,by omega,rfl,HE⟩
  ·have hje:j=ls.length:=by have:=HJ.out;omega
   have hr2:((cn:Int) == 0)=r:=by
    have h1:=HC.out
    rw[hje,List.take_length] at h1
    rw[←hr.out]
    by_cases h0:cn=0
    ·subst h0;simp;omega
    ·rw[decide_eq_false (by omega)];simp[h0]
   clear hje
   go_wp2_with fail
   go_ret
   exact ⟨by first|rfl|exact ret_bool hr2,rfl⟩
def lessF (a b:Nat):Bool:=decide (Fm.cls a≠4)&&(decide (Fm.cls b≠4)&&decide (Fm.num a<Fm.num b))
theorem number_nan (a:Nat)(w:World)(ha:a<2^64){c:Int}(C:Hid (c=(Fm.cls a:Nat)))(h4:(c == 4)=true) :
  Calls Try.prog 59 #[.int .u64 a] w fun x w'=>x = .returned (.tuple #[.int .i64 0,.bool false])∧w=w':=by
 go_enter Try.func59,Try.ntmps59
 go_wp2_with fail
 refine (class_is a _ ha C).mono ?_;rintro e w' ⟨rfl,rfl⟩
 go_wp2_with fail
 go_ret2
 exact ⟨rfl,rfl⟩
theorem number_all (a:Nat)(w:World)(ha:a<2^64):Calls Try.prog 59 #[.int .u64 a] w fun x w'=>(∃ v:Int,Hid (Fm.cls a≠4→v=Fm.num a)∧x = .returned (.tuple #[.int .i64 v,.bool (decide (Fm.cls a≠4))]))∧w=w':=by
 by_cases h:Fm.cls a=4
 ·refine (number_nan a w ha (hid (rfl:((Fm.cls a:Nat):Int)=_)) (by rw[h];rfl)).mono ?_
  rintro e w' ⟨rfl,rfl⟩
  exact ⟨⟨0,hid (fun h'=>absurd h h'),by rw[decide_eq_false (by simpa using h)]⟩,rfl⟩
 ·refine (number_at a _ w ha (hid h) (hid rfl)).mono ?_
  rintro e w' ⟨rfl,rfl⟩
  exact ⟨⟨_,hid (fun _=>rfl),by rw[decide_eq_true h]⟩,rfl⟩
theorem less_any (a b:Nat)(w:World)(ha:a<2^64)(hb:b<2^64){r:Bool}(hr:Hid (lessF a b=r)) :
  Calls Try.prog 42 #[.int .u64 a,.int .u64 b] w fun x w'=>x = .returned (.bool r)∧w=w':=by
 obtain ⟨p,HP⟩:∃ p,Hid (decide (Fm.cls a≠4)=p):=⟨_,hid rfl⟩
 obtain ⟨q,HQ⟩:∃ q,Hid (decide (Fm.cls b≠4)=q):=⟨_,hid rfl⟩
 go_enter Try.func42,Try.ntmps42
 go_wp2_with fail
 refine (number_all a _ ha).mono ?_;rintro e w' ⟨⟨v,HV,rfl⟩,rfl⟩
 rw[HP.out]
 go_wp2_with fail
 refine (number_all b _ hb).mono ?_;rintro e w' ⟨⟨u,HU,rfl⟩,rfl⟩
 rw[HQ.out]
 have hr2:(p&&(q&&decide (v<u)))=r:=by
  rw[←hr.out];unfold lessF
  rw[HP.out,HQ.out]
  cases p with
  | false=>rfl
  | true =>
   cases q with
   | false=>rfl
   | true =>
    have h1:=HV.out (of_decide_eq_true HP.out)
    have h2:=HU.out (of_decide_eq_true HQ.out)
    rw[h1,h2]
 cases p with
 | false =>
  go_wp2_with fail
  go_ret
  exact ⟨ret_bool (by simpa using hr2),rfl⟩
 | true =>
  cases q with
  | false =>
   go_wp2_with fail
   go_ret
   exact ⟨ret_bool (by simpa using hr2),rfl⟩
  | true =>
   go_wp2_with fail
   go_ret
   exact ⟨ret_bool (by simpa using hr2),rfl⟩
def riseAt (l:List Nat)(i:Nat):Bool:=decide (Fm.cls (l.getD i 0)≠4)&&(decide (i=0)||lessF (l.getD (i - 1) 0) (l.getD i 0))
def riseB (l:List Nat):Bool:=decide (∀ i,i<l.length→riseAt l i=true)
theorem nats_getD {w:World}{ao:Option Addr}{l:List Nat}(h:Nats .u64 w ao l){i:Nat}(hi:i<l.length):∃ b off n,Hid (n=l.getD i 0)∧ao=some ⟨b,off,none⟩∧b<w.heap.size∧w.cell? ⟨b,off+i,none⟩=some (.int .u64 (n:Int)):=by
 obtain ⟨b,off,n,h1,h2,h3,h4⟩:=h.at hi
 exact ⟨b,off,n,hid (by rw[h1.out,List.getD_eq_getElem?_getD,List.getElem?_eq_getElem hi];rfl),h2,h3,h4⟩
theorem getD_lt {l:List Nat}(h:∀ n∈l,n<18446744073709551616)(i:Nat):l.getD i 0<2 ^ 64:=by
 rw[List.getD_eq_getElem?_getD]
 cases hg:l[i]? with
 | none=>simp
 | some n=>exact h n (List.mem_of_getElem? hg)
theorem rise_any (l:List Nat)(ao:Option Addr)(cap:Nat)(w:World)(hl:l.length≤9223372036854775806)(hb:∀ n∈l,n<18446744073709551616)(h:Hid (Nats .u64 w ao l)){r:Bool}(hr:Hid (riseB l=r)) :
  Calls Try.prog 35 #[.slice ao l.length cap] w fun e w'=>e = .returned (.bool r)∧Below w.heap.size w w':=by
 have HB:=hid hb
 clear hb
 go_enter Try.func35,Try.ntmps35
 go_wp2_with fail
 go_loopg [7] l.length (fun k i wr=>∃ j:Nat,i = .int .i64 (j:Int)∧j+k=l.length∧Below w.heap.size w wr∧Hid (∀ m,m<j→riseAt l m=true))
 case atStart=>exact ⟨0,rfl,by omega,Below.refl _ _,hid (fun m hm=>by omega)⟩
 case round =>
  obtain ⟨j,rfl,hj,hbr,HM⟩:=hrel
  have HBR:=hid hbr
  have HJ:=hid hj
  clear hj hbr
  by_cases hlt:j<l.length
  ·have HN:=hid (h.out.below HBR.out)
   obtain ⟨g,off,x,HX,rfl,hbl,hc⟩:=nats_getD HN.out hlt
   have hx9:x<2 ^ 64:=by rw[HX.out];exact getD_lt HB.out j
   obtain ⟨c,HC⟩:∃ c:Int,Hid (c=(Fm.cls x:Nat)):=⟨_,hid rfl⟩
   have HRJ:Hid (riseAt l j=(decide (Fm.cls x≠4)&&(decide (j=0)||lessF (l.getD (j - 1) 0) x))):=hid (by unfold riseAt;rw[←HX.out])
   by_cases h4:Fm.cls x=4
   ·have e1:(c == 4)=true:=by rw[HC.out,h4];rfl
    have hr2:r=false:=by
     rw[←hr.out]
     refine decide_eq_false fun e=>?_
     have h1:=e j hlt
     rw[HRJ.out,h4] at h1
     simp at h1
    subst hr2
    clear h4
    go_wp2_with fail
    refine (class_is x _ hx9 HC).mono ?_;rintro e w' ⟨rfl,rfl⟩
    go_wp2_with fail
    go_ret
    exact ⟨rfl,HBR.out⟩
   ·have e1:(c == 4)=false:=by rw[HC.out];simp;omega
    by_cases h0:j=0
    ·have HN2:Hid (∀ m,m<j+1→riseAt l m=true):=hid (fun m hm=>by
      by_cases hmj:m=j
      ·rw[hmj,HRJ.out,decide_eq_true h4,decide_eq_true h0];rfl
      ·exact HM.out m (by omega))
     have d2:decide (0<j)=false:=decide_eq_false (by omega)
     have d3:¬0<j:=by omega
     clear h4 h0
     go_wp2_with fail
     refine (class_is x _ hx9 HC).mono ?_;rintro e w' ⟨rfl,rfl⟩
     go_wp2_with fail
     have hj:=HJ.out
     go_roundg (gk - 1)
     case measure=>omega
     case rel=>exact ⟨j+1,by simp,by omega,HBR.out,HN2⟩
    ·obtain ⟨g2,off2,y,HY,he,_,hc2⟩:=nats_getD HN.out (show j - 1<l.length by omega)
     simp only[Option.some.injEq,Addr.mk.injEq] at he
     obtain ⟨rfl,rfl,_⟩:=he
     have hy9:y<2 ^ 64:=by rw[HY.out];exact getD_lt HB.out _
     have q1:IntKind.i64.wrap ((j:Int) - 1)=((j - 1:Nat):Int):=by rw[IntWalk.i64_in _ (by omega)];omega
     have d2:decide (0<j)=true:=decide_eq_true (by omega)
     have d3:0<j:=by omega
     have d4:j - 1<l.length:=by omega
     obtain ⟨b,HBL⟩:∃ b,Hid (lessF y x=b):=⟨_,hid rfl⟩
     have HRJ2:Hid (riseAt l j=b):=hid (by rw[HRJ.out,decide_eq_true h4,decide_eq_false h0,←HY.out,HBL.out];rfl)
     clear h4 h0
     go_wp2_with fail
     refine (class_is x _ hx9 HC).mono ?_;rintro e w' ⟨rfl,rfl⟩
     go_wp2_with fail
     refine (less_any y x _ hy9 hx9 HBL).mono ?_;rintro e w' ⟨rfl,rfl⟩
     cases b with
     | true =>
      have HN2:Hid (∀ m,m<j+1→riseAt l m=true):=hid (fun m hm=>by
       by_cases hmj:m=j
       ·rw[hmj,HRJ2.out]
       ·exact HM.out m (by omega))
      go_wp2_with fail
      have hj:=HJ.out
      go_roundg (gk - 1)
      case measure=>omega
      case rel=>exact ⟨j+1,by simp,by omega,HBR.out,HN2⟩
     | false =>
      have hr2:r=false:=by
       rw[←hr.out]
       refine decide_eq_false fun e=>?_
       have h1:=e j hlt
       rw[HRJ2.out] at h1
       cases h1
      subst hr2
      go_wp2_with fail
      go_ret
      exact ⟨rfl,HBR.out⟩
  ·have hr2:r=true:=by
    rw[←hr.out]
    exact decide_eq_true fun i hi=>HM.out i (by have:=HJ.out;omega)
   subst hr2
   go_wp2_with fail
   go_ret
   exact ⟨rfl,HBR.out⟩
end Go.Proofs.Ytmlghmjjlpioeaa
