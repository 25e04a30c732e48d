/-
  FaddLess, CkTot
-/
import Derived.Test.YtoggpnfeioaidaaDoorFaddF
import Derived.Test.YtoggpnfeioaidaaDoorBukRef
import Derived.Test.YtoggpnfeioaidaaDoorFnl
import Derived.Test.YtoggpnfeioaidaaDoorMgEach
set_option maxRecDepth 1000000
set_option maxHeartbeats 16000000
namespace Go.Proofs.YtoggpnfeioaidaaDoor
open Go.RowKit
theorem class_is (a:Nat) (w:World) (ha:a<2^64) {c:Int} (hC:Hid (c=(Fm.cls a:Nat))) :
  Calls Tryd.prog 44 #[.int .u64 a] w fun e w'=>e = .returned (.int .i64 c)∧w=w':=by
 rw[hC.out]
 exact class_any a w ha
theorem quiet_is (a q:Nat) (w:World) (ha:a<2^64) (hQ:Hid (Fm.quiet a=q)) :
  Calls Tryd.prog 45 #[.int .u64 a] w fun e w'=>e = .returned (.int .u64 q)∧w=w':=by
 rw[←hQ.out]
 exact quiet_any a w ha
theorem finite_is (a b R:Nat) (w:World) (ha:a<2^64) (hb:b<2^64) (fa:Hid (Fm.sz a<Fm.inf)) (h:Hid (Fm.sz b≤Fm.sz a)) (hR:Hid (Fm.fin a b=R)) :
  Calls Tryd.prog 46 #[.int .u64 a,.int .u64 b] w fun e w'=>e = .returned (.int .u64 R)∧w=w':=by
 rw[←hR.out]
 rcases Nat.lt_trichotomy (Fm.sg a) (Fm.sg b) with hs|hs|hs
 ·exact finite_diff a b w ha hb fa h (Lib.hid (Nat.ne_of_lt hs))
 ·exact finite_same a b w ha hb fa h (Lib.hid hs)
 ·exact finite_diff a b w ha hb fa h (Lib.hid (Nat.ne_of_gt hs))
theorem add_nan1 (a b R:Nat) (w:World) (ha:a<2^64) (hb:b<2^64) {c1 c2:Int} (C1:Hid (c1=(Fm.cls a:Nat))) (C2:Hid (c2=(Fm.cls b:Nat))) (e1:(c1 == 4)=true) (HA:Hid (Fm.quiet a=R)) :
  Calls Tryd.prog 23 #[.int .u64 a,.int .u64 b] w fun e w'=>e = .returned (.int .u64 R)∧w=w':=by
 go_enter Tryd.func23,Tryd.ntmps23
 go_wp2_with fail
 refine (class_is a _ ha C1).mono ?_;rintro e w' ⟨rfl,rfl⟩
 go_wp2_with fail
 refine (class_is b _ hb C2).mono ?_;rintro e w' ⟨rfl,rfl⟩
 go_wp2_with fail
 refine (quiet_is a R _ ha HA).mono ?_;rintro e w' ⟨rfl,rfl⟩
 go_wp2_with fail
 go_ret
 exact ⟨rfl,rfl⟩
theorem add_nan2 (a b R:Nat) (w:World) (ha:a<2^64) (hb:b<2^64) {c1 c2:Int} (C1:Hid (c1=(Fm.cls a:Nat))) (C2:Hid (c2=(Fm.cls b:Nat))) (e1:(c1 == 4)=false) (e2:(c2 == 4)=true) (HA:Hid (Fm.quiet b=R)) :
  Calls Tryd.prog 23 #[.int .u64 a,.int .u64 b] w fun e w'=>e = .returned (.int .u64 R)∧w=w':=by
 go_enter Tryd.func23,Tryd.ntmps23
 go_wp2_with fail
 refine (class_is a _ ha C1).mono ?_;rintro e w' ⟨rfl,rfl⟩
 go_wp2_with fail
 refine (class_is b _ hb C2).mono ?_;rintro e w' ⟨rfl,rfl⟩
 go_wp2_with fail
 refine (quiet_is b R _ hb HA).mono ?_;rintro e w' ⟨rfl,rfl⟩
 go_wp2_with fail
 go_ret
 exact ⟨rfl,rfl⟩
theorem add_infs (a b R:Nat) (w:World) (ha:a<2^64) (hb:b<2^64) {c1 c2:Int} (C1:Hid (c1=(Fm.cls a:Nat))) (C2:Hid (c2=(Fm.cls b:Nat))) (e1:(c1 == 4)=false) (e2:(c2 == 4)=false) (e3:(c1 == 3)=true) (e4:(c2 == 3)=true) (e5:((a:Int) != (b:Int))=true) (HA:Hid ((9221120237041090560:Int)=(R:Int))) :
  Calls Tryd.prog 23 #[.int .u64 a,.int .u64 b] w fun e w'=>e = .returned (.int .u64 R)∧w=w':=by
 go_enter Tryd.func23,Tryd.ntmps23
 go_wp2_with fail
 refine (class_is a _ ha C1).mono ?_;rintro e w' ⟨rfl,rfl⟩
 go_wp2_with fail
 refine (class_is b _ hb C2).mono ?_;rintro e w' ⟨rfl,rfl⟩
 go_wp2_with fail
 go_ret
 exact ⟨ret_int HA.out,rfl⟩
theorem add_inf1 (a b R:Nat) (w:World) (ha:a<2^64) (hb:b<2^64) {c1 c2:Int} (C1:Hid (c1=(Fm.cls a:Nat))) (C2:Hid (c2=(Fm.cls b:Nat))) (e1:(c1 == 4)=false) (e2:(c2 == 4)=false) (e3:(c1 == 3)=true) (e4:(c2 == 3)=false) (HA:Hid ((a:Int)=(R:Int))) :
  Calls Tryd.prog 23 #[.int .u64 a,.int .u64 b] w fun e w'=>e = .returned (.int .u64 R)∧w=w':=by
 go_enter Tryd.func23,Tryd.ntmps23
 go_wp2_with fail
 refine (class_is a _ ha C1).mono ?_;rintro e w' ⟨rfl,rfl⟩
 go_wp2_with fail
 refine (class_is b _ hb C2).mono ?_;rintro e w' ⟨rfl,rfl⟩
 go_wp2_with fail
 go_ret
 exact ⟨ret_int HA.out,rfl⟩
theorem add_inf11 (a b R:Nat) (w:World) (ha:a<2^64) (hb:b<2^64) {c1 c2:Int} (C1:Hid (c1=(Fm.cls a:Nat))) (C2:Hid (c2=(Fm.cls b:Nat))) (e1:(c1 == 4)=false) (e2:(c2 == 4)=false) (e3:(c1 == 3)=true) (e4:(c2 == 3)=true) (e5:((a:Int) != (b:Int))=false) (HA:Hid ((a:Int)=(R:Int))) :
  Calls Tryd.prog 23 #[.int .u64 a,.int .u64 b] w fun e w'=>e = .returned (.int .u64 R)∧w=w':=by
 go_enter Tryd.func23,Tryd.ntmps23
 go_wp2_with fail
 refine (class_is a _ ha C1).mono ?_;rintro e w' ⟨rfl,rfl⟩
 go_wp2_with fail
 refine (class_is b _ hb C2).mono ?_;rintro e w' ⟨rfl,rfl⟩
 go_wp2_with fail
 go_ret
 exact ⟨ret_int HA.out,rfl⟩
theorem add_inf2 (a b R:Nat) (w:World) (ha:a<2^64) (hb:b<2^64) {c1 c2:Int} (C1:Hid (c1=(Fm.cls a:Nat))) (C2:Hid (c2=(Fm.cls b:Nat))) (e1:(c1 == 4)=false) (e2:(c2 == 4)=false) (e3:(c1 == 3)=false) (e4:(c2 == 3)=true) (HA:Hid ((b:Int)=(R:Int))) :
  Calls Tryd.prog 23 #[.int .u64 a,.int .u64 b] w fun e w'=>e = .returned (.int .u64 R)∧w=w':=by
 go_enter Tryd.func23,Tryd.ntmps23
 go_wp2_with fail
 refine (class_is a _ ha C1).mono ?_;rintro e w' ⟨rfl,rfl⟩
 go_wp2_with fail
 refine (class_is b _ hb C2).mono ?_;rintro e w' ⟨rfl,rfl⟩
 go_wp2_with fail
 go_ret
 exact ⟨ret_int HA.out,rfl⟩
theorem add_low (a b R:Nat) (w:World) (ha:a<2^64) (hb:b<2^64) {c1 c2:Int} (C1:Hid (c1=(Fm.cls a:Nat))) (C2:Hid (c2=(Fm.cls b:Nat))) (e1:(c1 == 4)=false) (e2:(c2 == 4)=false) (e3:(c1 == 3)=false) (e4:(c2 == 3)=false) (fb:Hid (Fm.sz b<Fm.inf)) (hl:Hid (Fm.sz a≤Fm.sz b)) (hd:decide (bits .andNot .u64 (a:Int) 9223372036854775808<bits .andNot .u64 (b:Int) 9223372036854775808)=true) (HA:Hid (Fm.fin b a=R)) :
  Calls Tryd.prog 23 #[.int .u64 a,.int .u64 b] w fun e w'=>e = .returned (.int .u64 R)∧w=w':=by
 go_enter Tryd.func23,Tryd.ntmps23
 go_wp2_with fail
 refine (class_is a _ ha C1).mono ?_;rintro e w' ⟨rfl,rfl⟩
 go_wp2_with fail
 refine (class_is b _ hb C2).mono ?_;rintro e w' ⟨rfl,rfl⟩
 go_wp2_with fail
 refine (finite_is b a R _ hb ha fb hl HA).mono ?_;rintro e w' ⟨rfl,rfl⟩
 go_wp2_with fail
 go_ret
 exact ⟨rfl,rfl⟩
theorem add_high (a b R:Nat) (w:World) (ha:a<2^64) (hb:b<2^64) {c1 c2:Int} (C1:Hid (c1=(Fm.cls a:Nat))) (C2:Hid (c2=(Fm.cls b:Nat))) (e1:(c1 == 4)=false) (e2:(c2 == 4)=false) (e3:(c1 == 3)=false) (e4:(c2 == 3)=false) (fa:Hid (Fm.sz a<Fm.inf)) (hl:Hid (Fm.sz b≤Fm.sz a)) (hd:decide (bits .andNot .u64 (a:Int) 9223372036854775808<bits .andNot .u64 (b:Int) 9223372036854775808)=false) (HA:Hid (Fm.fin a b=R)) :
  Calls Tryd.prog 23 #[.int .u64 a,.int .u64 b] w fun e w'=>e = .returned (.int .u64 R)∧w=w':=by
 go_enter Tryd.func23,Tryd.ntmps23
 go_wp2_with fail
 refine (class_is a _ ha C1).mono ?_;rintro e w' ⟨rfl,rfl⟩
 go_wp2_with fail
 refine (class_is b _ hb C2).mono ?_;rintro e w' ⟨rfl,rfl⟩
 go_wp2_with fail
 refine (finite_is a b R _ ha hb fa hl HA).mono ?_;rintro e w' ⟨rfl,rfl⟩
 go_wp2_with fail
 go_ret
 exact ⟨rfl,rfl⟩
theorem add_at (a b R:Nat) (w:World) (ha:a<2^64) (hb:b<2^64) (hR:Hid (Fm.add a b=R)) :
  Calls Tryd.prog 23 #[.int .u64 a,.int .u64 b] w fun e w'=>e = .returned (.int .u64 R)∧w=w':=by
 have h1:=Fm.cls_cases a
 have h2:=Fm.cls_cases b
 have HA:=hR.out
 unfold Fm.add at HA
 have C1:Hid (((Fm.cls a:Nat):Int)=(Fm.cls a:Nat)):=Lib.hid rfl
 have C2:Hid (((Fm.cls b:Nat):Int)=(Fm.cls b:Nat)):=Lib.hid rfl
 have yes:∀ {x k:Nat},x=k→(((x:Nat):Int) == ((k:Nat):Int))=true:=fun h=>by rw[h];simp
 have no:∀ {x k:Nat},x≠k→(((x:Nat):Int) == ((k:Nat):Int))=false:=fun h=>by simp;omega
 by_cases n1:Fm.cls a=4
 ·rw[if_pos n1] at HA
  exact add_nan1 a b R w ha hb C1 C2 (yes n1) (Lib.hid HA)
 rw[if_neg n1] at HA
 by_cases n2:Fm.cls b=4
 ·rw[if_pos n2] at HA
  exact add_nan2 a b R w ha hb C1 C2 (no n1) (yes n2) (Lib.hid HA)
 rw[if_neg n2] at HA
 by_cases n3:Fm.cls a=3
 ·by_cases n4:Fm.cls b=3
  ·by_cases n5:a=b
   ·rw[if_neg (fun h=>h.2.2 n5),if_pos n3] at HA
    exact add_inf11 a b R w ha hb C1 C2 (no n1) (no n2) (yes n3) (yes n4) (by subst n5;simp) (Lib.hid (by rw[HA]))
   ·rw[if_pos ⟨n3,n4,n5⟩] at HA
    exact add_infs a b R w ha hb C1 C2 (no n1) (no n2) (yes n3) (yes n4) (by simp;omega) (Lib.hid (by rw[←HA];rfl))
  ·rw[if_neg (fun h=>n4 h.2.1),if_pos n3] at HA
   exact add_inf1 a b R w ha hb C1 C2 (no n1) (no n2) (yes n3) (no n4) (Lib.hid (by rw[HA]))
 by_cases n4:Fm.cls b=3
 ·rw[if_neg (fun h=>n3 h.1),if_neg n3,if_pos n4] at HA
  exact add_inf2 a b R w ha hb C1 C2 (no n1) (no n2) (no n3) (yes n4) (Lib.hid (by rw[HA]))
 rw[if_neg (fun h=>n3 h.1),if_neg n3,if_neg n4] at HA
 have fa:=Lib.hid (Fm.cls_fin.1 (show Fm.cls a≤2 by omega))
 have fb:=Lib.hid (Fm.cls_fin.1 (show Fm.cls b≤2 by omega))
 have S1:=not_sign a ha
 have S2:=not_sign b hb
 rcases Nat.lt_or_ge (Fm.sz a) (Fm.sz b) with hl|hl
 ·rw[Fm.fin_comm] at HA
  exact add_low a b R w ha hb C1 C2 (no n1) (no n2) (no n3) (no n4) fb (Lib.hid (Nat.le_of_lt hl)) (by rw[S1,S2];exact decide_eq_true (Int.ofNat_lt.2 hl)) (Lib.hid HA)
 ·exact add_high a b R w ha hb C1 C2 (no n1) (no n2) (no n3) (no n4) fa (Lib.hid hl) (by rw[S1,S2];exact decide_eq_false (fun h=>absurd (Int.ofNat_lt.1 h) (Nat.not_lt.2 hl))) (Lib.hid HA)
open Go.RowKit
def bkz (x:Bk × List UInt8):Bool:=decide (x.1.off=0)&&(x.1.cs.isEmpty&&x.2.isEmpty)
open Go.RowKit
theorem cls_zero_iff {a:Nat}:Fm.cls a=0↔Fm.sz a=0:=by
 have hi:Fm.inf=2047*2^52:=rfl
 unfold Fm.cls
 repeat' split
 all_goals omega
theorem number_zero (a:Nat) (w:World) (ha:a<2^64) {c:Int} (C:Hid (c=(Fm.cls a:Nat))) (h4:(c == 4)=false) (h0:(c == 0)=true) :
  Calls Tryd.prog 67 #[.int .u64 a] w fun x w'=>x = .returned (.tuple #[.int .i64 0,.bool true])∧w=w':=by
 go_enter Tryd.func67,Tryd.ntmps67
 go_wp2_with fail
 refine (class_is a _ ha C).mono ?_;rintro e w' ⟨rfl,rfl⟩
 go_wp2_with fail
 go_ret2
 exact ⟨rfl,rfl⟩
theorem number_plus (a s:Nat) (w:World) (ha:a<2^64) {c:Int} (C:Hid (c=(Fm.cls a:Nat))) (h4:(c == 4)=false) (h0:(c == 0)=false)
  (e1:bits .andNot .u64 (a:Int) 9223372036854775808=(s:Int)) (hs:s<9223372036854775808) (e2:(bits .and .u64 (a:Int) 9223372036854775808 != 0)=false) :
  Calls Tryd.prog 67 #[.int .u64 a] w fun x w'=>x = .returned (.tuple #[.int .i64 s,.bool true])∧w=w':=by
 go_enter Tryd.func67,Tryd.ntmps67
 go_wp2_with fail
 refine (class_is a _ ha C).mono ?_;rintro e w' ⟨rfl,rfl⟩
 go_wp2_with fail
 go_ret2
 refine ⟨tuple_eq (int_eq ?_) rfl,rfl⟩
 first|rfl|(rw[wrap64_id (by omega) (by omega)])
theorem number_minus (a s:Nat) (w:World) (ha:a<2^64) {c:Int} (C:Hid (c=(Fm.cls a:Nat))) (h4:(c == 4)=false) (h0:(c == 0)=false)
  (e1:bits .andNot .u64 (a:Int) 9223372036854775808=(s:Int)) (hs:s<9223372036854775808) (e2:(bits .and .u64 (a:Int) 9223372036854775808 != 0)=true) :
  Calls Tryd.prog 67 #[.int .u64 a] w fun x w'=>x = .returned (.tuple #[.int .i64 (-(s:Int)),.bool true])∧w=w':=by
 go_enter Tryd.func67,Tryd.ntmps67
 go_wp2_with fail
 refine (class_is a _ ha C).mono ?_;rintro e w' ⟨rfl,rfl⟩
 go_wp2_with fail
 go_ret2
 refine ⟨tuple_eq (int_eq ?_) rfl,rfl⟩
 first|rfl|(rw[wrap64_id (by omega) (by omega)])
theorem number_at (a:Nat) (v:Int) (w:World) (ha:a<2^64) (hc:Hid (Fm.cls a≠4)) (hv:Hid (Fm.num a=v)) :
  Calls Tryd.prog 67 #[.int .u64 a] w fun x w'=>x = .returned (.tuple #[.int .i64 v,.bool true])∧w=w':=by
 have yes:∀ {x k:Nat},x=k→(((x:Nat):Int) == ((k:Nat):Int))=true:=fun h=>by rw[h];simp
 have no:∀ {x k:Nat},x≠k→(((x:Nat):Int) == ((k:Nat):Int))=false:=fun h=>by simp;omega
 have C:Hid (((Fm.cls a:Nat):Int)=(Fm.cls a:Nat)):=Lib.hid rfl
 have h4:=no hc.out
 rw[←hv.out]
 by_cases h0:Fm.cls a=0
 ·have hz:=cls_zero_iff.1 h0
  have hn:Fm.num a=0:=by unfold Fm.num;rw[hz];split<;>rfl
  rw[hn]
  exact number_zero a w ha C h4 (yes h0)
 ·have S:=sign_of a ha
  rcases Fm.sg_lt ha with hs|hs
  ·rw[Fm.num_of (by omega)]
   exact number_plus a _ w ha C h4 (no h0) (not_sign a ha) (Fm.sz_lt a) (by rw[S,hs];rfl)
  ·rw[Fm.num_of1 hs]
   exact number_minus a _ w ha C h4 (no h0) (not_sign a ha) (Fm.sz_lt a) (by rw[S,hs];rfl)
open Go.RowKit
def Lists (w:World) (ao:Option Addr) (ls:List (List Nat)):Prop:=∀ j (h:j<ls.length),∃ g off bo cap,ao=some ⟨g,off,none⟩∧w.cell? ⟨g,off+j,none⟩=some (.slice bo ls[j].length cap)∧Nats .u64 w bo ls[j]
def lessF (a b:Nat):Bool:=decide (Fm.cls a≠4)&&(decide (Fm.cls b≠4)&&decide (Fm.num a<Fm.num b))
theorem number_nan (a:Nat) (w:World) (ha:a<2^64) {c:Int} (C:Hid (c=(Fm.cls a:Nat))) (h4:(c == 4)=true) :
  Calls Tryd.prog 67 #[.int .u64 a] w fun x w'=>x = .returned (.tuple #[.int .i64 0,.bool false])∧w=w':=by
 go_enter Tryd.func67,Tryd.ntmps67
 go_wp2_with fail
 refine (class_is a _ ha C).mono ?_;rintro e w' ⟨rfl,rfl⟩
 go_wp2_with fail
 go_ret2
 exact ⟨rfl,rfl⟩
theorem number_all (a:Nat) (w:World) (ha:a<2^64):Calls Tryd.prog 67 #[.int .u64 a] w fun x w'=>(∃ v:Int,Hid (Fm.cls a≠4→v=Fm.num a)∧x = .returned (.tuple #[.int .i64 v,.bool (decide (Fm.cls a≠4))]))∧w=w':=by
 by_cases h:Fm.cls a=4
 ·refine (number_nan a w ha (Lib.hid (rfl:((Fm.cls a:Nat):Int)=_)) (by rw[h];rfl)).mono ?_
  rintro e w' ⟨rfl,rfl⟩
  exact ⟨⟨0,Lib.hid (fun h'=>absurd h h'),by rw[decide_eq_false (by simpa using h)]⟩,rfl⟩
 ·refine (number_at a _ w ha (Lib.hid h) (Lib.hid rfl)).mono ?_
  rintro e w' ⟨rfl,rfl⟩
  exact ⟨⟨_,Lib.hid (fun _=>rfl),by rw[decide_eq_true h]⟩,rfl⟩
theorem less_any (a b:Nat) (w:World) (ha:a<2^64) (hb:b<2^64) {r:Bool} (hr:Hid (lessF a b=r)) :
  Calls Tryd.prog 47 #[.int .u64 a,.int .u64 b] w fun x w'=>x = .returned (.bool r)∧w=w':=by
 obtain ⟨p,HP⟩:∃ p,Hid (decide (Fm.cls a≠4)=p):=⟨_,Lib.hid rfl⟩
 obtain ⟨q,HQ⟩:∃ q,Hid (decide (Fm.cls b≠4)=q):=⟨_,Lib.hid rfl⟩
 go_enter Tryd.func47,Tryd.ntmps47
 go_wp2_with fail
 refine (number_all a _ ha).mono ?_;rintro e w' ⟨⟨v,HV,rfl⟩,rfl⟩
 rw[HP.out]
 go_wp2_with fail
 refine (number_all b _ hb).mono ?_;rintro e w' ⟨⟨u,HU,rfl⟩,rfl⟩
 rw[HQ.out]
 have hr2:(p&&(q&&decide (v<u)))=r:=by
  rw[←hr.out];unfold lessF
  rw[HP.out,HQ.out]
  cases p with
  | false=>rfl
  | true =>
   cases q with
   | false=>rfl
   | true =>
    have h1:=HV.out (of_decide_eq_true HP.out)
    have h2:=HU.out (of_decide_eq_true HQ.out)
    rw[h1,h2]
 cases p with
 | false =>
  go_wp2_with fail
  go_ret
  exact ⟨ret_bool (by simpa using hr2),rfl⟩
 | true =>
  cases q with
  | false =>
   go_wp2_with fail
   go_ret
   exact ⟨ret_bool (by simpa using hr2),rfl⟩
  | true =>
   go_wp2_with fail
   go_ret
   exact ⟨ret_bool (by simpa using hr2),rfl⟩
end Go.Proofs.YtoggpnfeioaidaaDoor
