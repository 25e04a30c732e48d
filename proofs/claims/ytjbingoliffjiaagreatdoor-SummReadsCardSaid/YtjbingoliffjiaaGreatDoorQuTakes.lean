/-
  summ.takesQuantile.
-/
import Derived.Test.YtjbingoliffjiaaGreatDoorQuBack
set_option maxRecDepth 1000000
set_option maxHeartbeats 16000000
namespace Go.Proofs.YtjbingoliffjiaaGreatDoor
open Go.RowKit
theorem qutakes_any (r:Rec) (w:World):Calls Tryz.prog 147 #[.int .i64 (r.num:Int),.int .i64 (r.ty:Int)] w fun e w'=>e = .returned (.bool (quF.tk r))∧w=w':=by
 obtain ⟨num,ty,n,s,raw⟩:=r
 have hq:=quF_tk ⟨num,ty,n,s,raw⟩
 dsimp only at hq
 obtain ⟨q,hqe⟩:∃ q,quF.tk ⟨num,ty,n,s,raw⟩=q:=⟨_,rfl⟩
 rw[hqe] at hq ⊢
 clear hqe
 by_cases h1:num=1
 ·subst h1
  have hb:Hid (q=((ty:Int) == 1)):=Lib.hid (by rw[show ((1:Int))=((1:Nat):Int) from rfl,ibeq,hq];exact decide_eq_decide.2 (by omega))
  clear hq
  go_enter Tryz.func147,Tryz.ntmps147
  go_wp2_with fail
  go_ret
  exact ⟨by rw[hb.out];rfl,rfl⟩
 by_cases h2:num=2
 ·subst h2
  have hb:Hid (q=((ty:Int) == 1)):=Lib.hid (by rw[show ((1:Int))=((1:Nat):Int) from rfl,ibeq,hq];exact decide_eq_decide.2 (by omega))
  clear hq
  go_enter Tryz.func147,Tryz.ntmps147
  go_wp2_with fail
  go_ret
  exact ⟨by rw[hb.out];rfl,rfl⟩
 have d1:((num:Int) == (1:Int))=false:=by rw[beq_eq_false_iff_ne];omega
 have d2:((num:Int) == (2:Int))=false:=by rw[beq_eq_false_iff_ne];omega
 have hb:Hid (q=false):=Lib.hid (by rw[hq];exact decide_eq_false (by omega))
 clear h1 h2 hq
 go_enter Tryz.func147,Tryz.ntmps147
 go_wp2_with fail
 go_ret
 exact ⟨by rw[hb.out];rfl,rfl⟩
theorem QuRel.form {w:World} {P:Nat→Prop}:∀ {x:Qu} {c:List Value},quCel.R w P x c→∃ (jq jv:Int) (Xu:ByteArray),c=[.int .u64 jq,.int .u64 jv,.string Xu]
 | ((q,v),u),_,h=>⟨q,v,⟨u.toArray⟩,h⟩
theorem cells3 {w:World} {g o j:Nat} {c0 c1 c2:Value} (h:Cells w g (o+3 * j) [c0,c1,c2]):w.cell? ⟨g,o+j * 3,none⟩=some c0∧w.cell? ⟨g,o+j * 3+1,none⟩=some c1∧w.cell? ⟨g,o+j * 3+2,none⟩=some c2:=by
 refine ⟨?_,?_,?_⟩
 ·have:=h 0 (by simp);rw[show o+j * 3=o+3 * j+0 by omega,this];rfl
 ·have:=h 1 (by simp);rw[show o+j * 3+1=o+3 * j+1 by omega,this];rfl
 ·have:=h 2 (by simp);rw[show o+j * 3+2=o+3 * j+2 by omega,this];rfl
end Go.Proofs.YtjbingoliffjiaaGreatDoor
