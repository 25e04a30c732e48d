/-
  hyglaw15.first.
-/
import Derived.Test.YtjbingoliffjiaaGreatDoorSuMar
import Derived.Test.YtjbingoliffjiaaGreatDoorSuRead
set_option maxRecDepth 1000000
set_option maxHeartbeats 16000000
namespace Go.Proofs.YtjbingoliffjiaaGreatDoor
open Go.RowKit
theorem first_su1 (w:World) (g:Nat) {T:TypeId} (hg:w.heap[g]? = some (.cells #[.int .u64 0,.int .u64 0,.string ⟨#[]⟩] T (0,0))):Calls Tryz.prog 39 #[.agg #[.slice none 0 0,.int .u64 0,.int .u64 0,.int .u64 0,.int .u64 0,.slice (some ⟨g,0,none⟩) 1 1,.int .u32 0,.string ⟨#[]⟩],.int .i64 1] w fun e w'=>e = .returned (.tuple #[.string ⟨#[50,0]⟩,.nilIface])∧Below w.heap.size w w':=by
 have hqf:qu_fit ((0,0),[]):=⟨by omega,by omega,by simp⟩
 refine (su_marshal_if ((0,(0,(0,(0,([((0,0),[])],([],0)))))),[]) (Lib.hid fun h=>absurd rfl h) [.slice none 0 0,.int .u64 0,.int .u64 0,.int .u64 0,.int .u64 0,.slice (some ⟨g,0,none⟩) 1 1,.int .u32 0,.string ⟨#[]⟩] (fun k=>k=g) 1 w ⟨by omega,by omega,by omega,by omega,fun x hx=>(by rw[List.mem_singleton.1 hx];exact hqf),by rw[ksfit];trivial,by omega,by decide⟩ ⟨none,0,some ⟨g,0,none⟩,1,rfl,by rw[KRels];trivial,fun j hj=>?_⟩ (by omega)).mono ?_
 ·have hj:j=0:=by simpa using hj
  subst hj
  refine ⟨g,0,[.int .u64 0,.int .u64 0,.string ⟨#[]⟩],rfl,rfl,row_lt hg,fun i hi=>?_,rfl⟩
  match i,hi with
  | 0,_=>exact row_cell hg (j:=0) rfl
  | 1,_=>exact row_cell hg (j:=1) rfl
  | 2,_=>exact row_cell hg (j:=2) rfl
 rintro e w' ⟨hb,h⟩
 rw[show su_may 1 ((0,(0,(0,(0,([((0,0),[])],([],0)))))),[])=true by kernel_rfl,if_pos rfl,show su_out ((0,(0,(0,(0,([((0,0),[])],([],0)))))),[])=[50,0] by kernel_rfl] at h
 exact ⟨h,hb⟩
theorem first_surd:surd [50,0] 0 = .error 6:=by kernel_rfl
theorem first15 (w:World) (hG:Hid (Glob w)):Calls Tryz.prog 33 #[] w fun e w'=>e = .returned (.bool true)∧Below w.heap.size w w':=by
 have HUN:=Lib.hid (fun w'=>su_un ⟨#[50,0]⟩ 0 w' (by decide) (by omega))
 rw[show (⟨#[50,0]⟩:ByteArray).data.toList=[50,0] from rfl,first_surd] at HUN
 go_enter Tryz.func33,Tryz.ntmps33
 go_wp2_with fail
 refine (first_su1 _ _ (heap_alloc_new w _)).mono ?_;rintro e w1 ⟨rfl,hb1⟩
 have HB1:=Lib.hid (below_step (below_new _ _) hb1)
 clear hb1
 go_wp2_with fail
 refine (HUN.out w1).mono ?_;rintro e w2 ⟨hb2,v,q,rfl,_,hew⟩
 obtain ⟨T',y,rfl⟩:=hew.iface
 obtain ⟨ws,he⟩:=hew
 have HE:=Lib.hid he
 have HB2:=Lib.hid (below_step HB1.out hb2)
 clear hb2 he
 unfold suzero
 go_wp2_with fail
 refine (code_any _ _ _ _ (isErr_upd (Upd.alloc (fun _=>False) w2 _) (fun k hk b m e h=>hk.elim) HE.out) (root_code _) (hG.out.below (below_step HB2.out (below_new _ _)))).mono ?_;rintro e w3 ⟨rfl,hb3⟩
 have HB3:=Lib.hid (below_step (below_step HB2.out (below_new _ _)) hb3)
 clear hb3
 rw[show codeOf (codeV ((6:Nat):Int))=6 from rfl]
 go_wp2_with fail
 go_ret
 exact ⟨rfl,HB3.out⟩
end Go.Proofs.YtjbingoliffjiaaGreatDoor
