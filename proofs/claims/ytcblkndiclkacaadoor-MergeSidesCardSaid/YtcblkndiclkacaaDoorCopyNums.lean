/-
  hygref.CopyNums: a row of one's own with the same numbers.
-/
import Derived.Test.YtcblkndiclkacaaDoorMsgWrite
set_option maxRecDepth 1000000
set_option maxHeartbeats 16000000
namespace Go.Proofs.YtcblkndiclkacaaDoor
open Go.RowKit
theorem Tryd.elU64n:Elem Tryd.prog 22 40 (.int .u64 0) 1 8:=⟨Tryd.underlying22,by kernel_rfl,by decide⟩
theorem own_nats_n {w:World} {base:Nat} {e:TypeId} {v:Value} {l:List Nat} (h:w.ownsRow base e 1 v l.length (nvals l)):∃ bo bcap,v = .slice bo l.length bcap∧l.length≤bcap∧(bo=none→bcap=0)∧Nats .u64 w bo l:=by
 rcases h.2 with ⟨rfl,h0⟩|⟨g,cap,cur,rfl,hb,hgg,hnc,_⟩
 ·exact ⟨none,0,by rw[h0],by omega,fun _=>rfl,fun hn=>absurd (List.length_eq_zero_iff.1 h0) hn⟩
 ·exact ⟨_,cap,rfl,hnc,(fun h=>by cases h),nats_of_own h⟩
theorem copy_nums (ao:Option Addr) (cap:Nat) (l:List Nat) (w:World) (hN:Nats .u64 w ao l) (hnil:ao=none→cap=0) (hl:l.length≤1000000) :
  Calls Tryd.prog 31 #[.slice ao l.length cap] w fun e w'=>(∃ bo bcap,e = .returned (.slice bo l.length bcap)∧l.length≤bcap∧(bo=none→bcap=0)∧Nats .u64 w' bo l)∧Below w.heap.size w w':=by
 have HN:=Lib.hid hN
 have HNil:=Lib.hid hnil
 clear hN hnil
 go_enter Tryd.func31,Tryd.ntmps31
 go_wp2_with (at_builtin;refine wpList_app_nats _ _ 22 rfl rfl Tryd.elU64n (owns_zero w 40 w.heap.size (Nat.le_refl _)) rfl (HN.out.below ((Below.refl _ _).alloc (Nat.le_refl _) _)) HNil.out rfl (by unfold maxLen;omega) (by omega) (by simp) ?_;intro v' w1 hown hgrow)
 have HB1:Hid (Below w.heap.size w w1):=Lib.hid (((Below.refl _ _).alloc (Nat.le_refl _) _).grown hgrow (by simp) (fun k hk=>by simp[Value.ownBlock] at hk;omega))
 rw[Nat.zero_add,List.nil_append] at hown
 obtain ⟨bo,bcap,rfl,h1,h2,h3⟩:=own_nats_n hown
 have HX:=Lib.hid (And.intro h1 (And.intro h2 h3))
 clear hown hgrow h1 h2 h3
 go_wp2_with fail
 go_ret
 exact ⟨⟨bo,bcap,rfl,HX.out.1,HX.out.2.1,HX.out.2.2⟩,HB1.out⟩
end Go.Proofs.YtcblkndiclkacaaDoor
