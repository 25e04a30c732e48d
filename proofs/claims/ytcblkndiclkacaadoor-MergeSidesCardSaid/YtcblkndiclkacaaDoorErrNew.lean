/-
  blame.Code, blame.Place, blame.Nums, blame.At, blame.In over a chain of wraps.
-/
import Derived.Test.YtcblkndiclkacaaDoorErrAs
import Derived.Test.YtcblkndiclkacaaDoorKit
import Derived.Test.YtcblkndiclkacaaDoorUpd
set_option maxRecDepth 1000000
set_option maxHeartbeats 16000000
namespace Go.Proofs.YtcblkndiclkacaaDoor
open Go.RowKit
def Glob (w:World):Prop:=w.cell? ⟨0,0,none⟩=some (.iface 164 (.agg #[.pointer (some ⟨2,28,none⟩)]))
theorem Glob.pos {w:World} (h:Glob w):0<w.heap.size:=by
 rcases Nat.eq_zero_or_pos w.heap.size with h0|h1
 ·simp[Glob,World.cell?,h0] at h
 ·exact h1
theorem Glob.below {w w':World} (h:Glob w) (hb:Below w.heap.size w w'):Glob w':=(hb.cell (p:=⟨0,0,none⟩) h.pos).trans h
theorem Glob.alloc {w:World} (h:Glob w) (o:Obj):Glob (w.alloc o):=h.below ((Below.refl _ _).alloc (Nat.le_refl _) o)
def codeOf (r:Value):Int:=match r with
 | .iface 31 (.int .i64 c)=>c
 | _=>14
theorem code_nil (w:World):Calls Tryd.prog 16 #[.nilIface] w fun e w'=>e = .returned (.int .i64 0)∧w=w':=by
 go_enter Tryd.func16,Tryd.ntmps16
 go_wp2
 go_ret
 exact ⟨rfl,rfl⟩
theorem code_any (ws:List (Bool × Int)) (v r:Value) (w:World) (he:isErr w ws v r) (hroot:isRoot r) (hg:Glob w) :
  Calls Tryd.prog 16 #[v] w fun e w'=>e = .returned (.int .i64 (codeOf r))∧Below w.heap.size w w':=by
 obtain ⟨T,x,rfl⟩:=isErr_iface he hroot
 have HE:=Lib.hid he
 have HB:=Lib.hid ((Below.refl _ w).alloc (Nat.le_refl _) (.cells #[.int .i64 0] 31))
 have HG:=Lib.hid (hg.alloc (.cells #[.int .i64 0] 31))
 have HR:=Lib.hid hroot
 clear he hg hroot
 go_enter Tryd.func16,Tryd.ntmps16
 go_wp2_with fail
 go_at_call 35
 refine (errAs_code ws _ r w.heap.size w _ HE.out HB.out HR.out (.int .i64 0) (heap_alloc_new w _) HG.out).mono ?_
 intro e w' hp
 have HP:=Lib.hid hp
 clear hp
 rcases HR.out with ⟨c,rfl⟩|⟨y,rfl⟩
 ·obtain ⟨rfl,hu⟩:=asCode_hit HP.out
  have hc:w'.cell? ⟨w.heap.size,0,none⟩=some (.int .i64 c):=by rw[cell_of_row w' _ 0 _ _ _ hu.cell];rfl
  have HB:=Lib.hid (oneUpd_below hu)
  clear hu
  go_wp2
  go_ret
  exact ⟨rfl,HB.out⟩
 ·obtain ⟨rfl,hu⟩:=asCode_miss HP.out
  have HB:=Lib.hid (oneUpd_below hu)
  clear hu
  go_wp2
  go_ret
  exact ⟨rfl,HB.out⟩
open Go.RowKit
theorem root_code (c:Int):isRoot (codeV c) := 
 .inl ⟨c,rfl⟩
open Go.RowKit
theorem isErr_new {w:World} {a:Nat} {n c:Int} (h:w.heap[a]? = some (.cells #[.int .i64 n,.iface 31 (.int .i64 c)] 120 (0,0))):isErr w [(true,n)] (.iface 118 (.pointer (some ⟨a,0,none⟩))) (codeV c) :=
 ⟨a,codeV c,rfl,row_lt h,h,rfl⟩
theorem isErr_upd {S:Nat→Prop} {w w':World} {ws:List (Bool × Int)} {v r:Value} (hU:Upd S w w') (hS:∀ k,S k→∀ (b:Bool) (n:Int) (e:Value),w.heap[k]?≠some (.cells #[.int .i64 n,e] (wrapS b) (0,0))) (h:isErr w ws v r):isErr w' ws v r :=
 isErr_kept (fun k _ ho ⟨b,n,e,he⟩=>(hU.block k (row_lt ho) (fun hk=>hS k hk b n e (he ▸ ho))).trans ho) hU.size h
open Go.RowKit
end Go.Proofs.YtcblkndiclkacaaDoor
