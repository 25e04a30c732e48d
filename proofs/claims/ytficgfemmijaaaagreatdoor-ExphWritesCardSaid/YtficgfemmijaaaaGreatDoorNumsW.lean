/-
  NumsK, NumsW
-/
import Derived.Test.YtficgfemmijaaaaGreatDoorOpenV
import Derived.Test.YtficgfemmijaaaaGreatDoorRowL
import Derived.Test.YtficgfemmijaaaaGreatDoorAlikeB
import Derived.Test.YtficgfemmijaaaaGreatDoorPartK
set_option maxRecDepth 1000000
set_option maxHeartbeats 16000000
namespace Go.Proofs.YtficgfemmijaaaaGreatDoor
open Go.RowKit
open Lib (hid)
def natCel:Cel Nat where
 R _ _ n cs:=cs=[.int .u64 n]
 size:=1
 len:=by intro w P n cs h;rw[h];rfl
 upd:=by intro w w' S P Q n cs hu hs hq h;exact h
 lt:=fun h=>h
theorem nats_of_rels {w:World}{P:Nat→Prop}{l:List Nat}{ao:Option Addr}(h:CRels natCel w P l ao):Nats .u64 w ao l:=fun hn=>by
 have hl:0<l.length:=List.length_pos_iff.2 hn;obtain ⟨g,off,cs,rfl,hP,hg,_,_⟩:=h 0 hl;refine ⟨g,off,rfl,hg,fun j hj=>?_⟩;obtain ⟨g',off',cs',he,_,_,hc,hr⟩:=h j hj
 simp only[Option.some.injEq,Addr.mk.injEq] at he
 obtain ⟨rfl,rfl,_⟩:=he;have hr:cs'=[.int .u64 (l[j]:Int)]:=hr;subst hr;have:=hc 0 (by simp);rw[show off+natCel.size * j+0=off+j from by show off+1 * j+0=_;omega] at this
 simpa using this
open Go.RowKit
theorem wopt_yes (p:Nat)(d:Int)(vo:Value)(ps:List (List UInt8))(b:Bool)(P:Nat→Prop)(num n:Nat)(w:World)(h:Hid (WrAt p d vo ps b P w))(hn:n<18446744073709551616)(h1:1≤num)(h2:num≤536870911)(hl:ps.length≤1000000)(hf:ps.flatten.length≤10000000) :
  Calls Tryz.prog 53 #[.pointer (some ⟨p,0,none⟩),.int .i64 num,.agg #[.bool true,.int .u64 n]] w (WrPost p d vo (wps b ps [(rF num n).raw]) b P w):=by
 have hrw:=rF_wrec h1 h2 n;have hwl:=rF_len20 num n;obtain ⟨R,hR⟩:∃ R,(rF num n).raw=R:=⟨_,rfl⟩
 rw[hR] at hrw hwl ⊢;have HRW:=hid hrw;clear hR hrw;obtain ⟨W0,hW0⟩:∃ W,w.alloc (.cells #[.bool true,.int .u64 n] 26)=W:=⟨_,rfl⟩
 have HB0:Hid (Below w.heap.size w W0):=hid (by rw[←hW0];exact below_new _ _);have HW0:=hid hW0;clear hW0;go_enter Tryz.func53,Tryz.ntmps53;go_wp2_with fail;rw[HW0.out];refine (wfixed_any (num:Int) n _ (by omega) (by omega) hn).mono ?_;rintro e w1 ⟨rfl,hb1⟩;rw[HRW.out];have HB1:=hid (below_step HB0.out hb1);have HW1:=hid (wr_below h.out HB1.out);clear hb1;go_wp2_with fail;refine (wput_any p d vo ps b P R _ HW1 hl (by omega)).mono ?_;intro e w2 hpost;obtain ⟨rfl,hu,P',hw,hp⟩:=hpost;have HU:=hid hu;have HW:=hid hw;have HP:=hid hp;clear hu hw hp;go_wp2_with fail
 go_end0
 refine ⟨rfl,(Upd.of_new HB1.out).trans HU.out,P',HW.out,fun k hk=>?_⟩
 rcases HP.out k hk with h|h
 ·exact .inl h
 ·exact .inr (Nat.le_trans HB1.out.size h)
theorem wopt_nil (p:Nat)(d:Int)(vo:Value)(ps:List (List UInt8))(b:Bool)(P:Nat→Prop)(num:Nat)(w:World)(h:Hid (WrAt p d vo ps b P w)) :
  Calls Tryz.prog 53 #[.pointer (some ⟨p,0,none⟩),.int .i64 num,.agg #[.bool false,.int .u64 ((0:Nat):Int)]] w (WrPost p d vo ps b P w):=by
 obtain ⟨W0,hW0⟩:∃ W,w.alloc (.cells #[.bool false,.int .u64 ((0:Nat):Int)] 26)=W:=⟨_,rfl⟩
 have HB0:Hid (Below w.heap.size w W0):=hid (by rw[←hW0];exact below_new _ _);have HW0:=hid hW0;clear hW0;go_enter Tryz.func53,Tryz.ntmps53;go_wp2_with fail
 go_end0
 refine ⟨rfl,Upd.of_new (below_new _ _),P,wr_below h.out (below_new _ _),fun k hk => .inl hk⟩
theorem wopt_no (p:Nat)(d:Int)(vo:Value)(ps:List (List UInt8))(b:Bool)(P:Nat→Prop)(num n:Nat)(w:World)(h:Hid (WrAt p d vo ps b P w))(hn:n≠0) :
  Calls Tryz.prog 53 #[.pointer (some ⟨p,0,none⟩),.int .i64 num,.agg #[.bool false,.int .u64 n]] w (WrPost p d vo ps true P w):=by
 have d1:((n:Int) != 0)=true:=by rw[bne_iff_ne];omega
 obtain ⟨W0,hW0⟩:∃ W,w.alloc (.cells #[.bool false,.int .u64 n] 26)=W:=⟨_,rfl⟩
 have HB0:Hid (Below w.heap.size w W0):=hid (by rw[←hW0];exact below_new _ _);have HW0:=hid hW0;clear hW0 hn;go_enter Tryz.func53,Tryz.ntmps53;go_wp2_with fail;rw[HW0.out];refine (in_any (num:Int) _ _ W0).mono ?_;rintro e w1 ⟨rfl,rfl⟩;obtain ⟨y,hy⟩:∃ y,(Value.iface 131 (.pointer (some ⟨W0.heap.size,0,none⟩)))=y:=⟨_,rfl⟩
 have HEC:=hid (ec_in8 (n:=(num:Int)) (show EC W0 (.iface 49 (.int .i64 8)) 8 from ⟨[],rfl⟩));have HB1:=hid (below_step HB0.out (below_new W0 (.cells #[.int .i64 num,.iface 49 (.int .i64 8)] 133)));have HW1:=hid (wr_below h.out HB1.out);clear hy;go_wp2_with fail;refine (wfail_any p d vo ps b P _ _ _ HW1 HEC).mono ?_;intro e w2 hpost;obtain ⟨rfl,hu,P',hw,hp⟩:=hpost;have HU:=hid hu;have HW:=hid hw;have HP:=hid hp;clear hu hw hp;go_wp2_with fail
 go_end0
 refine ⟨rfl,(Upd.of_new HB1.out).trans HU.out,P',HW.out,fun k hk=>?_⟩
 rcases HP.out k hk with h|h
 ·exact .inl h
 ·exact .inr (Nat.le_trans HB1.out.size h)
section
variable {p:Nat} {d:Int} {ps:List (List UInt8)} {hs:List Hole} {b:Bool} {P:Nat→Prop} {w:World}
theorem wv_opt (num:Nat)(c:Bool)(n:Nat)(h:WrH p d ps hs b P w)(hn:n<18446744073709551616)(h1:1≤num)(h2:num≤536870911)(hl:ps.length≤1000000)(hf:ps.flatten.length≤10000000) :
  Calls Tryz.prog 53 #[.pointer (some ⟨p,0,none⟩),.int .i64 num,.agg #[.bool c,.int .u64 n]] w (WvPost p d ps hs b P w (c||decide (n=0)) (if c=true then (rF num n).raw else []) 1 20):=by
 cases c with
 | true =>
  have h3:=wv_lift (F:=53) (args:=#[.pointer (some ⟨p,0,none⟩),.int .i64 num,.agg #[.bool true,.int .u64 n]]) (g:=true) (ts:=[(rF num n).raw]) h (fun vo P0 hw=>by simpa using wopt_yes p d vo ps b P0 num n w (hid hw) hn h1 h2 hl hf);refine h3.mono fun e w' hp=>?_
  rw[if_pos rfl]
  simp only[List.flatten_cons,List.flatten_nil,List.append_nil] at hp
  exact hp.le (by simp) (rF_len20 num n)
 | false =>
  rw[if_neg (by simp)]
  by_cases h0:n=0
  ·subst h0
   have h3:=wv_lift (F:=53) (args:=#[.pointer (some ⟨p,0,none⟩),.int .i64 num,.agg #[.bool false,.int .u64 ((0:Nat):Int)]]) (g:=true) (ts:=[]) h (fun vo P0 hw=>by rw[wps_nil];simpa using wopt_nil p d vo ps b P0 num w (hid hw));refine h3.mono fun e w' hp=>?_
   exact hp.le (by simp) (by simp)
  ·have h3:=wv_lift (F:=53) (args:=#[.pointer (some ⟨p,0,none⟩),.int .i64 num,.agg #[.bool false,.int .u64 n]]) (g:=false) (ts:=[]) h (fun vo P0 hw=>by rw[wps_nil];simpa using wopt_no p d vo ps b P0 num n w (hid hw) h0)
   refine h3.mono fun e w' hp=>?_
   rw[show (false||decide (n=0))=false by simp[h0]];exact hp.le (by simp) (by simp)
end
end Go.Proofs.YtficgfemmijaaaaGreatDoor
