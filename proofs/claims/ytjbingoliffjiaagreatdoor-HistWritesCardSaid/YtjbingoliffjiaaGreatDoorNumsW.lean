/-
  message.Writer: Opt, Nums.
-/
import Derived.Test.YtjbingoliffjiaaGreatDoorPartK
import Derived.Test.YtjbingoliffjiaaGreatDoorNumsK
set_option maxRecDepth 1000000
set_option maxHeartbeats 16000000
namespace Go.Proofs.YtjbingoliffjiaaGreatDoor
open Go.RowKit
theorem wopt_yes (p:Nat) (d:Int) (vo:Value) (ps:List (List UInt8)) (b:Bool) (P:Nat→Prop) (num n:Nat) (w:World) (h:Hid (WrAt p d vo ps b P w)) (hn:n<18446744073709551616) (h1:1≤num) (h2:num≤536870911) (hl:ps.length≤1000000) (hf:ps.flatten.length≤10000000) :
  Calls Tryz.prog 89 #[.pointer (some ⟨p,0,none⟩),.int .i64 (num:Int),.agg #[.bool true,.int .u64 (n:Int)]] w (WrPost p d vo (wps b ps [(rF num n).raw]) b P w):=by
 have hrw:=rF_wrec h1 h2 n
 have hwl:=rF_len20 num n
 obtain ⟨R,hR⟩:∃ R,(rF num n).raw=R:=⟨_,rfl⟩
 rw[hR] at hrw hwl ⊢
 have HRW:=Lib.hid hrw
 clear hR hrw
 obtain ⟨W0,hW0⟩:∃ W,w.alloc (.cells #[.bool true,.int .u64 (n:Int)] 47)=W:=⟨_,rfl⟩
 have HB0:Hid (Below w.heap.size w W0):=Lib.hid (by rw[←hW0];exact below_new _ _)
 have HW0:=Lib.hid hW0
 clear hW0
 go_enter Tryz.func89,Tryz.ntmps89
 go_wp2_with fail
 rw[HW0.out]
 refine (wfixed_any (num:Int) n _ (by omega) (by omega) hn).mono ?_;rintro e w1 ⟨rfl,hb1⟩
 rw[HRW.out]
 have HB1:=Lib.hid (below_step HB0.out hb1)
 have HW1:=Lib.hid (wr_below h.out HB1.out)
 clear hb1
 go_wp2_with fail
 refine (wput_any p d vo ps b P R _ HW1 hl (by omega)).mono ?_;intro e w2 hpost
 obtain ⟨rfl,hu,P',hw,hp⟩:=hpost
 have HU:=Lib.hid hu
 have HW:=Lib.hid hw
 have HP:=Lib.hid hp
 clear hu hw hp
 go_wp2_with fail
 go_end0
 refine ⟨rfl,(Upd.of_new HB1.out).trans HU.out,P',HW.out,fun k hk=>?_⟩
 rcases HP.out k hk with h|h
 ·exact .inl h
 ·exact .inr (Nat.le_trans HB1.out.size h)
theorem wopt_nil (p:Nat) (d:Int) (vo:Value) (ps:List (List UInt8)) (b:Bool) (P:Nat→Prop) (num:Nat) (w:World) (h:Hid (WrAt p d vo ps b P w)) :
  Calls Tryz.prog 89 #[.pointer (some ⟨p,0,none⟩),.int .i64 (num:Int),.agg #[.bool false,.int .u64 ((0:Nat):Int)]] w (WrPost p d vo ps b P w):=by
 obtain ⟨W0,hW0⟩:∃ W,w.alloc (.cells #[.bool false,.int .u64 ((0:Nat):Int)] 47)=W:=⟨_,rfl⟩
 have HB0:Hid (Below w.heap.size w W0):=Lib.hid (by rw[←hW0];exact below_new _ _)
 have HW0:=Lib.hid hW0
 clear hW0
 go_enter Tryz.func89,Tryz.ntmps89
 go_wp2_with fail
 go_end0
 refine ⟨rfl,Upd.of_new (below_new _ _),P,wr_below h.out (below_new _ _),fun k hk => .inl hk⟩
theorem wopt_no (p:Nat) (d:Int) (vo:Value) (ps:List (List UInt8)) (b:Bool) (P:Nat→Prop) (num n:Nat) (w:World) (h:Hid (WrAt p d vo ps b P w)) (hn:n≠0) :
  Calls Tryz.prog 89 #[.pointer (some ⟨p,0,none⟩),.int .i64 (num:Int),.agg #[.bool false,.int .u64 (n:Int)]] w (WrPost p d vo ps true P w):=by
 have d1:((n:Int) != 0)=true:=by rw[bne_iff_ne];omega
 obtain ⟨W0,hW0⟩:∃ W,w.alloc (.cells #[.bool false,.int .u64 (n:Int)] 47)=W:=⟨_,rfl⟩
 have HB0:Hid (Below w.heap.size w W0):=Lib.hid (by rw[←hW0];exact below_new _ _)
 have HW0:=Lib.hid hW0
 clear hW0 hn
 go_enter Tryz.func89,Tryz.ntmps89
 go_wp2_with fail
 rw[HW0.out]
 refine (in_any (num:Int) _ _ W0).mono ?_;rintro e w1 ⟨rfl,rfl⟩
 obtain ⟨y,hy⟩:∃ y,(Value.iface 154 (.pointer (some ⟨W0.heap.size,0,none⟩)))=y:=⟨_,rfl⟩
 have HEC:=Lib.hid (ec_in8 (n:=(num:Int)) (show EC W0 (.iface 44 (.int .i64 8)) 8 from ⟨[],rfl⟩))
 have HB1:=Lib.hid (below_step HB0.out (below_new W0 (.cells #[.int .i64 (num:Int),.iface 44 (.int .i64 8)] 156)))
 have HW1:=Lib.hid (wr_below h.out HB1.out)
 clear hy
 go_wp2_with fail
 refine (wfail_any p d vo ps b P _ _ _ HW1 HEC).mono ?_;intro e w2 hpost
 obtain ⟨rfl,hu,P',hw,hp⟩:=hpost
 have HU:=Lib.hid hu
 have HW:=Lib.hid hw
 have HP:=Lib.hid hp
 clear hu hw hp
 go_wp2_with fail
 go_end0
 refine ⟨rfl,(Upd.of_new HB1.out).trans HU.out,P',HW.out,fun k hk=>?_⟩
 rcases HP.out k hk with h|h
 ·exact .inl h
 ·exact .inr (Nat.le_trans HB1.out.size h)
theorem own_eq {w:World} {base:Nat} {e:TypeId} {size:Nat} {v:Value} {n n':Nat} {xs xs':List Value} (h:w.ownsRow base e size v n xs) (hn:n=n') (hx:xs=xs'):w.ownsRow base e size v n' xs':=by subst hn hx;exact h
theorem eights_tk (l:List Nat) (k:Nat) (h:k<l.length):eights (l.take (k+1))=eights (l.take k)++eight 8 l[k]:=by
 unfold eights
 rw[List.take_succ_eq_append_getElem h,List.flatMap_append]
 simp
theorem wnums_any (p:Nat) (d:Int) (vo:Value) (ps:List (List UInt8)) (b:Bool) (P:Nat→Prop) (num:Nat) (ao:Option Addr) (cap:Nat) (l:List Nat) (w:World) (h:Hid (WrAt p d vo ps b P w)) (hN:Hid (Nats .u64 w ao l)) (hn:Hid (∀ n∈l,n<18446744073709551616)) (h2:num≤536870911) (hll:l.length≤100000) (hl:ps.length≤1000000) (hf:ps.flatten.length≤10000000) {T:List UInt8} (hT:Hid (eights l=T)) :
  Calls Tryz.prog 90 #[.pointer (some ⟨p,0,none⟩),.int .i64 (num:Int),.slice ao l.length cap] w (WrPost p d vo (wps b ps (wbytesP num T)) b P w):=by
 have hTl:T.length≤1000000:=by rw[←hT.out,eights_len];omega
 obtain ⟨i0,hi,hz0,hz1,hz2⟩:=info_parts Tryz.elU8.2.1
 have q0:IntKind.i64.wrap (8 * (l.length:Int))=8 * (l.length:Int):=i64_wrap_id (by omega) (by omega)
 go_enter Tryz.func90,Tryz.ntmps90
 go_wp2_with (at_make;refine wpList_make_own _ rfl _ _ 181 rfl w.heap.size 5 i0 (.int .u8 0) 1 Tryz.underlying181 hi hz0 hz1 _ _ _ (8 * l.length) rfl rfl (by omega) (by rw[hz2];omega) (by unfold maxLen;omega) (Nat.le_refl _) ?_;intro w0 hown0 hgrow0)
 go_loopg [6,16] l.length (fun k bv i wr=>∃ (j:Nat),j+k=l.length∧i = .int .i64 j∧Hid (wr.ownsRow w.heap.size 5 1 bv (8 * j) (bys (eights (l.take j))))∧Below w.heap.size w wr)
 case atStart=>exact ⟨0,by omega,rfl,Lib.hid hown0,(Below.refl _ _).grown hgrow0 (Nat.le_refl _) (by simp)⟩
 case round =>
  obtain ⟨j,hj,rfl,HO,hbr⟩:=hrel
  have HB:=Lib.hid hbr
  have HJ:=Lib.hid hj
  have hws:=hbr.size
  clear hbr hj
  by_cases hlt:j<l.length
  ·obtain ⟨g,off,n,HNV,rfl,hg1,hcell⟩:=(hN.out.below HB.out).at hlt
   have HN9:Hid (n<18446744073709551616):=Lib.hid (by rw[HNV.out];exact hn.out _ (List.getElem_mem hlt))
   have HTK:Hid (eights (l.take (j+1))=eights (l.take j)++eight 8 n):=Lib.hid (by rw[eights_tk l j hlt,HNV.out])
   obtain ⟨A0,hA0⟩:∃ A0,eights (l.take j)=A0:=⟨_,rfl⟩
   have HA0:=Lib.hid hA0
   rw[hA0] at HO HTK
   clear hA0
   have hown:=HO.out
   have hb:=HB.out
   clear HO
   go_wp2_with fail
   refine wp_loop_rounds 9 ?_
   iterate 9 (rw[rounds_succ];go_wp2_with (at_builtin;refine wpList_app1 rfl _ _ 181 rfl Tryz.elU8 (by decide) hown rfl rfl rfl (by simp[Value.oneCell']) (by unfold maxLen;omega) (by omega) hws ?_;intro v' w1 hown1 hgrow1;have hb1:=hb.grown hgrow1 hws (fun k hk=>(hown.lt k hk).1);have hws1:=hb1.size;clear hown hb hws hgrow1;have hown:=hown1;have hb:=hb1;have hws:=hws1;clear hown1 hb1 hws1))
   have HB9:=Lib.hid hb
   have HO9:Hid (w1.ownsRow w.heap.size 5 1 v' (8 * (j+1)) (bys (eights (l.take (j+1))))):=Lib.hid (by
    rw[HTK.out,eight_8]
    refine own_eq hown (by omega) ?_
    simp[bys])
   have hj:=HJ.out
   clear hown hb
   go_roundg (gk - 1)
   case measure=>omega
   case rel=>exact ⟨j+1,by omega,by simp,HO9,HB9.out⟩
  ·obtain rfl:j=l.length:=by have:=HJ.out;omega
   have hown5:wr.ownsRow w.heap.size 5 1 u6 T.length (bys T):=by
    have h:=HO.out
    rw[List.take_length,hT.out] at h
    rwa [show 8 * l.length=T.length by rw[←hT.out,eights_len]] at h
   have hcv:=run_conv_own (P:=Tryz.prog) (src:=181) (dst:=9) Tryz.underlying181 Tryz.underlying5 Tryz.underlying9 hown5
   obtain ⟨X,hX⟩:∃ X:ByteArray,(⟨T.toArray⟩:ByteArray)=X:=⟨_,rfl⟩
   have HXD:Hid (X.data.toList=T):=Lib.hid (by rw[←hX])
   rw[hX] at hcv
   have HW6:=Lib.hid (wr_below h.out HB.out)
   clear hX hown5 HO
   go_wp2_with fail
   refine (wmbytes_any p d vo ps b P num X T _ HW6 HXD h2 hTl hl hf).mono ?_;intro e w7 hpost
   obtain ⟨rfl,hu,P',hw,hp⟩:=hpost
   have HU:=Lib.hid hu
   have HW:=Lib.hid hw
   have HP:=Lib.hid hp
   clear hu hw hp
   go_wp2_with fail
   go_end0
   refine ⟨rfl,(Upd.of_new HB.out).trans HU.out,P',HW.out,fun k hk=>?_⟩
   rcases HP.out k hk with h|h
   ·exact .inl h
   ·exact .inr (Nat.le_trans HB.out.size h)
section
variable {p:Nat} {d:Int} {ps:List (List UInt8)} {hs:List Hole} {b:Bool} {P:Nat→Prop} {w:World}
theorem wv_opt (num:Nat) (c:Bool) (n:Nat) (h:WrH p d ps hs b P w) (hn:n<18446744073709551616) (h1:1≤num) (h2:num≤536870911) (hl:ps.length≤1000000) (hf:ps.flatten.length≤10000000) :
  Calls Tryz.prog 89 #[.pointer (some ⟨p,0,none⟩),.int .i64 (num:Int),.agg #[.bool c,.int .u64 (n:Int)]] w (WvPost p d ps hs b P w (c||decide (n=0)) (if c=true then (rF num n).raw else []) 1 20):=by
 cases c with
 | true =>
  have h3:=wv_lift (F:=89) (args:=#[.pointer (some ⟨p,0,none⟩),.int .i64 (num:Int),.agg #[.bool true,.int .u64 (n:Int)]]) (g:=true) (ts:=[(rF num n).raw]) h (fun vo P0 hw=>by simpa using wopt_yes p d vo ps b P0 num n w (Lib.hid hw) hn h1 h2 hl hf)
  refine h3.mono fun e w' hp=>?_
  rw[if_pos rfl]
  simp only[List.flatten_cons,List.flatten_nil,List.append_nil] at hp
  exact hp.le (by simp) (rF_len20 num n)
 | false =>
  rw[if_neg (by simp)]
  by_cases h0:n=0
  ·subst h0
   have h3:=wv_lift (F:=89) (args:=#[.pointer (some ⟨p,0,none⟩),.int .i64 (num:Int),.agg #[.bool false,.int .u64 ((0:Nat):Int)]]) (g:=true) (ts:=[]) h (fun vo P0 hw=>by rw[wps_nil];simpa using wopt_nil p d vo ps b P0 num w (Lib.hid hw))
   refine h3.mono fun e w' hp=>?_
   exact hp.le (by simp) (by simp)
  ·have h3:=wv_lift (F:=89) (args:=#[.pointer (some ⟨p,0,none⟩),.int .i64 (num:Int),.agg #[.bool false,.int .u64 (n:Int)]]) (g:=false) (ts:=[]) h (fun vo P0 hw=>by rw[wps_nil];simpa using wopt_no p d vo ps b P0 num n w (Lib.hid hw) h0)
   refine h3.mono fun e w' hp=>?_
   rw[show (false||decide (n=0))=false by simp[h0]]
   exact hp.le (by simp) (by simp)
theorem wv_nums (num:Nat) (ao:Option Addr) (cap:Nat) (l:List Nat) (h:WrH p d ps hs b P w) (hN:Hid (Nats .u64 w ao l)) (hn:Hid (∀ n∈l,n<18446744073709551616)) (h1:1≤num) (h2:num≤536870911) (hll:l.length≤100000) (hl:ps.length≤1000000) (hf:ps.flatten.length≤10000000) :
  Calls Tryz.prog 90 #[.pointer (some ⟨p,0,none⟩),.int .i64 (num:Int),.slice ao l.length cap] w (WvPost p d ps hs b P w true (if l=[] then [] else (rB num (eights l)).raw) 1 (20+8 * l.length)):=by
 have h3:=wv_lift (F:=90) (args:=#[.pointer (some ⟨p,0,none⟩),.int .i64 (num:Int),.slice ao l.length cap]) (g:=true) (ts:=wbytesP num (eights l)) h (fun vo P0 hw=>by simpa using wnums_any p d vo ps b P0 num ao cap l w (Lib.hid hw) hN hn h2 hll hl hf (Lib.hid rfl))
 refine h3.mono fun e w' hp=>?_
 have e0:(eights l=[])=(l=[]):=propext ⟨fun h=>by
  have h1:=eights_len l
  rw[h] at h1
  exact List.length_eq_zero_iff.1 (by simp at h1;omega),fun h=>by rw[h];rfl⟩
 have hl:=wbytesP_len num h1 h2 (eights l)
 rw[wbytesP_raw num h1 h2 (eights l)] at hp hl
 simp only[e0] at hp hl
 rw[eights_len] at hl
 exact hp.le hl.1 hl.2
end
end Go.Proofs.YtjbingoliffjiaaGreatDoor
