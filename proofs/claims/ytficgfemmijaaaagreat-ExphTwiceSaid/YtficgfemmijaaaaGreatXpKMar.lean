/-
  exph.Marshal, May, Size of any point.
-/
import Derived.Test.YtficgfemmijaaaaGreatXpMar
import Derived.Deep.MidRow
set_option maxRecDepth 1000000
set_option maxHeartbeats 16000000
namespace Go.Proofs.YtficgfemmijaaaaGreat
open Go.RowKit
open Lib (hid)
theorem range_row {w:World}{g:Nat}{cs:List Value}{T:TypeId}{fr:Nat × Nat}(h:w.heap[g]? = some (.cells cs.toArray T fr)):w.rangeAt g 0 cs:=fun j v hj=>by
  rw[Nat.zero_add];exact row_cell h (by simpa using hj)
theorem opt_segX (num n:Nat)(b:Bool):(if b=true then (rF num n).raw else []).length≤20:=by
  split
  · show (vput (8 * num+1)++eight 8 n).length≤20
    have:=vput_le10 (8 * num+1);have:=eight_len 8 n;rw[List.length_append];omega
  · simp
theorem zig_segX (num:Nat)(s:Int):(if s=0 then [] else (rN num (zig s).toNat).raw).length≤20:=by
  split
  · simp
  · exact rN_len20 num _
theorem side_segX (num:Nat)(g:Bool)(b:Bk)(u:List UInt8):(if g=true then (rB num (bput b u)).raw else []).length≤20+(bput b u).length:=by
  split
  · exact rB_len20 num _
  · simp
theorem xp_marshal (x:Xp)(cs:List Value)(Q:Nat→Prop)(d:Int)(w:World)(hf:xp_fit x)(hr:xpCel.R w Q x cs)(hd:-9223372036854775808≤d∧d≤9223372036854775807) :
    Calls Tryz.prog 10 #[.agg cs.toArray,.int .i64 d] w (MarPost (xp_may d x) (xp_out x) w):=xp_marshal_if x (hid fun _=>kmar_any) (hid fun _=>ex_marshal) cs Q d w hf hr hd
theorem xp_olen {x:Xp}(h:xp_fit x):(xp_out x).length≤500000:=by
  have hsg:=xp_seg x;obtain ⟨⟨l,⟨a,⟨t,⟨k,⟨⟨bp,vp⟩,⟨sc,⟨zc,⟨⟨gp,pb,pu⟩,⟨⟨gn,nb,nu⟩,⟨f,⟨es,⟨⟨bm,vm⟩,⟨⟨bg,vg⟩,th⟩⟩⟩⟩⟩⟩⟩⟩⟩⟩⟩⟩⟩,u⟩:=x;obtain ⟨_,_,_,_,_,_,_,_,_,_,_,_,_,_,hw⟩:=h;have g0:=kouts_le 1 (by omega) l;have g1:=num_seg 2 a;have g2:=num_seg 3 t;have g3:=num_seg 4 k;have g4:=opt_segX 5 vp bp;have g5:=zig_segX 6 sc;have g6:=num_seg 7 zc;have g7:=side_segX 8 gp pb pu;have g8:=side_segX 9 gn nb nu;have g9:=var_seg 10 f;have g10:=exs_olen (num:=11) (by omega) es;have g11:=opt_segX 12 vm bm;have g12:=opt_segX 13 vg bg;have g13:=num_seg 14 th
  show (kouts 1 l++(if a=0 then [] else (rF 2 a).raw)++(if t=0 then [] else (rF 3 t).raw)++(if k=0 then [] else (rF 4 k).raw)++(if bp=true then (rF 5 vp).raw else [])++(if sc=0 then [] else (rN 6 (zig sc).toNat).raw)++(if zc=0 then [] else (rF 7 zc).raw)++(if gp=true then (rB 8 (bput pb pu)).raw else [])++(if gn=true then (rB 9 (bput nb nu)).raw else [])++(if f=0 then [] else (rN 10 f).raw)++louts exSb 11 es++(if bm=true then (rF 12 vm).raw else [])++(if bg=true then (rF 13 vg).raw else [])++(if th=0 then [] else (rF 14 th).raw)++u).length≤_
  simp only[List.length_append]
  dsimp only at hsg;omega
theorem xp_mayc (x:Xp)(cs:List Value)(Q:Nat→Prop)(d:Int)(w:World)(hf:xp_fit x)(hr:xpCel.R w Q x cs)(hd:-9223372036854775808≤d∧d≤9223372036854775807) :
 Calls Tryz.prog 12 #[.agg cs.toArray,.int .i64 d] w fun e w'=>e = .returned (.bool (xp_may d x))∧Below w.heap.size w w':=by
 have HM:=hid (fun w' (hb:Below w.heap.size w w')=>xp_marshal x cs Q d w' hf (xpCel.upd (Upd.of_new (S:=fun _=>False) hb) (fun _ _ h=>h) (fun _ h=>h) hr) hd);obtain ⟨g,hg⟩:∃ g,xp_may d x=g:=⟨_,rfl⟩
 rw[hg] at HM ⊢;obtain ⟨⟨l,⟨a,⟨t,⟨k,⟨⟨bp,vp⟩,⟨sc,⟨zc,⟨⟨gp,pb,pu⟩,⟨⟨gn,nb,nu⟩,⟨f,⟨es,⟨⟨bm,vm⟩,⟨⟨bg,vg⟩,th⟩⟩⟩⟩⟩⟩⟩⟩⟩⟩⟩⟩⟩,u⟩:=x;obtain ⟨lo,lc,po,pc,no,nc,eo,ec,rfl,_,_,_,_⟩:=hr;dsimp only[strV] at HM ⊢;obtain ⟨Xpu,hXpu⟩:∃ U:ByteArray,(⟨pu.toArray⟩:ByteArray)=U:=⟨_,rfl⟩
 obtain ⟨Xnu,hXnu⟩:∃ U:ByteArray,(⟨nu.toArray⟩:ByteArray)=U:=⟨_,rfl⟩
 obtain ⟨Xu,hXu⟩:∃ U:ByteArray,(⟨u.toArray⟩:ByteArray)=U:=⟨_,rfl⟩
 rw[hXpu,hXnu,hXu] at HM ⊢;clear hXpu hXnu hXu hf hg;obtain ⟨W,hW⟩:∃ W,w.alloc (.cells #[.slice lo l.length lc,.int .u64 a,.int .u64 t,.int .u64 k,.bool bp,.int .u64 vp,.bool bm,.int .u64 vm,.bool bg,.int .u64 vg,.int .i32 sc,.int .u64 zc,.bool gp,.int .i32 pb.off,.slice po pb.cs.length pc,.string Xpu,.bool gn,.int .i32 nb.off,.slice no nb.cs.length nc,.string Xnu,.slice eo es.length ec,.int .u32 f,.int .u64 th,.string Xu] 32)=W:=⟨_,rfl⟩
 obtain ⟨bx,hbx⟩:∃ bx,w.heap.size=bx:=⟨_,rfl⟩
 have HB0:Hid (Below w.heap.size w W):=hid (by rw[←hW];exact below_new _ _);have HX0:Hid (W.heap[bx]? = some (.cells #[.slice lo l.length lc,.int .u64 a,.int .u64 t,.int .u64 k,.bool bp,.int .u64 vp,.bool bm,.int .u64 vm,.bool bg,.int .u64 vg,.int .i32 sc,.int .u64 zc,.bool gp,.int .i32 pb.off,.slice po pb.cs.length pc,.string Xpu,.bool gn,.int .i32 nb.off,.slice no nb.cs.length nc,.string Xnu,.slice eo es.length ec,.int .u32 f,.int .u64 th,.string Xu] 32 (0,0))):=hid (by rw[←hW,←hbx];exact heap_alloc_new _ _);have HW:=hid hW;have HBX:=hid hbx;clear hW hbx hd;go_enter Tryz.func12,Tryz.ntmps12;go_upto_region 1 with fail
 rw[HW.out,HBX.out];refine wp_region_lit ?_;refine wpList_plain rfl (fun K hK=>?_);refine wp_load_mid 32 (.tmp 2) rfl bx 0 rfl [.slice lo l.length lc,.int .u64 a,.int .u64 t,.int .u64 k,.bool bp,.int .u64 vp,.bool bm,.int .u64 vm,.bool bg,.int .u64 vg,.int .i32 sc,.int .u64 zc,.bool gp,.int .i32 pb.off,.slice po pb.cs.length pc,.string Xpu,.bool gn,.int .i32 nb.off,.slice no nb.cs.length nc,.string Xnu,.slice eo es.length ec,.int .u32 f,.int .u64 th,.string Xu] _ (range_row HX0.out) Tryz.underlying32 rfl (by kernel_rfl) (hK _ _ ?_);clear hK K;refine wpList_plain rfl (fun K hK=>?_);go_simp;refine hK _ _ ?_;clear hK K;refine wpList_plain rfl (fun K hK=>?_);go_simp;refine (HM.out W HB0.out).mono ?_;rintro e w1 ⟨hb,hcase⟩;have HB1:=hid (below_step HB0.out hb);clear hb
 cases g with
 | true =>
  rw[if_pos rfl] at hcase;subst hcase;refine hK _ _ ?_;clear hK K;go_wp2_with fail;go_ret;exact ⟨rfl,HB1.out⟩
 | false =>
  rw[if_neg (by simp)] at hcase;obtain ⟨v,rfl,hec⟩:=hcase;obtain ⟨T',y,rfl⟩:=hec.iface;clear hec;refine hK _ _ ?_;clear hK K;go_wp2_with fail;go_ret;exact ⟨rfl,HB1.out⟩
end Go.Proofs.YtficgfemmijaaaaGreat
