/-
  FldH, NumsK
-/
import Derived.Test.YtjbingoliffjiaaGreatDoorFld
import Derived.Test.YtjbingoliffjiaaGreatDoorMsgPack
import Derived.Test.YtjbingoliffjiaaGreatDoorExSub
import Derived.Test.YtjbingoliffjiaaGreatDoorAlikeB
set_option maxRecDepth 1000000
set_option maxHeartbeats 16000000
namespace Go.Proofs.YtjbingoliffjiaaGreatDoor
open Go.RowKit
def optF (num:Nat):Fld where
 σ:=Bool × Nat
 z:=(false,0)
 tk r:=decide (r.num=num∧r.ty=1)
 step _ _ r := .ok (true,r.n)
 out s:=if s.1=true then [rF num s.2] else []
 may _ s:=s.1||decide (s.2=0)
 fit s:=s.2<18446744073709551616
 wt _:=0
 w0:=0
 inv _ s _:=(s.1=true∨s.2=0)∧s.2<18446744073709551616
theorem optF_ok {num:Nat} (h1:1≤num) (h2:num≤536870911):(optF num).Ok where
 recs:=fun (s:Bool × Nat) hf hw r hr=>by
  have hr:r∈(if s.1=true then [rF num s.2] else []):=hr
  have hf:s.2<18446744073709551616:=hf
  split at hr
  ·rw[List.mem_singleton.1 hr]
   exact ⟨decide_eq_true ⟨rfl,rfl⟩,fun d=>rF_is h1 h2 (by omega) d⟩
  ·cases hr
 back:=fun (s:Bool × Nat) d hf hw hd hm=>by
  obtain ⟨b,n⟩:=s
  have hm:(b||decide (n=0))=true:=hm
  show mfold (σ:=Bool × Nat) (optF num).tk ((optF num).step d) (false,(0:Nat)) (if b=true then [rF num n] else []) = .ok (b,n)
  cases b with
  | true=>exact mfold_one (decide_eq_true ⟨rfl,rfl⟩) rfl
  | false =>
   have h0:n=0:=of_decide_eq_true (by simpa using hm)
   subst h0
   rfl
 less:=fun (s:Bool × Nat) d d' hf hw hm hle hn=>by rw[show (optF num).may d' s=(optF num).may d s from rfl,hm] at hn;cases hn
 start:=fun d=>⟨.inr rfl,by show 0<18446744073709551616;omega⟩
 go:=fun d (s:Bool × Nat) t r (s':Bool × Nat) hi hr hk ht hs=>by
  have hs:Except.ok (true,r.n)=Except.ok s':=hs
  obtain rfl:=Except.ok.inj hs
  have:=(isrec_facts hr).1
  exact ⟨.inl rfl,by show r.n<18446744073709551616;omega⟩
 ends:=fun d (s:Bool × Nat) t hd hi ht=>by
  refine ⟨?_,hi.2,by show 0≤_;omega⟩
  show (s.1||decide (s.2=0))=true
  rcases hi.1 with h|h
  ·rw[h];rfl
  ·rw[h,decide_eq_true rfl,Bool.or_true]
def fstep (xs:List Nat) (r:Rec):Except Nat (List Nat):=if r.ty≠2 then .ok (xs++[r.n]) else if r.s.length % 8=0 then .ok (xs++fixs r.s (r.s.length / 8)) else .error 1
def numsF (num:Nat):Fld where
 σ:=List Nat
 z:=[]
 tk r:=decide (r.num=num∧(r.ty=1∨r.ty=2))
 step _ s r:=fstep s r
 out s:=if s=[] then [] else [rB num (eights s)]
 may _ _:=true
 fit s:=∀ n∈s,n<18446744073709551616
 wt s:=8 * s.length
 w0:=0
 inv _ s t:=(∀ n∈s,n<18446744073709551616)∧8 * s.length≤t
theorem fixs_lt (l:List UInt8) (k:Nat):∀ n∈fixs l k,n<18446744073709551616:=fun n hn=>by
 obtain ⟨i,_,rfl⟩:=List.mem_map.1 hn
 have h:=wlit_lt ((l.drop (8 * i)).take 8)
 have h2:((l.drop (8 * i)).take 8).length≤8:=List.length_take_le ..
 have h3:256 ^ ((l.drop (8 * i)).take 8).length≤256 ^ 8:=Nat.pow_le_pow_right (by omega) h2
 omega
theorem fstep_one {xs:List Nat} {r:Rec} (h:r.ty=1):fstep xs r = .ok (xs++[r.n]):=if_pos (by omega)
theorem fstep_len {xs:List Nat} {r:Rec} (h:r.ty=2):fstep xs r=if r.s.length % 8=0 then .ok (xs++fixs r.s (r.s.length / 8)) else .error 1:=if_neg (by omega)
theorem numsF_ok {num:Nat} (h1:1≤num) (h2:num≤536870911):(numsF num).Ok where
 recs:=fun (s:List Nat) hf hw r hr=>by
  have hr:r∈(if s=[] then [] else [rB num (eights s)]):=hr
  have hw:8 * s.length≤1000000:=hw
  split at hr
  ·cases hr
  ·rw[List.mem_singleton.1 hr]
   exact ⟨decide_eq_true ⟨rfl,.inr rfl⟩,fun d=>rB_is h1 h2 (by rw[eights_len];omega) d⟩
 back:=fun (s:List Nat) d hf hw hd hm=>by
  show mfold (σ:=List Nat) (numsF num).tk ((numsF num).step d) ([]:List Nat) (if s=[] then [] else [rB num (eights s)]) = .ok s
  split
  ·rename_i h;rw[h];rfl
  ·refine mfold_one (decide_eq_true ⟨rfl,.inr rfl⟩) ?_
   show fstep [] (rB num (eights s)) = .ok s
   rw[fstep_len rfl]
   have hl:(rB num (eights s)).s.length=8 * s.length:=eights_len s
   rw[hl,if_pos (by omega),show 8 * s.length / 8=s.length by omega]
   have hf:∀ n∈s,n<18446744073709551616:=hf
   show Except.ok ([]++fixs (eights s) s.length)=_
   rw[fixs_eights s (fun n hn=>by have:=hf n hn;omega)]
   rfl
 less:=fun (s:List Nat) d d' hf hw hm hle hn=>by cases hn
 start:=fun d=>⟨(fun n hn=>by cases hn),by show 8 * 0≤0;omega⟩
 go := fun d (s:List Nat) t r (s':List Nat) hi hr hk ht hs=>by
  have hs:fstep s r = .ok s':=hs
  have hk:r.num=num∧(r.ty=1∨r.ty=2):=of_decide_eq_true hk
  have hb:=rec_big hr
  rcases hk.2 with h|h
  ·rw[fstep_one h] at hs
   obtain rfl:=Except.ok.inj hs
   have h9:=hb.2.2 h
   have hl:8 * s.length≤t:=hi.2
   refine ⟨fun n hn=>?_,by rw[List.length_append,List.length_cons,List.length_nil];omega⟩
   rcases List.mem_append.1 hn with hn|hn
   ·exact hi.1 n hn
   ·rw[List.mem_singleton.1 hn];have:=h9.1;omega
  ·rw[fstep_len h] at hs
   split at hs
   ·rename_i h8
    obtain rfl:=Except.ok.inj hs
    have h9:=(hb.1 h).2
    have hl:8 * s.length≤t:=hi.2
    refine ⟨fun n hn=>?_,by rw[List.length_append,fixs_len];omega⟩
    rcases List.mem_append.1 hn with hn|hn
    ·exact hi.1 n hn
    ·exact fixs_lt _ _ n hn
   ·cases hs
 ends:=fun d (s:List Nat) t hd hi ht=>⟨rfl,hi.1,by have:8 * s.length≤t:=hi.2;show 8 * s.length≤0+_;omega⟩
open Go.RowKit
def natCel:Cel Nat where
 R _ _ n cs:=cs=[.int .u64 (n:Int)]
 size:=1
 len:=by intro w P n cs h;rw[h];rfl
 upd:=by intro w w' S P Q n cs hu hs hq h;exact h
 lt:=fun h=>h
theorem nats_flat:∀ xs:List Nat,(xs.map fun n:Nat=>[Value.int .u64 (n:Int)]).flatten=nats64 xs
 | []=>rfl
 | x::xs=>by
  rw[List.map_cons,List.flatten_cons,nats_flat xs]
  rfl
theorem ls_nats {base:Nat} {v:Value} {xs:List Nat} {P:Nat→Prop} {w:World} (h:LsAt natCel 24 base v xs P w):w.ownsRow base 24 1 v xs.length (nats64 xs)∧∀ k,v.ownBlock=some k→P k:=by
 obtain ⟨css,Q,h1,h2,h3,_,rfl⟩:=h
 have e:css=xs.map fun n:Nat=>[Value.int .u64 (n:Int)]:=by
  refine List.ext_getElem (by rw[h2,List.length_map]) fun j a b=>?_
  rw[List.getElem_map]
  exact h3 j (by omega) a
 have e2:css.flatten=nats64 xs:=by
  rw[e]
  exact nats_flat xs
 rw[e2] at h1
 exact ⟨h1,fun k hk => .inl hk⟩
theorem nats_ls {base:Nat} {v:Value} {xs:List Nat} {w:World} (h:w.ownsRow base 24 1 v xs.length (nats64 xs)):LsAt natCel 24 base v xs (fun k=>v.ownBlock=some k∨False) w:=by
 refine ⟨xs.map fun n:Nat=>[Value.int .u64 (n:Int)],fun _=>False,?_,by rw[List.length_map],fun j a b=>?_,fun _ h=>h.elim,rfl⟩
 ·rw[nats_flat];exact h
 ·show _=_
  rw[List.getElem_map]
theorem nats_of_rels {w:World} {P:Nat→Prop} {l:List Nat} {ao:Option Addr} (h:CRels natCel w P l ao):Nats .u64 w ao l:=fun hn=>by
 have hl:0<l.length:=List.length_pos_iff.2 hn
 obtain ⟨g,off,cs,rfl,hP,hg,_,_⟩:=h 0 hl
 refine ⟨g,off,rfl,hg,fun j hj=>?_⟩
 obtain ⟨g',off',cs',he,_,_,hc,hr⟩:=h j hj
 simp only[Option.some.injEq,Addr.mk.injEq] at he
 obtain ⟨rfl,rfl,_⟩:=he
 have hr:cs'=[.int .u64 (l[j]:Int)]:=hr
 subst hr
 have:=hc 0 (by simp)
 rw[show off+natCel.size * j+0=off+j from by show off+1 * j+0=_;omega] at this
 simpa using this
def FixPost (cs:Array Value) (T:TypeId) (b o:Nat) (v:Value) (B:Nat) (xs:List Nat) (r:Rec) (w:World) (e:Ending) (w':World):Prop :=
 Upd (fun k=>k=b∨v.ownBlock=some k) w w'∧match fstep xs r with
  | .error c=>∃ x,e = .returned x∧EC w' x c
  | .ok ys=>e = .returned .nilIface∧∃ v',w'.heap[b]? = some (.cells (cs.setIfInBounds o v') T (0,0))∧w'.ownsRow B 24 1 v' ys.length (nats64 ys)∧∀ k,v'.ownBlock=some k→v.ownBlock=some k∨w.heap.size≤k
theorem fk_ok {cs:Array Value} {T:TypeId} {b o:Nat} {v:Value} {B:Nat} {xs:List Nat} {r:Rec} {w w2:World} {v':Value} {ys:List Nat} (hp:fstep xs r = .ok ys) (hrow:w2.heap[b]? = some (.cells cs T (0,0))) (hu:Upd (fun k=>k=b∨v.ownBlock=some k) w w2) (hown:w2.ownsRow B 24 1 v' ys.length (nats64 ys)) (hb:b<B) (hn:∀ k,v'.ownBlock=some k→v.ownBlock=some k∨w.heap.size≤k) :
  FixPost cs T b o v B xs r w (.returned .nilIface) (w2.setCell ⟨b,o,none⟩ v'):=by
 have hu2:=Upd.set w2 ⟨b,o,none⟩ v'
 refine ⟨hu.trans (hu2.mono fun k _ hk => .inl hk),?_⟩
 rw[hp]
 refine ⟨rfl,v',row_set hrow o v',hu2.own hown (fun k hk h=>?_),hn⟩
 have e:k=b:=h
 have:=(hown.lt k hk).1
 omega
theorem pack_fix {cs:Array Value} {T:TypeId} (b o:Nat) (v:Value) (xs:List Nat) (B:Nat) (r:Rec) (w:World) (hrow:Hid (w.heap[b]? = some (.cells cs T (0,0)))) (hcs:cs[o]? = some v) (hown:w.ownsRow B 24 1 v xs.length (nats64 xs)) (hbB:b<B) (hB:B≤w.heap.size) (hx:xs.length≤1000000) (hty:r.ty=2) (hs:r.s.length≤1000000) :
  Calls Tryz.prog 176 #[.pointer (some ⟨b,o,none⟩),recV r,.func (.func 177) #[] #[]] w (FixPost cs T b o v B xs r w):=by
 have HTY:=Lib.hid hty
 have d1:((r.ty:Int) != 2)=false:=by rw[hty];rfl
 obtain ⟨ao,cap,rfl⟩:=own_slice hown
 have HO:=Lib.hid hown
 obtain ⟨X,hX⟩:∃ X:ByteArray,(⟨r.s.toArray⟩:ByteArray)=X:=⟨_,rfl⟩
 have hXs:X.size=r.s.length:=by rw[←hX];simp[ByteArray.size]
 have HXD:Hid (X.data.toList=r.s):=Lib.hid (by rw[←hX])
 have HX:=Lib.hid hX
 clear hown hty
 unfold recV
 rw[hX]
 clear hX
 go_enter Tryz.func176,Tryz.ntmps176
 go_wp2_with fail
 have HU0:Hid (Upd (fun _=>False) w (w.alloc (.cells #[.int .i64 (r.num:Int),.int .i64 (r.ty:Int),.int .u64 (r.n:Int),.string X,.string ⟨r.raw.toArray⟩] 78))):=Lib.hid (Upd.alloc _ _ _)
 refine (fixeds_any X _ (by omega)).mono ?_;intro e w1 hpost
 unfold FixedsPost at hpost
 rw[HXD.out,hXs] at hpost
 by_cases hv:r.s.length % 8=0
 case neg =>
  rw[if_neg hv] at hpost
  obtain ⟨x,rfl,⟨a,ha,rfl,hac⟩,hbe⟩:=hpost
  have HP:Hid (fstep xs r = .error 1):=Lib.hid (by rw[fstep_len HTY.out,if_neg hv])
  have HU1:Hid (Upd (fun _=>False) w w1):=Lib.hid (HU0.out.trans (Upd.of_new hbe))
  have HAC:=Lib.hid hac
  have HA:Hid (w.heap.size≤a):=Lib.hid (by have:=HU0.out.size;omega)
  have HRW1:Hid (w1.heap[b]? = some (.cells cs T (0,0))):=Lib.hid ((HU1.out.block b (row_lt hrow.out) (fun h=>h)).trans hrow.out)
  have hcb:w1.cell? ⟨b,o,none⟩=some (.slice ao xs.length cap):=row_cell HRW1.out (j:=o) hcs
  have hfz:w1.frozen? ⟨b,o,none⟩=false:=row_thaw HRW1.out o
  have HO1:Hid (w1.ownsRow B 24 1 (.slice ao xs.length cap) xs.length (nats64 xs)):=Lib.hid (HU1.out.own HO.out (fun _ _ h=>h))
  have hBw:B≤w1.heap.size:=by have:=HU1.out.size;omega
  clear hv hbe hac ha
  go_wp2_with (at_builtin;refine wpList_app_nats _ _ 48 rfl rfl Tryz.elU64 HO1.out rfl (ao:=none) (cap:=0) (l:=[]) (fun h=>absurd rfl h) (fun _=>rfl) rfl (by unfold maxLen;simp;omega) (by simp;omega) hBw ?_;intro v' w2 hown2 hgrow;obtain ⟨ao',cap',rfl⟩:=own_slice hown2;have HRW2:Hid (w2.heap[b]? = some (.cells cs T (0,0))):=Lib.hid ((hgrow.block _ (row_lt HRW1.out) (fun e=>by have h7:=(HO.out.lt _ e.symm).1;omega)).trans HRW1.out);have hcb2:w2.cell? ⟨b,o,none⟩=some (.slice ao xs.length cap):=row_cell HRW2.out (j:=o) hcs;have hfz2:w2.frozen? ⟨b,o,none⟩=false:=row_thaw HRW2.out o)
  go_ret
  have hu2:=Upd.of_grown hgrow
  refine ⟨((HU1.out.mono fun _ _ h=>h.elim).trans (hu2.mono fun k _ h => .inr h)).trans ((Upd.set w2 _ _).mono fun k _ hk => .inl hk),?_⟩
  rw[HP.out]
  refine ⟨_,rfl,[(true,((r.s.length - r.s.length % 8:Nat):Int))],isErr_new ?_⟩
  have hna:¬(Value.slice ao xs.length cap).ownBlock=some a:=fun h=>by have:=(HO.out.lt _ h).2;have:=HA.out;omega
  have hbw:=row_lt hrow.out
  exact ((Upd.set w2 ⟨b,o,none⟩ _).block a (Nat.lt_of_lt_of_le (row_lt HAC.out) hu2.size) (fun e=>by have e:a=b:=e;have:=HA.out;omega)).trans ((hu2.block a (row_lt HAC.out) hna).trans HAC.out)
 case pos =>
  rw[if_pos hv] at hpost
  obtain ⟨u,rfl,hown1,hb1⟩:=hpost
  obtain ⟨ns,hns⟩:∃ ns,fixs r.s (r.s.length / 8)=ns:=⟨_,rfl⟩
  have hnl:r.s.length / 8=ns.length:=by rw[←hns,fixs_len]
  rw[hns,hnl] at hown1
  have hnil:=own_nil hown1
  obtain ⟨uo,ucap,rfl⟩:=own_slice hown1
  have HP:Hid (fstep xs r = .ok (xs++ns)):=Lib.hid (by rw[fstep_len HTY.out,if_pos hv,hns])
  have HU1:Hid (Upd (fun _=>False) w w1):=Lib.hid (HU0.out.trans (Upd.of_new hb1))
  have HNS:Hid (Nats .u64 w1 uo ns):=Lib.hid (nats_of_own hown1)
  have HRW1:Hid (w1.heap[b]? = some (.cells cs T (0,0))):=Lib.hid ((HU1.out.block b (row_lt hrow.out) (fun h=>h)).trans hrow.out)
  have hcb:w1.cell? ⟨b,o,none⟩=some (.slice ao xs.length cap):=row_cell HRW1.out (j:=o) hcs
  have HO1:Hid (w1.ownsRow B 24 1 (.slice ao xs.length cap) xs.length (nats64 xs)):=Lib.hid (HU1.out.own HO.out (fun _ _ h=>h))
  have hBw:B≤w1.heap.size:=by have:=HU1.out.size;omega
  have HNIL:Hid (uo=none→ucap=0):=Lib.hid (fun h=>hnil uo _ ucap rfl h)
  have hnl2:ns.length≤1000000:=by omega
  clear hv hb1 hown1 hnil hnl hns
  go_wp2_with (at_builtin;refine wpList_app_nats_at _ _ 48 rfl rfl Tryz.elU64 HO1.out rfl HNS.out HNIL.out rfl (by unfold maxLen;omega) (by omega) hBw ?_;intro v' w2 hown2 hgrow hnew;obtain ⟨ao',cap',rfl⟩:=own_slice hown2;have HRW2:Hid (w2.heap[b]? = some (.cells cs T (0,0))):=Lib.hid ((hgrow.block _ (row_lt HRW1.out) (fun e=>by have h7:=(HO.out.lt _ e.symm).1;omega)).trans HRW1.out);have hcb2:w2.cell? ⟨b,o,none⟩=some (.slice ao xs.length cap):=row_cell HRW2.out (j:=o) hcs;have hfz2:w2.frozen? ⟨b,o,none⟩=false:=row_thaw HRW2.out o)
  go_ret
  have hu2:=Upd.of_grown hgrow
  have HU2:Hid (Upd (fun k=>k=b∨(Value.slice ao xs.length cap).ownBlock=some k) w w2):=Lib.hid ((HU1.out.mono fun _ _ h=>h.elim).trans (hu2.mono fun k _ h => .inr h))
  refine fk_ok HP.out HRW2.out HU2.out ?_ hbB (fun k hk=>?_)
  ·rw[List.length_append]
   unfold nats64
   rw[List.map_append]
   exact hown2
  ·rcases hnew k hk with h|h
   ·exact .inl h
   ·exact .inr (by have:=HU1.out.size;omega)
theorem addnums_any {cs:Array Value} {T:TypeId} (b o:Nat) (v:Value) (xs:List Nat) (B:Nat) (r:Rec) (w:World) (hrow:Hid (w.heap[b]? = some (.cells cs T (0,0)))) (hcs:cs[o]? = some v) (hown:w.ownsRow B 24 1 v xs.length (nats64 xs)) (hbB:b<B) (hB:B≤w.heap.size) (hx:xs.length≤1000000) (hs:r.s.length≤1000000) :
  Calls Tryz.prog 138 #[.pointer (some ⟨b,o,none⟩),recV r] w (FixPost cs T b o v B xs r w):=by
 have HO:=Lib.hid hown
 have HC:=Lib.hid hcs
 have hU:Upd (fun _=>False) w (w.alloc (.cells #[.int .i64 (r.num:Int),.int .i64 (r.ty:Int),.int .u64 (r.n:Int),.string ⟨r.s.toArray⟩,.string ⟨r.raw.toArray⟩] 78)):=Upd.alloc _ _ _
 have HU:=Lib.hid hU
 clear hown hcs hU
 have HF:∀ w0,Upd (fun _=>False) w w0→Calls Tryz.prog 176 #[.pointer (some ⟨b,o,none⟩),recV r,.func (.func 177) #[] #[]] w0 (FixPost cs T b o v B xs r w0):=by
  intro w0 hu0
  have h1:Hid (w0.heap[b]? = some (.cells cs T (0,0))):=Lib.hid ((hu0.block b (row_lt hrow.out) (fun h=>h)).trans hrow.out)
  have h2:=hu0.own HO.out (fun _ _ h=>h)
  have h3:=hu0.size
  by_cases hty:r.ty=2
  ·exact pack_fix b o v xs B r w0 h1 HC.out h2 hbB (by omega) hx hty hs
  ·refine (pack_one b o v xs B r _ w0 h1 HC.out h2 hbB (by omega) hx hty).mono fun e w' hp=>?_
   unfold PackPost at hp
   unfold FixPost
   rw[show fstep xs r=pstep xs r from (if_pos hty).trans (if_pos hty).symm]
   exact hp
 have HFF:=Lib.hid HF
 clear HF
 unfold recV
 go_enter Tryz.func138,Tryz.ntmps138
 go_wp2_with fail
 refine (HFF.out _ HU.out).mono ?_;intro e w1 hpost
 obtain ⟨hu,hcase⟩:=hpost
 have HUU:=Lib.hid ((HU.out.mono fun _ _ h=>h.elim).trans hu)
 have HS:=Lib.hid HU.out.size
 cases hp:fstep xs r with
 | error c =>
  rw[hp] at hcase
  obtain ⟨x,rfl,hec⟩:=hcase
  obtain ⟨T',y,rfl⟩:=hec.iface
  have HEC:=Lib.hid hec
  have HP:=Lib.hid hp
  clear hec hp hu
  go_wp2_with fail
  go_ret
  refine ⟨HUU.out,?_⟩
  rw[HP.out]
  exact ⟨_,rfl,HEC.out⟩
 | ok ys =>
  rw[hp] at hcase
  obtain ⟨rfl,v',h1,h2,h3⟩:=hcase
  have H1:=Lib.hid h1
  have H2:=Lib.hid h2
  have H3:=Lib.hid h3
  have HP:=Lib.hid hp
  clear h1 h2 h3 hp hu
  go_wp2_with fail
  go_ret
  refine ⟨HUU.out,?_⟩
  rw[HP.out]
  refine ⟨rfl,v',H1.out,H2.out,fun k hk=>?_⟩
  rcases H3.out k hk with h|h
  ·exact .inl h
  ·exact .inr (Nat.le_trans HS.out h)
def NumsPost (cs:Array Value) (T:TypeId) (b o:Nat) (B:Nat) (xs:List Nat) (P:Nat→Prop) (r:Rec) (w:World) (e:Ending) (w':World):Prop :=
 Upd (fun k=>k=b∨P k) w w'∧match fstep xs r with
  | .error c=>∃ x,e = .returned x∧EC w' x c
  | .ok ys=>e = .returned .nilIface∧∃ v' P',w'.heap[b]? = some (.cells (cs.setIfInBounds o v') T (0,0))∧LsAt natCel 24 B v' ys P' w'∧∀ k,P' k→P k∨w.heap.size≤k
theorem addnums_ls {cs:Array Value} {T:TypeId} (b o:Nat) (v:Value) (xs:List Nat) (B:Nat) (P:Nat→Prop) (r:Rec) (w:World) (hrow:Hid (w.heap[b]? = some (.cells cs T (0,0)))) (hcs:cs[o]? = some v) (hls:Hid (LsAt natCel 24 B v xs P w)) (hbB:b<B) (hB:B≤w.heap.size) (hx:xs.length≤1000000) (hs:r.s.length≤1000000) :
  Calls Tryz.prog 138 #[.pointer (some ⟨b,o,none⟩),recV r] w (NumsPost cs T b o B xs P r w):=by
 obtain ⟨hown,hP⟩:=ls_nats hls.out
 refine (addnums_any b o v xs B r w hrow hcs hown hbB hB hx hs).mono fun e w' hp=>?_
 obtain ⟨hu,hc⟩:=hp
 refine ⟨hu.mono fun k _ h=>h.imp id (hP k),?_⟩
 cases hq:fstep xs r with
 | error c=>rw[hq] at hc;exact hc
 | ok ys =>
  rw[hq] at hc
  obtain ⟨he,v',h1,h2,h3⟩:=hc
  exact ⟨he,v',_,h1,nats_ls h2,fun k hk=>by
   rcases hk with hk|hk
   ·exact (h3 k hk).imp (hP k) id
   ·exact hk.elim⟩
theorem rowL_lst {σ:Type} {bx:Nat} {A:LPart σ (bx+1)} {T0:TypeId} {row:σ→A.V→Array Value} {st st':σ} {v:A.V} {P1:Nat→Prop} {w:World} {α:Type} {C:Cel α} {T:TypeId} {ls:σ→List α} {sm:σ→σ→Prop} {put:A.V→Value→A.V} {o:Nat} {ys:List α} {Pi P':Nat→Prop} {v':Value} {w':World} (h2:A.rel st v P1 w)
  (hput:∀ (S:Nat→Prop) st' v' P' w',sm st st'→Upd (fun k=>S k∨Pi k) w w'→(∀ k,S k→¬P1 k)→LsAt C T (bx+1) v' (ls st') P' w'→(∀ k,P' k→Pi k∨w.heap.size≤k)→∃ P'',A.rel st' (put v v') P'' w'∧∀ k,P'' k→P1 k∨w.heap.size≤k)
  (hu:Upd (fun k=>k=bx∨Pi k) w w') (h1:w'.heap[bx]? = some (.cells ((row st v).setIfInBounds o v') T0 (0,0))) (h3:LsAt C T (bx+1) v' ys P' w') (h4:∀ k,P' k→Pi k∨w.heap.size≤k) (hr:∀ v',(row st v).setIfInBounds o v'=row st' (put v v')) (hsm:sm st st') (hl:ls st'=ys) (hsub:∀ k,Pi k→P1 k) :
  Upd (fun k=>k=bx∨P1 k) w w'∧∃ P',(rowL A T0 row).rel st' P' w'∧∀ k,P' k→(k=bx∨P1 k)∨w.heap.size≤k:=by
 obtain ⟨P'',q1,q2⟩:=hput (fun k=>k=bx) st' v' P' w' hsm hu (fun k hk h=>by have hk:k=bx:=hk;have:=(A.lt h2 k h).1;omega) (hl ▸ h3) h4
 refine ⟨hu.mono (fun k _ h=>h.imp id (hsub k)),_,⟨put v v',P'',hr v' ▸ h1,q1,rfl⟩,?_⟩
 rintro k (rfl|hk)
 ·exact .inl (.inl rfl)
 ·exact (q2 k hk).imp .inr id
end Go.Proofs.YtjbingoliffjiaaGreatDoor
