/-
  The four answers of MergeSides told alike: an Offset, counts, a code.
-/
import Derived.Test.YtcblkndiclkacaaDoorMgRTrim
import Derived.Test.YtcblkndiclkacaaDoorMgRDownOut
namespace Go.Proofs.YtcblkndiclkacaaDoor
open Go.RowKit
def CodeV (w:World) (v:Value) (c:Nat):Prop:=(c=0∧v = .nilIface)∨EC w v c
theorem CodeV.below {w w':World} {v:Value} {c:Nat} (h:CodeV w v c) (hb:Below w.heap.size w w'):CodeV w' v c:=h.imp id fun h=>h.below hb
def ans1 (x:Pt):Int × List Nat × Nat:=match aans [x] with
 | none=>(0,[],9)
 | some (o,C)=>(o,C,0)
def MP (r:Int × List Nat × Nat) (w:World) (E:Ending) (w':World):Prop :=
 Below w.heap.size w w'∧∃ bo cap v,E = .returned (.tuple #[.agg #[.int .i32 r.1,.slice bo r.2.1.length cap,.string ⟨#[]⟩],v])∧Nats .u64 w' bo r.2.1∧CodeV w' v r.2.2
def RP (r:Int × List Nat × Nat) (w:World) (E:Ending) (w':World):Prop :=
 Below w.heap.size w w'∧∃ bo cap,E = .returned (.tuple #[.agg #[.int .i32 r.1,.slice bo r.2.1.length cap,.string ⟨#[]⟩],.int .i64 (r.2.2:Int)])∧Nats .u64 w' bo r.2.1
theorem mp_of {x:Pt} {w:World} {E:Ending} {w':World} (h:MAddPost [x] w E w'):MP (ans1 x) w E w':=by
 obtain ⟨hb,hm⟩:=h
 refine ⟨hb,?_⟩
 unfold ans1
 cases hr:aans [x] with
 | none =>
  rw[hr] at hm
  obtain ⟨v,rfl,hv⟩:=hm
  exact ⟨none,0,v,rfl,fun h=>absurd rfl h,.inr hv⟩
 | some oc =>
  rw[hr] at hm
  obtain ⟨o,C⟩:=oc
  obtain ⟨bo,cap,rfl,_,_,_,hn⟩:=hm
  exact ⟨bo,cap,_,rfl,hn,.inl ⟨rfl,rfl⟩⟩
theorem rp_of {x:Pt} {w:World} {E:Ending} {w':World} (h:RDPost x w E w'):RP (ans1 x) w E w':=by
 obtain ⟨hb,hm⟩:=h
 refine ⟨hb,?_⟩
 unfold ans1
 cases hr:aans [x] with
 | none =>
  rw[hr] at hm
  obtain rfl:=hm
  exact ⟨none,0,rfl,fun h=>absurd rfl h⟩
 | some oc =>
  rw[hr] at hm
  obtain ⟨o,C⟩:=oc
  obtain ⟨bo,cap,rfl,hn⟩:=hm
  exact ⟨bo,cap,rfl,hn⟩
def rdn (o:Int) (cs:List Nat) (k:Int):Int × List Nat × Nat:=if 0≤k∧k≤31 then ans1 ⟨o,cs,k.toNat⟩ else (0,[],9)
theorem down_u (o:Int) (cs:List Nat) (k:Int) (bo:Option Addr) (cap:Nat) (U:ByteArray) (w:World) (ho : -2147483648≤o∧o≤2147483647) (hl:cs.length≤1000000) (he:∀ n∈cs,n<18446744073709551616) (hN:Hid (Nats .u64 w bo cs)) :
  Calls Tryd.prog 13 #[.agg #[.int .i32 o,.slice bo cs.length cap,.string U],.int .i64 k] w (MP (rdn o cs k) w):=by
 unfold rdn
 by_cases h:0≤k∧k≤31
 ·rw[if_pos h]
  have hok:Pt.Ok ⟨o,cs,k.toNat⟩:=⟨ho.1,ho.2,hl,(by show k.toNat≤31;omega),he⟩
  have hd:=down_any ⟨o,cs,k.toNat⟩ (Lib.hid hok) bo cap U w hN
  rw[show (((⟨o,cs,k.toNat⟩:Pt).sh:Nat):Int)=k by show ((k.toNat:Nat):Int)=k;omega] at hd
  exact hd.mono fun _ _ h=>mp_of h
 ·rw[if_neg h]
  refine (down_out o bo cs.length cap U k (by omega) w).mono ?_
  rintro E w' ⟨hb,v,rfl,hv⟩
  exact ⟨hb,none,0,v,rfl,fun h=>absurd rfl h,.inr hv⟩
theorem rdown_u (o:Int) (cs:List Nat) (k:Int) (bo:Option Addr) (cap:Nat) (U:ByteArray) (w:World) (ho : -2147483648≤o∧o≤2147483647) (hl:cs.length≤1000000) (he:∀ n∈cs,n<18446744073709551616) (hN:Hid (Nats .u64 w bo cs)) :
  Calls Tryd.prog 14 #[.agg #[.int .i32 o,.slice bo cs.length cap,.string U],.int .i64 k] w (RP (rdn o cs k) w):=by
 unfold rdn
 by_cases h:0≤k∧k≤31
 ·rw[if_pos h]
  have hok:Pt.Ok ⟨o,cs,k.toNat⟩:=⟨ho.1,ho.2,hl,(by show k.toNat≤31;omega),he⟩
  have hd:=rdown_any ⟨o,cs,k.toNat⟩ (Lib.hid hok) bo cap U w hN
  rw[show (((⟨o,cs,k.toNat⟩:Pt).sh:Nat):Int)=k by show ((k.toNat:Nat):Int)=k;omega] at hd
  exact hd.mono fun _ _ h=>rp_of h
 ·rw[if_neg h]
  refine (rdown_out o bo cs.length cap U k (by omega) w).mono ?_
  rintro E w' ⟨hb,rfl⟩
  exact ⟨hb,none,0,rfl,fun h=>absurd rfl h⟩
theorem trim_u (o:Int) (cs:List Nat) (bo:Option Addr) (cap:Nat) (U:ByteArray) (w:World) (ho : -2147483648≤o∧o≤2147483647) (hl:cs.length≤1000000) (he:∀ n∈cs,n<18446744073709551616) (hN:Hid (Nats .u64 w bo cs)) :
  Calls Tryd.prog 11 #[.agg #[.int .i32 o,.slice bo cs.length cap,.string U]] w (MP (ans1 ⟨o,cs,0⟩) w) :=
 (trim_any ⟨o,cs,0⟩ rfl (Lib.hid ⟨ho.1,ho.2,hl,Nat.zero_le _,he⟩) bo cap U w hN).mono fun _ _ h=>mp_of h
theorem rtrim_u (o:Int) (cs:List Nat) (bo:Option Addr) (cap:Nat) (U:ByteArray) (w:World) (hc:cs.length≤cap) (hn:bo=none→cap=0) (ho : -2147483648≤o∧o≤2147483647) (hl:cs.length≤1000000) (he:∀ n∈cs,n<18446744073709551616) (hN:Hid (Nats .u64 w bo cs)) :
  Calls Tryd.prog 12 #[.agg #[.int .i32 o,.slice bo cs.length cap,.string U]] w (RP (ans1 ⟨o,cs,0⟩) w) :=
 (rtrim_any ⟨o,cs,0⟩ rfl (Lib.hid ⟨ho.1,ho.2,hl,Nat.zero_le _,he⟩) bo cap U w hc hn hN).mono fun _ _ h=>rp_of h
end Go.Proofs.YtcblkndiclkacaaDoor
