/-
  Package utf: signs, what is whole.
-/
import Derived.Test.YtficgfemmijaaaaGreatDoorUpd
import Derived.Deep.LoopGhost
set_option maxRecDepth 1000000
set_option maxHeartbeats 16000000
namespace Go.Proofs.YtficgfemmijaaaaGreatDoor
open Go.RowKit
open Lib (hid)
def usize (c:Nat):Nat:=if 244<c∨(128≤c∧c<194) then 0 else if 240≤c then 4 else if 224≤c then 3 else if 194≤c then 2 else 1
def usecond (c d:Nat):Bool :=
 if c=224 then decide (160≤d∧d≤191) else if c=237 then decide (128≤d∧d≤159) else if c=240 then decide (144≤d∧d≤191) else if c=244 then decide (128≤d∧d≤143) else decide (128≤d∧d≤191)
def ucont (b:UInt8):Bool:=decide (128≤b.toNat∧b.toNat≤191)
def usign (l:List UInt8):Nat :=
 let n:=usize (l.getD 0 0).toNat
 if n=0∨l.length<n then 0 else if 1<n∧usecond (l.getD 0 0).toNat (l.getD 1 0).toNat=false then 0
 else if ((l.take n).drop 2).all ucont then n else 0
theorem usize_le (c:Nat):usize c≤4:=by
 unfold usize
 repeat' split
 all_goals omega
theorem usign_le (l:List UInt8):usign l≤l.length∧usign l≤4:=by
 have:=usize_le (l.getD 0 0).toNat;unfold usign;dsimp only
 repeat' split
 all_goals omega
theorem byte_getD (s:ByteArray)(i:Nat)(h:i<s.size):s.data.toList.getD i 0=s[i]'h:=by
 have h':i<s.data.toList.length:=by simpa using h
 rw[List.getD_eq_getElem?_getD,List.getElem?_eq_getElem h'];rfl
theorem second_any (c d:UInt8)(w:World) :
  Calls Tryz.prog 198 #[.int .u8 c.toNat,.int .u8 d.toNat] w fun e w'=>e = .returned (.bool (usecond c.toNat d.toNat))∧w=w':=by
 have hc:=c.toNat_lt;have hd:=d.toNat_lt
 generalize c.toNat=x at *
 generalize d.toNat=y at *
 rcases (by omega:x=224∨x=237∨x=240∨x=244∨(x≠224∧x≠237∧x≠240∧x≠244)) with rfl|rfl|rfl|rfl|⟨h1,h2,h3,h4⟩
 ·go_enter Tryz.func198,Tryz.ntmps198
  go_wp2
  all_goals go_ret
  all_goals exact ⟨ret_bool (by rw[Bool.eq_iff_iff];simp[usecond];omega),rfl⟩
 ·go_enter Tryz.func198,Tryz.ntmps198
  go_wp2
  all_goals go_ret
  all_goals exact ⟨ret_bool (by rw[Bool.eq_iff_iff];simp[usecond];omega),rfl⟩
 ·go_enter Tryz.func198,Tryz.ntmps198
  go_wp2
  all_goals go_ret
  all_goals exact ⟨ret_bool (by rw[Bool.eq_iff_iff];simp[usecond];omega),rfl⟩
 ·go_enter Tryz.func198,Tryz.ntmps198
  go_wp2
  all_goals go_ret
  all_goals exact ⟨ret_bool (by rw[Bool.eq_iff_iff];simp[usecond];omega),rfl⟩
 ·have g1:((x:Int) == 224)=false:=by simp;omega
  have g2:((x:Int) == 237)=false:=by simp;omega
  have g3:((x:Int) == 240)=false:=by simp;omega
  have g4:((x:Int) == 244)=false:=by simp;omega
  have HF:=hid (show usecond x y=decide (128≤y∧y≤191) by unfold usecond;rw[if_neg h1,if_neg h2,if_neg h3,if_neg h4]);clear h1 h2 h3 h4;go_enter Tryz.func198,Tryz.ntmps198
  go_wp2
  all_goals go_ret
  all_goals exact ⟨ret_bool (by rw[HF.out,Bool.eq_iff_iff];simp;omega),rfl⟩
theorem usign_val {l:List UInt8}{n:Nat}(hn:usize (l.getD 0 0).toNat=n):usign l=if n=0∨l.length<n then 0 else if 1<n∧usecond (l.getD 0 0).toNat (l.getD 1 0).toNat=false then 0 else if ((l.take n).drop 2).all ucont then n else 0:=by
 subst hn;rfl
theorem take3 {l:List UInt8}(h:3≤l.length):(l.take 3).drop 2=[l.getD 2 0]:=by
 match l,h with
 | _::_::_::_,_=>rfl
theorem take4 {l:List UInt8}(h:4≤l.length):(l.take 4).drop 2=[l.getD 2 0,l.getD 3 0]:=by
 match l,h with
 | _::_::_::_::_,_=>rfl
theorem usign_0 {l:List UInt8}(h:usize (l.getD 0 0).toNat=0):usign l=0:=by rw[usign_val h,if_pos (.inl rfl)]
theorem usign_short {l:List UInt8}{n:Nat}(h:usize (l.getD 0 0).toNat=n)(hl:l.length<n):usign l=0:=by rw[usign_val h,if_pos (.inr hl)]
theorem usign_second {l:List UInt8}{n:Nat}(h:usize (l.getD 0 0).toNat=n)(h1:1<n)(hs:usecond (l.getD 0 0).toNat (l.getD 1 0).toNat=false):usign l=0:=by
 rw[usign_val h]
 split
 ·rfl
 ·rw[if_pos ⟨h1,hs⟩]
theorem usign_1 {l:List UInt8}(h:usize (l.getD 0 0).toNat=1)(hl:1≤l.length):usign l=1:=by
 rw[usign_val h,if_neg (by omega),if_neg (by omega),if_pos];have:(l.take 1).drop 2=[]:=List.drop_eq_nil_of_le (by simp;omega);rw[this];rfl
theorem usign_2 {l:List UInt8}(h:usize (l.getD 0 0).toNat=2)(hl:2≤l.length)(hs:usecond (l.getD 0 0).toNat (l.getD 1 0).toNat=true):usign l=2:=by
 rw[usign_val h,if_neg (by omega),if_neg (by rw[hs];simp),if_pos];have:(l.take 2).drop 2=[]:=List.drop_eq_nil_of_le (by simp;omega);rw[this];rfl
theorem usign_3 {l:List UInt8}(h:usize (l.getD 0 0).toNat=3)(hl:3≤l.length)(hs:usecond (l.getD 0 0).toNat (l.getD 1 0).toNat=true):usign l=if ucont (l.getD 2 0) then 3 else 0:=by
 rw[usign_val h,if_neg (by omega),if_neg (by rw[hs];simp),take3 hl]
 simp
theorem usign_4 {l:List UInt8}(h:usize (l.getD 0 0).toNat=4)(hl:4≤l.length)(hs:usecond (l.getD 0 0).toNat (l.getD 1 0).toNat=true):usign l=if ucont (l.getD 2 0)&&ucont (l.getD 3 0) then 4 else 0:=by
 rw[usign_val h,if_neg (by omega),if_neg (by rw[hs];simp),take4 hl]
 simp
theorem sign_any (s:ByteArray)(w:World)(h0:0<s.size)(hm:s.size≤maxLen) :
  Calls Tryz.prog 197 #[.string s] w fun e w'=>e = .returned (.int .i64 (usign s.data.toList:Nat))∧w=w':=by
 unfold maxLen at hm
 have e0:=byte_getD s 0 h0;have HL:=hid (show s.data.toList.length=s.size by simp)
 rcases (by omega:(244<(s[0]'h0).toNat∨(128≤(s[0]'h0).toNat∧(s[0]'h0).toNat<194))∨(s[0]'h0).toNat<128∨(194≤(s[0]'h0).toNat∧(s[0]'h0).toNat<224)∨(224≤(s[0]'h0).toNat∧(s[0]'h0).toNat<240)∨(240≤(s[0]'h0).toNat∧(s[0]'h0).toNat≤244)) with hc|hc|hc|hc|hc
 ·have HF:=hid (usign_0 (l:=s.data.toList) (by rw[e0];unfold usize;rw[if_pos hc]))
  clear e0
  rcases hc with hc|hc
  ·go_enter Tryz.func197,Tryz.ntmps197
   go_wp2
   go_ret;exact ⟨ret_int (by rw[HF.out];rfl),rfl⟩
  ·obtain ⟨hc1,hc2⟩:=hc
   go_enter Tryz.func197,Tryz.ntmps197
   go_wp2
   go_ret;exact ⟨ret_int (by rw[HF.out];rfl),rfl⟩
 ·have HF:=hid (usign_1 (l:=s.data.toList) (by rw[e0];unfold usize;rw[if_neg (by omega),if_neg (by omega),if_neg (by omega),if_neg (by omega)]) (by have:=HL.out;omega))
  clear e0;go_enter Tryz.func197,Tryz.ntmps197
  go_wp2
  refine wp_loop_rounds 1 ?_;rw[rounds_succ]
  go_wp2
  go_ret;exact ⟨ret_int (by rw[HF.out];rfl),rfl⟩
 ·have hz:usize (s.data.toList.getD 0 0).toNat=2:=by rw[e0];unfold usize;rw[if_neg (by omega),if_neg (by omega),if_neg (by omega),if_pos (by omega)]
  obtain ⟨hc1,hc2⟩:=hc
  by_cases hl:s.size<2
  ·have HF:=hid (usign_short hz (by have:=HL.out;omega))
   clear e0 hz;go_enter Tryz.func197,Tryz.ntmps197
   go_wp2
   go_ret;exact ⟨ret_int (by rw[HF.out];rfl),rfl⟩
  ·have e1:=byte_getD s 1 (by omega)
   cases hs:usecond (s[0]'h0).toNat (s[1]'(by omega)).toNat with
   | false =>
    have HF:=hid (usign_second hz (by omega) (by rw[e0,e1];exact hs));have HS:=hid hs;clear e0 hz e1 hs;go_enter Tryz.func197,Tryz.ntmps197;go_wp2_with (go_at_call 198;refine (second_any _ _ _).mono ?_;rintro e w' ⟨rfl,rfl⟩;rw[HS.out]);go_ret;exact ⟨ret_int (by rw[HF.out];rfl),rfl⟩
   | true =>
    have HF:=hid (usign_2 hz (by have:=HL.out;omega) (by rw[e0,e1];exact hs));have HS:=hid hs;clear e0 hz e1 hs;go_enter Tryz.func197,Tryz.ntmps197;go_wp2_with (go_at_call 198;refine (second_any _ _ _).mono ?_;rintro e w' ⟨rfl,rfl⟩;rw[HS.out]);refine wp_loop_rounds 1 ?_;rw[rounds_succ]
    go_wp2
    go_ret;exact ⟨ret_int (by rw[HF.out];rfl),rfl⟩
 ·have hz:usize (s.data.toList.getD 0 0).toNat=3:=by rw[e0];unfold usize;rw[if_neg (by omega),if_neg (by omega),if_pos (by omega)]
  obtain ⟨hc1,hc2⟩:=hc
  by_cases hl:s.size<3
  ·have HF:=hid (usign_short hz (by have:=HL.out;omega))
   clear e0 hz;go_enter Tryz.func197,Tryz.ntmps197
   go_wp2
   go_ret;exact ⟨ret_int (by rw[HF.out];rfl),rfl⟩
  ·have e1:=byte_getD s 1 (by omega)
   cases hs:usecond (s[0]'h0).toNat (s[1]'(by omega)).toNat with
   | false =>
    have HF:=hid (usign_second hz (by omega) (by rw[e0,e1];exact hs));have HS:=hid hs;clear e0 hz e1 hs;go_enter Tryz.func197,Tryz.ntmps197;go_wp2_with (go_at_call 198;refine (second_any _ _ _).mono ?_;rintro e w' ⟨rfl,rfl⟩;rw[HS.out]);go_ret;exact ⟨ret_int (by rw[HF.out];rfl),rfl⟩
   | true =>
    have HF:=hid (usign_3 hz (by have:=HL.out;omega) (by rw[e0,e1];exact hs));have H2:=hid (byte_getD s 2 (by omega));have HS:=hid hs;clear e0 hz e1 hs;go_enter Tryz.func197,Tryz.ntmps197;go_wp2_with (go_at_call 198;refine (second_any _ _ _).mono ?_;rintro e w' ⟨rfl,rfl⟩;rw[HS.out]);refine wp_loop_rounds 2 ?_;rw[rounds_succ]
    go_wp2
    all_goals try (rw[rounds_succ];go_wp2)
    all_goals go_ret
    all_goals refine ⟨ret_int ?_,rfl⟩
    all_goals rw[HF.out,H2.out]
    all_goals unfold ucont
    all_goals simp only[decide_eq_true_eq]
    all_goals split<;>omega
 ·have hz:usize (s.data.toList.getD 0 0).toNat=4:=by rw[e0];unfold usize;rw[if_neg (by omega),if_pos (by omega)]
  obtain ⟨hc1,hc2⟩:=hc
  by_cases hl:s.size<4
  ·have HF:=hid (usign_short hz (by have:=HL.out;omega))
   clear e0 hz;go_enter Tryz.func197,Tryz.ntmps197
   go_wp2
   go_ret;exact ⟨ret_int (by rw[HF.out];rfl),rfl⟩
  ·have e1:=byte_getD s 1 (by omega)
   cases hs:usecond (s[0]'h0).toNat (s[1]'(by omega)).toNat with
   | false =>
    have HF:=hid (usign_second hz (by omega) (by rw[e0,e1];exact hs));have HS:=hid hs;clear e0 hz e1 hs;go_enter Tryz.func197,Tryz.ntmps197;go_wp2_with (go_at_call 198;refine (second_any _ _ _).mono ?_;rintro e w' ⟨rfl,rfl⟩;rw[HS.out]);go_ret;exact ⟨ret_int (by rw[HF.out];rfl),rfl⟩
   | true =>
    have HF:=hid (usign_4 hz (by have:=HL.out;omega) (by rw[e0,e1];exact hs));have H2:=hid (byte_getD s 2 (by omega));have H3:=hid (byte_getD s 3 (by omega));have HS:=hid hs;clear e0 hz e1 hs;go_enter Tryz.func197,Tryz.ntmps197;go_wp2_with (go_at_call 198;refine (second_any _ _ _).mono ?_;rintro e w' ⟨rfl,rfl⟩;rw[HS.out]);refine wp_loop_rounds 3 ?_;rw[rounds_succ]
    go_wp2
    all_goals try (rw[rounds_succ];go_wp2)
    all_goals try (rw[rounds_succ];go_wp2)
    all_goals go_ret
    all_goals refine ⟨ret_int ?_,rfl⟩
    all_goals rw[HF.out,H2.out,H3.out]
    all_goals unfold ucont
    all_goals simp only[decide_eq_true_eq,Bool.and_eq_true]
    all_goals split<;>omega
open Go.RowKit
def whl:Nat→List UInt8→Int→Nat
 | 0,_,_=>0
 | f+1,l,n=>if l=[]∨usign l=0∨n<usign l then 0 else usign l+whl f (l.drop (usign l)) (n - usign l)
theorem whl_fuel:∀ (f g:Nat) (l:List UInt8) (n:Int),l.length≤f→l.length≤g→whl f l n=whl g l n
 | 0,0,_,_,_,_=>rfl
 | 0,g+1,l,n,hf,_=>by
  have:l=[]:=List.length_eq_zero_iff.1 (by omega);rw[whl,whl,if_pos (.inl this)]
 | f+1,0,l,n,_,hg=>by
  have:l=[]:=List.length_eq_zero_iff.1 (by omega);rw[whl,whl,if_pos (.inl this)]
 | f+1,g+1,l,n,hf,hg=>by
  rw[whl,whl]
  split
  ·rfl
  ·rename_i h
   have h1:usign l≠0:=fun e=>h (.inr (.inl e))
   rw[whl_fuel f g _ _ (by simp;omega) (by simp;omega)]
def uwhole (l:List UInt8)(n:Int):Nat:=whl l.length l n
def WhlRel (l:List UInt8)(n:Int)(j:Nat):Prop:=j≤l.length∧uwhole l n=j+uwhole (l.drop j) (n - j)
theorem whl_start (l:List UInt8)(n:Int):WhlRel l n 0:=⟨by omega,by simp⟩
theorem whl_stop {l:List UInt8}{n:Int}{j:Nat}(h:WhlRel l n j)(hs:l.drop j=[]∨usign (l.drop j)=0∨n - j<usign (l.drop j)):uwhole l n=j:=by
 rw[h.2];unfold uwhole
 cases hl:(l.drop j).length with
 | zero=>rfl
 | succ m=>rw[whl,if_pos hs];rfl
theorem whl_next {l:List UInt8}{n:Int}{j:Nat}(h:WhlRel l n j)(h0:l.drop j≠[])(h1:usign (l.drop j)≠0)(h2:usign (l.drop j)≤n - j):WhlRel l n (j+usign (l.drop j)):=by
 have hle:=(usign_le (l.drop j)).1
 simp at hle
 refine ⟨by have:=h.1;omega,?_⟩;rw[h.2];have:(l.drop j).length≠0:=fun e=>h0 (List.length_eq_zero_iff.1 e)
 conv=>lhs;unfold uwhole
 cases hl:(l.drop j).length with
 | zero=>exact absurd hl this
 | succ m =>
  rw[whl,if_neg (by rintro (h|h|h)<;>first|exact h0 h|exact h1 h|omega),List.drop_drop];have e:((n - (j:Int)) - (usign (l.drop j):Int))=n - ((j+usign (l.drop j):Nat):Int):=by omega
  rw[e];unfold uwhole;rw[whl_fuel m _ _ _ (by simp at hl ⊢;omega) (Nat.le_refl _)];omega
theorem extract_list (s:ByteArray)(j:Nat):(s.extract j s.size).data.toList=s.data.toList.drop j:=by
 have h:s.data.toList.length=s.size:=by simp
 rw[ByteArray.data_extract,Array.toList_extract,List.extract_eq_take_drop,List.take_of_length_le (by simp)]
theorem extract_size (s:ByteArray)(j:Nat):(s.extract j s.size).size=s.size - j:=by simp
theorem whole_any (s:ByteArray)(n:Int)(w:World)(hm:s.size≤maxLen)(hn1:-4611686018427387904≤n)(hn2:n≤9223372036854775807)(hs:s.size≤4611686018427387904) :
  Calls Tryz.prog 193 #[.string s,.int .i64 n] w fun e w'=>e = .returned (.int .i64 (uwhole s.data.toList n:Nat))∧w=w':=by
 have HM:=hid hm;have HL:=hid (show s.data.toList.length=s.size by simp);clear hm;go_enter Tryz.func193,Tryz.ntmps193
 go_wp2
 go_loopg [5] s.size (fun k i wr=>∃ j:Nat,j+k=s.size∧i = .int .i64 j∧WhlRel s.data.toList n j∧wr=w)
 case atStart=>exact ⟨0,by omega,rfl,whl_start _ _,rfl⟩
 case round =>
  obtain ⟨j,hj,rfl,HR,rfl⟩:=hrel;have HJ:=hid hj;have hjs:j≤s.size:=by omega
  clear hj
  by_cases hlt:j<s.size
  ·have HD:Hid (s.data.toList.drop j≠[]):=hid (by intro e;have:=congrArg List.length e;simp at this;have:=HL.out;omega)
   have hse:=extract_size s j;obtain ⟨k,HK⟩:∃ k,Hid (k=usign (s.data.toList.drop j)):=⟨_,hid rfl⟩
   have hk1:k≤s.size - j:=by rw[HK.out];have:=(usign_le (s.data.toList.drop j)).1;have:=HL.out;simp at *;omega
   have HSE:Hid ((s.extract j s.size).size=s.size - j):=hid hse;clear hse;go_wp2_with fail;refine (sign_any (s.extract j s.size) wr (by rw[HSE.out];omega) (by rw[HSE.out];have:=HM.out;omega)).mono ?_;rintro e w' ⟨rfl,rfl⟩;rw[extract_list,←HK.out]
   by_cases hk0:k=0
   ·subst hk0
    have HF:=hid (whl_stop HR (.inr (.inl HK.out.symm)))
    go_wp2
    go_ret;exact ⟨ret_int (by rw[HF.out]),rfl⟩
   ·have hk0':((k:Int) == 0)=false:=by simp;omega
    by_cases hkn:n - (j:Int)<(k:Int)
    ·have HF:=hid (whl_stop HR (.inr (.inr (by rw[←HK.out];exact hkn))))
     go_wp2
     go_ret;exact ⟨ret_int (by rw[HF.out]),rfl⟩
    ·have HN:=hid (whl_next HR HD.out (by rw[←HK.out];exact hk0) (by rw[←HK.out];omega))
     have hj:=HJ.out
     go_wp2
     go_roundg (s.size - (j+k))
     case measure=>omega
     case rel=>exact ⟨j+k,by omega,by simp,by rw[HK.out];exact HN.out,rfl⟩
  ·have hj:=HJ.out
   have HF:=hid (whl_stop HR (.inl (List.drop_eq_nil_of_le (by have:=HL.out;omega))))
   go_wp2
   go_ret;exact ⟨ret_int (by rw[HF.out]),rfl⟩
theorem uwhole_neg (l:List UInt8)(n:Int)(h:n<0):uwhole l n=0:=by
 unfold uwhole
 cases hl:l.length with
 | zero=>rfl
 | succ m=>rw[whl,if_pos (.inr (.inr (by omega)))]
theorem whole_neg (s:ByteArray)(n:Int)(w:World)(hm:s.size≤4611686018427387904)(hn:n<0)(hn1:-9223372036854775808≤n) :
  Calls Tryz.prog 193 #[.string s,.int .i64 n] w fun e w'=>e = .returned (.int .i64 (uwhole s.data.toList n:Nat))∧w=w':=by
 have HF:=hid (uwhole_neg s.data.toList n hn)
 by_cases hs0:s.size=0
 ·have hs1:s.size≤0:=by omega
  clear hs0;go_enter Tryz.func193,Tryz.ntmps193
  go_wp2
  refine wp_loop_rounds 1 ?_;rw[rounds_succ]
  go_wp2
  go_ret;exact ⟨ret_int (by rw[HF.out];rfl),rfl⟩
 ·have hs1:0<s.size:=by omega
  obtain ⟨k,HK⟩:∃ k,Hid (k=usign s.data.toList):=⟨_,hid rfl⟩
  clear hs0;go_enter Tryz.func193,Tryz.ntmps193
  go_wp2
  refine wp_loop_rounds 1 ?_;rw[rounds_succ];go_wp2_with fail
  go_at_call 197
  refine (sign_any s w hs1 (by unfold maxLen;omega)).mono ?_;rintro e w' ⟨rfl,rfl⟩;rw[←HK.out]
  by_cases hk0:k=0
  ·subst hk0
   go_wp2
   go_ret;exact ⟨ret_int (by rw[HF.out];rfl),rfl⟩
  ·have hk0':((k:Int) == 0)=false:=by simp;omega
   go_wp2
   go_ret;exact ⟨ret_int (by rw[HF.out];rfl),rfl⟩
theorem whole_in (s:ByteArray)(n:Int)(w:World)(hs:s.size≤4611686018427387904)(hn1:-9223372036854775808≤n)(hn2:n≤9223372036854775807) :
  Calls Tryz.prog 193 #[.string s,.int .i64 n] w fun e w'=>e = .returned (.int .i64 (uwhole s.data.toList n:Nat))∧w=w':=by
 by_cases h:0≤n
 ·exact whole_any s n w (by unfold maxLen;omega) (by omega) hn2 hs
 ·exact whole_neg s n w hs (by omega) hn1
def ubad (l:List UInt8):Int:=if uwhole l l.length=l.length then -1 else uwhole l l.length
theorem bad_any (s:ByteArray)(w:World)(hs:s.size≤4611686018427387904) :
  Calls Tryz.prog 187 #[.string s] w fun e w'=>e = .returned (.int .i64 (ubad s.data.toList))∧w=w':=by
 have HL:=hid (show s.data.toList.length=s.size by simp);obtain ⟨j,HJ⟩:∃ j,Hid (j=uwhole s.data.toList s.size):=⟨_,hid rfl⟩
 go_enter Tryz.func187,Tryz.ntmps187;go_wp2_with fail;refine (whole_in s s.size w hs (by omega) (by omega)).mono ?_;rintro e w' ⟨rfl,rfl⟩;rw[←HJ.out]
 by_cases hj:j=s.size
 ·have HF:Hid (ubad s.data.toList = -1):=hid (by unfold ubad;rw[if_pos (by rw[HL.out,←HJ.out];exact hj)])
  have hj':((j:Int) == (s.size:Int))=true:=by simp;omega
  clear hj
  go_wp2
  go_ret;exact ⟨ret_int (by rw[HF.out]),rfl⟩
 ·have HF:Hid (ubad s.data.toList=j):=hid (by unfold ubad;rw[HL.out,←HJ.out,if_neg hj])
  have hj':((j:Int) == (s.size:Int))=false:=by simp;omega
  clear hj
  go_wp2
  go_ret;exact ⟨ret_int (by rw[HF.out]),rfl⟩
def uvalid (l:List UInt8):Bool:=decide (ubad l<0)
theorem valid_any (s:ByteArray)(w:World)(hs:s.size≤4611686018427387904) :
  Calls Tryz.prog 190 #[.string s] w fun e w'=>e = .returned (.bool (uvalid s.data.toList))∧w=w':=by
 go_enter Tryz.func190,Tryz.ntmps190;go_wp2_with fail;refine (bad_any s w hs).mono ?_;rintro e w' ⟨rfl,rfl⟩
 go_wp2
 go_ret;exact ⟨rfl,rfl⟩
end Go.Proofs.YtficgfemmijaaaaGreatDoor
