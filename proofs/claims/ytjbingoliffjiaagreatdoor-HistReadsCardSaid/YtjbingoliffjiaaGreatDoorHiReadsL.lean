/-
  hyglaw13.HistReads.
-/
import Derived.Test.YtjbingoliffjiaaGreatDoorHiRef
import Derived.Test.YtjbingoliffjiaaGreatDoorHiFirst
import Derived.Test.YtjbingoliffjiaaGreatDoorHiSameR
set_option maxRecDepth 1000000
set_option maxHeartbeats 16000000
namespace Go.Proofs.YtjbingoliffjiaaGreatDoor
open Go.RowKit
open Lib (hid)
theorem optF_codeH (num:Nat):(optF num).Code:=fun d s r c h=>by
  have h:Except.ok (true,r.n)=Except.error c:=h
  cases h
theorem numsF_codeH (num:Nat):(numsF num).Code:=fun d (s:List Nat) r c h=>by
  have h:fstep s r = .error c:=h
  unfold fstep at h
  split at h
  · cases h
  · split at h
    · cases h
    · cases h;exact .inl (.inl rfl)
theorem ex_codeFH:exF.Code:=((numF_code _).and (((((kindF_code _ _).wrap (((bytesF_code _).and (bytesF_code _))) _ _)).and (kvF_code _))))
theorem ex_codeH {l:List UInt8}{d:Int}{c:Nat}(h:exrd l d = .error c):VCode c:=mread_code (σ:=Nat × ((Int × Nat) × List UInt8 × List UInt8) × List KV) (fun st r c hs=>ex_codeFH d st r c hs) h
theorem ex_fit_backH {x:Ex}(h:exF.fit x.1)(hw:ex_wt x≤400000):ex_fit x:=by
  obtain ⟨⟨t,⟨⟨⟨k,n⟩,⟨a,b⟩⟩,l⟩⟩,u⟩:=x
  have hw:60+(a.length+b.length+ksw l+u.length)≤400000:=hw
  exact ⟨h.1,h.2.1.1,kvs_fit h.2.2,by omega⟩
theorem exs_fitH {num:Nat}{l:List Ex}(h:(listF num exSb).fit l)(hw:lwt exSb l≤400000):∀ x∈l,ex_fit x:=fun x hx=>ex_fit_backH (h x hx) (exs_wt_le hx hw)
theorem exs_codeH (num:Nat):(listF num exSb).Code:=lst_code (fun _ _ _ h=>ex_codeH h) num
theorem hi_mayFH (d:Int){a t k:Nat}{ph:Bool}{pn:Nat}{nc nb:List Nat}{es:List Ex}{l:List KV}{f:Nat}{mh:Bool}{mn:Nat}{gh:Bool}{gn:Nat}{u:List UInt8}:hi_may d ((a,(t,(k,((ph,pn),(nc,(nb,(es,(l,(f,((mh,mn),(gh,gn))))))))))),u)=(decide (0≤d)&&(hiF.may d (a,(t,(k,((ph,pn),(nc,(nb,(es,(l,(f,((mh,mn),(gh,gn)))))))))))&&munkOk hiF.tk u d)):=by
  have h:hiF.may d (a,(t,(k,((ph,pn),(nc,(nb,(es,(l,(f,((mh,mn),(gh,gn)))))))))))=((ph||decide (pn=0))&&(lmays exSb es d&&(kmays l d&&((mh||decide (mn=0))&&(gh||decide (gn=0)))))):=by
    show (true&&(true&&(true&&((ph||decide (pn=0))&&(true&&(true&&((listF 8 exSb).may d es&&((listF 9 kvS).may d l&&(true&&((mh||decide (mn=0))&&(gh||decide (gn=0))))))))))))=_
    simp only[kvs_may,lst_may (S:=exSb),Bool.true_and]
  rw[h];rfl
theorem hi_twiceH {a t k:Nat}{ph:Bool}{pn:Nat}{nc nb:List Nat}{es:List Ex}{l:List KV}{f:Nat}{mh:Bool}{mn:Nat}{gh:Bool}{gn:Nat}{u s:List UInt8}{d:Int}(hl:s.length≤6000)(h:hird s d = .ok ((a,(t,(k,((ph,pn),(nc,(nb,(es,(l,(f,((mh,mn),(gh,gn))))))))))),u)):hi_may d ((a,(t,(k,((ph,pn),(nc,(nb,(es,(l,(f,((mh,mn),(gh,gn))))))))))),u)=true∧hi_fit ((a,(t,(k,((ph,pn),(nc,(nb,(es,(l,(f,((mh,mn),(gh,gn))))))))))),u):=by
  obtain ⟨h0,h1,h2,h3,h4⟩:=fld_twice hiF_ok (s:=(a,(t,(k,((ph,pn),(nc,(nb,(es,(l,(f,((mh,mn),(gh,gn)))))))))))) (by omega) h
  refine ⟨?_,?_⟩
  · rw[hi_mayFH,h1,h2,decide_eq_true h0];rfl
  · have h5:(0+(0+(0+(0+(8 * nc.length+(8 * nb.length+((listF 8 exSb).wt es+((listF 9 kvS).wt l+(0+(0+0))))))))))+u.length≤(0+(0+(0+(0+(0+(0+(0+(0+(0+(0+0))))))))))+51 * s.length:=h4
    rw[lst_wt,kvs_wt] at h5
    exact ⟨h3.1,h3.2.1,h3.2.2.1,h3.2.2.2.1,h3.2.2.2.2.1,h3.2.2.2.2.2.1,exs_fitH h3.2.2.2.2.2.2.1 (by omega),kvs_fit h3.2.2.2.2.2.2.2.1,h3.2.2.2.2.2.2.2.2.1,h3.2.2.2.2.2.2.2.2.2.1,h3.2.2.2.2.2.2.2.2.2.2,by omega⟩
theorem hi_arg_ofH {a t k:Nat}{ph:Bool}{pn:Nat}{nc nb:List Nat}{es:List Ex}{l:List KV}{f:Nat}{mh:Bool}{mn:Nat}{gh:Bool}{gn:Nat}{u:List UInt8}(h:hi_fit ((a,(t,(k,((ph,pn),(nc,(nb,(es,(l,(f,((mh,mn),(gh,gn))))))))))),u)):hi_arg ((a,(t,(k,((ph,pn),(nc,(nb,(es,(l,(f,((mh,mn),(gh,gn))))))))))),u):=by
  obtain ⟨hna,hnt,hnk,hnpn,hfnc,hfnb,hfes,hfl,hnf,hnmn,hngn,hw⟩:=h
  have hzl:=ksw_len l
  have hzes:=exs_len es
  exact ⟨hna,hnt,hnk,hnpn,hfnc,(by omega),hfnb,(by omega),(fun x hx=>ex_arg_ofx (hfes x hx)),(by omega),hfl,kslim_ofw l (by omega),(by omega),hnf,hnmn,hngn,(by omega)⟩
theorem hi_codeFH:hiF.Code:=((numF_code _).and (((numF_code _).and (((numF_code _).and (((optF_codeH _).and (((numsF_codeH _).and (((numsF_codeH _).and (((exs_codeH _).and (((kvF_code _).and (((var32F_code _).and (((optF_codeH _).and (optF_codeH _))))))))))))))))))))
theorem hi_codeH {l:List UInt8}{d:Int}{c:Nat}(h:hird l d = .error c):VCode c:=mread_code (σ:=Nat × Nat × Nat × (Bool × Nat) × List Nat × List Nat × List Ex × List KV × Nat × (Bool × Nat) × Bool × Nat) (fun st r c hs=>hi_codeFH d st r c hs) h
theorem hi_zargH:hi_arg ((0,(0,(0,((false,0),([],([],([],([],(0,((false,0),(false,0))))))))))),[]):=⟨(by omega),(by omega),(by omega),(by omega),(fun x hx=>by cases hx),(by simp),(fun x hx=>by cases hx),(by simp),(fun x hx=>by cases hx),(by simp),(by rw[ksfit];trivial),(by rw[kslim];trivial),(by simp),(by omega),(by omega),(by omega),(by simp)⟩
theorem hi_zrelH (w:World)(P:Nat→Prop):hiCel.R w P ((0,(0,(0,((false,0),([],([],([],([],(0,((false,0),(false,0))))))))))),[]) [.slice none 0 0,.int .u64 0,.int .u64 0,.int .u64 0,.bool false,.int .u64 0,.bool false,.int .u64 0,.bool false,.int .u64 0,.slice none 0 0,.slice none 0 0,.slice none 0 0,.int .u32 0,.string ⟨#[]⟩]:=⟨none,0,none,0,none,0,none,0,rfl,by rw[KRels];trivial,CRels.nil _ _ _ _,CRels.nil _ _ _ _,CRels.nil _ _ _ _⟩
theorem hird_L (s:ByteArray)(d:Int)(w:World)(h1:6000<s.size) :
 Calls Tryz.prog 5 #[.string s,.int .i64 d] w fun e w'=>e = .returned (.bool true)∧Below w.heap.size w w':=by
 have q0:decide ((6000:Int)<(s.size:Int))=true:=decide_eq_true (by omega)
 clear h1
 have hb:Below w.heap.size w w:=Below.refl _ _
 have H1:=hid (Fx.nil w)
 have H2:=hid (H1.out.base (hb))
 clear H1
 clear hb
 go_enter Tryz.func5,Tryz.ntmps5
 go_wp2_with fail
 refine (first13 w).mono ?_;rintro e w1 ⟨rfl,hb⟩
 have H3:=hid (H2.out.below hb)
 clear hb H2
 go_wp2_with fail
 refine (first13 w1).mono ?_;rintro e w2 ⟨rfl,hb⟩
 have H4:=hid (H3.out.below hb)
 clear hb H3
 go_wp2_with fail
 go_ret
 exact ⟨rfl,H4.out.is.1⟩
theorem hird_A (s:ByteArray)(d:Int)(w:World)(hd:-9223372036854775808≤d∧d≤9223372036854775807)(hs:s.size≤6000)(hg:Glob w){c:Nat}(hx:hird s.data.toList d = .error c) :
 Calls Tryz.prog 5 #[.string s,.int .i64 d] w fun e w'=>e = .returned (.bool true)∧Below w.heap.size w w':=by
 have q0:decide ((6000:Int)<(s.size:Int))=false:=decide_eq_false (by omega)
 have hsl:s.data.toList.length=s.size:=by simp
 have HS1:=hid (fun w'=>hi_un s d w' (by omega) hd)
 have HS2:=hid (fun w'=>hi_refread s d w' (by omega) hd)
 rw[hx] at HS1 HS2
 have HCD:=hid (hi_codeH hx)
 have HG:=hid hg
 clear hs hd hx hsl hg
 have hb:Below w.heap.size w w:=Below.refl _ _
 have H1:=hid (Fx.nil w)
 have H2:=hid (H1.out.base (hb))
 clear H1
 clear hb
 go_enter Tryz.func5,Tryz.ntmps5
 go_wp2_with fail
 refine (first13 w).mono ?_;rintro e w1 ⟨rfl,hb⟩
 have H3:=hid (H2.out.below hb)
 clear hb H2
 go_wp2_with fail
 refine (HS1.out w1).mono ?_;rintro e w2 ⟨hb,v1,q1,rfl,hq1,hew⟩
 obtain ⟨T1,y1,rfl⟩:=hew.iface
 clear HS1
 unfold hizero
 have H4:=hid (H3.out.below hb)
 clear hb H3
 have H5:=hid (H4.out.ew (hew))
 clear H4
 clear hew
 have HQ:=hid hq1
 clear hq1
 go_wp2_with fail
 obtain ⟨blr1,hbl⟩:∃ b,w2.heap.size=b:=⟨_,rfl⟩
 obtain ⟨W3,hW⟩:∃ W,w2.alloc (.cells #[.slice none 0 0,.int .u64 0,.int .u64 0,.int .u64 0,.bool false,.int .u64 0,.bool false,.int .u64 0,.bool false,.int .u64 0,.slice none 0 0,.slice none 0 0,.slice none 0 0,.int .u32 0,.string ⟨#[]⟩] 50)=W:=⟨_,rfl⟩
 have hb:Below w2.heap.size w2 W3:=by rw[←hW];exact below_new _ _
 have hr:W3.heap[blr1]? = some (.cells #[.slice none 0 0,.int .u64 0,.int .u64 0,.int .u64 0,.bool false,.int .u64 0,.bool false,.int .u64 0,.bool false,.int .u64 0,.slice none 0 0,.slice none 0 0,.slice none 0 0,.int .u32 0,.string ⟨#[]⟩] 50 (0,0)):=by rw[←hW,←hbl];exact new_row _ _ _
 rw[hW,hbl]
 clear hW hbl
 have H6:=hid (H5.out.below hb)
 clear hb H5
 have H7:=hid (H6.out.row (hr))
 clear H6
 clear hr
 refine (HS2.out W3).mono ?_;rintro e w4 ⟨hb,rfl⟩
 clear HS2
 unfold hizero
 have H8:=hid (H7.out.below hb)
 clear hb H7
 go_wp2_with fail
 obtain ⟨blr2,hbl⟩:∃ b,w4.heap.size=b:=⟨_,rfl⟩
 obtain ⟨W5,hW⟩:∃ W,w4.alloc (.cells #[.slice none 0 0,.int .u64 0,.int .u64 0,.int .u64 0,.bool false,.int .u64 0,.bool false,.int .u64 0,.bool false,.int .u64 0,.slice none 0 0,.slice none 0 0,.slice none 0 0,.int .u32 0,.string ⟨#[]⟩] 50)=W:=⟨_,rfl⟩
 have hb:Below w4.heap.size w4 W5:=by rw[←hW];exact below_new _ _
 have hr:W5.heap[blr2]? = some (.cells #[.slice none 0 0,.int .u64 0,.int .u64 0,.int .u64 0,.bool false,.int .u64 0,.bool false,.int .u64 0,.bool false,.int .u64 0,.slice none 0 0,.slice none 0 0,.slice none 0 0,.int .u32 0,.string ⟨#[]⟩] 50 (0,0)):=by rw[←hW,←hbl];exact new_row _ _ _
 rw[hW,hbl]
 clear hW hbl
 have H9:=hid (H8.out.below hb)
 clear hb H8
 have H10:=hid (H9.out.row (hr))
 clear H9
 clear hr
 refine (first13 W5).mono ?_;rintro e w6 ⟨rfl,hb⟩
 have H11:=hid (H10.out.below hb)
 clear hb H10
 go_wp2_with fail
 obtain ⟨ws,he⟩:=H11.out.is.2.2.1
 refine (wrong8_any q1 s.size _ ws _ w6 he (HG.out.below (H11.out.is.2.2.2.1)) HQ.out HCD.out).mono ?_;rintro e w7 ⟨rfl,hb⟩
 clear he
 have H12:=hid (H11.out.below hb)
 clear hb H11
 obtain ⟨xa0,xa1,xa2,xa3,xa4,xa5,xa6,xa7,xa8,xa9,xa10,xa11,xa12,xa13,xa14⟩:=row15r (H12.out.is.2.1)
 obtain ⟨xb0,xb1,xb2,xb3,xb4,xb5,xb6,xb7,xb8,xb9,xb10,xb11,xb12,xb13,xb14⟩:=row15r (H12.out.is.1)
 go_wp2_with fail
 refine (hi_ref ((0,(0,(0,((false,0),([],([],([],([],(0,((false,0),(false,0))))))))))),[]) ((0,(0,(0,((false,0),([],([],([],([],(0,((false,0),(false,0))))))))))),[]) [.slice none 0 0,.int .u64 0,.int .u64 0,.int .u64 0,.bool false,.int .u64 0,.bool false,.int .u64 0,.bool false,.int .u64 0,.slice none 0 0,.slice none 0 0,.slice none 0 0,.int .u32 0,.string ⟨#[]⟩] [.slice none 0 0,.int .u64 0,.int .u64 0,.int .u64 0,.bool false,.int .u64 0,.bool false,.int .u64 0,.bool false,.int .u64 0,.slice none 0 0,.slice none 0 0,.slice none 0 0,.int .u32 0,.string ⟨#[]⟩] (fun _=>False) (fun _=>False) w7 hi_zargH (hi_zrelH _ _) (hi_zrelH _ _)).mono ?_;rintro e w9 ⟨rfl,hb⟩
 rw[alike_yes rfl]
 clear xa0 xa1 xa2 xa3 xa4 xa5 xa6 xa7 xa8 xa9 xa10 xa11 xa12 xa13 xa14 xb0 xb1 xb2 xb3 xb4 xb5 xb6 xb7 xb8 xb9 xb10 xb11 xb12 xb13 xb14
 have H13:=hid (H12.out.below hb)
 clear hb H12
 go_wp2_with fail
 go_ret
 exact ⟨rfl,H13.out.is.2.2.2.1⟩
theorem hird_C (s:ByteArray)(d:Int)(w:World)(hd:-9223372036854775808≤d∧d≤9223372036854775807)(hs:s.size≤6000){x:Hi}(hx:hird s.data.toList d = .ok x) :
 Calls Tryz.prog 5 #[.string s,.int .i64 d] w fun e w'=>e = .returned (.bool true)∧Below w.heap.size w w':=by
 have q0:decide ((6000:Int)<(s.size:Int))=false:=decide_eq_false (by omega)
 have hsl:s.data.toList.length=s.size:=by simp
 have HS1:=hid (fun w'=>hi_un s d w' (by omega) hd)
 have HS2:=hid (fun w'=>hi_refread s d w' (by omega) hd)
 rw[hx] at HS1 HS2
 obtain ⟨⟨a,⟨t,⟨k,⟨⟨ph,pn⟩,⟨nc,⟨nb,⟨es,⟨l,⟨f,⟨⟨mh,mn⟩,⟨gh,gn⟩⟩⟩⟩⟩⟩⟩⟩⟩⟩⟩,u⟩:=x
 obtain ⟨hmay,hfit⟩:=hi_twiceH (by omega) hx
 have HARG:=hid (hi_arg_ofH hfit)
 clear hmay hfit
 obtain ⟨Xu,eu⟩:∃ X:ByteArray,(⟨u.toArray⟩:ByteArray)=X:=⟨_,rfl⟩
 have HNu:=hid eu
 clear eu
 clear hs hd hx hsl
 have hb:Below w.heap.size w w:=Below.refl _ _
 have H1:=hid (Fx.nil w)
 have H2:=hid (H1.out.base (hb))
 clear H1
 clear hb
 go_enter Tryz.func5,Tryz.ntmps5
 go_wp2_with fail
 refine (first13 w).mono ?_;rintro e w1 ⟨rfl,hb⟩
 have H3:=hid (H2.out.below hb)
 clear hb H2
 go_wp2_with fail
 refine (HS1.out w1).mono ?_;rintro e w2 ⟨hb,cs,rfl,hrel⟩
 clear HS1
 have hr2:=hrel
 obtain ⟨lo1,lc1,nco1,ncc1,nbo1,nbc1,eo1,ec1,rfl,_,_,_,_⟩:=hr2
 dsimp only[strV]
 rw[HNu.out]
 have H4:=hid (H3.out.below hb)
 clear hb H3
 have H5:=hid (H4.out.cel (hrel))
 clear H4
 clear hrel
 go_wp2_with fail
 obtain ⟨blr1,hbl⟩:∃ b,w2.heap.size=b:=⟨_,rfl⟩
 obtain ⟨W3,hW⟩:∃ W,w2.alloc (.cells #[.slice lo1 l.length lc1,.int .u64 (a:Int),.int .u64 (t:Int),.int .u64 (k:Int),.bool ph,.int .u64 (pn:Int),.bool mh,.int .u64 (mn:Int),.bool gh,.int .u64 (gn:Int),.slice nco1 nc.length ncc1,.slice nbo1 nb.length nbc1,.slice eo1 es.length ec1,.int .u32 (f:Int),.string Xu] 50)=W:=⟨_,rfl⟩
 have hb:Below w2.heap.size w2 W3:=by rw[←hW];exact below_new _ _
 have hr:W3.heap[blr1]? = some (.cells #[.slice lo1 l.length lc1,.int .u64 (a:Int),.int .u64 (t:Int),.int .u64 (k:Int),.bool ph,.int .u64 (pn:Int),.bool mh,.int .u64 (mn:Int),.bool gh,.int .u64 (gn:Int),.slice nco1 nc.length ncc1,.slice nbo1 nb.length nbc1,.slice eo1 es.length ec1,.int .u32 (f:Int),.string Xu] 50 (0,0)):=by rw[←hW,←hbl];exact new_row _ _ _
 rw[hW,hbl]
 clear hW hbl
 have H6:=hid (H5.out.below hb)
 clear hb H5
 have H7:=hid (H6.out.row (hr))
 clear H6
 clear hr
 refine (HS2.out W3).mono ?_;rintro e w4 ⟨hb,cs,rfl,hrel⟩
 clear HS2
 have hr2:=hrel
 obtain ⟨lo2,lc2,nco2,ncc2,nbo2,nbc2,eo2,ec2,rfl,_,_,_,_⟩:=hr2
 dsimp only[strV]
 rw[HNu.out]
 have H8:=hid (H7.out.below hb)
 clear hb H7
 have H9:=hid (H8.out.cel (hrel))
 clear H8
 clear hrel
 go_wp2_with fail
 obtain ⟨blr2,hbl⟩:∃ b,w4.heap.size=b:=⟨_,rfl⟩
 obtain ⟨W5,hW⟩:∃ W,w4.alloc (.cells #[.slice lo2 l.length lc2,.int .u64 (a:Int),.int .u64 (t:Int),.int .u64 (k:Int),.bool ph,.int .u64 (pn:Int),.bool mh,.int .u64 (mn:Int),.bool gh,.int .u64 (gn:Int),.slice nco2 nc.length ncc2,.slice nbo2 nb.length nbc2,.slice eo2 es.length ec2,.int .u32 (f:Int),.string Xu] 50)=W:=⟨_,rfl⟩
 have hb:Below w4.heap.size w4 W5:=by rw[←hW];exact below_new _ _
 have hr:W5.heap[blr2]? = some (.cells #[.slice lo2 l.length lc2,.int .u64 (a:Int),.int .u64 (t:Int),.int .u64 (k:Int),.bool ph,.int .u64 (pn:Int),.bool mh,.int .u64 (mn:Int),.bool gh,.int .u64 (gn:Int),.slice nco2 nc.length ncc2,.slice nbo2 nb.length nbc2,.slice eo2 es.length ec2,.int .u32 (f:Int),.string Xu] 50 (0,0)):=by rw[←hW,←hbl];exact new_row _ _ _
 rw[hW,hbl]
 clear hW hbl
 have H10:=hid (H9.out.below hb)
 clear hb H9
 have H11:=hid (H10.out.row (hr))
 clear H10
 clear hr
 refine (first13 W5).mono ?_;rintro e w6 ⟨rfl,hb⟩
 have H12:=hid (H11.out.below hb)
 clear hb H11
 obtain ⟨xa0,xa1,xa2,xa3,xa4,xa5,xa6,xa7,xa8,xa9,xa10,xa11,xa12,xa13,xa14⟩:=row15r (H12.out.is.2.2.1)
 obtain ⟨xb0,xb1,xb2,xb3,xb4,xb5,xb6,xb7,xb8,xb9,xb10,xb11,xb12,xb13,xb14⟩:=row15r (H12.out.is.1)
 go_wp2_with fail
 refine (hi_ref ((a,(t,(k,((ph,pn),(nc,(nb,(es,(l,(f,((mh,mn),(gh,gn))))))))))),u) ((a,(t,(k,((ph,pn),(nc,(nb,(es,(l,(f,((mh,mn),(gh,gn))))))))))),u) [.slice lo1 l.length lc1,.int .u64 (a:Int),.int .u64 (t:Int),.int .u64 (k:Int),.bool ph,.int .u64 (pn:Int),.bool mh,.int .u64 (mn:Int),.bool gh,.int .u64 (gn:Int),.slice nco1 nc.length ncc1,.slice nbo1 nb.length nbc1,.slice eo1 es.length ec1,.int .u32 (f:Int),.string Xu] [.slice lo2 l.length lc2,.int .u64 (a:Int),.int .u64 (t:Int),.int .u64 (k:Int),.bool ph,.int .u64 (pn:Int),.bool mh,.int .u64 (mn:Int),.bool gh,.int .u64 (gn:Int),.slice nco2 nc.length ncc2,.slice nbo2 nb.length nbc2,.slice eo2 es.length ec2,.int .u32 (f:Int),.string Xu] _ _ w6 HARG.out (by rw[←HNu.out];exact H12.out.is.2.2.2.1) (by rw[←HNu.out];exact H12.out.is.2.1)).mono ?_;rintro e w9 ⟨rfl,hb⟩
 rw[alike_yes rfl]
 clear xa0 xa1 xa2 xa3 xa4 xa5 xa6 xa7 xa8 xa9 xa10 xa11 xa12 xa13 xa14 xb0 xb1 xb2 xb3 xb4 xb5 xb6 xb7 xb8 xb9 xb10 xb11 xb12 xb13 xb14
 have H13:=hid (H12.out.below hb)
 clear hb H12
 go_wp2_with fail
 go_ret
 exact ⟨rfl,H13.out.is.2.2.2.2.1⟩
theorem hird_any (s:ByteArray)(d:Int)(w:World)(hd:-9223372036854775808≤d∧d≤9223372036854775807)(hg:Glob w) :
 Calls Tryz.prog 5 #[.string s,.int .i64 d] w fun e w'=>e = .returned (.bool true)∧Below w.heap.size w w':=by
 by_cases hs:6000<s.size
 · exact hird_L s d w hs
 cases hx:hird s.data.toList d with
 | error c=>exact hird_A s d w hd (by omega) hg hx
 | ok x=>exact hird_C s d w hd (by omega) hx
end Go.Proofs.YtjbingoliffjiaaGreatDoor
