/-
  An argument that is a side, opened; its list's capacity.
-/
import Derived.Test.YtcblkndiclkacaaDoorBukRef
namespace Go.Proofs.YtcblkndiclkacaaDoor
open Go.ChangeShapes Go.WideShapes Go.ChangeAt Go.RowKit Go.Deep
theorem ints_trodC {H:Type} {enc:TypeId × Value→H} {P:Program} {W:World} {sp:Nat→Bool} {T E:TypeId} {k:IntKind} {v:Value} {fuel:Nat} {x:DataW H × List MemPlace}
  (hT:P.underlying T=some (.slice E)) (hE:P.underlying E=some (.int k)) (hcE:P.cellsOf E=1)
  (hf:DataW.trod enc P W 0 sp true fuel T [v]=some x) :
  ∃ ao len cap,v = .slice ao len cap∧len≤cap∧(ao=none→cap=0):=by
 rcases open_ints hT hE hcE hf with ⟨hcs,hx⟩|⟨a,len,cap,zs,hcs,_,hl,hm,hz,hx,hcell,hwz⟩
 ·simp only[List.cons.injEq,and_true] at hcs
  subst hcs
  exact ⟨none,0,0,rfl,Nat.le_refl _,fun _=>rfl⟩
 ·simp only[List.cons.injEq,and_true] at hcs
  subst hcs
  exact ⟨some a,len,cap,rfl,hl,fun h=>absurd h (by simp)⟩
theorem open_BkC {H:Type} {enc:TypeId × Value→H} {P:Program} {W:World} {sp:Nat→Bool} {base:Nat} {T E:TypeId} {f0 f1 f2:Field} {d:DataW H} {p:List MemPlace} {o:Int} {ao:Option Addr} {n cap:Nat} {s:ByteArray}
  (hT:P.underlying T=some (.struct #[f0,f1,f2])) (o1:f1.offset=1) (c1:P.cellsOf f1.type=1)
  (h1:P.underlying f1.type=some (.slice E)) (hE:P.underlying E=some (.int .u64)) (hcE:P.cellsOf E=1)
  (hv:Value.okWide P W .any base T (.agg #[.int .i32 o,.slice ao n cap,.string s])) (h:DataW.Trod enc P W 0 sp true T (.agg #[.int .i32 o,.slice ao n cap,.string s]) d p) :
  n≤cap∧(ao=none→cap=0):=by
 obtain ⟨cs,hcs,hsz⟩:=okWide_struct hT hv
 obtain ⟨fuel,hf⟩:=h
 obtain ⟨y0,y1,y2,m,hx,_,g0,g1,g2⟩:=trod_struct3 hT hf
 rw[o1,c1] at g1
 obtain ⟨ao',len',cap',hV1,hl,hn⟩:=ints_trodC h1 hE hcE (v := .slice ao n cap) (by simpa [Value.cells] using g1)
 injection hV1 with e1 e2 e3
 subst e1;subst e2;subst e3
 exact ⟨hl,hn⟩
end Go.Proofs.YtcblkndiclkacaaDoor
