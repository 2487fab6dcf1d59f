/- laws -/
import Derived.Test.YtggcdinoflchjaaGreatDoorK73
set_option maxRecDepth 100000
set_option maxHeartbeats 16000000
namespace Go.Proofs.YtggcdinoflchjaaGreatDoor
open Go.ChangeShapes Go.WideShapes Go.ChangeAt Go.RowKit Go.Lib Go.WideMaps Go.WideElems Go.Deep
def Shp.real (s:Shp):Prop:=(∀ x ∈ s.stk,ZaN x)/\(∀ x ∈ s.loc,ZaN x)/\s.Fit
set_option maxRecDepth 100000
theorem Zrb:Tryz.prog.cellsOf 24=3:=by kernel_rfl
theorem Zpt {H:Type} {enc:TypeId × Value->H} {w:World} {held:Bool} {fuel:Nat} {cs:List Value} {x:DataW H × List MemPlace} (hl:cs.length=3)
  (h:DataW.trod enc Tryz.prog w 0 (fun _=>true) held fuel 24 cs=some x):∃ z:Shp,z.real/\∃ v:Value,ShpR Anyw w z v/\v.cells.toList=cs:=by
 obtain ⟨ys,n,_,_,_,hyl,hall⟩:=DataW.trod_struct Tryz.underlying24 h
 match cs,hl with
 | [c0,c1,c2],_=>
  have g0:DataW.trod enc Tryz.prog w 0 (fun _=>true) held n 4 [c0]=ys[0]?:=by
   have g:=hall 0 _ rfl
   change DataW.trod enc Tryz.prog w 0 (fun _=>true) held n 4 (([c0,c1,c2].drop 0).take (Tryz.prog.cellsOf 4))=ys[0]? at g
   rw [Zqz] at g;exact g
  rw [Yaa (by rw [hyl];decide)] at g0;have g1:DataW.trod enc Tryz.prog w 0 (fun _=>true) held n 22 [c1]=ys[1]?:=by
   have g:=hall 1 _ rfl
   change DataW.trod enc Tryz.prog w 0 (fun _=>true) held n 22 (([c0,c1,c2].drop 1).take (Tryz.prog.cellsOf 22))=ys[1]? at g
   rw [ZnC] at g;exact g
  rw [Yaa (by rw [hyl];decide)] at g1;have g2:DataW.trod enc Tryz.prog w 0 (fun _=>true) held n 22 [c2]=ys[2]?:=by
   have g:=hall 2 _ rfl
   change DataW.trod enc Tryz.prog w 0 (fun _=>true) held n 22 (([c0,c1,c2].drop 2).take (Tryz.prog.cellsOf 22))=ys[2]? at g
   rw [ZnC] at g;exact g
  rw [Yaa (by rw [hyl];decide)] at g2;obtain ⟨z0,e0,_⟩:=DataW.trod_bool Tryz.underlying4 g0;obtain ⟨v1,l1,e1,s1,p1,n1⟩:=Zie g1;obtain ⟨v2,l2,e2,s2,p2,n2⟩:=Zie g2;simp only [Yb5,and_true] at e0;subst e0;simp only [Yb5,and_true] at e1;subst e1;simp only [Yb5,and_true] at e2;subst e2;exact ⟨⟨z0,l1,l2⟩,⟨p1,p2,n1,n2⟩,_,⟨_,_,rfl,s1,s2⟩,rfl⟩
theorem Zrv {H:Type} {enc:TypeId × Value->H} {w:World} {held:Bool} {v:Value} {d:DataW H} {p:List MemPlace} {base:Nat} (hv:Value.okWide Tryz.prog w .any base 24 v)
  (h:DataW.Trod enc Tryz.prog w 0 (fun _=>true) held 24 v d p):∃ s:Shp,s.real/\ShpR Anyw w s v:=by
 obtain ⟨cs,rfl,hsz⟩:=okWide_struct Tryz.underlying24 hv;obtain ⟨fuel,hf⟩:=h;rw [Zrb] at hsz;have hc:(Value.agg cs).cells.toList=cs.toList:=rfl;rw [hc] at hf;obtain ⟨c,hr,v,hv,hcs⟩:=Zpt (by simpa using hsz) hf;refine ⟨c,hr,?_⟩;obtain ⟨lv,fv,rfl,h1,h2⟩:=hv;have:cs=(Value.agg #[.bool c.seen,lv,fv]).cells:=Array.toList_inj.1 hcs.symm;rw [this];exact ⟨lv,fv,rfl,h1,h2⟩
