/- laws -/
import Derived.Test.YtggcdinoflchjaaGreatDoorK77
set_option maxRecDepth 100000
set_option maxHeartbeats 16000000
namespace Go.Proofs.YtggcdinoflchjaaGreatDoor
open Go.ChangeShapes Go.WideShapes Go.ChangeAt Go.RowKit Go.Lib Go.WideMaps Go.WideElems Go.Deep
set_option maxRecDepth 100000
theorem ZqZ {H:Type} {enc:TypeId × Value->H} {w:World} {held:Bool} {v:Value} {d:DataW H} {p:List MemPlace} {base:Nat} (hv:Value.okWide Tryz.prog w .any base 44 v)
  (h:DataW.Trod enc Tryz.prog w 0 (fun _=>true) held 44 v d p):∃ m:Mth,(m.held/\m.Fit/\∀ y ∈ m.code,ZaA y.op)/\MthR Anyw w m v:=by
 obtain ⟨cs,rfl,hsz⟩:=okWide_struct Tryz.underlying44 hv;obtain ⟨fuel,hf⟩:=h;rw [ZqJ] at hsz;have hc:(Value.agg cs).cells.toList=cs.toList:=rfl;rw [hc] at hf;obtain ⟨c,hr,v,hv,hcs⟩:=ZoW (by simpa using hsz) hf;refine ⟨c,hr,?_⟩;have hv':=hv;obtain ⟨f1,f2,f3,rfl,h1,h2,h3⟩:=hv;have:cs=(Value.agg #[.string (S c.name),f1,.string (S c.res),.bool c.abs,.int .i64 c.loc,f2,f3]).cells:=Array.toList_inj.1 hcs.symm;rw [this];exact hv'
end Go.Proofs.YtggcdinoflchjaaGreatDoor
namespace Go.Proofs.YtggcdinoflchjaaGreatDoor
open Go.RowKit
theorem Zh1 (l:List (List UInt8)):samB Zbr l l=true:=by
 unfold samB;rw [Yat rfl,Yax];induction l with
 | nil=>rfl
 | cons x r ih=>rw [List.zip_cons_cons,Ycd,ih];simp [Zbr]
theorem Shp.eq_refl (s:Shp):s.eqB s=true:=by
 unfold Shp.eqB;rw [Zh1,Zh1];simp
theorem Zd1 {w W:World} (h:Below w.heap.size w W):Below w.heap.size w W.drew:=Zab h
theorem Zdy {w W W':World} (hb:Below W.heap.size W W') (h:Below w.heap.size w W):Below w.heap.size w W':=h.trans (hb.mono h.size)
