/- laws -/
import Derived.Deep.Slices
import Derived.Carry
import Derived.OpenShut
import Derived.Deep.DeepHandedRow
import Derived.ProofKit
import Derived.Test.YtggcdinoflchjaaGreatDoorCards
import Derived.Test.YtggcdinoflchjaaGreatDoorTie
import Derived.Lib.LaidIn
import Derived.Lib.LaidU8T
import Derived.Deep.DeepWitnessRowRef
import Derived.SizedLaws
import Derived.Test.YtggcdinoflchjaaGreatDoorK36
set_option maxRecDepth 100000
set_option maxHeartbeats 16000000
namespace Go.Proofs.YtggcdinoflchjaaGreatDoor
set_option maxRecDepth 100000
open Go.ChangeShapes Go.WideShapes Go.ChangeAt Go.RowKit Go.Lib Go.WideMaps Go.WideElems Go.Deep
instance:Inhabited Ins:=⟨⟨[],0,[]⟩⟩
instance:Inhabited Fld:=⟨⟨[],[],false⟩⟩
instance:Inhabited Cat:=⟨⟨0,0,0,[]⟩⟩
instance:Inhabited Mth:=⟨⟨[],[],[],false,0,[],[]⟩⟩
instance:Inhabited Cls:=⟨⟨[],[],[],false,false,false,[],[]⟩⟩
theorem ZqT:laidOutB Tryz.prog=true:=by kernel_rfl
theorem Zoj {H:Type} {enc:TypeId × Value->H} {w:World} {held:Bool} {fuel:Nat} {α:Type} [Inhabited α] {R:Zao α} {p:α->Prop} {t e:TypeId} {n:Nat} {cs:List Value} {x:DataW H × List MemPlace}
  (ht:Tryz.prog.underlying t=some (.slice e)) (hn:Tryz.prog.cellsOf e=n) (hn0:0<n) (h:DataW.trod enc Tryz.prog w 0 (fun _=>true) held fuel t cs=some x)
  (each:∀ (fuel:Nat) (cs':List Value) (y:DataW H × List MemPlace),cs'.length=n->DataW.trod enc Tryz.prog w 0 (fun _=>true) held fuel e cs'=some y->∃ z:α,p z/\∃ v:Value,R Anyw w z v/\v.cells.toList=cs') :
  ∃ (v:Value) (l:List α),cs=[v]/\Src n R Anyw w v l/\(∀ z ∈ l,p z)/\l.length<=9223372036854775807:=by
 rcases open_slice ht h with ⟨hcs,_⟩|⟨a,len,cap,m,k,D,Pl,hcs,_,hl,hm,hmm,_,hi⟩
 ·exact ⟨_,[],hcs,.nil,(fun z hz=>by simp at hz),by simp⟩
 ·have hmx:cap<=9223372036854775807:=by unfold maxLen at hm;omega
  have hlm:len<=m:=by rw [hmm];simp;exact hl
  have each':∀ i,i<len->∃ z:α,p z/\∃ v:Value,R Anyw w z v/\v.cells.size=n/\∀ (j:Nat) u,v.cells[j]? = some u->w.cell? (a.add (i * n+j))=some u:=by
   intro i hilt;obtain ⟨cs',hc,ht'⟩:=hi i (by omega);rw [hn] at hc;obtain ⟨_,hcl,hat⟩:=World.cells?_some hc;obtain ⟨z,hz,v,hv,hvc⟩:=each _ cs' _ hcl ht';have hsz:v.cells.size=n:=by rw [←Array.length_toList,hvc,hcl]
   refine ⟨z,hz,v,hv,hsz,fun j u hj=>?_⟩;have hjn:=ZcO hsz hj;have q:=hat j hjn;rw [Go.Deep.add_add] at q;rw [q,←hvc,Array.getElem?_toList];exact hj
  obtain ⟨F,hF⟩:=choose_lt (α:=α) each';rcases Nat.eq_zero_or_pos len with h0|h0
  ·subst h0;exact ⟨_,[],hcs,.inl ⟨_,_,rfl,rfl⟩,(fun z hz=>by simp at hz),by simp⟩
  ·obtain ⟨_,v0,_,hs0,hc0⟩:=hF 0 h0;have hc00:=hc0 0 (v0.cells[0]'(by omega)) (Array.getElem?_eq_getElem _);obtain ⟨b,o,ha⟩:=ZjK hc00;have e:a.add (0 * n+0)=a:=by unfold Addr.add;simp
   have ha':a=⟨b,o,none⟩:=by rw [←e];exact ha
   subst ha';have hb:b<w.heap.size:=World.block_lt_of_cell? w _ (by rw [e] at hc00;exact hc00);have hlen:((List.range len).map F).length=len:=by simp
   have hget:∀ (j:Nat) f,((List.range len).map F)[j]? = some f->j<len/\f=F j:=by
    intro j f hj;have hjl:j<len:=by
     rcases Nat.lt_or_ge j len with h|h
     ·exact h
     ·simp [List.getElem?_eq_none (show (List.range len).length<=j by simpa using h)] at hj
    simp [hjl] at hj
    exact ⟨hjl,hj.symm⟩
   refine ⟨_,(List.range len).map F,hcs,.inr ⟨b,o,cap,by rw [hlen],⟨trivial,hb,by rw [hlen];exact hl,hmx⟩,fun k z hz=>?_⟩,fun z hz=>?_,by rw [hlen];omega⟩
   ·obtain ⟨hk,rfl⟩:=hget k z hz;obtain ⟨_,v,hv,hs,hc⟩:=hF k hk;refine ⟨v,hv,hs,fun j u hj=>?_⟩;have q:=hc j u hj;rw [Addr.add_mid] at q;rw [Nat.add_assoc];exact q
   ·obtain ⟨i,hi',rfl⟩:=List.mem_map.1 hz;exact (hF i (by simpa using hi')).1
theorem Zpo:Tryz.prog.cellsOf 9=1:=by kernel_rfl
theorem ZqC:Tryz.prog.cellsOf 2=1:=by kernel_rfl
theorem ZqD:Tryz.prog.cellsOf 48=3:=by kernel_rfl
theorem Zjx {H:Type} {enc:TypeId × Value->H} {w:World} {held:Bool} {fuel:Nat} {cs:List Value} {x:DataW H × List MemPlace} (h:DataW.trod enc Tryz.prog w 0 (fun _=>true) held fuel 9 cs=some x) :
  ∃ z:List UInt8,ZaK z/\cs=[.string (S z)]:=by
 obtain ⟨s,e,_,wd⟩:=DataW.trod_string Tryz.underlying9 h;exact ⟨s.data.toList,Zp9 s wd,by rw [e,Zlr]⟩
theorem ZoU {H:Type} {enc:TypeId × Value->H} {w:World} {held:Bool} {fuel:Nat} {cs:List Value} {x:DataW H × List MemPlace} (hl:cs.length=3)
  (h:DataW.trod enc Tryz.prog w 0 (fun _=>true) held fuel 48 cs=some x):∃ z:Ins,(i64 z.n/\ZaK z.op/\ZaK z.s)/\∃ v:Value,InsR Anyw w z v/\v.cells.toList=cs:=by
 obtain ⟨ys,n,_,_,_,hyl,hall⟩:=DataW.trod_struct Tryz.underlying48 h
 match cs,hl with
 | [c0,c1,c2],_=>
  have g0:DataW.trod enc Tryz.prog w 0 (fun _=>true) held n 9 [c0]=ys[0]?:=by
   have g:=hall 0 _ rfl
   change DataW.trod enc Tryz.prog w 0 (fun _=>true) held n 9 (([c0,c1,c2].drop 0).take (Tryz.prog.cellsOf 9))=ys[0]? at g
   rw [Zpo] at g;exact g
  rw [List.getElem?_eq_getElem (by rw [hyl];decide)] at g0;have g1:DataW.trod enc Tryz.prog w 0 (fun _=>true) held n 2 [c1]=ys[1]?:=by
   have g:=hall 1 _ rfl
   change DataW.trod enc Tryz.prog w 0 (fun _=>true) held n 2 (([c0,c1,c2].drop 1).take (Tryz.prog.cellsOf 2))=ys[1]? at g
   rw [ZqC] at g;exact g
  rw [List.getElem?_eq_getElem (by rw [hyl];decide)] at g1;have g2:DataW.trod enc Tryz.prog w 0 (fun _=>true) held n 9 [c2]=ys[2]?:=by
   have g:=hall 2 _ rfl
   change DataW.trod enc Tryz.prog w 0 (fun _=>true) held n 9 (([c0,c1,c2].drop 2).take (Tryz.prog.cellsOf 9))=ys[2]? at g
   rw [Zpo] at g;exact g
  rw [List.getElem?_eq_getElem (by rw [hyl];decide)] at g2;obtain ⟨z0,k0,e0⟩:=Zjx g0;obtain ⟨z1,e1,_,k1⟩:=DataW.trod_int Tryz.underlying2 g1;obtain ⟨z2,k2,e2⟩:=Zjx g2;simp only [List.cons.injEq,and_true] at e0;subst e0;simp only [List.cons.injEq,and_true] at e1;subst e1;simp only [List.cons.injEq,and_true] at e2;subst e2;exact ⟨⟨z0,z1,z2⟩,⟨bounds_i64 k1,k0,k2⟩,_,rfl,rfl⟩
theorem Znd {H:Type} {enc:TypeId × Value->H} {w:World} {held:Bool} {fuel:Nat} {cs:List Value} {x:DataW H × List MemPlace} (h:DataW.trod enc Tryz.prog w 0 (fun _=>true) held fuel 37 cs=some x) :
  ∃ (v:Value) (l:List Ins),cs=[v]/\Src 3 InsR Anyw w v l/\(∀ z ∈ l,(fun z:Ins=>i64 z.n/\ZaK z.op/\ZaK z.s) z)/\l.length<=9223372036854775807:=
 Zoj (p:=fun z:Ins=>i64 z.n/\ZaK z.op/\ZaK z.s) Tryz.underlying37 ZqD (by decide) h (fun _ cs' _ hl ht=>ZoU hl ht)
end Go.Proofs.YtggcdinoflchjaaGreatDoor
namespace Go.Proofs.YtggcdinoflchjaaGreatDoor
open Go.Shelf Go.RowKit Go.Lib
theorem own:ownKnob Tryz.prog.godebug=none:=by kernel_rfl
theorem Zon:Rows.laid_unicode_utf8_first=Lib.firstData:=by kernel_rfl
theorem Zly:(Rows.laid_unicode_utf8_acceptRanges:DataW Unit)=Lib.acceptData:=by kernel_rfl
def Zp6:DataW Unit:=.agg (opTab.map fun x=>.agg [.lit (.string x.1),.lit (.int .i64 (x.2:Nat))])
theorem ZqF:(Rows.laid_squinch_code_operators:DataW Unit)=Zp6:=by kernel_rfl
theorem Zqa {W : World} (h3 : VarReads Tryz.prog W "unicode/utf8.first" Rows.laid_unicode_utf8_first) (h4 : VarReads Tryz.prog W "unicode/utf8.acceptRanges" Rows.laid_unicode_utf8_acceptRanges) : Tabs W := by
 rw [Zly] at h4;rw [Zon] at h3;exact utf8Tabs_of_readsT (U8Types.of196 Zhu) ⟨by kernel_rfl,by kernel_rfl,by kernel_rfl,by kernel_rfl,by kernel_rfl,by kernel_rfl,by kernel_rfl⟩ h3 h4
theorem Zni:∀ (l:List (List UInt8 × Nat)) (i:Nat) (h:i<l.length),(l.flatMap fun x=>[Value.string (S x.1),Value.int .i64 (x.2:Nat)])[2 * i]? = some (.string (S l[i].1))/\(l.flatMap fun x=>[Value.string (S x.1),Value.int .i64 (x.2:Nat)])[2 * i+1]? = some (.int .i64 (l[i].2:Nat))
 | x :: l,0,_=>⟨rfl,rfl⟩
 | x :: l,i+1,h=>by
  have ih:=Zni l i (by simpa using h);rw [List.flatMap_cons,show 2 * (i+1)=2 * i+2 from by omega];exact ⟨ih.1,ih.2⟩
theorem ZoX (l:List (List UInt8 × Nat)):(l.flatMap fun x=>[Value.string (S x.1),Value.int .i64 (x.2:Nat)]).length=2 * l.length:=by
 induction l with
 | nil=>rfl
 | cons x l ih=>rw [List.flatMap_cons,List.length_append,ih,List.length_cons];simp;omega
theorem ZfE:Tryz.prog.cellsOf 217=2:=by kernel_rfl
theorem ZfF:Tryz.prog.cellsOf 9=1:=by kernel_rfl
theorem Zge:Tryz.prog.cellsOf 215=1:=by kernel_rfl
theorem Zp5 {w:World} {fuel:Nat} {cs:List Value} {p:List MemPlace} {x:List UInt8 × Nat} (hl:cs.length=2)
  (h:DataW.trod (fun _=>()) Tryz.prog w 0 (fun _=>true) false fuel 217 cs=some (.agg [.lit (.string x.1),.lit (.int .i64 (x.2:Nat))],p)):cs=[.string (S x.1),.int .i64 (x.2:Nat)]:=by
 obtain ⟨ys,n,_,hx,_,hyl,hall⟩:=DataW.trod_struct Tryz.underlying217 h
 match cs,hl with
 | [c0,c1],_=>
  have g0:DataW.trod (fun _=>()) Tryz.prog w 0 (fun _=>true) false n 9 [c0]=ys[0]?:=by
   have g:=hall 0 _ rfl
   change DataW.trod (fun _=>()) Tryz.prog w 0 (fun _=>true) false n 9 (([c0,c1].drop 0).take (Tryz.prog.cellsOf 9))=ys[0]? at g
   rw [ZfF] at g;exact g
  have g1:DataW.trod (fun _=>()) Tryz.prog w 0 (fun _=>true) false n 215 [c1]=ys[1]?:=by
   have g:=hall 1 _ rfl
   change DataW.trod (fun _=>()) Tryz.prog w 0 (fun _=>true) false n 215 (([c0,c1].drop 1).take (Tryz.prog.cellsOf 215))=ys[1]? at g
   rw [Zge] at g;exact g
  have hy:ys.map (·.1)=[.lit (.string x.1),.lit (.int .i64 (x.2:Nat))]:=by
   have:=congrArg Prod.fst hx
   simpa using this.symm
  match ys,hy with
  | [y0,y1],hy=>
   obtain ⟨s,e0,q0,_⟩:=DataW.trod_string Tryz.underlying9 g0;obtain ⟨z,e1,q1,_⟩:=DataW.trod_int Tryz.underlying215 g1;simp only [List.cons.injEq,and_true] at e0 e1;subst e0 e1 q0 q1;simp only [List.map_cons,List.map_nil,List.cons.injEq,and_true] at hy;obtain ⟨h0,h1⟩:=hy
   injection h0 with h0
   injection h0 with h0
   injection h1 with h1
   injection h1 with _ h1
   rw [←h0,←h1,Zlr]
theorem ZoV {W : World} (h : VarReads Tryz.prog W "squinch/code.operators" Rows.laid_squinch_code_operators) : OpTab W := by
 rw [ZqF] at h;obtain ⟨g,t,cs,fuel,p,hg,hty,hvar,hd⟩:=h;obtain rfl : 2 = g := Option.some.inj ((show Tryz.prog.globalNamed "squinch/code.operators" = some 2 by kernel_rfl).symm.trans hg)
 obtain rfl:230=t:=Option.some.inj ((show (Tryz.prog.globals[2]?).map (·.type)=some 230 by kernel_rfl).symm.trans hty);have each:∀ i (hi:i<opTab.length),cs.toList[2 * i]? = some (.string (S opTab[i].1))/\cs.toList[2 * i+1]? = some (.int .i64 (opTab[i].2:Nat)):=by
  intro i hi;obtain ⟨fuel',d,q,hdi,he⟩:=array_elem Tryz.underlying230 hd i (by rw [ZcG] at hi;exact hi);rw [List.getElem?_map,List.getElem?_eq_getElem hi,Option.map_some,Option.some.injEq] at hdi;subst hdi;rw [ZfE] at he;have hlen:((cs.toList.drop (i * 2)).take 2).length=2:=by
   obtain ⟨_,_,_,_,hl,_,_⟩:=DataW.trod_struct Tryz.underlying217 he;rw [hl,ZfE]
  have hc:=Zp5 (x:=opTab[i]) hlen he;have e0:=congrArg (·[0]?) hc;have e1:=congrArg (·[1]?) hc;simp only [List.getElem?_take,List.getElem?_drop] at e0 e1;refine ⟨?_,?_⟩
  ·simpa [Nat.mul_comm] using e0
  ·simpa [Nat.mul_comm] using e1
 intro j v hj;have hjl:j<84:=by
  rcases Nat.lt_or_ge j 84 with h|h
  ·exact h
  ·rw [List.getElem?_eq_none (by unfold opCells;rw [ZoX,ZcG];exact h)] at hj;cases hj
 have hcell:W.cell? ⟨2,0+j,none⟩=cs.toList[j]?:=by
  rw [Nat.zero_add,World.var?_cell hg hvar j,Array.getElem?_toList]
 have hi:j / 2<opTab.length:=by rw [ZcG];omega
 have hA:=Zni opTab (j / 2) hi;have hB:=each (j / 2) hi;unfold opCells at hj;rw [hcell];rcases (show j=2 * (j / 2)\/j=2 * (j / 2)+1 by omega) with h|h
 ·rw [h] at hj ⊢;rw [hB.1,←hA.1];exact hj
 ·rw [h] at hj ⊢;rw [hB.2,←hA.2];exact hj
end Go.Proofs.YtggcdinoflchjaaGreatDoor
namespace Go.Proofs.YtggcdinoflchjaaGreatDoor
open Go.Shelf Go.RowKit Go.Lib
def Zj6:DataW Unit:=.agg (faultsL.map fun n=>.lit (.string n))
theorem Zl7:(Rows.laid_squinch_hier_faults:DataW Unit)=Zj6:=by kernel_rfl
theorem Ziv:faultsL.length=6:=rfl
theorem Ziw {W : World} (h : VarReads Tryz.prog W "squinch/hier.faults" Rows.laid_squinch_hier_faults) : FaultTab W := by
 rw [Zl7] at h;obtain ⟨g,t,cs,fuel,p,hg,hty,hvar,hd⟩:=h;obtain rfl : 0 = g := Option.some.inj ((show Tryz.prog.globalNamed "squinch/hier.faults" = some 0 by kernel_rfl).symm.trans hg)
 obtain rfl:146=t:=Option.some.inj ((show (Tryz.prog.globals[0]?).map (·.type)=some 146 by kernel_rfl).symm.trans hty);have each:∀ i (hi:i<faultsL.length),cs.toList[i]? = some (.string (S faultsL[i])):=by
  intro i hi;obtain ⟨fuel',d,q,hdi,he⟩:=array_elem Tryz.underlying146 hd i (by rw [Ziv] at hi;exact hi);rw [List.getElem?_map,List.getElem?_eq_getElem hi,Option.map_some,Option.some.injEq] at hdi;subst hdi;rw [ZfF] at he;obtain ⟨s,e0,q0,_⟩:=DataW.trod_string Tryz.underlying9 he;have e1:=congrArg (·[0]?) e0;simp only [List.getElem?_take,List.getElem?_drop] at e1;have e2:cs.toList[i]? = some (.string s):=by simpa using e1
  have q1:=congrArg Prod.fst q0;simp only at q1
  injection q1 with q1
  injection q1 with q1
  rw [e2,q1,Zlr]
 intro j v hj;have hjl:j<faultsL.length:=by
  rcases Nat.lt_or_ge j faultsL.length with h|h
  ·exact h
  ·rw [List.getElem?_eq_none (by unfold faultCells;rw [List.length_map];exact h)] at hj;cases hj
 have hcell:W.cell? ⟨0,0+j,none⟩=cs.toList[j]?:=by
  rw [Nat.zero_add,World.var?_cell hg hvar j,Array.getElem?_toList]
 unfold faultCells at hj;rw [List.getElem?_map,List.getElem?_eq_getElem hjl,Option.map_some] at hj;rw [hcell,each j hjl];exact hj
noncomputable def laidWorld4 (os:Os):World:=
 let w0:=World.holding Tryz.prog os ⟨#[],#[],[]⟩
 let put (h:Array Obj) (g:Nat) (cs:Array Value):Array Obj:=h.modify g fun
  | .cells _ t frozen=>.cells cs t frozen
  | o=>o
 let h1:=put w0.heap 3 (Lib.firstTab.map fun z=>Value.int .u8 z).toArray
 let h2:=put h1 4 ((List.range 16).flatMap fun i=>[Value.int .u8 (Lib.accLo i),Value.int .u8 (Lib.accHi i)]).toArray
 let h3:=put h2 2 opCells.toArray
 let h4:=put h3 0 faultCells.toArray
 { w0 with heap:=h4 }
def ZgP : List (String × DataW Unit) := [("unicode/utf8.acceptRanges", Rows.laid_unicode_utf8_acceptRanges), ("squinch/code.operators", Rows.laid_squinch_code_operators), ("squinch/hier.faults", Rows.laid_squinch_hier_faults), ("unicode/utf8.first", Rows.laid_unicode_utf8_first)]
structure HT6 (W:World):Prop where
 ct:CT W
 ft:FaultTab W
theorem ZqW {W:World} (hL:laidMet Tryz.prog ZgP W):HT6 W:=
 ⟨⟨Zqa (Lib.laidMet.reads hL (.tail _ (.tail _ (.tail _ (.head _))))) (Lib.laidMet.reads hL (.head _)),ZoV (Lib.laidMet.reads hL (.tail _ (.head _)))⟩,Ziw (Lib.laidMet.reads hL (.tail _ (.tail _ (.head _))))⟩
theorem Zqz (os:Os) (args:Array Value):laidMet Tryz.prog ZgP ((laidWorld4 os).forCall (fun _ _=>0) ⟨#[],args,[]⟩).memory:=
 (LaidIn.of_run (l:=ZgP) [3,4,2,0] 8 (by kernel_rfl) (by kernel_rfl) (by kernel_rfl) (by kernel_rfl)).met
end Go.Proofs.YtggcdinoflchjaaGreatDoor
namespace Go.Proofs.YtggcdinoflchjaaGreatDoor
open Go.RowKit
theorem Box.setTo {w:World} {B:Nat} {cs:Array Value} {t:TypeId} (h:Box w B cs t) (j:Nat) (u:Value) (cs':Array Value) (e:cs.setIfInBounds j u=cs'):Box (w.setCell ⟨B,j,none⟩ u) B cs' t:=e ▸ h.set j u
theorem set7 {w:World} {B:Nat} {t:TypeId} {a0 a1 a2 a3 a4 a5 a6:Value} (h:Box w B #[a0,a1,a2,a3,a4,a5,a6] t) (v0 v1 v2 v3 v4 v5 v6:Value) :
  Box (((((((w.setCell ⟨B,0,none⟩ v0).setCell ⟨B,1,none⟩ v1).setCell ⟨B,2,none⟩ v2).setCell ⟨B,3,none⟩ v3).setCell ⟨B,4,none⟩ v4).setCell ⟨B,5,none⟩ v5).setCell ⟨B,6,none⟩ v6) B #[v0,v1,v2,v3,v4,v5,v6] t/\Only (fun i=>i=B) w (((((((w.setCell ⟨B,0,none⟩ v0).setCell ⟨B,1,none⟩ v1).setCell ⟨B,2,none⟩ v2).setCell ⟨B,3,none⟩ v3).setCell ⟨B,4,none⟩ v4).setCell ⟨B,5,none⟩ v5).setCell ⟨B,6,none⟩ v6):=
 ⟨(((((((h.setTo 0 v0 #[v0,a1,a2,a3,a4,a5,a6] rfl).setTo 1 v1 #[v0,v1,a2,a3,a4,a5,a6] rfl).setTo 2 v2 #[v0,v1,v2,a3,a4,a5,a6] rfl).setTo 3 v3 #[v0,v1,v2,v3,a4,a5,a6] rfl).setTo 4 v4 #[v0,v1,v2,v3,v4,a5,a6] rfl).setTo 5 v5 #[v0,v1,v2,v3,v4,v5,a6] rfl).setTo 6 v6 #[v0,v1,v2,v3,v4,v5,v6] rfl),(((((((Only.refl (fun i=>i=B) w).setCell (p:=⟨B,0,none⟩) rfl v0).setCell (p:=⟨B,1,none⟩) rfl v1).setCell (p:=⟨B,2,none⟩) rfl v2).setCell (p:=⟨B,3,none⟩) rfl v3).setCell (p:=⟨B,4,none⟩) rfl v4).setCell (p:=⟨B,5,none⟩) rfl v5).setCell (p:=⟨B,6,none⟩) rfl v6⟩
theorem ZdO {w:World} {B:Nat} {t:TypeId} {a0 a1 a2 a3 a4 a5 a6:Value} (h:Box w B #[a0,a1,a2,a3,a4,a5,a6] t):w.cell? ⟨B,0,none⟩=some a0/\w.cell? ⟨B,1,none⟩=some a1/\w.cell? ⟨B,2,none⟩=some a2/\w.cell? ⟨B,3,none⟩=some a3/\w.cell? ⟨B,4,none⟩=some a4/\w.cell? ⟨B,5,none⟩=some a5/\w.cell? ⟨B,6,none⟩=some a6:=⟨h.cell 0 rfl,h.cell 1 rfl,h.cell 2 rfl,h.cell 3 rfl,h.cell 4 rfl,h.cell 5 rfl,h.cell 6 rfl⟩
theorem Zhi {w:World} {B:Nat} {t:TypeId} {cs:Array Value} (h:Box w B cs t):w.frozen? ⟨B,0,none⟩=false/\w.frozen? ⟨B,1,none⟩=false/\w.frozen? ⟨B,2,none⟩=false/\w.frozen? ⟨B,3,none⟩=false/\w.frozen? ⟨B,4,none⟩=false/\w.frozen? ⟨B,5,none⟩=false/\w.frozen? ⟨B,6,none⟩=false:=⟨h.free 0,h.free 1,h.free 2,h.free 3,h.free 4,h.free 5,h.free 6⟩
theorem ZlG {w:World} {B:Nat} {t:TypeId} {a0 a1 a2 a3 a4 a5 a6 a7:Value} (h:Box w B #[a0,a1,a2,a3,a4,a5,a6,a7] t):w.cell? ⟨B,0,none⟩=some a0/\w.cell? ⟨B,1,none⟩=some a1/\w.cell? ⟨B,2,none⟩=some a2/\w.cell? ⟨B,3,none⟩=some a3/\w.cell? ⟨B,4,none⟩=some a4/\w.cell? ⟨B,5,none⟩=some a5/\w.cell? ⟨B,6,none⟩=some a6/\w.cell? ⟨B,7,none⟩=some a7:=⟨h.cell 0 rfl,h.cell 1 rfl,h.cell 2 rfl,h.cell 3 rfl,h.cell 4 rfl,h.cell 5 rfl,h.cell 6 rfl,h.cell 7 rfl⟩
structure Wise (es:List Ent):Prop where
 sh:Shape es
 ac:Acyc es
 par:ZcZ es
 uq:Uniq es
 cl:∀ (i:Nat) (e:Ent),es[i]? = some e->Zal e.cls.name=true
 obj:es[0]? = some ⟨objC,none,[]⟩
 flt:es[1]? = some ⟨ZbZ,some 0,[]⟩
 up:∀ (i:Nat) (e:Ent),es[i]? = some e->i ≠ 0->∃ j,e.up=some j
 lk:∀ (i:Nat) (e:Ent),es[i]? = some e->∀ k ∈ e.lk,Zcl es k=true
 itf:∀ (i:Nat) (e:Ent),es[i]? = some e->e.cls.itf=true->e.up=some 0/\e.cls.flds=[]/\∀ m ∈ e.cls.mths,m.abs=true
 sup:∀ (i:Nat) (e:Ent) (j:Nat),es[i]? = some e->e.up=some j->Zcl es j=false
 mth:∀ (i:Nat) (e:Ent),es[i]? = some e->(e.cls.mths.map Mth.name).Nodup
 fld:∀ (i:Nat) (e:Ent),es[i]? = some e->(e.cls.flds.map Fld.name).Nodup
 good:Zf9 es
theorem ZfN {l:List (List UInt8)} (h:Zbz l=true):l.Nodup:=by
 unfold Zbz Zbp at h;rw [List.all_eq_true] at h;rw [List.nodup_iff_pairwise_ne,List.pairwise_iff_getElem];intro i j hi hj hij he;have h1:=h j (List.mem_range.2 hj);unfold Ze2 at h1;rw [Bool.not_eq_true',List.any_eq_false] at h1;refine h1 l[i] ?_ ?_
 ·rw [List.mem_iff_getElem];exact ⟨i,by rw [List.length_take];omega,by rw [List.getElem_take]⟩
 ·rw [List.getD_eq_getElem?_getD,List.getElem?_eq_getElem hj,he];simp
theorem ZaV:∀ i,i<8->∀ e,startL[i]? = some e->Zal e.cls.name=true/\(i ≠ 0->e.up.isSome=true)/\e.lk=[]/\e.cls.itf=false/\(∀ j,e.up=some j->j<2)/\e.cls.mths=[]/\e.cls.flds.length<=1:=by
 have h:startL.all (fun e=>Zal e.cls.name && (decide (e.lk=[]) && (decide (e.cls.itf=false) && (decide (e.cls.mths.length=0) && decide (e.cls.flds.length<=1)))))=true:=by decide
 have hu:∀ i,i<8->(i=0\/((startL[i]?).bind Ent.up).isSome=true)/\∀ j,(startL[i]?).bind Ent.up=some j->j<2:=by decide
 intro i hi e he;have h1:=List.all_eq_true.1 h e (List.mem_of_getElem? he);simp only [Bool.and_eq_true,decide_eq_true_eq] at h1;obtain ⟨a,b,c,d,f⟩:=h1;have h2:=hu i hi;rw [he] at h2;exact ⟨a,fun h0=>h2.1.resolve_left h0,b,c,h2.2,List.length_eq_zero_iff.1 d,f⟩
theorem Lined.itf_sup {cs:List Cls} (h:Lined cs) {c:Cls} (hc:c ∈ cs) (hi:c.itf=true):c.sup=objL/\c.flds=[]/\∀ m ∈ c.mths,m.abs=true:=by
 have h1:=(h.good c hc).parts.2;unfold Cls.fine at h1;simp only [Bool.and_eq_true] at h1;have h2:=h1.2.1;unfold Cls.sort at h2;split at h2
 ·cases h2
 ·split at h2
  ·cases h2
  ·simp only [Bool.and_eq_true,decide_eq_true_eq,List.all_eq_true] at h2;exact ⟨h2.2.1,List.length_eq_zero_iff.1 h2.2.2.1,h2.2.2.2⟩
theorem Lined.dist {cs:List Cls} (h:Lined cs) {c:Cls} (hc:c ∈ cs):(c.flds.map Fld.name).Nodup/\(c.mths.map Mth.name).Nodup:=by
 have h1:=(h.good c hc).parts.2;unfold Cls.fine at h1;simp only [Bool.and_eq_true] at h1;have h2:=h1.1;unfold Cls.names at h2;simp only [Bool.and_eq_true] at h2;exact ⟨ZfN h2.2.2.2.2.1,ZfN h2.2.2.2.2.2⟩
theorem Zbk {cs:List Cls} {i:Nat} (hi:i<8):(newT cs)[i]? = startL[i]?:=by
 unfold newT;rw [List.getElem?_append_left (by rw [ZaE];exact hi)]
theorem Zde {cs:List Cls} {i:Nat} (hi:i<8):(Zas cs)[i]? = startL[i]?:=by
 unfold Zas;rw [List.getElem?_append_left (by rw [ZaE];exact hi)]
theorem Znm {cs:List Cls}:Zad (Zas cs) objL=some 0:=by
 unfold Zad Zas;rw [List.findIdx?_append];rfl
theorem Lined.wise {cs:List Cls} (h:Lined cs) (hsh:Shape (newT cs)) (hac:Acyc (newT cs)) (hg:Zf9 (newT cs)):Wise (newT cs) where
 sh:=hsh
 ac:=hac
 par:=h.par
 uq:=h.uniq
 cl:=fun i e he=>by
  rcases Zba he with ⟨h1,h2⟩|⟨h1,c,h2,rfl⟩
  ·exact (ZaV i h1 e h2).1
  ·exact (h.good c (List.mem_of_getElem? h2)).name
 obj:=Zbk (by omega)
 flt:=Zbk (by omega)
 up:=fun i e he h0=>by
  rcases Zba he with ⟨h1,h2⟩|⟨h1,c,h2,rfl⟩
  ·exact Option.isSome_iff_exists.1 ((ZaV i h1 e h2).2.1 h0)
  ·exact Option.isSome_iff_exists.1 (h.ups c (List.mem_of_getElem? h2))
 lk:=fun i e he k hk=>by
  rcases Zba he with ⟨h1,h2⟩|⟨h1,c,h2,rfl⟩
  ·rw [(ZaV i h1 e h2).2.2.1] at hk;cases hk
  ·obtain ⟨n,hn1,hn2⟩:=List.mem_map.1 (show k ∈ c.like.map fun n=>(Zcd (Zas cs) n).getD 0 from hk);have h5:=List.all_eq_true.1 (h.likes c (List.mem_of_getElem? h2)) n hn1;obtain ⟨j,hj⟩:=Option.isSome_iff_exists.1 h5;rw [hj] at hn2;obtain rfl:j=k:=hn2;rw [Zd9 (Zb8 cs)];exact (ZcC hj).2
 itf:=fun i e he hi=>by
  rcases Zba he with ⟨h1,h2⟩|⟨h1,c,h2,rfl⟩
  ·rw [(ZaV i h1 e h2).2.2.2.1] at hi;cases hi
  ·obtain ⟨a,b,d⟩:=h.itf_sup (List.mem_of_getElem? h2) hi;refine ⟨?_,b,d⟩;show upE (Zas cs) c.sup=some 0
   rw [a];unfold upE;rw [Znm];have h3:Zcl (Zas cs) 0=false:=by unfold Zcl;rw [Zde (by omega)];rfl
   have h4:ZeY (Zas cs) 0=false:=by unfold ZeY;rw [Zde (by omega)];rfl
   dsimp only;rw [h3,h4];rfl
 sup:=fun i e j he hj=>by
  rcases Zba he with ⟨h1,h2⟩|⟨h1,c,h2,rfl⟩
  ·have h3:=(ZaV i h1 e h2).2.2.2.2.1 j hj;have h4:∀ j,j<2->Zcl startL j=false:=by decide
   unfold Zcl;rw [Zbk (by omega)];exact h4 j h3
  ·have h3:upE (Zas cs) c.sup=some j:=hj;unfold upE at h3;cases hp:Zad (Zas cs) c.sup with
   | none=>rw [hp] at h3;cases h3
   | some i2=>
    rw [hp] at h3;dsimp only at h3;split at h3
    ·cases h3
    ·rename_i hn
     obtain rfl:=Option.some.inj h3;rw [Zd9 (Zb8 cs)];cases hq:Zcl (Zas cs) i2
     ·rfl
     ·rw [hq] at hn;exact absurd rfl hn
 mth:=fun i e he=>by
  rcases Zba he with ⟨h1,h2⟩|⟨h1,c,h2,rfl⟩
  ·rw [(ZaV i h1 e h2).2.2.2.2.2.1];exact List.nodup_nil
  ·exact (h.dist (List.mem_of_getElem? h2)).2
 fld:=fun i e he=>by
  rcases Zba he with ⟨h1,h2⟩|⟨h1,c,h2,rfl⟩
  ·have h3:=(ZaV i h1 e h2).2.2.2.2.2.2
   match hf:e.cls.flds,h3 with
   | [],_=>exact List.nodup_nil
   | [f],_=>simp
   | f :: g :: l,h3=>simp at h3
  ·exact (h.dist (List.mem_of_getElem? h2)).1
 good:=hg
