/- laws -/
import Derived.Deep.Slices
import Derived.Carry
import Derived.OpenShut
import Derived.Deep.DeepHandedRow
import Derived.ProofKit
import Derived.Test.YtggcdinoflchjaaGreatDoorCards
import Derived.Test.YtggcdinoflchjaaGreatDoorTie
import Derived.Lib.LaidIn
import Derived.Lib.LaidU8T
import Derived.Deep.DeepWitnessRowRef
import Derived.SizedLaws
import Derived.Test.YtggcdinoflchjaaGreatDoorK36
set_option maxRecDepth 100000
set_option maxHeartbeats 16000000
namespace Go.Proofs.YtggcdinoflchjaaGreatDoor
set_option maxRecDepth 100000
open Go.ChangeShapes Go.WideShapes Go.ChangeAt Go.RowKit Go.Lib Go.WideMaps Go.WideElems Go.Deep
instance:Inhabited Ins:=⟨⟨[],0,[]⟩⟩
instance:Inhabited Fld:=⟨⟨[],[],false⟩⟩
instance:Inhabited Cat:=⟨⟨0,0,0,[]⟩⟩
instance:Inhabited Mth:=⟨⟨[],[],[],false,0,[],[]⟩⟩
instance:Inhabited Cls:=⟨⟨[],[],[],false,false,false,[],[]⟩⟩
theorem Zrs:laidOutB Tryz.prog=true:=by kernel_rfl
theorem ZoT {H:Type} {enc:TypeId × Value->H} {w:World} {held:Bool} {fuel:Nat} {α:Type} [Inhabited α] {R:Zaq α} {p:α->Prop} {t e:TypeId} {n:Nat} {cs:List Value} {x:DataW H × List MemPlace}
  (ht:Tryz.prog.underlying t=some (.slice e)) (hn:Tryz.prog.cellsOf e=n) (hn0:0<n) (h:DataW.trod enc Tryz.prog w 0 (fun _=>true) held fuel t cs=some x)
  (each:∀ (fuel:Nat) (cs':List Value) (y:DataW H × List MemPlace),cs'.length=n->DataW.trod enc Tryz.prog w 0 (fun _=>true) held fuel e cs'=some y->∃ z:α,p z/\∃ v:Value,R Anyw w z v/\v.cells.toList=cs') :
  ∃ (v:Value) (l:List α),cs=[v]/\Src n R Anyw w v l/\(∀ z ∈ l,p z)/\l.length<=9223372036854775807:=by
 rcases open_slice ht h with ⟨hcs,_⟩|⟨a,len,cap,m,k,D,Pl,hcs,_,hl,hm,hmm,_,hi⟩
 ·exact ⟨_,[],hcs,.nil,(fun z hz=>by simp at hz),by simp⟩
 ·have hmx:cap<=9223372036854775807:=by unfold maxLen at hm;omega
  have hlm:len<=m:=by rw [hmm];simp;exact hl
  have each':∀ i,i<len->∃ z:α,p z/\∃ v:Value,R Anyw w z v/\v.cells.size=n/\∀ (j:Nat) u,v.cells[j]? = some u->w.cell? (a.add (i * n+j))=some u:=by
   intro i hilt;obtain ⟨cs',hc,ht'⟩:=hi i (by omega);rw [hn] at hc;obtain ⟨_,hcl,hat⟩:=World.cells?_some hc;obtain ⟨z,hz,v,hv,hvc⟩:=each _ cs' _ hcl ht';have hsz:v.cells.size=n:=by rw [←Ybt,hvc,hcl]
   refine ⟨z,hz,v,hv,hsz,fun j u hj=>?_⟩;have hjn:=Zc4 hsz hj;have q:=hat j hjn;rw [Go.Deep.add_add] at q;rw [q,←hvc,Ycd];exact hj
  obtain ⟨F,hF⟩:=choose_lt (α:=α) each';rcases YbI len with h0|h0
  ·subst h0;exact ⟨_,[],hcs,.inl ⟨_,_,rfl,rfl⟩,(fun z hz=>by simp at hz),by simp⟩
  ·obtain ⟨_,v0,_,hs0,hc0⟩:=hF 0 h0;have hc00:=hc0 0 (v0.cells[0]'(by omega)) (Yb2 _);obtain ⟨b,o,ha⟩:=Zkd hc00;have e:a.add (0 * n+0)=a:=by unfold Addr.add;simp
   have ha':a=⟨b,o,none⟩:=by rw [←e];exact ha
   subst ha';have hb:b<w.heap.size:=World.block_lt_of_cell? w _ (by rw [e] at hc00;exact hc00);have hlen:((List.range len).map F).length=len:=by simp
   have hget:∀ (j:Nat) f,((List.range len).map F)[j]? = some f->j<len/\f=F j:=by
    intro j f hj;have hjl:j<len:=by
     rcases YaE j len with h|h
     ·exact h
     ·simp [List.getElem?_eq_none (show (List.range len).length<=j by simpa using h)] at hj
    simp [hjl] at hj
    exact ⟨hjl,hj.symm⟩
   refine ⟨_,(List.range len).map F,hcs,.inr ⟨b,o,cap,by rw [hlen],⟨trivial,hb,by rw [hlen];exact hl,hmx⟩,fun k z hz=>?_⟩,fun z hz=>?_,by rw [hlen];omega⟩
   ·obtain ⟨hk,rfl⟩:=hget k z hz;obtain ⟨_,v,hv,hs,hc⟩:=hF k hk;refine ⟨v,hv,hs,fun j u hj=>?_⟩;have q:=hc j u hj;rw [Ybq] at q;rw [Nat.add_assoc];exact q
   ·obtain ⟨i,hi',rfl⟩:=Ybc.1 hz;exact (hF i (by simpa using hi')).1
theorem Zrc:Tryz.prog.cellsOf 9=1:=by kernel_rfl
theorem Zqz:Tryz.prog.cellsOf 4=1:=by kernel_rfl
theorem ZnC:Tryz.prog.cellsOf 22=1:=by kernel_rfl
theorem Zpu {H:Type} {enc:TypeId × Value->H} {w:World} {held:Bool} {fuel:Nat} {cs:List Value} {x:DataW H × List MemPlace} (h:DataW.trod enc Tryz.prog w 0 (fun _=>true) held fuel 9 cs=some x) :
  ∃ z:List UInt8,ZaN z/\cs=[.string (S z)]:=by
 obtain ⟨s,e,_,wd⟩:=DataW.trod_string Tryz.underlying9 h;exact ⟨s.data.toList,ZqH s wd,by rw [e,ZlV]⟩
theorem Zie {H:Type} {enc:TypeId × Value->H} {w:World} {held:Bool} {fuel:Nat} {cs:List Value} {x:DataW H × List MemPlace} (h:DataW.trod enc Tryz.prog w 0 (fun _=>true) held fuel 22 cs=some x) :
  ∃ (v:Value) (l:List (List UInt8)),cs=[v]/\Src 1 StrR Anyw w v l/\(∀ z ∈ l,(fun z:(List UInt8)=>ZaN z) z)/\l.length<=9223372036854775807:=
 ZoT (p:=fun z:(List UInt8)=>ZaN z) Tryz.underlying22 Zrc (by decide) h (fun _ cs' _ hl ht=>by obtain ⟨z,k,e⟩:=Zpu ht;exact ⟨z,k,.string (S z),rfl,by rw [e];rfl⟩)
end Go.Proofs.YtggcdinoflchjaaGreatDoor
namespace Go.Proofs.YtggcdinoflchjaaGreatDoor
open Go.Shelf Go.RowKit Go.Lib
theorem own:ownKnob Tryz.prog.godebug=none:=by kernel_rfl
theorem ZoX:Rows.laid_unicode_utf8_first=Lib.firstData:=by kernel_rfl
theorem Zl2:(Rows.laid_unicode_utf8_acceptRanges:DataW Unit)=Lib.acceptData:=by kernel_rfl
def ZqE:DataW Unit:=.agg (opTab.map fun x=>.agg [.lit (.string x.1),.lit (.int .i64 (x.2:Nat))])
theorem Zre:(Rows.laid_squinch_code_operators:DataW Unit)=ZqE:=by kernel_rfl
theorem ZqI {W : World} (h3 : VarReads Tryz.prog W "unicode/utf8.first" Rows.laid_unicode_utf8_first) (h4 : VarReads Tryz.prog W "unicode/utf8.acceptRanges" Rows.laid_unicode_utf8_acceptRanges) : Tabs W := by
 rw [Zl2] at h4;rw [ZoX] at h3;exact utf8Tabs_of_readsT (U8Types.of196 ZhZ) ⟨by kernel_rfl,by kernel_rfl,by kernel_rfl,by kernel_rfl,by kernel_rfl,by kernel_rfl,by kernel_rfl⟩ h3 h4
theorem ZnT:∀ (l:List (List UInt8 × Nat)) (i:Nat) (h:i<l.length),(l.flatMap fun x=>[Value.string (S x.1),Value.int .i64 (x.2:Nat)])[2 * i]? = some (.string (S l[i].1))/\(l.flatMap fun x=>[Value.string (S x.1),Value.int .i64 (x.2:Nat)])[2 * i+1]? = some (.int .i64 (l[i].2:Nat))
 | x :: l,0,_=>⟨rfl,rfl⟩
 | x :: l,i+1,h=>by
  have ih:=ZnT l i (by simpa using h);rw [Yb9,show 2 * (i+1)=2 * i+2 from by omega];exact ⟨ih.1,ih.2⟩
theorem Zpx (l:List (List UInt8 × Nat)):(l.flatMap fun x=>[Value.string (S x.1),Value.int .i64 (x.2:Nat)]).length=2 * l.length:=by
 induction l with
 | nil=>rfl
 | cons x l ih=>rw [Yb9,Yal,ih,YaJ];simp;omega
theorem Zgb:Tryz.prog.cellsOf 217=2:=by kernel_rfl
theorem Zgc:Tryz.prog.cellsOf 9=1:=by kernel_rfl
theorem ZgK:Tryz.prog.cellsOf 215=1:=by kernel_rfl
theorem ZqD {w:World} {fuel:Nat} {cs:List Value} {p:List MemPlace} {x:List UInt8 × Nat} (hl:cs.length=2)
  (h:DataW.trod (fun _=>()) Tryz.prog w 0 (fun _=>true) false fuel 217 cs=some (.agg [.lit (.string x.1),.lit (.int .i64 (x.2:Nat))],p)):cs=[.string (S x.1),.int .i64 (x.2:Nat)]:=by
 obtain ⟨ys,n,_,hx,_,hyl,hall⟩:=DataW.trod_struct Tryz.underlying217 h
 match cs,hl with
 | [c0,c1],_=>
  have g0:DataW.trod (fun _=>()) Tryz.prog w 0 (fun _=>true) false n 9 [c0]=ys[0]?:=by
   have g:=hall 0 _ rfl
   change DataW.trod (fun _=>()) Tryz.prog w 0 (fun _=>true) false n 9 (([c0,c1].drop 0).take (Tryz.prog.cellsOf 9))=ys[0]? at g
   rw [Zgc] at g;exact g
  have g1:DataW.trod (fun _=>()) Tryz.prog w 0 (fun _=>true) false n 215 [c1]=ys[1]?:=by
   have g:=hall 1 _ rfl
   change DataW.trod (fun _=>()) Tryz.prog w 0 (fun _=>true) false n 215 (([c0,c1].drop 1).take (Tryz.prog.cellsOf 215))=ys[1]? at g
   rw [ZgK] at g;exact g
  have hy:ys.map (·.1)=[.lit (.string x.1),.lit (.int .i64 (x.2:Nat))]:=by
   have:=Ya5 Prod.fst hx
   simpa using this.symm
  match ys,hy with
  | [y0,y1],hy=>
   obtain ⟨s,e0,q0,_⟩:=DataW.trod_string Tryz.underlying9 g0;obtain ⟨z,e1,q1,_⟩:=DataW.trod_int Tryz.underlying215 g1;simp only [Yb5,and_true] at e0 e1;subst e0 e1 q0 q1;simp only [YbH,Ycs,Yb5,and_true] at hy;obtain ⟨h0,h1⟩:=hy
   injection h0 with h0
   injection h0 with h0
   injection h1 with h1
   injection h1 with _ h1
   rw [←h0,←h1,ZlV]
theorem Zpv {W : World} (h : VarReads Tryz.prog W "squinch/code.operators" Rows.laid_squinch_code_operators) : OpTab W := by
 rw [Zre] at h;obtain ⟨g,t,cs,fuel,p,hg,hty,hvar,hd⟩:=h;obtain rfl : 2 = g := Yae ((show Tryz.prog.globalNamed "squinch/code.operators" = some 2 by kernel_rfl).symm.trans hg)
 obtain rfl:230=t:=Yae ((show (Tryz.prog.globals[2]?).map (·.type)=some 230 by kernel_rfl).symm.trans hty);have each:∀ i (hi:i<opTab.length),cs.toList[2 * i]? = some (.string (S opTab[i].1))/\cs.toList[2 * i+1]? = some (.int .i64 (opTab[i].2:Nat)):=by
  intro i hi;obtain ⟨fuel',d,q,hdi,he⟩:=array_elem Tryz.underlying230 hd i (by rw [ZcX] at hi;exact hi);rw [Yaw,Yaa hi,YbW,Ybf] at hdi;subst hdi;rw [Zgb] at he;have hlen:((cs.toList.drop (i * 2)).take 2).length=2:=by
   obtain ⟨_,_,_,_,hl,_,_⟩:=DataW.trod_struct Tryz.underlying217 he;rw [hl,Zgb]
  have hc:=ZqD (x:=opTab[i]) hlen he;have e0:=Ya5 (·[0]?) hc;have e1:=Ya5 (·[1]?) hc;simp only [YbS,YbG] at e0 e1;refine ⟨?_,?_⟩
  ·simpa [Nat.mul_comm] using e0
  ·simpa [Nat.mul_comm] using e1
 intro j v hj;have hjl:j<84:=by
  rcases YaE j 84 with h|h
  ·exact h
  ·rw [YaT (by unfold opCells;rw [Zpx,ZcX];exact h)] at hj;cases hj
 have hcell:W.cell? ⟨2,0+j,none⟩=cs.toList[j]?:=by
  rw [Ybd,World.var?_cell hg hvar j,Ycd]
 have hi:j / 2<opTab.length:=by rw [ZcX];omega
 have hA:=ZnT opTab (j / 2) hi;have hB:=each (j / 2) hi;unfold opCells at hj;rw [hcell];rcases (show j=2 * (j / 2)\/j=2 * (j / 2)+1 by omega) with h|h
 ·rw [h] at hj ⊢;rw [hB.1,←hA.1];exact hj
 ·rw [h] at hj ⊢;rw [hB.2,←hA.2];exact hj
end Go.Proofs.YtggcdinoflchjaaGreatDoor
namespace Go.Proofs.YtggcdinoflchjaaGreatDoor
open Go.Shelf Go.RowKit Go.Lib
def ZkA:DataW Unit:=.agg (faultsL.map fun n=>.lit (.string n))
theorem ZmF:(Rows.laid_squinch_hier_faults:DataW Unit)=ZkA:=by kernel_rfl
theorem ZiY:faultsL.length=6:=rfl
theorem ZiZ {W : World} (h : VarReads Tryz.prog W "squinch/hier.faults" Rows.laid_squinch_hier_faults) : FaultTab W := by
 rw [ZmF] at h;obtain ⟨g,t,cs,fuel,p,hg,hty,hvar,hd⟩:=h;obtain rfl : 0 = g := Yae ((show Tryz.prog.globalNamed "squinch/hier.faults" = some 0 by kernel_rfl).symm.trans hg)
 obtain rfl:146=t:=Yae ((show (Tryz.prog.globals[0]?).map (·.type)=some 146 by kernel_rfl).symm.trans hty);have each:∀ i (hi:i<faultsL.length),cs.toList[i]? = some (.string (S faultsL[i])):=by
  intro i hi;obtain ⟨fuel',d,q,hdi,he⟩:=array_elem Tryz.underlying146 hd i (by rw [ZiY] at hi;exact hi);rw [Yaw,Yaa hi,YbW,Ybf] at hdi;subst hdi;rw [Zgc] at he;obtain ⟨s,e0,q0,_⟩:=DataW.trod_string Tryz.underlying9 he;have e1:=Ya5 (·[0]?) e0;simp only [YbS,YbG] at e1;have e2:cs.toList[i]? = some (.string s):=by simpa using e1
  have q1:=Ya5 Prod.fst q0;simp only at q1
  injection q1 with q1
  injection q1 with q1
  rw [e2,q1,ZlV]
 intro j v hj;have hjl:j<faultsL.length:=by
  rcases YaE j faultsL.length with h|h
  ·exact h
  ·rw [YaT (by unfold faultCells;rw [YaB];exact h)] at hj;cases hj
 have hcell:W.cell? ⟨0,0+j,none⟩=cs.toList[j]?:=by
  rw [Ybd,World.var?_cell hg hvar j,Ycd]
 unfold faultCells at hj;rw [Yaw,Yaa hjl,YbW] at hj;rw [hcell,each j hjl];exact hj
noncomputable def laidWorld4 (os:Os):World:=
 let w0:=World.holding Tryz.prog os ⟨#[],#[],[]⟩
 let put (h:Array Obj) (g:Nat) (cs:Array Value):Array Obj:=h.modify g fun
  | .cells _ t frozen=>.cells cs t frozen
  | o=>o
 let h1:=put w0.heap 3 (Lib.firstTab.map fun z=>Value.int .u8 z).toArray
 let h2:=put h1 4 ((List.range 16).flatMap fun i=>[Value.int .u8 (Lib.accLo i),Value.int .u8 (Lib.accHi i)]).toArray
 let h3:=put h2 2 opCells.toArray
 let h4:=put h3 0 faultCells.toArray
 { w0 with heap:=h4 }
def Zhn : List (String × DataW Unit) := [("unicode/utf8.acceptRanges", Rows.laid_unicode_utf8_acceptRanges), ("squinch/code.operators", Rows.laid_squinch_code_operators), ("squinch/hier.faults", Rows.laid_squinch_hier_faults), ("unicode/utf8.first", Rows.laid_unicode_utf8_first)]
structure HT6 (W:World):Prop where
 ct:CT W
 ft:FaultTab W
theorem Zru {W:World} (hL:laidMet Tryz.prog Zhn W):HT6 W:=
 ⟨⟨ZqI (Lib.laidMet.reads hL (.tail _ (.tail _ (.tail _ (.head _))))) (Lib.laidMet.reads hL (.head _)),Zpv (Lib.laidMet.reads hL (.tail _ (.head _)))⟩,ZiZ (Lib.laidMet.reads hL (.tail _ (.tail _ (.head _))))⟩
theorem Zq7 (os:Os) (args:Array Value):laidMet Tryz.prog Zhn ((laidWorld4 os).forCall (fun _ _=>0) ⟨#[],args,[]⟩).memory:=
 (LaidIn.of_run (l:=Zhn) [3,4,2,0] 8 (by kernel_rfl) (by kernel_rfl) (by kernel_rfl) (by kernel_rfl)).met
end Go.Proofs.YtggcdinoflchjaaGreatDoor
namespace Go.Proofs.YtggcdinoflchjaaGreatDoor
open Go.RowKit
theorem Box.setTo {w:World} {B:Nat} {cs:Array Value} {t:TypeId} (h:Box w B cs t) (j:Nat) (u:Value) (cs':Array Value) (e:cs.setIfInBounds j u=cs'):Box (w.setCell ⟨B,j,none⟩ u) B cs' t:=e ▸ h.set j u
theorem set7 {w:World} {B:Nat} {t:TypeId} {a0 a1 a2 a3 a4 a5 a6:Value} (h:Box w B #[a0,a1,a2,a3,a4,a5,a6] t) (v0 v1 v2 v3 v4 v5 v6:Value) :
  Box (((((((w.setCell ⟨B,0,none⟩ v0).setCell ⟨B,1,none⟩ v1).setCell ⟨B,2,none⟩ v2).setCell ⟨B,3,none⟩ v3).setCell ⟨B,4,none⟩ v4).setCell ⟨B,5,none⟩ v5).setCell ⟨B,6,none⟩ v6) B #[v0,v1,v2,v3,v4,v5,v6] t/\Only (fun i=>i=B) w (((((((w.setCell ⟨B,0,none⟩ v0).setCell ⟨B,1,none⟩ v1).setCell ⟨B,2,none⟩ v2).setCell ⟨B,3,none⟩ v3).setCell ⟨B,4,none⟩ v4).setCell ⟨B,5,none⟩ v5).setCell ⟨B,6,none⟩ v6):=
 ⟨(((((((h.setTo 0 v0 #[v0,a1,a2,a3,a4,a5,a6] rfl).setTo 1 v1 #[v0,v1,a2,a3,a4,a5,a6] rfl).setTo 2 v2 #[v0,v1,v2,a3,a4,a5,a6] rfl).setTo 3 v3 #[v0,v1,v2,v3,a4,a5,a6] rfl).setTo 4 v4 #[v0,v1,v2,v3,v4,a5,a6] rfl).setTo 5 v5 #[v0,v1,v2,v3,v4,v5,a6] rfl).setTo 6 v6 #[v0,v1,v2,v3,v4,v5,v6] rfl),(((((((Yam (fun i=>i=B) w).setCell (p:=⟨B,0,none⟩) rfl v0).setCell (p:=⟨B,1,none⟩) rfl v1).setCell (p:=⟨B,2,none⟩) rfl v2).setCell (p:=⟨B,3,none⟩) rfl v3).setCell (p:=⟨B,4,none⟩) rfl v4).setCell (p:=⟨B,5,none⟩) rfl v5).setCell (p:=⟨B,6,none⟩) rfl v6⟩
theorem Zd7 {w:World} {B:Nat} {t:TypeId} {a0 a1 a2 a3 a4 a5 a6:Value} (h:Box w B #[a0,a1,a2,a3,a4,a5,a6] t):w.cell? ⟨B,0,none⟩=some a0/\w.cell? ⟨B,1,none⟩=some a1/\w.cell? ⟨B,2,none⟩=some a2/\w.cell? ⟨B,3,none⟩=some a3/\w.cell? ⟨B,4,none⟩=some a4/\w.cell? ⟨B,5,none⟩=some a5/\w.cell? ⟨B,6,none⟩=some a6:=⟨h.cell 0 rfl,h.cell 1 rfl,h.cell 2 rfl,h.cell 3 rfl,h.cell 4 rfl,h.cell 5 rfl,h.cell 6 rfl⟩
theorem ZhO {w:World} {B:Nat} {t:TypeId} {cs:Array Value} (h:Box w B cs t):w.frozen? ⟨B,0,none⟩=false/\w.frozen? ⟨B,1,none⟩=false/\w.frozen? ⟨B,2,none⟩=false/\w.frozen? ⟨B,3,none⟩=false/\w.frozen? ⟨B,4,none⟩=false/\w.frozen? ⟨B,5,none⟩=false/\w.frozen? ⟨B,6,none⟩=false:=⟨h.free 0,h.free 1,h.free 2,h.free 3,h.free 4,h.free 5,h.free 6⟩
theorem Zmd {w:World} {B:Nat} {t:TypeId} {a0 a1 a2 a3 a4 a5 a6 a7:Value} (h:Box w B #[a0,a1,a2,a3,a4,a5,a6,a7] t):w.cell? ⟨B,0,none⟩=some a0/\w.cell? ⟨B,1,none⟩=some a1/\w.cell? ⟨B,2,none⟩=some a2/\w.cell? ⟨B,3,none⟩=some a3/\w.cell? ⟨B,4,none⟩=some a4/\w.cell? ⟨B,5,none⟩=some a5/\w.cell? ⟨B,6,none⟩=some a6/\w.cell? ⟨B,7,none⟩=some a7:=⟨h.cell 0 rfl,h.cell 1 rfl,h.cell 2 rfl,h.cell 3 rfl,h.cell 4 rfl,h.cell 5 rfl,h.cell 6 rfl,h.cell 7 rfl⟩
structure Wise (es:List Ent):Prop where
 sh:Shape es
 ac:Acyc es
 par:Zdf es
 uq:Uniq es
 cl:∀ (i:Nat) (e:Ent),es[i]? = some e->Zak e.cls.name=true
 obj:es[0]? = some ⟨objC,none,[]⟩
 flt:es[1]? = some ⟨Zcd,some 0,[]⟩
 up:∀ (i:Nat) (e:Ent),es[i]? = some e->i ≠ 0->∃ j,e.up=some j
 lk:∀ (i:Nat) (e:Ent),es[i]? = some e->∀ k ∈ e.lk,ZcB es k=true
 itf:∀ (i:Nat) (e:Ent),es[i]? = some e->e.cls.itf=true->e.up=some 0/\e.cls.flds=[]/\∀ m ∈ e.cls.mths,m.abs=true
 sup:∀ (i:Nat) (e:Ent) (j:Nat),es[i]? = some e->e.up=some j->ZcB es j=false
 mth:∀ (i:Nat) (e:Ent),es[i]? = some e->(e.cls.mths.map Mth.name).Nodup
 fld:∀ (i:Nat) (e:Ent),es[i]? = some e->(e.cls.flds.map Fld.name).Nodup
 good:ZgF es
theorem Zgk {l:List (List UInt8)} (h:ZbL l=true):l.Nodup:=by
 unfold ZbL ZbE at h;rw [YaH] at h;rw [List.nodup_iff_pairwise_ne,List.pairwise_iff_getElem];intro i j hi hj hij he;have h1:=h j (YbL.2 hj);unfold Zfv at h1;rw [Ya7,YaU] at h1;refine h1 l[i] ?_ ?_
 ·rw [List.mem_iff_getElem];exact ⟨i,by rw [Yaz];omega,by rw [List.getElem_take]⟩
 ·rw [Yao,Yaa hj,he];simp
theorem Za4:∀ i,i<8->∀ e,startL[i]? = some e->Zak e.cls.name=true/\(i ≠ 0->e.up.isSome=true)/\e.lk=[]/\e.cls.itf=false/\(∀ j,e.up=some j->j<2)/\e.cls.mths=[]/\e.cls.flds.length<=1:=by
 have h:startL.all (fun e=>Zak e.cls.name && (decide (e.lk=[]) && (decide (e.cls.itf=false) && (decide (e.cls.mths.length=0) && decide (e.cls.flds.length<=1)))))=true:=by decide
 have hu:∀ i,i<8->(i=0\/((startL[i]?).bind Ent.up).isSome=true)/\∀ j,(startL[i]?).bind Ent.up=some j->j<2:=by decide
 intro i hi e he;have h1:=YaH.1 h e (Yad he);simp only [Yat,YaO] at h1;obtain ⟨a,b,c,d,f⟩:=h1;have h2:=hu i hi;rw [he] at h2;exact ⟨a,fun h0=>h2.1.resolve_left h0,b,c,h2.2,YaZ.1 d,f⟩
theorem Lined.itf_sup {cs:List Cls} (h:Lined cs) {c:Cls} (hc:c ∈ cs) (hi:c.itf=true):c.sup=objL/\c.flds=[]/\∀ m ∈ c.mths,m.abs=true:=by
 have h1:=(h.good c hc).parts.2;unfold Cls.fine at h1;simp only [Yat] at h1;have h2:=h1.2.1;unfold Cls.sort at h2;split at h2
 ·cases h2
 ·split at h2
  ·cases h2
  ·simp only [Yat,YaO,YaH] at h2;exact ⟨h2.2.1,YaZ.1 h2.2.2.1,h2.2.2.2⟩
theorem Lined.dist {cs:List Cls} (h:Lined cs) {c:Cls} (hc:c ∈ cs):(c.flds.map Fld.name).Nodup/\(c.mths.map Mth.name).Nodup:=by
 have h1:=(h.good c hc).parts.2;unfold Cls.fine at h1;simp only [Yat] at h1;have h2:=h1.1;unfold Cls.names at h2;simp only [Yat] at h2;exact ⟨Zgk h2.2.2.2.2.1,Zgk h2.2.2.2.2.2⟩
theorem Zbw {cs:List Cls} {i:Nat} (hi:i<8):(newT cs)[i]? = startL[i]?:=by
 unfold newT;rw [YaP (by rw [ZaH];exact hi)]
theorem Zdw {cs:List Cls} {i:Nat} (hi:i<8):(Zav cs)[i]? = startL[i]?:=by
 unfold Zav;rw [YaP (by rw [ZaH];exact hi)]
theorem ZnX {cs:List Cls}:Zac (Zav cs) objL=some 0:=by
 unfold Zac Zav;rw [Ycy];rfl
theorem Lined.wise {cs:List Cls} (h:Lined cs) (hsh:Shape (newT cs)) (hac:Acyc (newT cs)) (hg:ZgF (newT cs)):Wise (newT cs) where
 sh:=hsh
 ac:=hac
 par:=h.par
 uq:=h.uniq
 cl:=fun i e he=>by
  rcases Zbm he with ⟨h1,h2⟩|⟨h1,c,h2,rfl⟩
  ·exact (Za4 i h1 e h2).1
  ·exact (h.good c (Yad h2)).name
 obj:=Zbw (by omega)
 flt:=Zbw (by omega)
 up:=fun i e he h0=>by
  rcases Zbm he with ⟨h1,h2⟩|⟨h1,c,h2,rfl⟩
  ·exact YaL.1 ((Za4 i h1 e h2).2.1 h0)
  ·exact YaL.1 (h.ups c (Yad h2))
 lk:=fun i e he k hk=>by
  rcases Zbm he with ⟨h1,h2⟩|⟨h1,c,h2,rfl⟩
  ·rw [(Za4 i h1 e h2).2.2.1] at hk;cases hk
  ·obtain ⟨n,hn1,hn2⟩:=Ybc.1 (show k ∈ c.like.map fun n=>(Zcs (Zav cs) n).getD 0 from hk);have h5:=YaH.1 (h.likes c (Yad h2)) n hn1;obtain ⟨j,hj⟩:=YaL.1 h5;rw [hj] at hn2;obtain rfl:j=k:=hn2;rw [Zes (Zcp cs)];exact (ZcT hj).2
 itf:=fun i e he hi=>by
  rcases Zbm he with ⟨h1,h2⟩|⟨h1,c,h2,rfl⟩
  ·rw [(Za4 i h1 e h2).2.2.2.1] at hi;cases hi
  ·obtain ⟨a,b,d⟩:=h.itf_sup (Yad h2) hi;refine ⟨?_,b,d⟩;show upE (Zav cs) c.sup=some 0
   rw [a];unfold upE;rw [ZnX];have h3:ZcB (Zav cs) 0=false:=by unfold ZcB;rw [Zdw (by omega)];rfl
   have h4:Zfr (Zav cs) 0=false:=by unfold Zfr;rw [Zdw (by omega)];rfl
   dsimp only;rw [h3,h4];rfl
 sup:=fun i e j he hj=>by
  rcases Zbm he with ⟨h1,h2⟩|⟨h1,c,h2,rfl⟩
  ·have h3:=(Za4 i h1 e h2).2.2.2.2.1 j hj;have h4:∀ j,j<2->ZcB startL j=false:=by decide
   unfold ZcB;rw [Zbw (by omega)];exact h4 j h3
  ·have h3:upE (Zav cs) c.sup=some j:=hj;unfold upE at h3;cases hp:Zac (Zav cs) c.sup with
   | none=>rw [hp] at h3;cases h3
   | some i2=>
    rw [hp] at h3;dsimp only at h3;split at h3
    ·cases h3
    ·rename_i hn
     obtain rfl:=Yae h3;rw [Zes (Zcp cs)];cases hq:ZcB (Zav cs) i2
     ·rfl
     ·rw [hq] at hn;exact absurd rfl hn
 mth:=fun i e he=>by
  rcases Zbm he with ⟨h1,h2⟩|⟨h1,c,h2,rfl⟩
  ·rw [(Za4 i h1 e h2).2.2.2.2.2.1];exact Ycc
  ·exact (h.dist (Yad h2)).2
 fld:=fun i e he=>by
  rcases Zbm he with ⟨h1,h2⟩|⟨h1,c,h2,rfl⟩
  ·have h3:=(Za4 i h1 e h2).2.2.2.2.2.2
   match hf:e.cls.flds,h3 with
   | [],_=>exact Ycc
   | [f],_=>simp
   | f :: g :: l,h3=>simp at h3
  ·exact (h.dist (Yad h2)).1
 good:=hg
theorem NewOk.wise {cs:List Cls} (h:NewOk cs):Wise (newT cs):=h.lined.wise h.shape h.acyc h.lined.goodT
