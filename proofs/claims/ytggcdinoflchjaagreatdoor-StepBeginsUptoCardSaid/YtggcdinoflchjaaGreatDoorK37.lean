/- laws -/
import Derived.Deep.Slices
import Derived.Carry
import Derived.OpenShut
import Derived.Deep.DeepHandedRow
import Derived.ProofKit
import Derived.Test.YtggcdinoflchjaaGreatDoorCards
import Derived.Test.YtggcdinoflchjaaGreatDoorTie
import Derived.Lib.LaidIn
import Derived.Lib.LaidU8T
import Derived.Deep.DeepWitnessRowRef
import Derived.SizedLaws
import Derived.Test.YtggcdinoflchjaaGreatDoorK35
set_option maxRecDepth 100000
set_option maxHeartbeats 16000000
namespace Go.Proofs.YtggcdinoflchjaaGreatDoor
set_option maxRecDepth 100000
open Go.ChangeShapes Go.WideShapes Go.ChangeAt Go.RowKit Go.Lib Go.WideMaps Go.WideElems Go.Deep
instance:Inhabited Ins:=⟨⟨[],0,[]⟩⟩
instance:Inhabited Fld:=⟨⟨[],[],false⟩⟩
instance:Inhabited Cat:=⟨⟨0,0,0,[]⟩⟩
instance:Inhabited Mth:=⟨⟨[],[],[],false,0,[],[]⟩⟩
instance:Inhabited Cls:=⟨⟨[],[],[],false,false,false,[],[]⟩⟩
theorem ZqY:laidOutB Tryz.prog=true:=by kernel_rfl
theorem Zgk {H:Type} {enc:TypeId × Value->H} {w:World} {held:Bool} {fuel:Nat} {α:Type} [Inhabited α] {R:Zao α} {p:α->Prop} {t e:TypeId} {n:Nat} {cs:List Value} {x:DataW H × List MemPlace}
  (ht:Tryz.prog.underlying t=some (.slice e)) (hn:Tryz.prog.cellsOf e=n) (hn0:0<n) (h:DataW.trod enc Tryz.prog w 0 (fun _=>true) held fuel t cs=some x)
  (each:∀ (fuel:Nat) (cs':List Value) (y:DataW H × List MemPlace),cs'.length=n->DataW.trod enc Tryz.prog w 0 (fun _=>true) held fuel e cs'=some y->∃ z:α,p z/\∃ v:Value,R Anyw w z v/\v.cells.toList=cs') :
  ∃ (v:Value) (l:List α),cs=[v]/\Src n R Anyw w v l/\(∀ z ∈ l,p z)/\l.length<=9223372036854775807:=by
 rcases open_slice ht h with ⟨hcs,_⟩|⟨a,len,cap,m,k,D,Pl,hcs,_,hl,hm,hmm,_,hi⟩
 ·exact ⟨_,[],hcs,.nil,(fun z hz=>by simp at hz),by simp⟩
 ·have hmx:cap<=9223372036854775807:=by unfold maxLen at hm;omega
  have hlm:len<=m:=by rw [hmm];simp;exact hl
  have each':∀ i,i<len->∃ z:α,p z/\∃ v:Value,R Anyw w z v/\v.cells.size=n/\∀ (j:Nat) u,v.cells[j]? = some u->w.cell? (a.add (i * n+j))=some u:=by
   intro i hilt;obtain ⟨cs',hc,ht'⟩:=hi i (by omega);rw [hn] at hc;obtain ⟨_,hcl,hat⟩:=World.cells?_some hc;obtain ⟨z,hz,v,hv,hvc⟩:=each _ cs' _ hcl ht';have hsz:v.cells.size=n:=by rw [←Ybj,hvc,hcl]
   refine ⟨z,hz,v,hv,hsz,fun j u hj=>?_⟩;have hjn:=ZcR hsz hj;have q:=hat j hjn;rw [Go.Deep.add_add] at q;rw [q,←hvc,Yb8];exact hj
  obtain ⟨F,hF⟩:=choose_lt (α:=α) each';rcases YbP len with h0|h0
  ·subst h0;exact ⟨_,[],hcs,.inl ⟨_,_,rfl,rfl⟩,(fun z hz=>by simp at hz),by simp⟩
  ·obtain ⟨_,v0,_,hs0,hc0⟩:=hF 0 h0;have hc00:=hc0 0 (v0.cells[0]'(by omega)) (YbV _);obtain ⟨b,o,ha⟩:=ZjL hc00;have e:a.add (0 * n+0)=a:=by unfold Addr.add;simp
   have ha':a=⟨b,o,none⟩:=by rw [←e];exact ha
   subst ha';have hb:b<w.heap.size:=World.block_lt_of_cell? w _ (by rw [e] at hc00;exact hc00);have hlen:((List.range len).map F).length=len:=by simp
   have hget:∀ (j:Nat) f,((List.range len).map F)[j]? = some f->j<len/\f=F j:=by
    intro j f hj;have hjl:j<len:=by
     rcases YaB j len with h|h
     ·exact h
     ·simp [List.getElem?_eq_none (show (List.range len).length<=j by simpa using h)] at hj
    simp [hjl] at hj
    exact ⟨hjl,hj.symm⟩
   refine ⟨_,(List.range len).map F,hcs,.inr ⟨b,o,cap,by rw [hlen],⟨trivial,hb,by rw [hlen];exact hl,hmx⟩,fun k z hz=>?_⟩,fun z hz=>?_,by rw [hlen];omega⟩
   ·obtain ⟨hk,rfl⟩:=hget k z hz;obtain ⟨_,v,hv,hs,hc⟩:=hF k hk;refine ⟨v,hv,hs,fun j u hj=>?_⟩;have q:=hc j u hj;rw [Ybo] at q;rw [Nat.add_assoc];exact q
   ·obtain ⟨i,hi',rfl⟩:=Ya6.1 hz;exact (hF i (by simpa using hi')).1
theorem ZfY:Tryz.prog.cellsOf 9=1:=by kernel_rfl
theorem Zp2:Tryz.prog.cellsOf 4=1:=by kernel_rfl
theorem Zjy:Tryz.prog.cellsOf 3=1:=by kernel_rfl
theorem ZqH:Tryz.prog.cellsOf 2=1:=by kernel_rfl
theorem Zp5:Tryz.prog.cellsOf 22=1:=by kernel_rfl
theorem Zp4:Tryz.prog.cellsOf 37=1:=by kernel_rfl
theorem Zp3:Tryz.prog.cellsOf 42=1:=by kernel_rfl
theorem ZqI:Tryz.prog.cellsOf 48=3:=by kernel_rfl
theorem ZqG:Tryz.prog.cellsOf 185=4:=by kernel_rfl
theorem ZqJ:Tryz.prog.cellsOf 44=7:=by kernel_rfl
theorem ZdP {H:Type} {enc:TypeId × Value->H} {w:World} {held:Bool} {fuel:Nat} {cs:List Value} {x:DataW H × List MemPlace} (h:DataW.trod enc Tryz.prog w 0 (fun _=>true) held fuel 9 cs=some x) :
  ∃ z:List UInt8,ZaA z/\cs=[.string (S z)]:=by
 obtain ⟨s,e,_,wd⟩:=DataW.trod_string Tryz.underlying9 h;exact ⟨s.data.toList,Zqd s wd,by rw [e,Zls]⟩
theorem Znf {H:Type} {enc:TypeId × Value->H} {w:World} {held:Bool} {fuel:Nat} {cs:List Value} {x:DataW H × List MemPlace} (h:DataW.trod enc Tryz.prog w 0 (fun _=>true) held fuel 22 cs=some x) :
  ∃ (v:Value) (l:List (List UInt8)),cs=[v]/\Src 1 StrR Anyw w v l/\(∀ z ∈ l,(fun z:(List UInt8)=>ZaA z) z)/\l.length<=9223372036854775807:=
 Zgk (p:=fun z:(List UInt8)=>ZaA z) Tryz.underlying22 ZfY (by decide) h (fun _ cs' _ hl ht=>by obtain ⟨z,k,e⟩:=ZdP ht;exact ⟨z,k,.string (S z),rfl,by rw [e];rfl⟩)
theorem ZoV {H:Type} {enc:TypeId × Value->H} {w:World} {held:Bool} {fuel:Nat} {cs:List Value} {x:DataW H × List MemPlace} (hl:cs.length=3)
  (h:DataW.trod enc Tryz.prog w 0 (fun _=>true) held fuel 48 cs=some x):∃ z:Ins,(i64 z.n/\ZaA z.op/\ZaA z.s)/\∃ v:Value,InsR Anyw w z v/\v.cells.toList=cs:=by
 obtain ⟨ys,n,_,_,_,hyl,hall⟩:=DataW.trod_struct Tryz.underlying48 h
 match cs,hl with
 | [c0,c1,c2],_=>
  have g0:DataW.trod enc Tryz.prog w 0 (fun _=>true) held n 9 [c0]=ys[0]?:=by
   have g:=hall 0 _ rfl
   change DataW.trod enc Tryz.prog w 0 (fun _=>true) held n 9 (([c0,c1,c2].drop 0).take (Tryz.prog.cellsOf 9))=ys[0]? at g
   rw [ZfY] at g;exact g
  rw [Yaa (by rw [hyl];decide)] at g0;have g1:DataW.trod enc Tryz.prog w 0 (fun _=>true) held n 2 [c1]=ys[1]?:=by
   have g:=hall 1 _ rfl
   change DataW.trod enc Tryz.prog w 0 (fun _=>true) held n 2 (([c0,c1,c2].drop 1).take (Tryz.prog.cellsOf 2))=ys[1]? at g
   rw [ZqH] at g;exact g
  rw [Yaa (by rw [hyl];decide)] at g1;have g2:DataW.trod enc Tryz.prog w 0 (fun _=>true) held n 9 [c2]=ys[2]?:=by
   have g:=hall 2 _ rfl
   change DataW.trod enc Tryz.prog w 0 (fun _=>true) held n 9 (([c0,c1,c2].drop 2).take (Tryz.prog.cellsOf 9))=ys[2]? at g
   rw [ZfY] at g;exact g
  rw [Yaa (by rw [hyl];decide)] at g2;obtain ⟨z0,k0,e0⟩:=ZdP g0;obtain ⟨z1,e1,_,k1⟩:=DataW.trod_int Tryz.underlying2 g1;obtain ⟨z2,k2,e2⟩:=ZdP g2;simp only [Ya3,and_true] at e0;subst e0;simp only [Ya3,and_true] at e1;subst e1;simp only [Ya3,and_true] at e2;subst e2;exact ⟨⟨z0,z1,z2⟩,⟨bounds_i64 k1,k0,k2⟩,_,rfl,rfl⟩
theorem Zne {H:Type} {enc:TypeId × Value->H} {w:World} {held:Bool} {fuel:Nat} {cs:List Value} {x:DataW H × List MemPlace} (h:DataW.trod enc Tryz.prog w 0 (fun _=>true) held fuel 37 cs=some x) :
  ∃ (v:Value) (l:List Ins),cs=[v]/\Src 3 InsR Anyw w v l/\(∀ z ∈ l,(fun z:Ins=>i64 z.n/\ZaA z.op/\ZaA z.s) z)/\l.length<=9223372036854775807:=
 Zgk (p:=fun z:Ins=>i64 z.n/\ZaA z.op/\ZaA z.s) Tryz.underlying37 ZqI (by decide) h (fun _ cs' _ hl ht=>ZoV hl ht)
theorem ZoU {H:Type} {enc:TypeId × Value->H} {w:World} {held:Bool} {fuel:Nat} {cs:List Value} {x:DataW H × List MemPlace} (hl:cs.length=4)
  (h:DataW.trod enc Tryz.prog w 0 (fun _=>true) held fuel 185 cs=some x):∃ z:Cat,(z.held/\ZaA z.cls)/\∃ v:Value,CatR Anyw w z v/\v.cells.toList=cs:=by
 obtain ⟨ys,n,_,_,_,hyl,hall⟩:=DataW.trod_struct Tryz.underlying185 h
 match cs,hl with
 | [c0,c1,c2,c3],_=>
  have g0:DataW.trod enc Tryz.prog w 0 (fun _=>true) held n 3 [c0]=ys[0]?:=by
   have g:=hall 0 _ rfl
   change DataW.trod enc Tryz.prog w 0 (fun _=>true) held n 3 (([c0,c1,c2,c3].drop 0).take (Tryz.prog.cellsOf 3))=ys[0]? at g
   rw [Zjy] at g;exact g
  rw [Yaa (by rw [hyl];decide)] at g0;have g1:DataW.trod enc Tryz.prog w 0 (fun _=>true) held n 3 [c1]=ys[1]?:=by
   have g:=hall 1 _ rfl
   change DataW.trod enc Tryz.prog w 0 (fun _=>true) held n 3 (([c0,c1,c2,c3].drop 1).take (Tryz.prog.cellsOf 3))=ys[1]? at g
   rw [Zjy] at g;exact g
  rw [Yaa (by rw [hyl];decide)] at g1;have g2:DataW.trod enc Tryz.prog w 0 (fun _=>true) held n 3 [c2]=ys[2]?:=by
   have g:=hall 2 _ rfl
   change DataW.trod enc Tryz.prog w 0 (fun _=>true) held n 3 (([c0,c1,c2,c3].drop 2).take (Tryz.prog.cellsOf 3))=ys[2]? at g
   rw [Zjy] at g;exact g
  rw [Yaa (by rw [hyl];decide)] at g2;have g3:DataW.trod enc Tryz.prog w 0 (fun _=>true) held n 9 [c3]=ys[3]?:=by
   have g:=hall 3 _ rfl
   change DataW.trod enc Tryz.prog w 0 (fun _=>true) held n 9 (([c0,c1,c2,c3].drop 3).take (Tryz.prog.cellsOf 9))=ys[3]? at g
   rw [ZfY] at g;exact g
  rw [Yaa (by rw [hyl];decide)] at g3;obtain ⟨z0,e0,_,k0⟩:=DataW.trod_int Tryz.underlying3 g0;obtain ⟨z1,e1,_,k1⟩:=DataW.trod_int Tryz.underlying3 g1;obtain ⟨z2,e2,_,k2⟩:=DataW.trod_int Tryz.underlying3 g2;obtain ⟨z3,k3,e3⟩:=ZdP g3;simp only [Ya3,and_true] at e0;subst e0;simp only [Ya3,and_true] at e1;subst e1;simp only [Ya3,and_true] at e2;subst e2;simp only [Ya3,and_true] at e3;subst e3;exact ⟨⟨z0,z1,z2,z3⟩,⟨⟨bounds_i64 k0,bounds_i64 k1,bounds_i64 k2⟩,k3⟩,_,rfl,rfl⟩
theorem Znd {H:Type} {enc:TypeId × Value->H} {w:World} {held:Bool} {fuel:Nat} {cs:List Value} {x:DataW H × List MemPlace} (h:DataW.trod enc Tryz.prog w 0 (fun _=>true) held fuel 42 cs=some x) :
  ∃ (v:Value) (l:List Cat),cs=[v]/\Src 4 CatR Anyw w v l/\(∀ z ∈ l,(fun z:Cat=>z.held/\ZaA z.cls) z)/\l.length<=9223372036854775807:=
 Zgk (p:=fun z:Cat=>z.held/\ZaA z.cls) Tryz.underlying42 ZqG (by decide) h (fun _ cs' _ hl ht=>ZoU hl ht)
theorem ZoW {H:Type} {enc:TypeId × Value->H} {w:World} {held:Bool} {fuel:Nat} {cs:List Value} {x:DataW H × List MemPlace} (hl:cs.length=7)
  (h:DataW.trod enc Tryz.prog w 0 (fun _=>true) held fuel 44 cs=some x):∃ z:Mth,(z.held/\z.Fit/\∀ y ∈ z.code,ZaA y.op)/\∃ v:Value,MthR Anyw w z v/\v.cells.toList=cs:=by
 obtain ⟨ys,n,_,_,_,hyl,hall⟩:=DataW.trod_struct Tryz.underlying44 h
 match cs,hl with
 | [c0,c1,c2,c3,c4,c5,c6],_=>
  have g0:DataW.trod enc Tryz.prog w 0 (fun _=>true) held n 9 [c0]=ys[0]?:=by
   have g:=hall 0 _ rfl
   change DataW.trod enc Tryz.prog w 0 (fun _=>true) held n 9 (([c0,c1,c2,c3,c4,c5,c6].drop 0).take (Tryz.prog.cellsOf 9))=ys[0]? at g
   rw [ZfY] at g;exact g
  rw [Yaa (by rw [hyl];decide)] at g0;have g1:DataW.trod enc Tryz.prog w 0 (fun _=>true) held n 22 [c1]=ys[1]?:=by
   have g:=hall 1 _ rfl
   change DataW.trod enc Tryz.prog w 0 (fun _=>true) held n 22 (([c0,c1,c2,c3,c4,c5,c6].drop 1).take (Tryz.prog.cellsOf 22))=ys[1]? at g
   rw [Zp5] at g;exact g
  rw [Yaa (by rw [hyl];decide)] at g1;have g2:DataW.trod enc Tryz.prog w 0 (fun _=>true) held n 9 [c2]=ys[2]?:=by
   have g:=hall 2 _ rfl
   change DataW.trod enc Tryz.prog w 0 (fun _=>true) held n 9 (([c0,c1,c2,c3,c4,c5,c6].drop 2).take (Tryz.prog.cellsOf 9))=ys[2]? at g
   rw [ZfY] at g;exact g
  rw [Yaa (by rw [hyl];decide)] at g2;have g3:DataW.trod enc Tryz.prog w 0 (fun _=>true) held n 4 [c3]=ys[3]?:=by
   have g:=hall 3 _ rfl
   change DataW.trod enc Tryz.prog w 0 (fun _=>true) held n 4 (([c0,c1,c2,c3,c4,c5,c6].drop 3).take (Tryz.prog.cellsOf 4))=ys[3]? at g
   rw [Zp2] at g;exact g
  rw [Yaa (by rw [hyl];decide)] at g3;have g4:DataW.trod enc Tryz.prog w 0 (fun _=>true) held n 3 [c4]=ys[4]?:=by
   have g:=hall 4 _ rfl
   change DataW.trod enc Tryz.prog w 0 (fun _=>true) held n 3 (([c0,c1,c2,c3,c4,c5,c6].drop 4).take (Tryz.prog.cellsOf 3))=ys[4]? at g
   rw [Zjy] at g;exact g
  rw [Yaa (by rw [hyl];decide)] at g4;have g5:DataW.trod enc Tryz.prog w 0 (fun _=>true) held n 37 [c5]=ys[5]?:=by
   have g:=hall 5 _ rfl
   change DataW.trod enc Tryz.prog w 0 (fun _=>true) held n 37 (([c0,c1,c2,c3,c4,c5,c6].drop 5).take (Tryz.prog.cellsOf 37))=ys[5]? at g
   rw [Zp4] at g;exact g
  rw [Yaa (by rw [hyl];decide)] at g5;have g6:DataW.trod enc Tryz.prog w 0 (fun _=>true) held n 42 [c6]=ys[6]?:=by
   have g:=hall 6 _ rfl
   change DataW.trod enc Tryz.prog w 0 (fun _=>true) held n 42 (([c0,c1,c2,c3,c4,c5,c6].drop 6).take (Tryz.prog.cellsOf 42))=ys[6]? at g
   rw [Zp3] at g;exact g
  rw [Yaa (by rw [hyl];decide)] at g6;obtain ⟨z0,k0,e0⟩:=ZdP g0;obtain ⟨v1,z1,e1,q1,k1,n1⟩:=Znf g1;obtain ⟨z2,k2,e2⟩:=ZdP g2;obtain ⟨z3,e3,_⟩:=DataW.trod_bool Tryz.underlying4 g3;obtain ⟨z4,e4,_,k4⟩:=DataW.trod_int Tryz.underlying3 g4;obtain ⟨v5,z5,e5,q5,k5,n5⟩:=Zne g5;obtain ⟨v6,z6,e6,q6,k6,n6⟩:=Znd g6;simp only [Ya3,and_true] at e0;subst e0;simp only [Ya3,and_true] at e1;subst e1;simp only [Ya3,and_true] at e2;subst e2;simp only [Ya3,and_true] at e3;subst e3;simp only [Ya3,and_true] at e4;subst e4;simp only [Ya3,and_true] at e5;subst e5;simp only [Ya3,and_true] at e6;subst e6;exact ⟨⟨z0,z1,z2,z3,z4,z5,z6⟩,⟨⟨bounds_i64 k4,fun y hy=>(k5 y hy).1,fun y hy=>(k6 y hy).1⟩,⟨k0,k2,k1,fun y hy=>(k5 y hy).2.2,fun y hy=>(k6 y hy).2,n1,n5,n6⟩,fun y hy=>(k5 y hy).2.1⟩,_,⟨_,_,_,rfl,q1,q5,q6⟩,rfl⟩
end Go.Proofs.YtggcdinoflchjaaGreatDoor
namespace Go.Proofs.YtggcdinoflchjaaGreatDoor
open Go.Shelf Go.RowKit Go.Lib
theorem own:ownKnob Tryz.prog.godebug=none:=by kernel_rfl
theorem Zoo:Rows.laid_unicode_utf8_first=Lib.firstData:=by kernel_rfl
theorem Zlz:(Rows.laid_unicode_utf8_acceptRanges:DataW Unit)=Lib.acceptData:=by kernel_rfl
def Zqa:DataW Unit:=.agg (opTab.map fun x=>.agg [.lit (.string x.1),.lit (.int .i64 (x.2:Nat))])
theorem ZqL:(Rows.laid_squinch_code_operators:DataW Unit)=Zqa:=by kernel_rfl
theorem Zqe {W : World} (h3 : VarReads Tryz.prog W "unicode/utf8.first" Rows.laid_unicode_utf8_first) (h4 : VarReads Tryz.prog W "unicode/utf8.acceptRanges" Rows.laid_unicode_utf8_acceptRanges) : Tabs W := by
 rw [Zlz] at h4;rw [Zoo] at h3;exact utf8Tabs_of_readsT (U8Types.of196 Zhv) ⟨by kernel_rfl,by kernel_rfl,by kernel_rfl,by kernel_rfl,by kernel_rfl,by kernel_rfl,by kernel_rfl⟩ h3 h4
theorem Znk:∀ (l:List (List UInt8 × Nat)) (i:Nat) (h:i<l.length),(l.flatMap fun x=>[Value.string (S x.1),Value.int .i64 (x.2:Nat)])[2 * i]? = some (.string (S l[i].1))/\(l.flatMap fun x=>[Value.string (S x.1),Value.int .i64 (x.2:Nat)])[2 * i+1]? = some (.int .i64 (l[i].2:Nat))
 | x :: l,0,_=>⟨rfl,rfl⟩
 | x :: l,i+1,h=>by
  have ih:=Znk l i (by simpa using h);rw [Yb4,show 2 * (i+1)=2 * i+2 from by omega];exact ⟨ih.1,ih.2⟩
theorem ZoZ (l:List (List UInt8 × Nat)):(l.flatMap fun x=>[Value.string (S x.1),Value.int .i64 (x.2:Nat)]).length=2 * l.length:=by
 induction l with
 | nil=>rfl
 | cons x l ih=>rw [Yb4,Yak,ih,YaI];simp;omega
theorem ZfH:Tryz.prog.cellsOf 217=2:=by kernel_rfl
theorem ZfI:Tryz.prog.cellsOf 9=1:=by kernel_rfl
theorem Zgg:Tryz.prog.cellsOf 215=1:=by kernel_rfl
theorem Zp9 {w:World} {fuel:Nat} {cs:List Value} {p:List MemPlace} {x:List UInt8 × Nat} (hl:cs.length=2)
  (h:DataW.trod (fun _=>()) Tryz.prog w 0 (fun _=>true) false fuel 217 cs=some (.agg [.lit (.string x.1),.lit (.int .i64 (x.2:Nat))],p)):cs=[.string (S x.1),.int .i64 (x.2:Nat)]:=by
 obtain ⟨ys,n,_,hx,_,hyl,hall⟩:=DataW.trod_struct Tryz.underlying217 h
 match cs,hl with
 | [c0,c1],_=>
  have g0:DataW.trod (fun _=>()) Tryz.prog w 0 (fun _=>true) false n 9 [c0]=ys[0]?:=by
   have g:=hall 0 _ rfl
   change DataW.trod (fun _=>()) Tryz.prog w 0 (fun _=>true) false n 9 (([c0,c1].drop 0).take (Tryz.prog.cellsOf 9))=ys[0]? at g
   rw [ZfI] at g;exact g
  have g1:DataW.trod (fun _=>()) Tryz.prog w 0 (fun _=>true) false n 215 [c1]=ys[1]?:=by
   have g:=hall 1 _ rfl
   change DataW.trod (fun _=>()) Tryz.prog w 0 (fun _=>true) false n 215 (([c0,c1].drop 1).take (Tryz.prog.cellsOf 215))=ys[1]? at g
   rw [Zgg] at g;exact g
  have hy:ys.map (·.1)=[.lit (.string x.1),.lit (.int .i64 (x.2:Nat))]:=by
   have:=Ya5 Prod.fst hx
   simpa using this.symm
  match ys,hy with
  | [y0,y1],hy=>
   obtain ⟨s,e0,q0,_⟩:=DataW.trod_string Tryz.underlying9 g0;obtain ⟨z,e1,q1,_⟩:=DataW.trod_int Tryz.underlying215 g1;simp only [Ya3,and_true] at e0 e1;subst e0 e1 q0 q1;simp only [YbJ,Ycr,Ya3,and_true] at hy;obtain ⟨h0,h1⟩:=hy
   injection h0 with h0
   injection h0 with h0
   injection h1 with h1
   injection h1 with _ h1
   rw [←h0,←h1,Zls]
theorem ZoX {W : World} (h : VarReads Tryz.prog W "squinch/code.operators" Rows.laid_squinch_code_operators) : OpTab W := by
 rw [ZqL] at h;obtain ⟨g,t,cs,fuel,p,hg,hty,hvar,hd⟩:=h;obtain rfl : 2 = g := Yae ((show Tryz.prog.globalNamed "squinch/code.operators" = some 2 by kernel_rfl).symm.trans hg)
 obtain rfl:230=t:=Yae ((show (Tryz.prog.globals[2]?).map (·.type)=some 230 by kernel_rfl).symm.trans hty);have each:∀ i (hi:i<opTab.length),cs.toList[2 * i]? = some (.string (S opTab[i].1))/\cs.toList[2 * i+1]? = some (.int .i64 (opTab[i].2:Nat)):=by
  intro i hi;obtain ⟨fuel',d,q,hdi,he⟩:=array_elem Tryz.underlying230 hd i (by rw [ZcJ] at hi;exact hi);rw [Yau,Yaa hi,YbS,Yba] at hdi;subst hdi;rw [ZfH] at he;have hlen:((cs.toList.drop (i * 2)).take 2).length=2:=by
   obtain ⟨_,_,_,_,hl,_,_⟩:=DataW.trod_struct Tryz.underlying217 he;rw [hl,ZfH]
  have hc:=Zp9 (x:=opTab[i]) hlen he;have e0:=Ya5 (·[0]?) hc;have e1:=Ya5 (·[1]?) hc;simp only [YbI,YbH] at e0 e1;refine ⟨?_,?_⟩
  ·simpa [Nat.mul_comm] using e0
  ·simpa [Nat.mul_comm] using e1
 intro j v hj;have hjl:j<84:=by
  rcases YaB j 84 with h|h
  ·exact h
  ·rw [YaN (by unfold opCells;rw [ZoZ,ZcJ];exact h)] at hj;cases hj
 have hcell:W.cell? ⟨2,0+j,none⟩=cs.toList[j]?:=by
  rw [Ybc,World.var?_cell hg hvar j,Yb8]
 have hi:j / 2<opTab.length:=by rw [ZcJ];omega
 have hA:=Znk opTab (j / 2) hi;have hB:=each (j / 2) hi;unfold opCells at hj;rw [hcell];rcases (show j=2 * (j / 2)\/j=2 * (j / 2)+1 by omega) with h|h
 ·rw [h] at hj ⊢;rw [hB.1,←hA.1];exact hj
 ·rw [h] at hj ⊢;rw [hB.2,←hA.2];exact hj
end Go.Proofs.YtggcdinoflchjaaGreatDoor
namespace Go.Proofs.YtggcdinoflchjaaGreatDoor
open Go.Shelf Go.RowKit Go.Lib
def Zj9:DataW Unit:=.agg (faultsL.map fun n=>.lit (.string n))
theorem Zl8:(Rows.laid_squinch_hier_faults:DataW Unit)=Zj9:=by kernel_rfl
theorem Ziw:faultsL.length=6:=rfl
theorem Zix {W : World} (h : VarReads Tryz.prog W "squinch/hier.faults" Rows.laid_squinch_hier_faults) : FaultTab W := by
 rw [Zl8] at h;obtain ⟨g,t,cs,fuel,p,hg,hty,hvar,hd⟩:=h;obtain rfl : 0 = g := Yae ((show Tryz.prog.globalNamed "squinch/hier.faults" = some 0 by kernel_rfl).symm.trans hg)
 obtain rfl:146=t:=Yae ((show (Tryz.prog.globals[0]?).map (·.type)=some 146 by kernel_rfl).symm.trans hty);have each:∀ i (hi:i<faultsL.length),cs.toList[i]? = some (.string (S faultsL[i])):=by
  intro i hi;obtain ⟨fuel',d,q,hdi,he⟩:=array_elem Tryz.underlying146 hd i (by rw [Ziw] at hi;exact hi);rw [Yau,Yaa hi,YbS,Yba] at hdi;subst hdi;rw [ZfI] at he;obtain ⟨s,e0,q0,_⟩:=DataW.trod_string Tryz.underlying9 he;have e1:=Ya5 (·[0]?) e0;simp only [YbI,YbH] at e1;have e2:cs.toList[i]? = some (.string s):=by simpa using e1
  have q1:=Ya5 Prod.fst q0;simp only at q1
  injection q1 with q1
  injection q1 with q1
  rw [e2,q1,Zls]
 intro j v hj;have hjl:j<faultsL.length:=by
  rcases YaB j faultsL.length with h|h
  ·exact h
  ·rw [YaN (by unfold faultCells;rw [Yaz];exact h)] at hj;cases hj
 have hcell:W.cell? ⟨0,0+j,none⟩=cs.toList[j]?:=by
  rw [Ybc,World.var?_cell hg hvar j,Yb8]
 unfold faultCells at hj;rw [Yau,Yaa hjl,YbS] at hj;rw [hcell,each j hjl];exact hj
noncomputable def laidWorld4 (os:Os):World:=
 let w0:=World.holding Tryz.prog os ⟨#[],#[],[]⟩
 let put (h:Array Obj) (g:Nat) (cs:Array Value):Array Obj:=h.modify g fun
  | .cells _ t frozen=>.cells cs t frozen
  | o=>o
 let h1:=put w0.heap 3 (Lib.firstTab.map fun z=>Value.int .u8 z).toArray
 let h2:=put h1 4 ((List.range 16).flatMap fun i=>[Value.int .u8 (Lib.accLo i),Value.int .u8 (Lib.accHi i)]).toArray
 let h3:=put h2 2 opCells.toArray
 let h4:=put h3 0 faultCells.toArray
 { w0 with heap:=h4 }
def ZgR : List (String × DataW Unit) := [("unicode/utf8.acceptRanges", Rows.laid_unicode_utf8_acceptRanges), ("squinch/code.operators", Rows.laid_squinch_code_operators), ("squinch/hier.faults", Rows.laid_squinch_hier_faults), ("unicode/utf8.first", Rows.laid_unicode_utf8_first)]
structure HT6 (W:World):Prop where
 ct:CT W
 ft:FaultTab W
theorem Zq2 {W:World} (hL:laidMet Tryz.prog ZgR W):HT6 W:=
 ⟨⟨Zqe (Lib.laidMet.reads hL (.tail _ (.tail _ (.tail _ (.head _))))) (Lib.laidMet.reads hL (.head _)),ZoX (Lib.laidMet.reads hL (.tail _ (.head _)))⟩,Zix (Lib.laidMet.reads hL (.tail _ (.tail _ (.head _))))⟩
theorem ZqD (os:Os) (args:Array Value):laidMet Tryz.prog ZgR ((laidWorld4 os).forCall (fun _ _=>0) ⟨#[],args,[]⟩).memory:=
 (LaidIn.of_run (l:=ZgR) [3,4,2,0] 8 (by kernel_rfl) (by kernel_rfl) (by kernel_rfl) (by kernel_rfl)).met
end Go.Proofs.YtggcdinoflchjaaGreatDoor
namespace Go.Proofs.YtggcdinoflchjaaGreatDoor
open Go.RowKit
theorem Box.setTo {w:World} {B:Nat} {cs:Array Value} {t:TypeId} (h:Box w B cs t) (j:Nat) (u:Value) (cs':Array Value) (e:cs.setIfInBounds j u=cs'):Box (w.setCell ⟨B,j,none⟩ u) B cs' t:=e ▸ h.set j u
theorem set7 {w:World} {B:Nat} {t:TypeId} {a0 a1 a2 a3 a4 a5 a6:Value} (h:Box w B #[a0,a1,a2,a3,a4,a5,a6] t) (v0 v1 v2 v3 v4 v5 v6:Value) :
  Box (((((((w.setCell ⟨B,0,none⟩ v0).setCell ⟨B,1,none⟩ v1).setCell ⟨B,2,none⟩ v2).setCell ⟨B,3,none⟩ v3).setCell ⟨B,4,none⟩ v4).setCell ⟨B,5,none⟩ v5).setCell ⟨B,6,none⟩ v6) B #[v0,v1,v2,v3,v4,v5,v6] t/\Only (fun i=>i=B) w (((((((w.setCell ⟨B,0,none⟩ v0).setCell ⟨B,1,none⟩ v1).setCell ⟨B,2,none⟩ v2).setCell ⟨B,3,none⟩ v3).setCell ⟨B,4,none⟩ v4).setCell ⟨B,5,none⟩ v5).setCell ⟨B,6,none⟩ v6):=
 ⟨(((((((h.setTo 0 v0 #[v0,a1,a2,a3,a4,a5,a6] rfl).setTo 1 v1 #[v0,v1,a2,a3,a4,a5,a6] rfl).setTo 2 v2 #[v0,v1,v2,a3,a4,a5,a6] rfl).setTo 3 v3 #[v0,v1,v2,v3,a4,a5,a6] rfl).setTo 4 v4 #[v0,v1,v2,v3,v4,a5,a6] rfl).setTo 5 v5 #[v0,v1,v2,v3,v4,v5,a6] rfl).setTo 6 v6 #[v0,v1,v2,v3,v4,v5,v6] rfl),(((((((Yan (fun i=>i=B) w).setCell (p:=⟨B,0,none⟩) rfl v0).setCell (p:=⟨B,1,none⟩) rfl v1).setCell (p:=⟨B,2,none⟩) rfl v2).setCell (p:=⟨B,3,none⟩) rfl v3).setCell (p:=⟨B,4,none⟩) rfl v4).setCell (p:=⟨B,5,none⟩) rfl v5).setCell (p:=⟨B,6,none⟩) rfl v6⟩
theorem ZdQ {w:World} {B:Nat} {t:TypeId} {a0 a1 a2 a3 a4 a5 a6:Value} (h:Box w B #[a0,a1,a2,a3,a4,a5,a6] t):w.cell? ⟨B,0,none⟩=some a0/\w.cell? ⟨B,1,none⟩=some a1/\w.cell? ⟨B,2,none⟩=some a2/\w.cell? ⟨B,3,none⟩=some a3/\w.cell? ⟨B,4,none⟩=some a4/\w.cell? ⟨B,5,none⟩=some a5/\w.cell? ⟨B,6,none⟩=some a6:=⟨h.cell 0 rfl,h.cell 1 rfl,h.cell 2 rfl,h.cell 3 rfl,h.cell 4 rfl,h.cell 5 rfl,h.cell 6 rfl⟩
theorem Zhl {w:World} {B:Nat} {t:TypeId} {cs:Array Value} (h:Box w B cs t):w.frozen? ⟨B,0,none⟩=false/\w.frozen? ⟨B,1,none⟩=false/\w.frozen? ⟨B,2,none⟩=false/\w.frozen? ⟨B,3,none⟩=false/\w.frozen? ⟨B,4,none⟩=false/\w.frozen? ⟨B,5,none⟩=false/\w.frozen? ⟨B,6,none⟩=false:=⟨h.free 0,h.free 1,h.free 2,h.free 3,h.free 4,h.free 5,h.free 6⟩
theorem ZlH {w:World} {B:Nat} {t:TypeId} {a0 a1 a2 a3 a4 a5 a6 a7:Value} (h:Box w B #[a0,a1,a2,a3,a4,a5,a6,a7] t):w.cell? ⟨B,0,none⟩=some a0/\w.cell? ⟨B,1,none⟩=some a1/\w.cell? ⟨B,2,none⟩=some a2/\w.cell? ⟨B,3,none⟩=some a3/\w.cell? ⟨B,4,none⟩=some a4/\w.cell? ⟨B,5,none⟩=some a5/\w.cell? ⟨B,6,none⟩=some a6/\w.cell? ⟨B,7,none⟩=some a7:=⟨h.cell 0 rfl,h.cell 1 rfl,h.cell 2 rfl,h.cell 3 rfl,h.cell 4 rfl,h.cell 5 rfl,h.cell 6 rfl,h.cell 7 rfl⟩
structure Wise (es:List Ent):Prop where
 sh:Shape es
 ac:Acyc es
 par:Zc3 es
 uq:Uniq es
 cl:∀ (i:Nat) (e:Ent),es[i]? = some e->Zal e.cls.name=true
 obj:es[0]? = some ⟨objC,none,[]⟩
 flt:es[1]? = some ⟨ZbZ,some 0,[]⟩
 up:∀ (i:Nat) (e:Ent),es[i]? = some e->i ≠ 0->∃ j,e.up=some j
 lk:∀ (i:Nat) (e:Ent),es[i]? = some e->∀ k ∈ e.lk,Zcn es k=true
 itf:∀ (i:Nat) (e:Ent),es[i]? = some e->e.cls.itf=true->e.up=some 0/\e.cls.flds=[]/\∀ m ∈ e.cls.mths,m.abs=true
 sup:∀ (i:Nat) (e:Ent) (j:Nat),es[i]? = some e->e.up=some j->Zcn es j=false
 mth:∀ (i:Nat) (e:Ent),es[i]? = some e->(e.cls.mths.map Mth.name).Nodup
 fld:∀ (i:Nat) (e:Ent),es[i]? = some e->(e.cls.flds.map Fld.name).Nodup
 good:Zgb es
theorem ZfQ {l:List (List UInt8)} (h:ZbB l=true):l.Nodup:=by
 unfold ZbB Zbu at h;rw [YaE] at h;rw [List.nodup_iff_pairwise_ne,List.pairwise_iff_getElem];intro i j hi hj hij he;have h1:=h j (YbL.2 hj);unfold Ze6 at h1;rw [Ybg,YaT] at h1;refine h1 l[i] ?_ ?_
 ·rw [List.mem_iff_getElem];exact ⟨i,by rw [Yay];omega,by rw [List.getElem_take]⟩
 ·rw [Yam,Yaa hj,he];simp
theorem ZaV:∀ i,i<8->∀ e,startL[i]? = some e->Zal e.cls.name=true/\(i ≠ 0->e.up.isSome=true)/\e.lk=[]/\e.cls.itf=false/\(∀ j,e.up=some j->j<2)/\e.cls.mths=[]/\e.cls.flds.length<=1:=by
 have h:startL.all (fun e=>Zal e.cls.name && (decide (e.lk=[]) && (decide (e.cls.itf=false) && (decide (e.cls.mths.length=0) && decide (e.cls.flds.length<=1)))))=true:=by decide
 have hu:∀ i,i<8->(i=0\/((startL[i]?).bind Ent.up).isSome=true)/\∀ j,(startL[i]?).bind Ent.up=some j->j<2:=by decide
 intro i hi e he;have h1:=YaE.1 h e (Yaf he);simp only [Yar,YaO] at h1;obtain ⟨a,b,c,d,f⟩:=h1;have h2:=hu i hi;rw [he] at h2;exact ⟨a,fun h0=>h2.1.resolve_left h0,b,c,h2.2,YaY.1 d,f⟩
theorem Lined.itf_sup {cs:List Cls} (h:Lined cs) {c:Cls} (hc:c ∈ cs) (hi:c.itf=true):c.sup=objL/\c.flds=[]/\∀ m ∈ c.mths,m.abs=true:=by
 have h1:=(h.good c hc).parts.2;unfold Cls.fine at h1;simp only [Yar] at h1;have h2:=h1.2.1;unfold Cls.sort at h2;split at h2
 ·cases h2
 ·split at h2
  ·cases h2
  ·simp only [Yar,YaO,YaE] at h2;exact ⟨h2.2.1,YaY.1 h2.2.2.1,h2.2.2.2⟩
theorem Lined.dist {cs:List Cls} (h:Lined cs) {c:Cls} (hc:c ∈ cs):(c.flds.map Fld.name).Nodup/\(c.mths.map Mth.name).Nodup:=by
 have h1:=(h.good c hc).parts.2;unfold Cls.fine at h1;simp only [Yar] at h1;have h2:=h1.1;unfold Cls.names at h2;simp only [Yar] at h2;exact ⟨ZfQ h2.2.2.2.2.1,ZfQ h2.2.2.2.2.2⟩
theorem Zbn {cs:List Cls} {i:Nat} (hi:i<8):(newT cs)[i]? = startL[i]?:=by
 unfold newT;rw [YaP (by rw [ZaG];exact hi)]
theorem Zdj {cs:List Cls} {i:Nat} (hi:i<8):(Zat cs)[i]? = startL[i]?:=by
 unfold Zat;rw [YaP (by rw [ZaG];exact hi)]
theorem Zno {cs:List Cls}:Zad (Zat cs) objL=some 0:=by
 unfold Zad Zat;rw [Ycw];rfl
theorem Lined.wise {cs:List Cls} (h:Lined cs) (hsh:Shape (newT cs)) (hac:Acyc (newT cs)) (hg:Zgb (newT cs)):Wise (newT cs) where
 sh:=hsh
 ac:=hac
 par:=h.par
 uq:=h.uniq
 cl:=fun i e he=>by
  rcases Zbb he with ⟨h1,h2⟩|⟨h1,c,h2,rfl⟩
  ·exact (ZaV i h1 e h2).1
  ·exact (h.good c (Yaf h2)).name
 obj:=Zbn (by omega)
 flt:=Zbn (by omega)
 up:=fun i e he h0=>by
  rcases Zbb he with ⟨h1,h2⟩|⟨h1,c,h2,rfl⟩
  ·exact YaM.1 ((ZaV i h1 e h2).2.1 h0)
  ·exact YaM.1 (h.ups c (Yaf h2))
 lk:=fun i e he k hk=>by
  rcases Zbb he with ⟨h1,h2⟩|⟨h1,c,h2,rfl⟩
  ·rw [(ZaV i h1 e h2).2.2.1] at hk;cases hk
  ·obtain ⟨n,hn1,hn2⟩:=Ya6.1 (show k ∈ c.like.map fun n=>(Zce (Zat cs) n).getD 0 from hk);have h5:=YaE.1 (h.likes c (Yaf h2)) n hn1;obtain ⟨j,hj⟩:=YaM.1 h5;rw [hj] at hn2;obtain rfl:j=k:=hn2;rw [Zeb (Zb8 cs)];exact (ZcG hj).2
 itf:=fun i e he hi=>by
  rcases Zbb he with ⟨h1,h2⟩|⟨h1,c,h2,rfl⟩
  ·rw [(ZaV i h1 e h2).2.2.2.1] at hi;cases hi
  ·obtain ⟨a,b,d⟩:=h.itf_sup (Yaf h2) hi;refine ⟨?_,b,d⟩;show upE (Zat cs) c.sup=some 0
   rw [a];unfold upE;rw [Zno];have h3:Zcn (Zat cs) 0=false:=by unfold Zcn;rw [Zdj (by omega)];rfl
   have h4:Ze2 (Zat cs) 0=false:=by unfold Ze2;rw [Zdj (by omega)];rfl
   dsimp only;rw [h3,h4];rfl
 sup:=fun i e j he hj=>by
  rcases Zbb he with ⟨h1,h2⟩|⟨h1,c,h2,rfl⟩
  ·have h3:=(ZaV i h1 e h2).2.2.2.2.1 j hj;have h4:∀ j,j<2->Zcn startL j=false:=by decide
   unfold Zcn;rw [Zbn (by omega)];exact h4 j h3
  ·have h3:upE (Zat cs) c.sup=some j:=hj;unfold upE at h3;cases hp:Zad (Zat cs) c.sup with
   | none=>rw [hp] at h3;cases h3
   | some i2=>
    rw [hp] at h3;dsimp only at h3;split at h3
    ·cases h3
    ·rename_i hn
     obtain rfl:=Yae h3;rw [Zeb (Zb8 cs)];cases hq:Zcn (Zat cs) i2
     ·rfl
     ·rw [hq] at hn;exact absurd rfl hn
 mth:=fun i e he=>by
  rcases Zbb he with ⟨h1,h2⟩|⟨h1,c,h2,rfl⟩
  ·rw [(ZaV i h1 e h2).2.2.2.2.2.1];exact Yb7
  ·exact (h.dist (Yaf h2)).2
 fld:=fun i e he=>by
  rcases Zbb he with ⟨h1,h2⟩|⟨h1,c,h2,rfl⟩
  ·have h3:=(ZaV i h1 e h2).2.2.2.2.2.2
   match hf:e.cls.flds,h3 with
   | [],_=>exact Yb7
   | [f],_=>simp
   | f :: g :: l,h3=>simp at h3
  ·exact (h.dist (Yaf h2)).1
 good:=hg
