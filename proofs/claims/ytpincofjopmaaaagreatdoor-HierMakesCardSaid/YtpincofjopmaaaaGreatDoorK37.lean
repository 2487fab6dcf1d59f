/-
  Texts LOpen, LLaid, HLaid, HSet, HFew6, HWise: laws that the claims lean on.
  Conditions: as each law says.
-/
import Derived.Deep.Slices
import Derived.Carry
import Derived.OpenShut
import Derived.Deep.DeepHandedRow
import Derived.ProofKit
import Derived.Test.YtpincofjopmaaaaGreatDoorCards
import Derived.Test.YtpincofjopmaaaaGreatDoorTie
import Derived.Lib.LaidIn
import Derived.Lib.LaidU8T
import Derived.Deep.DeepWitnessRowRef
import Derived.SizedLaws
import Derived.Test.YtpincofjopmaaaaGreatDoorK36
set_option maxRecDepth 100000
set_option maxHeartbeats 16000000
namespace Go.Proofs.YtpincofjopmaaaaGreatDoor
set_option maxRecDepth 100000
open Go.ChangeShapes Go.WideShapes Go.ChangeAt Go.RowKit Go.Lib Go.WideMaps Go.WideElems Go.Deep
instance:Inhabited Ins:=⟨⟨[],0,[]⟩⟩
instance:Inhabited Fld:=⟨⟨[],[],false⟩⟩
instance:Inhabited Cat:=⟨⟨0,0,0,[]⟩⟩
instance:Inhabited Mth:=⟨⟨[],[],[],false,0,[],[]⟩⟩
instance:Inhabited Cls:=⟨⟨[],[],[],false,false,false,[],[]⟩⟩
theorem laidOut:laidOutB Tryz.prog=true:=by kernel_rfl
theorem elems_of {H:Type} {enc:TypeId × Value->H} {w:World} {held:Bool} {fuel:Nat} {α:Type} [Inhabited α] {R:ElemRel α} {p:α->Prop} {t e:TypeId} {n:Nat} {cs:List Value} {x:DataW H × List MemPlace}
  (ht:Tryz.prog.underlying t=some (.slice e)) (hn:Tryz.prog.cellsOf e=n) (hn0:0<n) (h:DataW.trod enc Tryz.prog w 0 (fun _=>true) held fuel t cs=some x)
  (each:∀ (fuel:Nat) (cs':List Value) (y:DataW H × List MemPlace),cs'.length=n->DataW.trod enc Tryz.prog w 0 (fun _=>true) held fuel e cs'=some y->∃ z:α,p z/\∃ v:Value,R Anyw w z v/\v.cells.toList=cs') :
  ∃ (v:Value) (l:List α),cs=[v]/\Src n R Anyw w v l/\(∀ z ∈ l,p z)/\l.length<=9223372036854775807:=by
 rcases open_slice ht h with ⟨hcs,_⟩|⟨a,len,cap,m,k,D,Pl,hcs,_,hl,hm,hmm,_,hi⟩
 ·exact ⟨_,[],hcs,.nil,(fun z hz=>by simp at hz),by simp⟩
 ·have hmx:cap<=9223372036854775807:=by unfold maxLen at hm;omega
  have hlm:len<=m:=by rw [hmm];simp;exact hl
  have each':∀ i,i<len->∃ z:α,p z/\∃ v:Value,R Anyw w z v/\v.cells.size=n/\∀ (j:Nat) u,v.cells[j]? = some u->w.cell? (a.add (i * n+j))=some u:=by
   intro i hilt;obtain ⟨cs',hc,ht'⟩:=hi i (by omega);rw [hn] at hc;obtain ⟨_,hcl,hat⟩:=World.cells?_some hc;obtain ⟨z,hz,v,hv,hvc⟩:=each _ cs' _ hcl ht';have hsz:v.cells.size=n:=by rw [←Array.length_toList,hvc,hcl]
   refine ⟨z,hz,v,hv,hsz,fun j u hj=>?_⟩;have hjn:=cells_lt hsz hj;have q:=hat j hjn;rw [Go.Deep.add_add] at q;rw [q,←hvc,Array.getElem?_toList];exact hj
  obtain ⟨F,hF⟩:=choose_lt (α:=α) each';rcases Nat.eq_zero_or_pos len with h0|h0
  ·subst h0;exact ⟨_,[],hcs,.inl ⟨_,_,rfl,rfl⟩,(fun z hz=>by simp at hz),by simp⟩
  ·obtain ⟨_,v0,_,hs0,hc0⟩:=hF 0 h0;have hc00:=hc0 0 (v0.cells[0]'(by omega)) (Array.getElem?_eq_getElem _);obtain ⟨b,o,ha⟩:=add_plain' hc00;have e:a.add (0 * n+0)=a:=by unfold Addr.add;simp
   have ha':a=⟨b,o,none⟩:=by rw [←e];exact ha
   subst ha';have hb:b<w.heap.size:=World.block_lt_of_cell? w _ (by rw [e] at hc00;exact hc00);have hlen:((List.range len).map F).length=len:=by simp
   have hget:∀ (j:Nat) f,((List.range len).map F)[j]? = some f->j<len/\f=F j:=by
    intro j f hj;have hjl:j<len:=by
     rcases Nat.lt_or_ge j len with h|h
     ·exact h
     ·simp [List.getElem?_eq_none (show (List.range len).length<=j by simpa using h)] at hj
    simp [hjl] at hj
    exact ⟨hjl,hj.symm⟩
   refine ⟨_,(List.range len).map F,hcs,.inr ⟨b,o,cap,by rw [hlen],⟨trivial,hb,by rw [hlen];exact hl,hmx⟩,fun k z hz=>?_⟩,fun z hz=>?_,by rw [hlen];omega⟩
   ·obtain ⟨hk,rfl⟩:=hget k z hz;obtain ⟨_,v,hv,hs,hc⟩:=hF k hk;refine ⟨v,hv,hs,fun j u hj=>?_⟩;have q:=hc j u hj;rw [Addr.add_mid] at q;rw [Nat.add_assoc];exact q
   ·obtain ⟨i,hi',rfl⟩:=List.mem_map.1 hz;exact (hF i (by simpa using hi')).1
theorem oc_str:Tryz.prog.cellsOf 9=1:=by kernel_rfl
theorem oc_bool:Tryz.prog.cellsOf 4=1:=by kernel_rfl
theorem oc_int:Tryz.prog.cellsOf 3=1:=by kernel_rfl
theorem oc_i64:Tryz.prog.cellsOf 2=1:=by kernel_rfl
theorem oc_lstr:Tryz.prog.cellsOf 22=1:=by kernel_rfl
theorem oc_lins:Tryz.prog.cellsOf 30=1:=by kernel_rfl
theorem oc_lcat:Tryz.prog.cellsOf 31=1:=by kernel_rfl
theorem oc_lfld:Tryz.prog.cellsOf 23=1:=by kernel_rfl
theorem oc_lmth:Tryz.prog.cellsOf 24=1:=by kernel_rfl
theorem oc_ins:Tryz.prog.cellsOf 70=3:=by kernel_rfl
theorem oc_cat:Tryz.prog.cellsOf 141=4:=by kernel_rfl
theorem oc_fld:Tryz.prog.cellsOf 62=3:=by kernel_rfl
theorem oc_mth:Tryz.prog.cellsOf 33=7:=by kernel_rfl
theorem oc_cls:Tryz.prog.cellsOf 26=8:=by kernel_rfl
theorem open_str {H:Type} {enc:TypeId × Value->H} {w:World} {held:Bool} {fuel:Nat} {cs:List Value} {x:DataW H × List MemPlace} (h:DataW.trod enc Tryz.prog w 0 (fun _=>true) held fuel 9 cs=some x) :
  ∃ z:List UInt8,strOk z/\cs=[.string (S z)]:=by
 obtain ⟨s,e,_,wd⟩:=DataW.trod_string Tryz.underlying9 h;exact ⟨s.data.toList,str_len s wd,by rw [e,S_data]⟩
theorem open_lstr {H:Type} {enc:TypeId × Value->H} {w:World} {held:Bool} {fuel:Nat} {cs:List Value} {x:DataW H × List MemPlace} (h:DataW.trod enc Tryz.prog w 0 (fun _=>true) held fuel 22 cs=some x) :
  ∃ (v:Value) (l:List (List UInt8)),cs=[v]/\Src 1 StrR Anyw w v l/\(∀ z ∈ l,(fun z:(List UInt8)=>strOk z) z)/\l.length<=9223372036854775807:=
 elems_of (p:=fun z:(List UInt8)=>strOk z) Tryz.underlying22 oc_str (by decide) h (fun _ cs' _ hl ht=>by obtain ⟨z,k,e⟩:=open_str ht;exact ⟨z,k,.string (S z),rfl,by rw [e];rfl⟩)
theorem open_ins {H:Type} {enc:TypeId × Value->H} {w:World} {held:Bool} {fuel:Nat} {cs:List Value} {x:DataW H × List MemPlace} (hl:cs.length=3)
  (h:DataW.trod enc Tryz.prog w 0 (fun _=>true) held fuel 70 cs=some x):∃ z:Ins,(i64 z.n/\strOk z.op/\strOk z.s)/\∃ v:Value,InsR Anyw w z v/\v.cells.toList=cs:=by
 obtain ⟨ys,n,_,_,_,hyl,hall⟩:=DataW.trod_struct Tryz.underlying70 h
 match cs,hl with
 | [c0,c1,c2],_=>
  have g0:DataW.trod enc Tryz.prog w 0 (fun _=>true) held n 9 [c0]=ys[0]?:=by
   have g:=hall 0 _ rfl
   change DataW.trod enc Tryz.prog w 0 (fun _=>true) held n 9 (([c0,c1,c2].drop 0).take (Tryz.prog.cellsOf 9))=ys[0]? at g
   rw [oc_str] at g;exact g
  rw [List.getElem?_eq_getElem (by rw [hyl];decide)] at g0;have g1:DataW.trod enc Tryz.prog w 0 (fun _=>true) held n 2 [c1]=ys[1]?:=by
   have g:=hall 1 _ rfl
   change DataW.trod enc Tryz.prog w 0 (fun _=>true) held n 2 (([c0,c1,c2].drop 1).take (Tryz.prog.cellsOf 2))=ys[1]? at g
   rw [oc_i64] at g;exact g
  rw [List.getElem?_eq_getElem (by rw [hyl];decide)] at g1;have g2:DataW.trod enc Tryz.prog w 0 (fun _=>true) held n 9 [c2]=ys[2]?:=by
   have g:=hall 2 _ rfl
   change DataW.trod enc Tryz.prog w 0 (fun _=>true) held n 9 (([c0,c1,c2].drop 2).take (Tryz.prog.cellsOf 9))=ys[2]? at g
   rw [oc_str] at g;exact g
  rw [List.getElem?_eq_getElem (by rw [hyl];decide)] at g2;obtain ⟨z0,k0,e0⟩:=open_str g0;obtain ⟨z1,e1,_,k1⟩:=DataW.trod_int Tryz.underlying2 g1;obtain ⟨z2,k2,e2⟩:=open_str g2;simp only [List.cons.injEq,and_true] at e0;subst e0;simp only [List.cons.injEq,and_true] at e1;subst e1;simp only [List.cons.injEq,and_true] at e2;subst e2;exact ⟨⟨z0,z1,z2⟩,⟨bounds_i64 k1,k0,k2⟩,_,rfl,rfl⟩
theorem open_lins {H:Type} {enc:TypeId × Value->H} {w:World} {held:Bool} {fuel:Nat} {cs:List Value} {x:DataW H × List MemPlace} (h:DataW.trod enc Tryz.prog w 0 (fun _=>true) held fuel 30 cs=some x) :
  ∃ (v:Value) (l:List Ins),cs=[v]/\Src 3 InsR Anyw w v l/\(∀ z ∈ l,(fun z:Ins=>i64 z.n/\strOk z.op/\strOk z.s) z)/\l.length<=9223372036854775807:=
 elems_of (p:=fun z:Ins=>i64 z.n/\strOk z.op/\strOk z.s) Tryz.underlying30 oc_ins (by decide) h (fun _ cs' _ hl ht=>open_ins hl ht)
theorem open_cat {H:Type} {enc:TypeId × Value->H} {w:World} {held:Bool} {fuel:Nat} {cs:List Value} {x:DataW H × List MemPlace} (hl:cs.length=4)
  (h:DataW.trod enc Tryz.prog w 0 (fun _=>true) held fuel 141 cs=some x):∃ z:Cat,(z.held/\strOk z.cls)/\∃ v:Value,CatR Anyw w z v/\v.cells.toList=cs:=by
 obtain ⟨ys,n,_,_,_,hyl,hall⟩:=DataW.trod_struct Tryz.underlying141 h
 match cs,hl with
 | [c0,c1,c2,c3],_=>
  have g0:DataW.trod enc Tryz.prog w 0 (fun _=>true) held n 3 [c0]=ys[0]?:=by
   have g:=hall 0 _ rfl
   change DataW.trod enc Tryz.prog w 0 (fun _=>true) held n 3 (([c0,c1,c2,c3].drop 0).take (Tryz.prog.cellsOf 3))=ys[0]? at g
   rw [oc_int] at g;exact g
  rw [List.getElem?_eq_getElem (by rw [hyl];decide)] at g0;have g1:DataW.trod enc Tryz.prog w 0 (fun _=>true) held n 3 [c1]=ys[1]?:=by
   have g:=hall 1 _ rfl
   change DataW.trod enc Tryz.prog w 0 (fun _=>true) held n 3 (([c0,c1,c2,c3].drop 1).take (Tryz.prog.cellsOf 3))=ys[1]? at g
   rw [oc_int] at g;exact g
  rw [List.getElem?_eq_getElem (by rw [hyl];decide)] at g1;have g2:DataW.trod enc Tryz.prog w 0 (fun _=>true) held n 3 [c2]=ys[2]?:=by
   have g:=hall 2 _ rfl
   change DataW.trod enc Tryz.prog w 0 (fun _=>true) held n 3 (([c0,c1,c2,c3].drop 2).take (Tryz.prog.cellsOf 3))=ys[2]? at g
   rw [oc_int] at g;exact g
  rw [List.getElem?_eq_getElem (by rw [hyl];decide)] at g2;have g3:DataW.trod enc Tryz.prog w 0 (fun _=>true) held n 9 [c3]=ys[3]?:=by
   have g:=hall 3 _ rfl
   change DataW.trod enc Tryz.prog w 0 (fun _=>true) held n 9 (([c0,c1,c2,c3].drop 3).take (Tryz.prog.cellsOf 9))=ys[3]? at g
   rw [oc_str] at g;exact g
  rw [List.getElem?_eq_getElem (by rw [hyl];decide)] at g3;obtain ⟨z0,e0,_,k0⟩:=DataW.trod_int Tryz.underlying3 g0;obtain ⟨z1,e1,_,k1⟩:=DataW.trod_int Tryz.underlying3 g1;obtain ⟨z2,e2,_,k2⟩:=DataW.trod_int Tryz.underlying3 g2;obtain ⟨z3,k3,e3⟩:=open_str g3;simp only [List.cons.injEq,and_true] at e0;subst e0;simp only [List.cons.injEq,and_true] at e1;subst e1;simp only [List.cons.injEq,and_true] at e2;subst e2;simp only [List.cons.injEq,and_true] at e3;subst e3;exact ⟨⟨z0,z1,z2,z3⟩,⟨⟨bounds_i64 k0,bounds_i64 k1,bounds_i64 k2⟩,k3⟩,_,rfl,rfl⟩
theorem open_lcat {H:Type} {enc:TypeId × Value->H} {w:World} {held:Bool} {fuel:Nat} {cs:List Value} {x:DataW H × List MemPlace} (h:DataW.trod enc Tryz.prog w 0 (fun _=>true) held fuel 31 cs=some x) :
  ∃ (v:Value) (l:List Cat),cs=[v]/\Src 4 CatR Anyw w v l/\(∀ z ∈ l,(fun z:Cat=>z.held/\strOk z.cls) z)/\l.length<=9223372036854775807:=
 elems_of (p:=fun z:Cat=>z.held/\strOk z.cls) Tryz.underlying31 oc_cat (by decide) h (fun _ cs' _ hl ht=>open_cat hl ht)
theorem open_fld {H:Type} {enc:TypeId × Value->H} {w:World} {held:Bool} {fuel:Nat} {cs:List Value} {x:DataW H × List MemPlace} (hl:cs.length=3)
  (h:DataW.trod enc Tryz.prog w 0 (fun _=>true) held fuel 62 cs=some x):∃ z:Fld,(strOk z.name/\strOk z.kind)/\∃ v:Value,FldR Anyw w z v/\v.cells.toList=cs:=by
 obtain ⟨ys,n,_,_,_,hyl,hall⟩:=DataW.trod_struct Tryz.underlying62 h
 match cs,hl with
 | [c0,c1,c2],_=>
  have g0:DataW.trod enc Tryz.prog w 0 (fun _=>true) held n 9 [c0]=ys[0]?:=by
   have g:=hall 0 _ rfl
   change DataW.trod enc Tryz.prog w 0 (fun _=>true) held n 9 (([c0,c1,c2].drop 0).take (Tryz.prog.cellsOf 9))=ys[0]? at g
   rw [oc_str] at g;exact g
  rw [List.getElem?_eq_getElem (by rw [hyl];decide)] at g0;have g1:DataW.trod enc Tryz.prog w 0 (fun _=>true) held n 9 [c1]=ys[1]?:=by
   have g:=hall 1 _ rfl
   change DataW.trod enc Tryz.prog w 0 (fun _=>true) held n 9 (([c0,c1,c2].drop 1).take (Tryz.prog.cellsOf 9))=ys[1]? at g
   rw [oc_str] at g;exact g
  rw [List.getElem?_eq_getElem (by rw [hyl];decide)] at g1;have g2:DataW.trod enc Tryz.prog w 0 (fun _=>true) held n 4 [c2]=ys[2]?:=by
   have g:=hall 2 _ rfl
   change DataW.trod enc Tryz.prog w 0 (fun _=>true) held n 4 (([c0,c1,c2].drop 2).take (Tryz.prog.cellsOf 4))=ys[2]? at g
   rw [oc_bool] at g;exact g
  rw [List.getElem?_eq_getElem (by rw [hyl];decide)] at g2;obtain ⟨z0,k0,e0⟩:=open_str g0;obtain ⟨z1,k1,e1⟩:=open_str g1;obtain ⟨z2,e2,_⟩:=DataW.trod_bool Tryz.underlying4 g2;simp only [List.cons.injEq,and_true] at e0;subst e0;simp only [List.cons.injEq,and_true] at e1;subst e1;simp only [List.cons.injEq,and_true] at e2;subst e2;exact ⟨⟨z0,z1,z2⟩,⟨k0,k1⟩,_,rfl,rfl⟩
theorem open_lfld {H:Type} {enc:TypeId × Value->H} {w:World} {held:Bool} {fuel:Nat} {cs:List Value} {x:DataW H × List MemPlace} (h:DataW.trod enc Tryz.prog w 0 (fun _=>true) held fuel 23 cs=some x) :
  ∃ (v:Value) (l:List Fld),cs=[v]/\Src 3 FldR Anyw w v l/\(∀ z ∈ l,(fun z:Fld=>strOk z.name/\strOk z.kind) z)/\l.length<=9223372036854775807:=
 elems_of (p:=fun z:Fld=>strOk z.name/\strOk z.kind) Tryz.underlying23 oc_fld (by decide) h (fun _ cs' _ hl ht=>open_fld hl ht)
theorem open_mth {H:Type} {enc:TypeId × Value->H} {w:World} {held:Bool} {fuel:Nat} {cs:List Value} {x:DataW H × List MemPlace} (hl:cs.length=7)
  (h:DataW.trod enc Tryz.prog w 0 (fun _=>true) held fuel 33 cs=some x):∃ z:Mth,(z.held/\z.Fit/\∀ y ∈ z.code,strOk y.op)/\∃ v:Value,MthR Anyw w z v/\v.cells.toList=cs:=by
 obtain ⟨ys,n,_,_,_,hyl,hall⟩:=DataW.trod_struct Tryz.underlying33 h
 match cs,hl with
 | [c0,c1,c2,c3,c4,c5,c6],_=>
  have g0:DataW.trod enc Tryz.prog w 0 (fun _=>true) held n 9 [c0]=ys[0]?:=by
   have g:=hall 0 _ rfl
   change DataW.trod enc Tryz.prog w 0 (fun _=>true) held n 9 (([c0,c1,c2,c3,c4,c5,c6].drop 0).take (Tryz.prog.cellsOf 9))=ys[0]? at g
   rw [oc_str] at g;exact g
  rw [List.getElem?_eq_getElem (by rw [hyl];decide)] at g0;have g1:DataW.trod enc Tryz.prog w 0 (fun _=>true) held n 22 [c1]=ys[1]?:=by
   have g:=hall 1 _ rfl
   change DataW.trod enc Tryz.prog w 0 (fun _=>true) held n 22 (([c0,c1,c2,c3,c4,c5,c6].drop 1).take (Tryz.prog.cellsOf 22))=ys[1]? at g
   rw [oc_lstr] at g;exact g
  rw [List.getElem?_eq_getElem (by rw [hyl];decide)] at g1;have g2:DataW.trod enc Tryz.prog w 0 (fun _=>true) held n 9 [c2]=ys[2]?:=by
   have g:=hall 2 _ rfl
   change DataW.trod enc Tryz.prog w 0 (fun _=>true) held n 9 (([c0,c1,c2,c3,c4,c5,c6].drop 2).take (Tryz.prog.cellsOf 9))=ys[2]? at g
   rw [oc_str] at g;exact g
  rw [List.getElem?_eq_getElem (by rw [hyl];decide)] at g2;have g3:DataW.trod enc Tryz.prog w 0 (fun _=>true) held n 4 [c3]=ys[3]?:=by
   have g:=hall 3 _ rfl
   change DataW.trod enc Tryz.prog w 0 (fun _=>true) held n 4 (([c0,c1,c2,c3,c4,c5,c6].drop 3).take (Tryz.prog.cellsOf 4))=ys[3]? at g
   rw [oc_bool] at g;exact g
  rw [List.getElem?_eq_getElem (by rw [hyl];decide)] at g3;have g4:DataW.trod enc Tryz.prog w 0 (fun _=>true) held n 3 [c4]=ys[4]?:=by
   have g:=hall 4 _ rfl
   change DataW.trod enc Tryz.prog w 0 (fun _=>true) held n 3 (([c0,c1,c2,c3,c4,c5,c6].drop 4).take (Tryz.prog.cellsOf 3))=ys[4]? at g
   rw [oc_int] at g;exact g
  rw [List.getElem?_eq_getElem (by rw [hyl];decide)] at g4;have g5:DataW.trod enc Tryz.prog w 0 (fun _=>true) held n 30 [c5]=ys[5]?:=by
   have g:=hall 5 _ rfl
   change DataW.trod enc Tryz.prog w 0 (fun _=>true) held n 30 (([c0,c1,c2,c3,c4,c5,c6].drop 5).take (Tryz.prog.cellsOf 30))=ys[5]? at g
   rw [oc_lins] at g;exact g
  rw [List.getElem?_eq_getElem (by rw [hyl];decide)] at g5;have g6:DataW.trod enc Tryz.prog w 0 (fun _=>true) held n 31 [c6]=ys[6]?:=by
   have g:=hall 6 _ rfl
   change DataW.trod enc Tryz.prog w 0 (fun _=>true) held n 31 (([c0,c1,c2,c3,c4,c5,c6].drop 6).take (Tryz.prog.cellsOf 31))=ys[6]? at g
   rw [oc_lcat] at g;exact g
  rw [List.getElem?_eq_getElem (by rw [hyl];decide)] at g6;obtain ⟨z0,k0,e0⟩:=open_str g0;obtain ⟨v1,z1,e1,q1,k1,n1⟩:=open_lstr g1;obtain ⟨z2,k2,e2⟩:=open_str g2;obtain ⟨z3,e3,_⟩:=DataW.trod_bool Tryz.underlying4 g3;obtain ⟨z4,e4,_,k4⟩:=DataW.trod_int Tryz.underlying3 g4;obtain ⟨v5,z5,e5,q5,k5,n5⟩:=open_lins g5;obtain ⟨v6,z6,e6,q6,k6,n6⟩:=open_lcat g6;simp only [List.cons.injEq,and_true] at e0;subst e0;simp only [List.cons.injEq,and_true] at e1;subst e1;simp only [List.cons.injEq,and_true] at e2;subst e2;simp only [List.cons.injEq,and_true] at e3;subst e3;simp only [List.cons.injEq,and_true] at e4;subst e4;simp only [List.cons.injEq,and_true] at e5;subst e5;simp only [List.cons.injEq,and_true] at e6;subst e6;exact ⟨⟨z0,z1,z2,z3,z4,z5,z6⟩,⟨⟨bounds_i64 k4,fun y hy=>(k5 y hy).1,fun y hy=>(k6 y hy).1⟩,⟨k0,k2,k1,fun y hy=>(k5 y hy).2.2,fun y hy=>(k6 y hy).2,n1,n5,n6⟩,fun y hy=>(k5 y hy).2.1⟩,_,⟨_,_,_,rfl,q1,q5,q6⟩,rfl⟩
theorem open_lmth {H:Type} {enc:TypeId × Value->H} {w:World} {held:Bool} {fuel:Nat} {cs:List Value} {x:DataW H × List MemPlace} (h:DataW.trod enc Tryz.prog w 0 (fun _=>true) held fuel 24 cs=some x) :
  ∃ (v:Value) (l:List Mth),cs=[v]/\Src 7 MthR Anyw w v l/\(∀ z ∈ l,(fun z:Mth=>z.held/\z.Fit/\∀ y ∈ z.code,strOk y.op) z)/\l.length<=9223372036854775807:=
 elems_of (p:=fun z:Mth=>z.held/\z.Fit/\∀ y ∈ z.code,strOk y.op) Tryz.underlying24 oc_mth (by decide) h (fun _ cs' _ hl ht=>open_mth hl ht)
def Cls.real (c:Cls):Prop:=c.held/\c.Fit/\∀ m ∈ c.mths,∀ y ∈ m.code,strOk y.op
theorem open_cls {H:Type} {enc:TypeId × Value->H} {w:World} {held:Bool} {fuel:Nat} {cs:List Value} {x:DataW H × List MemPlace} (hl:cs.length=8)
  (h:DataW.trod enc Tryz.prog w 0 (fun _=>true) held fuel 26 cs=some x):∃ z:Cls,z.real/\∃ v:Value,ClsR Anyw w z v/\v.cells.toList=cs:=by
 obtain ⟨ys,n,_,_,_,hyl,hall⟩:=DataW.trod_struct Tryz.underlying26 h
 match cs,hl with
 | [c0,c1,c2,c3,c4,c5,c6,c7],_=>
  have g0:DataW.trod enc Tryz.prog w 0 (fun _=>true) held n 9 [c0]=ys[0]?:=by
   have g:=hall 0 _ rfl
   change DataW.trod enc Tryz.prog w 0 (fun _=>true) held n 9 (([c0,c1,c2,c3,c4,c5,c6,c7].drop 0).take (Tryz.prog.cellsOf 9))=ys[0]? at g
   rw [oc_str] at g;exact g
  rw [List.getElem?_eq_getElem (by rw [hyl];decide)] at g0;have g1:DataW.trod enc Tryz.prog w 0 (fun _=>true) held n 9 [c1]=ys[1]?:=by
   have g:=hall 1 _ rfl
   change DataW.trod enc Tryz.prog w 0 (fun _=>true) held n 9 (([c0,c1,c2,c3,c4,c5,c6,c7].drop 1).take (Tryz.prog.cellsOf 9))=ys[1]? at g
   rw [oc_str] at g;exact g
  rw [List.getElem?_eq_getElem (by rw [hyl];decide)] at g1;have g2:DataW.trod enc Tryz.prog w 0 (fun _=>true) held n 22 [c2]=ys[2]?:=by
   have g:=hall 2 _ rfl
   change DataW.trod enc Tryz.prog w 0 (fun _=>true) held n 22 (([c0,c1,c2,c3,c4,c5,c6,c7].drop 2).take (Tryz.prog.cellsOf 22))=ys[2]? at g
   rw [oc_lstr] at g;exact g
  rw [List.getElem?_eq_getElem (by rw [hyl];decide)] at g2;have g3:DataW.trod enc Tryz.prog w 0 (fun _=>true) held n 4 [c3]=ys[3]?:=by
   have g:=hall 3 _ rfl
   change DataW.trod enc Tryz.prog w 0 (fun _=>true) held n 4 (([c0,c1,c2,c3,c4,c5,c6,c7].drop 3).take (Tryz.prog.cellsOf 4))=ys[3]? at g
   rw [oc_bool] at g;exact g
  rw [List.getElem?_eq_getElem (by rw [hyl];decide)] at g3;have g4:DataW.trod enc Tryz.prog w 0 (fun _=>true) held n 4 [c4]=ys[4]?:=by
   have g:=hall 4 _ rfl
   change DataW.trod enc Tryz.prog w 0 (fun _=>true) held n 4 (([c0,c1,c2,c3,c4,c5,c6,c7].drop 4).take (Tryz.prog.cellsOf 4))=ys[4]? at g
   rw [oc_bool] at g;exact g
  rw [List.getElem?_eq_getElem (by rw [hyl];decide)] at g4;have g5:DataW.trod enc Tryz.prog w 0 (fun _=>true) held n 4 [c5]=ys[5]?:=by
   have g:=hall 5 _ rfl
   change DataW.trod enc Tryz.prog w 0 (fun _=>true) held n 4 (([c0,c1,c2,c3,c4,c5,c6,c7].drop 5).take (Tryz.prog.cellsOf 4))=ys[5]? at g
   rw [oc_bool] at g;exact g
  rw [List.getElem?_eq_getElem (by rw [hyl];decide)] at g5;have g6:DataW.trod enc Tryz.prog w 0 (fun _=>true) held n 23 [c6]=ys[6]?:=by
   have g:=hall 6 _ rfl
   change DataW.trod enc Tryz.prog w 0 (fun _=>true) held n 23 (([c0,c1,c2,c3,c4,c5,c6,c7].drop 6).take (Tryz.prog.cellsOf 23))=ys[6]? at g
   rw [oc_lfld] at g;exact g
  rw [List.getElem?_eq_getElem (by rw [hyl];decide)] at g6;have g7:DataW.trod enc Tryz.prog w 0 (fun _=>true) held n 24 [c7]=ys[7]?:=by
   have g:=hall 7 _ rfl
   change DataW.trod enc Tryz.prog w 0 (fun _=>true) held n 24 (([c0,c1,c2,c3,c4,c5,c6,c7].drop 7).take (Tryz.prog.cellsOf 24))=ys[7]? at g
   rw [oc_lmth] at g;exact g
  rw [List.getElem?_eq_getElem (by rw [hyl];decide)] at g7;obtain ⟨z0,k0,e0⟩:=open_str g0;obtain ⟨z1,k1,e1⟩:=open_str g1;obtain ⟨v2,z2,e2,q2,k2,n2⟩:=open_lstr g2;obtain ⟨z3,e3,_⟩:=DataW.trod_bool Tryz.underlying4 g3;obtain ⟨z4,e4,_⟩:=DataW.trod_bool Tryz.underlying4 g4;obtain ⟨z5,e5,_⟩:=DataW.trod_bool Tryz.underlying4 g5;obtain ⟨v6,z6,e6,q6,k6,n6⟩:=open_lfld g6;obtain ⟨v7,z7,e7,q7,k7,n7⟩:=open_lmth g7;simp only [List.cons.injEq,and_true] at e0;subst e0;simp only [List.cons.injEq,and_true] at e1;subst e1;simp only [List.cons.injEq,and_true] at e2;subst e2;simp only [List.cons.injEq,and_true] at e3;subst e3;simp only [List.cons.injEq,and_true] at e4;subst e4;simp only [List.cons.injEq,and_true] at e5;subst e5;simp only [List.cons.injEq,and_true] at e6;subst e6;simp only [List.cons.injEq,and_true] at e7;subst e7;exact ⟨⟨z0,z1,z2,z3,z4,z5,z6,z7⟩,⟨fun y hy=>(k7 y hy).1,⟨k0,k1,k2,k6,fun y hy=>(k7 y hy).2.1,n2,n6,n7⟩,fun y hy=>(k7 y hy).2.2⟩,_,⟨_,_,_,rfl,q2,q6,q7⟩,rfl⟩
theorem open_lcls {H:Type} {enc:TypeId × Value->H} {w:World} {held:Bool} {fuel:Nat} {cs:List Value} {x:DataW H × List MemPlace} (h:DataW.trod enc Tryz.prog w 0 (fun _=>true) held fuel 37 cs=some x) :
  ∃ (v:Value) (l:List Cls),cs=[v]/\Src 8 ClsR Anyw w v l/\(∀ z ∈ l,(fun z:Cls=>z.real) z)/\l.length<=9223372036854775807:=
 elems_of (p:=fun z:Cls=>z.real) Tryz.underlying37 oc_cls (by decide) h (fun _ cs' _ hl ht=>open_cls hl ht)
theorem classes_of {H:Type} {enc:TypeId × Value->H} {w:World} {held:Bool} {v:Value} {d:DataW H} {p:List MemPlace} {base:Nat} (hv:Value.okWide Tryz.prog w .any base 37 v)
  (h:DataW.Trod enc Tryz.prog w 0 (fun _=>true) held 37 v d p):∃ l:List Cls,(∀ c ∈ l,c.real)/\Src 8 ClsR Anyw w v l/\l.length<=9223372036854775807:=by
 obtain ⟨ao,len,cap,rfl⟩:=okWide_slice Tryz.underlying37 hv;obtain ⟨fuel,hf⟩:=h;obtain ⟨u,l,hu,hs,hp,hn⟩:=open_lcls hf;have hc:(Value.slice ao len cap).cells.toList=[Value.slice ao len cap]:=rfl;rw [hc] at hu;simp only [List.cons.injEq,and_true] at hu;exact ⟨l,hp,hu ▸ hs,hn⟩
end Go.Proofs.YtpincofjopmaaaaGreatDoor
namespace Go.Proofs.YtpincofjopmaaaaGreatDoor
open Go.Shelf Go.RowKit Go.Lib
theorem own:ownKnob Tryz.prog.godebug=none:=by kernel_rfl
theorem first_eq:Rows.laid_unicode_utf8_first=Lib.firstData:=by kernel_rfl
theorem accept_eq:(Rows.laid_unicode_utf8_acceptRanges:DataW Unit)=Lib.acceptData:=by kernel_rfl
def opsData:DataW Unit:=.agg (opTab.map fun x=>.agg [.lit (.string x.1),.lit (.int .i64 (x.2:Nat))])
theorem ops_eq:(Rows.laid_squinch_code_operators:DataW Unit)=opsData:=by kernel_rfl
theorem tabs_of {W : World} (h3 : VarReads Tryz.prog W "unicode/utf8.first" Rows.laid_unicode_utf8_first) (h4 : VarReads Tryz.prog W "unicode/utf8.acceptRanges" Rows.laid_unicode_utf8_acceptRanges) : Tabs W := by
 rw [accept_eq] at h4;rw [first_eq] at h3;exact utf8Tabs_of_readsT (U8Types.of196 laysValid) ⟨by kernel_rfl,by kernel_rfl,by kernel_rfl,by kernel_rfl,by kernel_rfl,by kernel_rfl,by kernel_rfl⟩ h3 h4
theorem pair_at:∀ (l:List (List UInt8 × Nat)) (i:Nat) (h:i<l.length),(l.flatMap fun x=>[Value.string (S x.1),Value.int .i64 (x.2:Nat)])[2 * i]? = some (.string (S l[i].1))/\(l.flatMap fun x=>[Value.string (S x.1),Value.int .i64 (x.2:Nat)])[2 * i+1]? = some (.int .i64 (l[i].2:Nat))
 | x :: l,0,_=>⟨rfl,rfl⟩
 | x :: l,i+1,h=>by
  have ih:=pair_at l i (by simpa using h);rw [List.flatMap_cons,show 2 * (i+1)=2 * i+2 from by omega];exact ⟨ih.1,ih.2⟩
theorem pair_len (l:List (List UInt8 × Nat)):(l.flatMap fun x=>[Value.string (S x.1),Value.int .i64 (x.2:Nat)]).length=2 * l.length:=by
 induction l with
 | nil=>rfl
 | cons x l ih=>rw [List.flatMap_cons,List.length_append,ih,List.length_cons];simp;omega
theorem cells_oper:Tryz.prog.cellsOf 242=2:=by kernel_rfl
theorem cells_str1:Tryz.prog.cellsOf 9=1:=by kernel_rfl
theorem cells_operand:Tryz.prog.cellsOf 240=1:=by kernel_rfl
theorem oper_of {w:World} {fuel:Nat} {cs:List Value} {p:List MemPlace} {x:List UInt8 × Nat} (hl:cs.length=2)
  (h:DataW.trod (fun _=>()) Tryz.prog w 0 (fun _=>true) false fuel 242 cs=some (.agg [.lit (.string x.1),.lit (.int .i64 (x.2:Nat))],p)):cs=[.string (S x.1),.int .i64 (x.2:Nat)]:=by
 obtain ⟨ys,n,_,hx,_,hyl,hall⟩:=DataW.trod_struct Tryz.underlying242 h
 match cs,hl with
 | [c0,c1],_=>
  have g0:DataW.trod (fun _=>()) Tryz.prog w 0 (fun _=>true) false n 9 [c0]=ys[0]?:=by
   have g:=hall 0 _ rfl
   change DataW.trod (fun _=>()) Tryz.prog w 0 (fun _=>true) false n 9 (([c0,c1].drop 0).take (Tryz.prog.cellsOf 9))=ys[0]? at g
   rw [cells_str1] at g;exact g
  have g1:DataW.trod (fun _=>()) Tryz.prog w 0 (fun _=>true) false n 240 [c1]=ys[1]?:=by
   have g:=hall 1 _ rfl
   change DataW.trod (fun _=>()) Tryz.prog w 0 (fun _=>true) false n 240 (([c0,c1].drop 1).take (Tryz.prog.cellsOf 240))=ys[1]? at g
   rw [cells_operand] at g;exact g
  have hy:ys.map (·.1)=[.lit (.string x.1),.lit (.int .i64 (x.2:Nat))]:=by
   have:=congrArg Prod.fst hx
   simpa using this.symm
  match ys,hy with
  | [y0,y1],hy=>
   obtain ⟨s,e0,q0,_⟩:=DataW.trod_string Tryz.underlying9 g0;obtain ⟨z,e1,q1,_⟩:=DataW.trod_int Tryz.underlying240 g1;simp only [List.cons.injEq,and_true] at e0 e1;subst e0 e1 q0 q1;simp only [List.map_cons,List.map_nil,List.cons.injEq,and_true] at hy;obtain ⟨h0,h1⟩:=hy
   injection h0 with h0
   injection h0 with h0
   injection h1 with h1
   injection h1 with _ h1
   rw [←h0,←h1,S_data]
theorem optab_of {W : World} (h : VarReads Tryz.prog W "squinch/code.operators" Rows.laid_squinch_code_operators) : OpTab W := by
 rw [ops_eq] at h;obtain ⟨g,t,cs,fuel,p,hg,hty,hvar,hd⟩:=h;obtain rfl : 4 = g := Option.some.inj ((show Tryz.prog.globalNamed "squinch/code.operators" = some 4 by kernel_rfl).symm.trans hg)
 obtain rfl:287=t:=Option.some.inj ((show (Tryz.prog.globals[4]?).map (·.type)=some 287 by kernel_rfl).symm.trans hty);have each:∀ i (hi:i<opTab.length),cs.toList[2 * i]? = some (.string (S opTab[i].1))/\cs.toList[2 * i+1]? = some (.int .i64 (opTab[i].2:Nat)):=by
  intro i hi;obtain ⟨fuel',d,q,hdi,he⟩:=array_elem Tryz.underlying287 hd i (by rw [opTab_len] at hi;exact hi);rw [List.getElem?_map,List.getElem?_eq_getElem hi,Option.map_some,Option.some.injEq] at hdi;subst hdi;rw [cells_oper] at he;have hlen:((cs.toList.drop (i * 2)).take 2).length=2:=by
   obtain ⟨_,_,_,_,hl,_,_⟩:=DataW.trod_struct Tryz.underlying242 he;rw [hl,cells_oper]
  have hc:=oper_of (x:=opTab[i]) hlen he;have e0:=congrArg (·[0]?) hc;have e1:=congrArg (·[1]?) hc;simp only [List.getElem?_take,List.getElem?_drop] at e0 e1;refine ⟨?_,?_⟩
  ·simpa [Nat.mul_comm] using e0
  ·simpa [Nat.mul_comm] using e1
 intro j v hj;have hjl:j<84:=by
  rcases Nat.lt_or_ge j 84 with h|h
  ·exact h
  ·rw [List.getElem?_eq_none (by unfold opCells;rw [pair_len,opTab_len];exact h)] at hj;cases hj
 have hcell:W.cell? ⟨4,0+j,none⟩=cs.toList[j]?:=by
  rw [Nat.zero_add,World.var?_cell hg hvar j,Array.getElem?_toList]
 have hi:j / 2<opTab.length:=by rw [opTab_len];omega
 have hA:=pair_at opTab (j / 2) hi;have hB:=each (j / 2) hi;unfold opCells at hj;rw [hcell];rcases (show j=2 * (j / 2)\/j=2 * (j / 2)+1 by omega) with h|h
 ·rw [h] at hj ⊢;rw [hB.1,←hA.1];exact hj
 ·rw [h] at hj ⊢;rw [hB.2,←hA.2];exact hj
end Go.Proofs.YtpincofjopmaaaaGreatDoor
namespace Go.Proofs.YtpincofjopmaaaaGreatDoor
open Go.Shelf Go.RowKit Go.Lib
def faultsData:DataW Unit:=.agg (faultsL.map fun n=>.lit (.string n))
theorem faults_eq:(Rows.laid_squinch_hier_faults:DataW Unit)=faultsData:=by kernel_rfl
theorem faultsL_len:faultsL.length=6:=rfl
theorem faulttab_of {W : World} (h : VarReads Tryz.prog W "squinch/hier.faults" Rows.laid_squinch_hier_faults) : FaultTab W := by
 rw [faults_eq] at h;obtain ⟨g,t,cs,fuel,p,hg,hty,hvar,hd⟩:=h;obtain rfl : 0 = g := Option.some.inj ((show Tryz.prog.globalNamed "squinch/hier.faults" = some 0 by kernel_rfl).symm.trans hg)
 obtain rfl:124=t:=Option.some.inj ((show (Tryz.prog.globals[0]?).map (·.type)=some 124 by kernel_rfl).symm.trans hty);have each:∀ i (hi:i<faultsL.length),cs.toList[i]? = some (.string (S faultsL[i])):=by
  intro i hi;obtain ⟨fuel',d,q,hdi,he⟩:=array_elem Tryz.underlying124 hd i (by rw [faultsL_len] at hi;exact hi);rw [List.getElem?_map,List.getElem?_eq_getElem hi,Option.map_some,Option.some.injEq] at hdi;subst hdi;rw [cells_str1] at he;obtain ⟨s,e0,q0,_⟩:=DataW.trod_string Tryz.underlying9 he;have e1:=congrArg (·[0]?) e0;simp only [List.getElem?_take,List.getElem?_drop] at e1;have e2:cs.toList[i]? = some (.string s):=by simpa using e1
  have q1:=congrArg Prod.fst q0;simp only at q1
  injection q1 with q1
  injection q1 with q1
  rw [e2,q1,S_data]
 intro j v hj;have hjl:j<faultsL.length:=by
  rcases Nat.lt_or_ge j faultsL.length with h|h
  ·exact h
  ·rw [List.getElem?_eq_none (by unfold faultCells;rw [List.length_map];exact h)] at hj;cases hj
 have hcell:W.cell? ⟨0,0+j,none⟩=cs.toList[j]?:=by
  rw [Nat.zero_add,World.var?_cell hg hvar j,Array.getElem?_toList]
 unfold faultCells at hj;rw [List.getElem?_map,List.getElem?_eq_getElem hjl,Option.map_some] at hj;rw [hcell,each j hjl];exact hj
noncomputable def laidWorld4 (os:Os):World:=
 let w0:=World.holding Tryz.prog os ⟨#[],#[],[]⟩
 let put (h:Array Obj) (g:Nat) (cs:Array Value):Array Obj:=h.modify g fun
  | .cells _ t frozen=>.cells cs t frozen
  | o=>o
 let h1:=put w0.heap 2 (Lib.firstTab.map fun z=>Value.int .u8 z).toArray
 let h2:=put h1 3 ((List.range 16).flatMap fun i=>[Value.int .u8 (Lib.accLo i),Value.int .u8 (Lib.accHi i)]).toArray
 let h3:=put h2 4 opCells.toArray
 let h4:=put h3 0 faultCells.toArray
 { w0 with heap:=h4 }
def theLaid4 : List (String × DataW Unit) := [("unicode/utf8.acceptRanges", Rows.laid_unicode_utf8_acceptRanges), ("squinch/code.operators", Rows.laid_squinch_code_operators), ("squinch/hier.faults", Rows.laid_squinch_hier_faults), ("unicode/utf8.first", Rows.laid_unicode_utf8_first)]
structure HT6 (W:World):Prop where
 ct:CT W
 ft:FaultTab W
theorem ht6_of {W:World} (hL:laidMet Tryz.prog theLaid4 W):HT6 W:=
 ⟨⟨tabs_of (Lib.laidMet.reads hL (.tail _ (.tail _ (.tail _ (.head _))))) (Lib.laidMet.reads hL (.head _)),optab_of (Lib.laidMet.reads hL (.tail _ (.head _)))⟩,faulttab_of (Lib.laidMet.reads hL (.tail _ (.tail _ (.head _))))⟩
theorem laid_met4 (os:Os) (args:Array Value):laidMet Tryz.prog theLaid4 ((laidWorld4 os).forCall (fun _ _=>0) ⟨#[],args,[]⟩).memory:=
 (LaidIn.of_run (l:=theLaid4) [2,3,4,0] 8 (by kernel_rfl) (by kernel_rfl) (by kernel_rfl) (by kernel_rfl)).met
end Go.Proofs.YtpincofjopmaaaaGreatDoor
namespace Go.Proofs.YtpincofjopmaaaaGreatDoor
open Go.RowKit
theorem Box.setTo {w:World} {B:Nat} {cs:Array Value} {t:TypeId} (h:Box w B cs t) (j:Nat) (u:Value) (cs':Array Value) (e:cs.setIfInBounds j u=cs'):Box (w.setCell ⟨B,j,none⟩ u) B cs' t:=e ▸ h.set j u
theorem set7 {w:World} {B:Nat} {t:TypeId} {a0 a1 a2 a3 a4 a5 a6:Value} (h:Box w B #[a0,a1,a2,a3,a4,a5,a6] t) (v0 v1 v2 v3 v4 v5 v6:Value) :
  Box (((((((w.setCell ⟨B,0,none⟩ v0).setCell ⟨B,1,none⟩ v1).setCell ⟨B,2,none⟩ v2).setCell ⟨B,3,none⟩ v3).setCell ⟨B,4,none⟩ v4).setCell ⟨B,5,none⟩ v5).setCell ⟨B,6,none⟩ v6) B #[v0,v1,v2,v3,v4,v5,v6] t/\Only (fun i=>i=B) w (((((((w.setCell ⟨B,0,none⟩ v0).setCell ⟨B,1,none⟩ v1).setCell ⟨B,2,none⟩ v2).setCell ⟨B,3,none⟩ v3).setCell ⟨B,4,none⟩ v4).setCell ⟨B,5,none⟩ v5).setCell ⟨B,6,none⟩ v6):=
 ⟨(((((((h.setTo 0 v0 #[v0,a1,a2,a3,a4,a5,a6] rfl).setTo 1 v1 #[v0,v1,a2,a3,a4,a5,a6] rfl).setTo 2 v2 #[v0,v1,v2,a3,a4,a5,a6] rfl).setTo 3 v3 #[v0,v1,v2,v3,a4,a5,a6] rfl).setTo 4 v4 #[v0,v1,v2,v3,v4,a5,a6] rfl).setTo 5 v5 #[v0,v1,v2,v3,v4,v5,a6] rfl).setTo 6 v6 #[v0,v1,v2,v3,v4,v5,v6] rfl),(((((((Only.refl (fun i=>i=B) w).setCell (p:=⟨B,0,none⟩) rfl v0).setCell (p:=⟨B,1,none⟩) rfl v1).setCell (p:=⟨B,2,none⟩) rfl v2).setCell (p:=⟨B,3,none⟩) rfl v3).setCell (p:=⟨B,4,none⟩) rfl v4).setCell (p:=⟨B,5,none⟩) rfl v5).setCell (p:=⟨B,6,none⟩) rfl v6⟩
theorem cells7 {w:World} {B:Nat} {t:TypeId} {a0 a1 a2 a3 a4 a5 a6:Value} (h:Box w B #[a0,a1,a2,a3,a4,a5,a6] t):w.cell? ⟨B,0,none⟩=some a0/\w.cell? ⟨B,1,none⟩=some a1/\w.cell? ⟨B,2,none⟩=some a2/\w.cell? ⟨B,3,none⟩=some a3/\w.cell? ⟨B,4,none⟩=some a4/\w.cell? ⟨B,5,none⟩=some a5/\w.cell? ⟨B,6,none⟩=some a6:=⟨h.cell 0 rfl,h.cell 1 rfl,h.cell 2 rfl,h.cell 3 rfl,h.cell 4 rfl,h.cell 5 rfl,h.cell 6 rfl⟩
theorem free7 {w:World} {B:Nat} {t:TypeId} {cs:Array Value} (h:Box w B cs t):w.frozen? ⟨B,0,none⟩=false/\w.frozen? ⟨B,1,none⟩=false/\w.frozen? ⟨B,2,none⟩=false/\w.frozen? ⟨B,3,none⟩=false/\w.frozen? ⟨B,4,none⟩=false/\w.frozen? ⟨B,5,none⟩=false/\w.frozen? ⟨B,6,none⟩=false:=⟨h.free 0,h.free 1,h.free 2,h.free 3,h.free 4,h.free 5,h.free 6⟩
theorem cells8 {w:World} {B:Nat} {t:TypeId} {a0 a1 a2 a3 a4 a5 a6 a7:Value} (h:Box w B #[a0,a1,a2,a3,a4,a5,a6,a7] t):w.cell? ⟨B,0,none⟩=some a0/\w.cell? ⟨B,1,none⟩=some a1/\w.cell? ⟨B,2,none⟩=some a2/\w.cell? ⟨B,3,none⟩=some a3/\w.cell? ⟨B,4,none⟩=some a4/\w.cell? ⟨B,5,none⟩=some a5/\w.cell? ⟨B,6,none⟩=some a6/\w.cell? ⟨B,7,none⟩=some a7:=⟨h.cell 0 rfl,h.cell 1 rfl,h.cell 2 rfl,h.cell 3 rfl,h.cell 4 rfl,h.cell 5 rfl,h.cell 6 rfl,h.cell 7 rfl⟩
def Few6G (m:Nat) (w:World) (e:Ending) (w':World):Prop:=∃ b,e=.returned (.bool b)/\(b=true->m<=12)/\Below w.heap.size w w'
theorem few6_any {A:Nat->Prop} (cs:List Cls) (sv:Value) (w:World) (hs:Src 8 ClsR A w sv cs) (hfit:∀ c ∈ cs,c.Fit) (hlen:cs.length<=9223372036854775807) :
  Calls Tryz.prog 21 #[sv] w (Few6G cs.length w):=by
 obtain ⟨so,sc,rfl⟩:=hs.shape;obtain ⟨n,hn⟩:∃ n,n=cs.length:=⟨_,rfl⟩
 have HS:=Hd hs;have HFIT:=Hd hfit;rw [←hn] at HS hlen ⊢;have HN:=Hd hn;clear hs hn hfit;by_cases h12:12<n
 ·have ih12:12<(n:Int):=by omega
  clear h12;go_enter Tryz.func21,Tryz.ntmps21;go_wp2;go_ret;exact ⟨false,rfl,(fun h=>by cases h),Below.refl _ _⟩
 have ih12:¬ (12<(n:Int)):=by omega
 have HM:=Hd h12;clear h12;go_enter Tryz.func21,Tryz.ntmps21;go_wp2
 go_loopw [3] (fun v3 wr=>∃ k:Nat,k<=n/\v3=.int .i64 k/\Below w.heap.size w wr) (fun v3 _=>n - (intOf v3).toNat)
 case atStart=>exact ⟨0,Nat.zero_le _,rfl,Below.refl _ _⟩
 case round=>
  obtain ⟨k,hk,rfl,hbw⟩:=hrel;have HBW:=Hd hbw;clear hbw;by_cases hlt:k<n
  ·obtain ⟨x,hx⟩:∃ x,cs[k]? = some x:=⟨_,List.getElem?_eq_getElem (by rw [←HN.out];exact hlt)⟩
   have hxf:=HFIT.out x (List.mem_of_getElem? hx);obtain ⟨b,o,v,rfl,hv,_,hcl⟩:=Src.elem (ClsR.st.below HS.out HBW.out) k x hx;obtain ⟨lv,fv,mv,rfl,hl,hf,hm⟩:=hv;obtain ⟨lo,lc,rfl⟩:=hl.shape;obtain ⟨fo,fc,rfl⟩:=hf.shape;obtain ⟨mo,mc,rfl⟩:=hm.shape;have d0:wr.cell? ⟨b,o+k * 8,none⟩=some (.string (S x.name)):=hcl 0 _ rfl;have d1:wr.cell? ⟨b,o+k * 8+1,none⟩=some (.string (S x.sup)):=hcl 1 _ rfl;have d2:wr.cell? ⟨b,o+k * 8+2,none⟩=some (.slice lo x.like.length lc):=hcl 2 _ rfl;have d3:wr.cell? ⟨b,o+k * 8+3,none⟩=some (.bool x.itf):=hcl 3 _ rfl;have d4:wr.cell? ⟨b,o+k * 8+4,none⟩=some (.bool x.abs):=hcl 4 _ rfl;have d5:wr.cell? ⟨b,o+k * 8+5,none⟩=some (.bool x.fin):=hcl 5 _ rfl;have d6:wr.cell? ⟨b,o+k * 8+6,none⟩=some (.slice fo x.flds.length fc):=hcl 6 _ rfl;have d7:wr.cell? ⟨b,o+k * 8+7,none⟩=some (.slice mo x.mths.length mc):=hcl 7 _ rfl;have hk0:(0:Int)<=(k:Int):=by omega
   have hkn:(k:Int)<(n:Int):=by omega
   have hn1:=hxf.n1;have hn2:=hxf.n2;have hn3:=hxf.n3;have HXF:=Hd hxf;have hbA:Below wr.heap.size wr (wr.alloc (.cells #[.string (S x.name),.string (S x.sup),.slice lo x.like.length lc,.bool x.itf,.bool x.abs,.bool x.fin,.slice fo x.flds.length fc,.slice mo x.mths.length mc] 26)):=below_alloc (Below.refl _ _) _;have HBA:=Hd (HBW.out.trans (hbA.mono HBW.out.size));have HBX:=Hd (Box.new wr #[.string (S x.name),.string (S x.sup),.slice lo x.like.length lc,.bool x.itf,.bool x.abs,.bool x.fin,.slice fo x.flds.length fc,.slice mo x.mths.length mc] 26);have HMS:=Hd (MthR.st.below hm hbA);obtain ⟨nm,hnm⟩:∃ nm,nm=x.mths.length:=⟨_,rfl⟩
   rw [←hnm] at HBA HBX HMS d7 hn3;have HNM:=Hd hnm;clear hcl hl hf hm hx hxf hbA hnm;by_cases h1:6<x.like.length
   ·have ih1:6<(x.like.length:Int):=by omega
    clear h1;go_wp2;go_ret;exact ⟨false,rfl,(fun h=>by cases h),HBA.out⟩
   have ih1:¬ (6<(x.like.length:Int)):=by omega
   clear h1;by_cases h2:6<x.flds.length
   ·have ih2:6<(x.flds.length:Int):=by omega
    clear h2;go_wp2;go_ret;exact ⟨false,rfl,(fun h=>by cases h),HBA.out⟩
   have ih2:¬ (6<(x.flds.length:Int)):=by omega
   clear h2;by_cases h3:6<nm
   ·have ih3:6<(nm:Int):=by omega
    clear h3;go_wp2;go_ret;exact ⟨false,rfl,(fun h=>by cases h),HBA.out⟩
   have ih3:¬ (6<(nm:Int)):=by omega
   clear h3;go_wp2;clear d0 d1 d2 d3 d4 d5 d6 d7;generalize hW1:wr.alloc (.cells #[.string (S x.name),.string (S x.sup),.slice lo x.like.length lc,.bool x.itf,.bool x.abs,.bool x.fin,.slice fo x.flds.length fc,.slice mo nm mc] 26)=W1 at HBA HBX HMS ⊢;obtain ⟨bx,hbx⟩:∃ bx,bx=wr.heap.size:=⟨_,rfl⟩
   rw [←hbx] at HBX ⊢;clear hW1 hbx
   go_loopw [5] (fun v5 wr2=>∃ j:Nat,j<=nm/\v5=.int .i64 j/\Below W1.heap.size W1 wr2) (fun v5 _=>nm - (intOf v5).toNat)
   case atStart=>exact ⟨0,Nat.zero_le _,rfl,Below.refl _ _⟩
   case round=>
    obtain ⟨j,hj,rfl,hb2⟩:=hrel;have HB2:=Hd hb2;have c7:=(HBX.out.below hb2).cell 7 rfl;clear hb2;by_cases hjl:j<nm
    ·obtain ⟨m,hm⟩:∃ m,x.mths[j]? = some m:=⟨_,List.getElem?_eq_getElem (by rw [←HNM.out];exact hjl)⟩
     have hmf:=HXF.out.mths m (List.mem_of_getElem? hm);obtain ⟨b2,o2,v2,rfl,hv2,_,hcl2⟩:=Src.elem (MthR.st.below HMS.out HB2.out) j m hm;obtain ⟨_,_,_,rfl,⟨po,pc,rfl⟩,⟨co,cc,rfl⟩,⟨ko,kc,rfl⟩⟩:=mth_shape hv2;have e1:wr.cell? ⟨b2,o2+j * 7+1,none⟩=some (.slice po m.params.length pc):=hcl2 1 _ rfl;have e5:wr.cell? ⟨b2,o2+j * 7+5,none⟩=some (.slice co m.code.length cc):=hcl2 5 _ rfl;have e6:wr.cell? ⟨b2,o2+j * 7+6,none⟩=some (.slice ko m.cats.length kc):=hcl2 6 _ rfl;have hj0:(0:Int)<=(j:Int):=by omega
     have hjn:(j:Int)<(nm:Int):=by omega
     have hm1:=hmf.n1;have hm2:=hmf.n2;have hm3:=hmf.n3;clear hcl2 hv2 hm hmf;by_cases h1:50<m.code.length
     ·have jh1:50<(m.code.length:Int):=by omega
      clear h1;go_wp2;go_ret;exact ⟨false,rfl,(fun h=>by cases h),HBA.out.trans (HB2.out.mono HBA.out.size)⟩
     have jh1:¬ (50<(m.code.length:Int)):=by omega
     clear h1;by_cases h2:8<m.params.length
     ·have jh2:8<(m.params.length:Int):=by omega
      clear h2;go_wp2;go_ret;exact ⟨false,rfl,(fun h=>by cases h),HBA.out.trans (HB2.out.mono HBA.out.size)⟩
     have jh2:¬ (8<(m.params.length:Int)):=by omega
     clear h2;by_cases h3:8<m.cats.length
     ·have jh3:8<(m.cats.length:Int):=by omega
      clear h3;go_wp2;go_ret;exact ⟨false,rfl,(fun h=>by cases h),HBA.out.trans (HB2.out.mono HBA.out.size)⟩
     have jh3:¬ (8<(m.cats.length:Int)):=by omega
     clear h3;go_wp2
     go_roundw
     case rel=>exact ⟨j+1,by omega,by go_num,HB2.out⟩
     case measure=>simp [intOf];omega
    ·obtain rfl:j=nm:=by omega
     go_wp2
     go_roundw
     case rel=>exact ⟨k+1,by omega,by go_num,HBA.out.trans (HB2.out.mono HBA.out.size)⟩
     case measure=>simp [intOf];omega
  ·obtain rfl:k=n:=by omega
   go_wp2;go_ret;exact ⟨true,rfl,(fun _=>by have:=HM.out;omega),HBW.out⟩
structure Wise (es:List Ent):Prop where
 sh:Shape es
 ac:Acyc es
 par:ParIn es
 uq:Uniq es
 cl:∀ (i:Nat) (e:Ent),es[i]? = some e->classB e.cls.name=true
 obj:es[0]? = some ⟨objC,none,[]⟩
 flt:es[1]? = some ⟨faultC,some 0,[]⟩
 up:∀ (i:Nat) (e:Ent),es[i]? = some e->i ≠ 0->∃ j,e.up=some j
 lk:∀ (i:Nat) (e:Ent),es[i]? = some e->∀ k ∈ e.lk,itfAt es k=true
 itf:∀ (i:Nat) (e:Ent),es[i]? = some e->e.cls.itf=true->e.up=some 0/\e.cls.flds=[]/\∀ m ∈ e.cls.mths,m.abs=true
 sup:∀ (i:Nat) (e:Ent) (j:Nat),es[i]? = some e->e.up=some j->itfAt es j=false
 mth:∀ (i:Nat) (e:Ent),es[i]? = some e->(e.cls.mths.map Mth.name).Nodup
 fld:∀ (i:Nat) (e:Ent),es[i]? = some e->(e.cls.flds.map Fld.name).Nodup
 good:GoodT es
theorem freshAt_ne {l:List (List UInt8)} (h:distB l=true):l.Nodup:=by
 unfold distB distTo at h;rw [List.all_eq_true] at h;rw [List.nodup_iff_pairwise_ne,List.pairwise_iff_getElem];intro i j hi hj hij he;have h1:=h j (List.mem_range.2 hj);unfold freshAt at h1;rw [Bool.not_eq_true',List.any_eq_false] at h1;refine h1 l[i] ?_ ?_
 ·rw [List.mem_iff_getElem];exact ⟨i,by rw [List.length_take];omega,by rw [List.getElem_take]⟩
 ·rw [List.getD_eq_getElem?_getD,List.getElem?_eq_getElem hj,he];simp
theorem start_wise:∀ i,i<8->∀ e,startL[i]? = some e->classB e.cls.name=true/\(i ≠ 0->e.up.isSome=true)/\e.lk=[]/\e.cls.itf=false/\(∀ j,e.up=some j->j<2)/\e.cls.mths=[]/\e.cls.flds.length<=1:=by
 have h:startL.all (fun e=>classB e.cls.name && (decide (e.lk=[]) && (decide (e.cls.itf=false) && (decide (e.cls.mths.length=0) && decide (e.cls.flds.length<=1)))))=true:=by decide
 have hu:∀ i,i<8->(i=0\/((startL[i]?).bind Ent.up).isSome=true)/\∀ j,(startL[i]?).bind Ent.up=some j->j<2:=by decide
 intro i hi e he;have h1:=List.all_eq_true.1 h e (List.mem_of_getElem? he);simp only [Bool.and_eq_true,decide_eq_true_eq] at h1;obtain ⟨a,b,c,d,f⟩:=h1;have h2:=hu i hi;rw [he] at h2;exact ⟨a,fun h0=>h2.1.resolve_left h0,b,c,h2.2,List.length_eq_zero_iff.1 d,f⟩
theorem Lined.itf_sup {cs:List Cls} (h:Lined cs) {c:Cls} (hc:c ∈ cs) (hi:c.itf=true):c.sup=objL/\c.flds=[]/\∀ m ∈ c.mths,m.abs=true:=by
 have h1:=(h.good c hc).parts.2;unfold Cls.fine at h1;simp only [Bool.and_eq_true] at h1;have h2:=h1.2.1;unfold Cls.sort at h2;split at h2
 ·cases h2
 ·split at h2
  ·cases h2
  ·simp only [Bool.and_eq_true,decide_eq_true_eq,List.all_eq_true] at h2;exact ⟨h2.2.1,List.length_eq_zero_iff.1 h2.2.2.1,h2.2.2.2⟩
theorem Lined.dist {cs:List Cls} (h:Lined cs) {c:Cls} (hc:c ∈ cs):(c.flds.map Fld.name).Nodup/\(c.mths.map Mth.name).Nodup:=by
 have h1:=(h.good c hc).parts.2;unfold Cls.fine at h1;simp only [Bool.and_eq_true] at h1;have h2:=h1.1;unfold Cls.names at h2;simp only [Bool.and_eq_true] at h2;exact ⟨freshAt_ne h2.2.2.2.2.1,freshAt_ne h2.2.2.2.2.2⟩
theorem newT_start {cs:List Cls} {i:Nat} (hi:i<8):(newT cs)[i]? = startL[i]?:=by
 unfold newT;rw [List.getElem?_append_left (by rw [startL_len];exact hi)]
theorem allE0_start {cs:List Cls} {i:Nat} (hi:i<8):(allE0 cs)[i]? = startL[i]?:=by
 unfold allE0;rw [List.getElem?_append_left (by rw [startL_len];exact hi)]
theorem place_obj {cs:List Cls}:placeE (allE0 cs) objL=some 0:=by
 unfold placeE allE0;rw [List.findIdx?_append];rfl
theorem Lined.wise {cs:List Cls} (h:Lined cs) (hsh:Shape (newT cs)) (hac:Acyc (newT cs)) (hg:GoodT (newT cs)):Wise (newT cs) where
 sh:=hsh
 ac:=hac
 par:=h.par
 uq:=h.uniq
 cl:=fun i e he=>by
  rcases newT_at he with ⟨h1,h2⟩|⟨h1,c,h2,rfl⟩
  ·exact (start_wise i h1 e h2).1
  ·exact (h.good c (List.mem_of_getElem? h2)).name
 obj:=newT_start (by omega)
 flt:=newT_start (by omega)
 up:=fun i e he h0=>by
  rcases newT_at he with ⟨h1,h2⟩|⟨h1,c,h2,rfl⟩
  ·exact Option.isSome_iff_exists.1 ((start_wise i h1 e h2).2.1 h0)
  ·exact Option.isSome_iff_exists.1 (h.ups c (List.mem_of_getElem? h2))
 lk:=fun i e he k hk=>by
  rcases newT_at he with ⟨h1,h2⟩|⟨h1,c,h2,rfl⟩
  ·rw [(start_wise i h1 e h2).2.2.1] at hk;cases hk
  ·obtain ⟨n,hn1,hn2⟩:=List.mem_map.1 (show k ∈ c.like.map fun n=>(likeE (allE0 cs) n).getD 0 from hk);have h5:=List.all_eq_true.1 (h.likes c (List.mem_of_getElem? h2)) n hn1;obtain ⟨j,hj⟩:=Option.isSome_iff_exists.1 h5;rw [hj] at hn2;obtain rfl:j=k:=hn2;rw [itfAt_cls (newT_cls cs)];exact (likeE_place hj).2
 itf:=fun i e he hi=>by
  rcases newT_at he with ⟨h1,h2⟩|⟨h1,c,h2,rfl⟩
  ·rw [(start_wise i h1 e h2).2.2.2.1] at hi;cases hi
  ·obtain ⟨a,b,d⟩:=h.itf_sup (List.mem_of_getElem? h2) hi;refine ⟨?_,b,d⟩;show upE (allE0 cs) c.sup=some 0
   rw [a];unfold upE;rw [place_obj];have h3:itfAt (allE0 cs) 0=false:=by unfold itfAt;rw [allE0_start (by omega)];rfl
   have h4:finAt (allE0 cs) 0=false:=by unfold finAt;rw [allE0_start (by omega)];rfl
   dsimp only;rw [h3,h4];rfl
 sup:=fun i e j he hj=>by
  rcases newT_at he with ⟨h1,h2⟩|⟨h1,c,h2,rfl⟩
  ·have h3:=(start_wise i h1 e h2).2.2.2.2.1 j hj;have h4:∀ j,j<2->itfAt startL j=false:=by decide
   unfold itfAt;rw [newT_start (by omega)];exact h4 j h3
  ·have h3:upE (allE0 cs) c.sup=some j:=hj;unfold upE at h3;cases hp:placeE (allE0 cs) c.sup with
   | none=>rw [hp] at h3;cases h3
   | some i2=>
    rw [hp] at h3;dsimp only at h3;split at h3
    ·cases h3
    ·rename_i hn
     obtain rfl:=Option.some.inj h3;rw [itfAt_cls (newT_cls cs)];cases hq:itfAt (allE0 cs) i2
     ·rfl
     ·rw [hq] at hn;exact absurd rfl hn
 mth:=fun i e he=>by
  rcases newT_at he with ⟨h1,h2⟩|⟨h1,c,h2,rfl⟩
  ·rw [(start_wise i h1 e h2).2.2.2.2.2.1];exact List.nodup_nil
  ·exact (h.dist (List.mem_of_getElem? h2)).2
 fld:=fun i e he=>by
  rcases newT_at he with ⟨h1,h2⟩|⟨h1,c,h2,rfl⟩
  ·have h3:=(start_wise i h1 e h2).2.2.2.2.2.2
   match hf:e.cls.flds,h3 with
   | [],_=>exact List.nodup_nil
   | [f],_=>simp
   | f :: g :: l,h3=>simp at h3
  ·exact (h.dist (List.mem_of_getElem? h2)).1
 good:=hg
theorem NewOk.wise {cs:List Cls} (h:NewOk cs):Wise (newT cs):=h.lined.wise h.shape h.acyc h.lined.goodT
end Go.Proofs.YtpincofjopmaaaaGreatDoor
