/- laws -/
import Derived.Test.YtegljjbclladdaaGreatDoorK31
import Derived.Deep.DeepWitnessRowRef
import Derived.Deep.Slices
import Derived.Lib.LaidIn
import Derived.Lib.LaidU8T
import Derived.OpenShut
import Derived.ProofKit
import Derived.Shelf.LaysM
import Derived.Shelf.Strings.BuilderK
import Derived.Test.YtegljjbclladdaaGreatDoorCards
import Derived.Test.YtegljjbclladdaaGreatDoorTie
set_option maxRecDepth 100000
set_option maxHeartbeats 16000000
namespace Go.Proofs.YtegljjbclladdaaGreatDoor
set_option maxRecDepth 100000
open Go.ChangeShapes Go.WideShapes Go.ChangeAt Go.RowKit Go.Lib Go.WideMaps Go.WideElems Go.Deep Proofs.Tryz
instance:Inhabited Ins:=⟨⟨[],0,[]⟩⟩
instance:Inhabited Fld:=⟨⟨[],[],false⟩⟩
instance:Inhabited Cat:=⟨⟨0,0,0,[]⟩⟩
instance:Inhabited Mth:=⟨⟨[],[],[],false,0,[],[]⟩⟩
instance:Inhabited Cls:=⟨⟨[],[],[],false,false,false,[],[]⟩⟩
theorem ZtG:laidOutB prog=true:=by kernel_rfl
theorem Zhq {aa:Type}{enc:TypeId×Value->aa}{w:World}{held:Bool}{h:Nat}{α:Type}[Inhabited α]{R:Zao α}{p:α->Prop}{t e:TypeId}{n:Nat}{cs:List Value}{x:DataW aa×List MemPlace}
  (ad:prog.underlying t=some (.slice e))(ac:prog.cellsOf e=n)(ak:0<n)(O:DataW.trod enc prog w 0 (fun _=>true) held h t cs=some x)
  (H:∀(h:Nat) (d:List Value) (ap:DataW aa×List MemPlace),d.length=n->DataW.trod enc prog w 0 (fun _=>true) held h e d=some ap->∃z:α,p z/\∃v:Value,R Anyw w z v/\v.cells.toList=d) :
  ∃(v:Value) (l:List α),cs=[v]/\Src n R Anyw w v l/\(∀z∈l,p z)/\l.length<=9223372036854775807:=by
 rcases open_slice ad O with⟨r,_⟩|⟨a,len,D,m,k,aq,ao,r,_,V,ab,W,_,af⟩
 ·exact⟨_,[],r,.nil,(fun z c=>by simp at c),by simp⟩
 ·have L:D<=9223372036854775807:=by unfold maxLen at ab;omega
  have al:len<=m:=by rw[W];simp;exact V
  have y:∀i,i<len->∃z:α,p z/\∃v:Value,R Anyw w z v/\v.cells.size=n/\∀(s:Nat) u,v.cells[s]?=some u->w.cell? (a.add (i*n+s))=some u:=by
   intro i ag;obtain⟨d,A,X⟩:=af i (by omega);rw[ac]at A;obtain⟨_,F,Q⟩:=World.cells?_some A;obtain⟨z,c,v,J,E⟩:=H _ d _ F X;have B:v.cells.size=n:=by rw[←Yby,E,F]
   refine⟨z,c,v,J,B,fun s u g=>?_⟩;have T:=Zc7 B g;have U:=Q s T;rw[Go.Deep.add_add]at U;rw[U,←E,Yca];exact g
  obtain⟨Y,K⟩:=choose_lt (α:=α) y;rcases YbR len with G|G
  ·subst G;exact⟨_,[],r,.inl ⟨_,_,rfl,rfl⟩,(fun z c=>by simp at c),by simp⟩
  ·obtain⟨_,aj,_,am,N⟩:=K 0 G;have j:=N 0 (aj.cells[0]'(by omega)) (YbZ _);obtain⟨b,o,ah⟩:=Zlq j;have e:a.add (0*n+0)=a:=by unfold Addr.add;simp
   have M:a=⟨b,o,none⟩:=by rw[←e];exact ah
   subst M;have Z:b<w.heap.size:=World.block_lt_of_cell? w _ (by rw[e]at j;exact j);have q:((List.range len).map Y).length=len:=by simp
   have I:∀(s:Nat) f,((List.range len).map Y)[s]?=some f->s<len/\f=Y s:=by
    intro s f g;have C:s<len:=by
     rcases YaC s len with O|O
     ·exact O
     ·simp[List.getElem?_eq_none (show(List.range len).length<=s by simpa using O)]at g
    simp[C]at g;exact⟨C,g.symm⟩
   refine⟨_,(List.range len).map Y,r,.inr ⟨b,o,D,by rw[q],⟨trivial,Z,by rw[q];exact V,L⟩,fun k z c=>?_⟩,fun z c=>?_,by rw[q];omega⟩
   ·obtain⟨ae,rfl⟩:=I k z c;obtain⟨_,v,J,ai,A⟩:=K k ae;refine⟨v,J,ai,fun s u g=>?_⟩;have U:=A s u g;rw[Ybn]at U;rw[Nat.add_assoc];exact U
   ·obtain⟨i,P,rfl⟩:=Ya2.1 c;exact(K i (by simpa using P)).1
theorem Zg1:prog.cellsOf 9=1:=by kernel_rfl
theorem ZoZ:prog.cellsOf 4=1:=by kernel_rfl
theorem Zk6:prog.cellsOf 3=1:=by kernel_rfl
theorem Zti:prog.cellsOf 2=1:=by kernel_rfl
theorem Zkc:prog.cellsOf 22=1:=by kernel_rfl
theorem Zsw:prog.cellsOf 23=1:=by kernel_rfl
theorem Zsv:prog.cellsOf 24=1:=by kernel_rfl
theorem ZrP:prog.cellsOf 28=3:=by kernel_rfl
theorem Zth:prog.cellsOf 173=4:=by kernel_rfl
theorem Ztj:prog.cellsOf 26=7:=by kernel_rfl
theorem Zea {c:Type}{enc:TypeId×Value->c}{w:World}{held:Bool}{a:Nat}{cs:List Value}{x:DataW c×List MemPlace}(d:DataW.trod enc prog w 0 (fun _=>true) held a 9 cs=some x) :
  ∃z:List UInt8,Zaw z/\cs=[.string (S z)]:=by
 obtain⟨s,e,_,b⟩:=DataW.trod_string underlying9 d;exact⟨s.data.toList,ZsL s b,by rw[e,Zne]⟩
theorem ZeR {c:Type}{enc:TypeId×Value->c}{w:World}{held:Bool}{a:Nat}{cs:List Value}{x:DataW c×List MemPlace}(g:DataW.trod enc prog w 0 (fun _=>true) held a 22 cs=some x) :
  ∃(v:Value) (l:List (List UInt8)),cs=[v]/\Src 1 StrR Anyw w v l/\(∀z∈l,(fun z:(List UInt8)=>Zaw z) z)/\l.length<=9223372036854775807:=
 Zhq (p:=fun z:(List UInt8)=>Zaw z) underlying22 Zg1 (by decide) g (fun _ d _ f b=>by obtain⟨z,k,e⟩:=Zea b;exact⟨z,k,.string (S z),rfl,by rw[e];rfl⟩)
theorem Zk7 {A:Type}{enc:TypeId×Value->A}{w:World}{held:Bool}{d:Nat}{cs:List Value}{x:DataW A×List MemPlace}(y:cs.length=3)
  (B:DataW.trod enc prog w 0 (fun _=>true) held d 28 cs=some x):∃z:Ins,(i64 z.n/\Zaw z.op/\Zaw z.s)/\∃v:Value,InsR Anyw w z v/\v.cells.toList=cs:=by
 obtain⟨b,n,_,_,_,c,a⟩:=DataW.trod_struct underlying28 B
 match cs,y with
 |[c0,c1,c2],_=>
  have l:DataW.trod enc prog w 0 (fun _=>true) held n 9 [c0]=b[0]?:=by
   have g:=a 0 _ rfl;change DataW.trod enc prog w 0 (fun _=>true) held n 9 (([c0,c1,c2].drop 0).take (prog.cellsOf 9))=b[0]? at g;rw[Zg1]at g;exact g
  rw[Yaa (by rw[c];decide)]at l;have j:DataW.trod enc prog w 0 (fun _=>true) held n 2 [c1]=b[1]?:=by
   have g:=a 1 _ rfl;change DataW.trod enc prog w 0 (fun _=>true) held n 2 (([c0,c1,c2].drop 1).take (prog.cellsOf 2))=b[1]? at g;rw[Zti]at g;exact g
  rw[Yaa (by rw[c];decide)]at j;have f:DataW.trod enc prog w 0 (fun _=>true) held n 9 [c2]=b[2]?:=by
   have g:=a 2 _ rfl;change DataW.trod enc prog w 0 (fun _=>true) held n 9 (([c0,c1,c2].drop 2).take (prog.cellsOf 9))=b[2]? at g;rw[Zg1]at g;exact g
  rw[Yaa (by rw[c];decide)]at f;obtain⟨m,r,i⟩:=Zea l;obtain⟨p,h,_,q⟩:=DataW.trod_int underlying2 j;obtain⟨t,u,k⟩:=Zea f;simp only[YaT,and_true]at i;subst i;simp only[YaT,and_true]at h;subst h;simp only[YaT,and_true]at k;subst k;exact⟨⟨m,p,t⟩,⟨bounds_i64 q,r,u⟩,_,rfl,rfl⟩
theorem Zph {d:Type}{enc:TypeId×Value->d}{w:World}{held:Bool}{a:Nat}{cs:List Value}{x:DataW d×List MemPlace}(g:DataW.trod enc prog w 0 (fun _=>true) held a 23 cs=some x) :
  ∃(v:Value) (l:List Ins),cs=[v]/\Src 3 InsR Anyw w v l/\(∀z∈l,(fun z:Ins=>i64 z.n/\Zaw z.op/\Zaw z.s) z)/\l.length<=9223372036854775807:=
 Zhq (p:=fun z:Ins=>i64 z.n/\Zaw z.op/\Zaw z.s) underlying23 ZrP (by decide) g (fun _ f _ c b=>Zk7 c b)
theorem Zra {D:Type}{enc:TypeId×Value->D}{w:World}{held:Bool}{d:Nat}{cs:List Value}{x:DataW D×List MemPlace}(C:cs.length=4)
  (E:DataW.trod enc prog w 0 (fun _=>true) held d 173 cs=some x):∃z:Cat,(z.held/\Zaw z.cls)/\∃v:Value,CatR Anyw w z v/\v.cells.toList=cs:=by
 obtain⟨b,n,_,_,_,c,a⟩:=DataW.trod_struct underlying173 E
 match cs,C with
 |[c0,c1,c2,c3],_=>
  have p:DataW.trod enc prog w 0 (fun _=>true) held n 3 [c0]=b[0]?:=by
   have g:=a 0 _ rfl;change DataW.trod enc prog w 0 (fun _=>true) held n 3 (([c0,c1,c2,c3].drop 0).take (prog.cellsOf 3))=b[0]? at g;rw[Zk6]at g;exact g
  rw[Yaa (by rw[c];decide)]at p;have j:DataW.trod enc prog w 0 (fun _=>true) held n 3 [c1]=b[1]?:=by
   have g:=a 1 _ rfl;change DataW.trod enc prog w 0 (fun _=>true) held n 3 (([c0,c1,c2,c3].drop 1).take (prog.cellsOf 3))=b[1]? at g;rw[Zk6]at g;exact g
  rw[Yaa (by rw[c];decide)]at j;have f:DataW.trod enc prog w 0 (fun _=>true) held n 3 [c2]=b[2]?:=by
   have g:=a 2 _ rfl;change DataW.trod enc prog w 0 (fun _=>true) held n 3 (([c0,c1,c2,c3].drop 2).take (prog.cellsOf 3))=b[2]? at g;rw[Zk6]at g;exact g
  rw[Yaa (by rw[c];decide)]at f;have l:DataW.trod enc prog w 0 (fun _=>true) held n 9 [c3]=b[3]?:=by
   have g:=a 3 _ rfl;change DataW.trod enc prog w 0 (fun _=>true) held n 9 (([c0,c1,c2,c3].drop 3).take (prog.cellsOf 9))=b[3]? at g;rw[Zg1]at g;exact g
  rw[Yaa (by rw[c];decide)]at l;obtain⟨q,i,_,u⟩:=DataW.trod_int underlying3 p;obtain⟨s,h,_,t⟩:=DataW.trod_int underlying3 j;obtain⟨A,k,_,B⟩:=DataW.trod_int underlying3 f;obtain⟨r,y,m⟩:=Zea l;simp only[YaT,and_true]at i;subst i;simp only[YaT,and_true]at h;subst h;simp only[YaT,and_true]at k;subst k;simp only[YaT,and_true]at m;subst m;exact⟨⟨q,s,A,r⟩,⟨⟨bounds_i64 u,bounds_i64 t,bounds_i64 B⟩,y⟩,_,rfl,rfl⟩
theorem Zpg {d:Type}{enc:TypeId×Value->d}{w:World}{held:Bool}{a:Nat}{cs:List Value}{x:DataW d×List MemPlace}(g:DataW.trod enc prog w 0 (fun _=>true) held a 24 cs=some x) :
  ∃(v:Value) (l:List Cat),cs=[v]/\Src 4 CatR Anyw w v l/\(∀z∈l,(fun z:Cat=>z.held/\Zaw z.cls) z)/\l.length<=9223372036854775807:=
 Zhq (p:=fun z:Cat=>z.held/\Zaw z.cls) underlying24 Zth (by decide) g (fun _ f _ c b=>Zra c b)
theorem Zrb {X:Type}{enc:TypeId×Value->X}{w:World}{held:Bool}{i:Nat}{cs:List Value}{x:DataW X×List MemPlace}(W:cs.length=7)
  (aa:DataW.trod enc prog w 0 (fun _=>true) held i 26 cs=some x):∃z:Mth,(z.held/\z.Fit/\∀f∈z.code,Zaw f.op)/\∃v:Value,MthR Anyw w z v/\v.cells.toList=cs:=by
 obtain⟨b,n,_,_,_,c,a⟩:=DataW.trod_struct underlying26 aa
 match cs,W with
 |[c0,c1,c2,c3,c4,c5,c6],_=>
  have C:DataW.trod enc prog w 0 (fun _=>true) held n 9 [c0]=b[0]?:=by
   have g:=a 0 _ rfl;change DataW.trod enc prog w 0 (fun _=>true) held n 9 (([c0,c1,c2,c3,c4,c5,c6].drop 0).take (prog.cellsOf 9))=b[0]? at g;rw[Zg1]at g;exact g
  rw[Yaa (by rw[c];decide)]at C;have p:DataW.trod enc prog w 0 (fun _=>true) held n 22 [c1]=b[1]?:=by
   have g:=a 1 _ rfl;change DataW.trod enc prog w 0 (fun _=>true) held n 22 (([c0,c1,c2,c3,c4,c5,c6].drop 1).take (prog.cellsOf 22))=b[1]? at g;rw[Zkc]at g;exact g
  rw[Yaa (by rw[c];decide)]at p;have k:DataW.trod enc prog w 0 (fun _=>true) held n 9 [c2]=b[2]?:=by
   have g:=a 2 _ rfl;change DataW.trod enc prog w 0 (fun _=>true) held n 9 (([c0,c1,c2,c3,c4,c5,c6].drop 2).take (prog.cellsOf 9))=b[2]? at g;rw[Zg1]at g;exact g
  rw[Yaa (by rw[c];decide)]at k;have u:DataW.trod enc prog w 0 (fun _=>true) held n 4 [c3]=b[3]?:=by
   have g:=a 3 _ rfl;change DataW.trod enc prog w 0 (fun _=>true) held n 4 (([c0,c1,c2,c3,c4,c5,c6].drop 3).take (prog.cellsOf 4))=b[3]? at g;rw[ZoZ]at g;exact g
  rw[Yaa (by rw[c];decide)]at u;have D:DataW.trod enc prog w 0 (fun _=>true) held n 3 [c4]=b[4]?:=by
   have g:=a 4 _ rfl;change DataW.trod enc prog w 0 (fun _=>true) held n 3 (([c0,c1,c2,c3,c4,c5,c6].drop 4).take (prog.cellsOf 3))=b[4]? at g;rw[Zk6]at g;exact g
  rw[Yaa (by rw[c];decide)]at D;have q:DataW.trod enc prog w 0 (fun _=>true) held n 23 [c5]=b[5]?:=by
   have g:=a 5 _ rfl;change DataW.trod enc prog w 0 (fun _=>true) held n 23 (([c0,c1,c2,c3,c4,c5,c6].drop 5).take (prog.cellsOf 23))=b[5]? at g;rw[Zsw]at g;exact g
  rw[Yaa (by rw[c];decide)]at q;have r:DataW.trod enc prog w 0 (fun _=>true) held n 24 [c6]=b[6]?:=by
   have g:=a 6 _ rfl;change DataW.trod enc prog w 0 (fun _=>true) held n 24 (([c0,c1,c2,c3,c4,c5,c6].drop 6).take (prog.cellsOf 24))=b[6]? at g;rw[Zsv]at g;exact g
  rw[Yaa (by rw[c];decide)]at r;obtain⟨E,L,m⟩:=Zea C;obtain⟨Z,I,l,V,J,O⟩:=ZeR p;obtain⟨N,Q,s⟩:=Zea k;obtain⟨F,y,_⟩:=DataW.trod_bool underlying4 u;obtain⟨P,A,_,M⟩:=DataW.trod_int underlying3 D;obtain⟨ab,U,t,T,h,G⟩:=Zph q;obtain⟨Y,K,j,H,B,R⟩:=Zpg r;simp only[YaT,and_true]at m;subst m;simp only[YaT,and_true]at l;subst l;simp only[YaT,and_true]at s;subst s;simp only[YaT,and_true]at y;subst y;simp only[YaT,and_true]at A;subst A;simp only[YaT,and_true]at t;subst t;simp only[YaT,and_true]at j;subst j;exact⟨⟨E,I,N,F,P,U,K⟩,⟨⟨bounds_i64 M,fun f d=>(h f d).1,fun f d=>(B f d).1⟩,⟨L,Q,J,fun f d=>(h f d).2.2,fun f d=>(B f d).2,O,G,R⟩,fun f d=>(h f d).2.1⟩,_,⟨_,_,_,rfl,V,T,H⟩,rfl⟩
end Go.Proofs.YtegljjbclladdaaGreatDoor
namespace Go.Proofs.YtegljjbclladdaaGreatDoor
open Go.Shelf Go.RowKit Go.Lib Proofs.Tryz
theorem own:ownKnob prog.godebug=none:=by kernel_rfl
theorem ZqA:Rows.laid_unicode_utf8_first=Lib.firstData:=by kernel_rfl
theorem Znm:(Rows.laid_unicode_utf8_acceptRanges:DataW Unit)=Lib.acceptData:=by kernel_rfl
def ZsC:DataW Unit:=.agg (opTab.map fun x=>.agg [.lit (.string x.1),.lit (.int .i64 (x.2:Nat))])
theorem Ztm:(Rows.laid_squinch_code_operators:DataW Unit)=ZsC:=by kernel_rfl
theorem ZsN {W:World}(a:VarReads prog W "unicode/utf8.first" Rows.laid_unicode_utf8_first)(b:VarReads prog W "unicode/utf8.acceptRanges" Rows.laid_unicode_utf8_acceptRanges):Tabs W:=by
 rw[Znm]at b;rw[ZqA]at a;exact utf8Tabs_of_readsT (U8Types.of196 ZiM) ⟨by kernel_rfl,by kernel_rfl,by kernel_rfl,by kernel_rfl,by kernel_rfl,by kernel_rfl,by kernel_rfl⟩ a b
theorem Zpm:∀(l:List (List UInt8×Nat)) (i:Nat) (b:i<l.length),(l.flatMap fun x=>[Value.string (S x.1),Value.int .i64 (x.2:Nat)])[2*i]?=some (.string (S l[i].1))/\(l.flatMap fun x=>[Value.string (S x.1),Value.int .i64 (x.2:Nat)])[2*i+1]?=some (.int .i64 (l[i].2:Nat))
 |x::l,0,_=>⟨rfl,rfl⟩
 |x::l,i+1,b=>by
  have a:=Zpm l i (by simpa using b);rw[Yb6,show 2*(i+1)=2*i+2 from by omega];exact⟨a.1,a.2⟩
theorem Zre (l:List (List UInt8×Nat)):(l.flatMap fun x=>[Value.string (S x.1),Value.int .i64 (x.2:Nat)]).length=2*l.length:=by
 induction l with
 |nil=>rfl
 |cons x l a=>rw[Yb6,Yal,a,YaI];simp;omega
theorem ZgI:prog.cellsOf 205=2:=by kernel_rfl
theorem ZgJ:prog.cellsOf 9=1:=by kernel_rfl
theorem Zhk:prog.cellsOf 203=1:=by kernel_rfl
theorem ZsB {w:World}{h:Nat}{cs:List Value}{p:List MemPlace}{x:List UInt8×Nat}(t:cs.length=2)
  (v:DataW.trod (fun _=>()) prog w 0 (fun _=>true) false h 205 cs=some (.agg [.lit (.string x.1),.lit (.int .i64 (x.2:Nat))],p)):cs=[.string (S x.1),.int .i64 (x.2:Nat)]:=by
 obtain⟨a,n,_,k,_,u,d⟩:=DataW.trod_struct underlying205 v
 match cs,t with
 |[c0,c1],_=>
  have r:DataW.trod (fun _=>()) prog w 0 (fun _=>true) false n 9 [c0]=a[0]?:=by
   have g:=d 0 _ rfl;change DataW.trod (fun _=>()) prog w 0 (fun _=>true) false n 9 (([c0,c1].drop 0).take (prog.cellsOf 9))=a[0]? at g;rw[ZgJ]at g;exact g
  have l:DataW.trod (fun _=>()) prog w 0 (fun _=>true) false n 203 [c1]=a[1]?:=by
   have g:=d 1 _ rfl;change DataW.trod (fun _=>()) prog w 0 (fun _=>true) false n 203 (([c0,c1].drop 1).take (prog.cellsOf 203))=a[1]? at g;rw[Zhk]at g;exact g
  have f:a.map (·.1)=[.lit (.string x.1),.lit (.int .i64 (x.2:Nat))]:=by
   have:=Ya8 Prod.fst k;simpa using this.symm
  match a,f with
  |[y0,y1],f=>
   obtain⟨s,j,m,_⟩:=DataW.trod_string underlying9 r;obtain⟨z,i,q,_⟩:=DataW.trod_int underlying203 l;simp only[YaT,and_true]at j i;subst j i m q;simp only[YbI,Ycu,YaT,and_true]at f;obtain⟨c,b⟩:=f;injection c with c
   injection c with c
   injection b with b
   injection b with _ b
   rw[←c,←b,Zne]
theorem Zrc {W:World}(f:VarReads prog W "squinch/code.operators" Rows.laid_squinch_code_operators):OpTab W:=by
 rw[Ztm]at f;obtain⟨g,t,cs,D,p,u,y,m,B⟩:=f;obtain rfl:2=g:=Yac ((show prog.globalNamed "squinch/code.operators" = some 2 by kernel_rfl).symm.trans u)
 obtain rfl:218=t:=Yac ((show(prog.globals[2]?).map (·.type)=some 218 by kernel_rfl).symm.trans y);have k:∀i (a:i<opTab.length),cs.toList[2*i]?=some (.string (S opTab[i].1))/\cs.toList[2*i+1]?=some (.int .i64 (opTab[i].2:Nat)):=by
  intro i a;obtain⟨A,d,F,j,l⟩:=array_elem underlying218 B i (by rw[ZcX]at a;exact a);rw[Yav,Yaa a,YbV,Ya1]at j;subst j;rw[ZgI]at l;have n:((cs.toList.drop (i*2)).take 2).length=2:=by
   obtain⟨_,_,_,_,C,_,_⟩:=DataW.trod_struct underlying205 l;rw[C,ZgI]
  have z:=ZsB (x:=opTab[i]) n l;have r:=Ya8 (·[0]?) z;have q:=Ya8 (·[1]?) z;simp only[YbQ,Ybo]at r q;refine⟨?_,?_⟩
  ·simpa[Nat.mul_comm]using r
  ·simpa[Nat.mul_comm]using q
 intro c v b;have E:c<84:=by
  rcases YaC c 84 with f|f
  ·exact f
  ·rw[YaS (by unfold opCells;rw[Zre,ZcX];exact f)]at b;cases b
 have h:W.cell? ⟨2,0+c,none⟩=cs.toList[c]?:=by
  rw[Ya6,World.var?_cell u m c,Yca]
 have a:c/2<opTab.length:=by rw[ZcX];omega
 have w:=Zpm opTab (c/2) a;have s:=k (c/2) a;unfold opCells at b;rw[h];rcases(show c=2*(c/2)\/c=2*(c/2)+1 by omega)with f|f
 ·rw[f]at b⊢;rw[s.1,←w.1];exact b
 ·rw[f]at b⊢;rw[s.2,←w.2];exact b
end Go.Proofs.YtegljjbclladdaaGreatDoor
namespace Go.Proofs.YtegljjbclladdaaGreatDoor
open Go.Shelf Go.RowKit Go.Lib Proofs.Tryz
def ZlL:DataW Unit:=.agg (faultsL.map fun n=>.lit (.string n))
theorem Zn4:(Rows.laid_squinch_hier_faults:DataW Unit)=ZlL:=by kernel_rfl
theorem ZjS:faultsL.length=6:=rfl
theorem ZjT {W:World}(m:VarReads prog W "squinch/hier.faults" Rows.laid_squinch_hier_faults):FaultTab W:=by
 rw[Zn4]at m;obtain⟨g,t,cs,C,p,r,w,l,y⟩:=m;obtain rfl:0=g:=Yac ((show prog.globalNamed "squinch/hier.faults" = some 0 by kernel_rfl).symm.trans r)
 obtain rfl:131=t:=Yac ((show(prog.globals[0]?).map (·.type)=some 131 by kernel_rfl).symm.trans w);have k:∀i (f:i<faultsL.length),cs.toList[i]?=some (.string (S faultsL[i])):=by
  intro i f;obtain⟨x,d,D,h,u⟩:=array_elem underlying131 y i (by rw[ZjS]at f;exact f);rw[Yav,Yaa f,YbV,Ya1]at h;subst h;rw[ZgJ]at u;obtain⟨s,z,A,_⟩:=DataW.trod_string underlying9 u;have q:=Ya8 (·[0]?) z;simp only[YbQ,Ybo]at q;have B:cs.toList[i]?=some (.string s):=by simpa using q
  have a:=Ya8 Prod.fst A;simp only at a;injection a with a
  injection a with a
  rw[B,a,Zne]
 intro n v b;have j:n<faultsL.length:=by
  rcases YaC n faultsL.length with m|m
  ·exact m
  ·rw[YaS (by unfold faultCells;rw[YaB];exact m)]at b;cases b
 have c:W.cell? ⟨0,0+n,none⟩=cs.toList[n]?:=by
  rw[Ya6,World.var?_cell r l n,Yca]
 unfold faultCells at b;rw[Yav,Yaa j,YbV]at b;rw[c,k n j];exact b
noncomputable def laidWorld4 (d:Os):World:=
 let b:=World.holding prog d ⟨#[],#[],[]⟩
 let put (k:Array Obj) (g:Nat) (cs:Array Value):Array Obj:=k.modify g fun
  |.cells _ t a=>.cells cs t a
  |o=>o
 let c:=put b.heap 3 (Lib.firstTab.map fun z=>Value.int .u8 z).toArray
 let h:=put c 4 ((List.range 16).flatMap fun i=>[Value.int .u8 (Lib.accLo i),Value.int .u8 (Lib.accHi i)]).toArray
 let f:=put h 2 opCells.toArray
 let j:=put f 0 faultCells.toArray
 { b with heap:=j }
def Zh4:List (String×DataW Unit):=[("unicode/utf8.acceptRanges",Rows.laid_unicode_utf8_acceptRanges),("squinch/code.operators",Rows.laid_squinch_code_operators),("squinch/hier.faults",Rows.laid_squinch_hier_faults),("unicode/utf8.first",Rows.laid_unicode_utf8_first)]
structure HT6 (W:World):Prop where
 ct:CT W
 ft:FaultTab W
theorem ZtK {W:World}(a:laidMet prog Zh4 W):HT6 W:=
 ⟨⟨ZsN (Lib.laidMet.reads a (.tail _ (.tail _ (.tail _ (.head _))))) (Lib.laidMet.reads a (.head _)),Zrc (Lib.laidMet.reads a (.tail _ (.head _)))⟩,ZjT (Lib.laidMet.reads a (.tail _ (.tail _ (.head _))))⟩
theorem Zte (a:Os)(args:Array Value):laidMet prog Zh4 ((laidWorld4 a).forCall (fun _ _=>0) ⟨#[],args,[]⟩).memory:=
 (LaidIn.of_run (l:=Zh4) [3,4,2,0] 8 (by kernel_rfl) (by kernel_rfl) (by kernel_rfl) (by kernel_rfl)).met
end Go.Proofs.YtegljjbclladdaaGreatDoor
namespace Go.Proofs.YtegljjbclladdaaGreatDoor
open Go.RowKit Proofs.Tryz
theorem Box.setTo {w:World}{B:Nat}{cs:Array Value}{t:TypeId}(c:Box w B cs t)(b:Nat)(u:Value)(a:Array Value)(e:cs.setIfInBounds b u=a):Box (w.setCell ⟨B,b,none⟩ u) B a t:=e▸c.set b u
theorem set7 {w:World}{B:Nat}{t:TypeId}{r q n m l j g:Value}(s:Box w B #[r,q,n,m,l,j,g] t)(a b c d f h k:Value) :
  Box (((((((w.setCell ⟨B,0,none⟩ a).setCell ⟨B,1,none⟩ b).setCell ⟨B,2,none⟩ c).setCell ⟨B,3,none⟩ d).setCell ⟨B,4,none⟩ f).setCell ⟨B,5,none⟩ h).setCell ⟨B,6,none⟩ k) B #[a,b,c,d,f,h,k] t/\Only (fun i=>i=B) w (((((((w.setCell ⟨B,0,none⟩ a).setCell ⟨B,1,none⟩ b).setCell ⟨B,2,none⟩ c).setCell ⟨B,3,none⟩ d).setCell ⟨B,4,none⟩ f).setCell ⟨B,5,none⟩ h).setCell ⟨B,6,none⟩ k):=
 ⟨(((((((s.setTo 0 a #[a,q,n,m,l,j,g] rfl).setTo 1 b #[a,b,n,m,l,j,g] rfl).setTo 2 c #[a,b,c,m,l,j,g] rfl).setTo 3 d #[a,b,c,d,l,j,g] rfl).setTo 4 f #[a,b,c,d,f,j,g] rfl).setTo 5 h #[a,b,c,d,f,h,g] rfl).setTo 6 k #[a,b,c,d,f,h,k] rfl),(((((((Yak (fun i=>i=B) w).setCell (p:=⟨B,0,none⟩) rfl a).setCell (p:=⟨B,1,none⟩) rfl b).setCell (p:=⟨B,2,none⟩) rfl c).setCell (p:=⟨B,3,none⟩) rfl d).setCell (p:=⟨B,4,none⟩) rfl f).setCell (p:=⟨B,5,none⟩) rfl h).setCell (p:=⟨B,6,none⟩) rfl k⟩
theorem Zdl {w:World}{B:Nat}{t:TypeId}{i b f g h c d:Value}(a:Box w B #[i,b,f,g,h,c,d] t):w.cell? ⟨B,0,none⟩=some i/\w.cell? ⟨B,1,none⟩=some b/\w.cell? ⟨B,2,none⟩=some f/\w.cell? ⟨B,3,none⟩=some g/\w.cell? ⟨B,4,none⟩=some h/\w.cell? ⟨B,5,none⟩=some c/\w.cell? ⟨B,6,none⟩=some d:=⟨a.cell 0 rfl,a.cell 1 rfl,a.cell 2 rfl,a.cell 3 rfl,a.cell 4 rfl,a.cell 5 rfl,a.cell 6 rfl⟩
theorem ZfZ {w:World}{B:Nat}{t:TypeId}{cs:Array Value}(a:Box w B cs t):w.frozen? ⟨B,0,none⟩=false/\w.frozen? ⟨B,1,none⟩=false/\w.frozen? ⟨B,2,none⟩=false/\w.frozen? ⟨B,3,none⟩=false/\w.frozen? ⟨B,4,none⟩=false/\w.frozen? ⟨B,5,none⟩=false/\w.frozen? ⟨B,6,none⟩=false:=⟨a.free 0,a.free 1,a.free 2,a.free 3,a.free 4,a.free 5,a.free 6⟩
theorem Zny {w:World}{B:Nat}{t:TypeId}{j b f h i c d g:Value}(a:Box w B #[j,b,f,h,i,c,d,g] t):w.cell? ⟨B,0,none⟩=some j/\w.cell? ⟨B,1,none⟩=some b/\w.cell? ⟨B,2,none⟩=some f/\w.cell? ⟨B,3,none⟩=some h/\w.cell? ⟨B,4,none⟩=some i/\w.cell? ⟨B,5,none⟩=some c/\w.cell? ⟨B,6,none⟩=some d/\w.cell? ⟨B,7,none⟩=some g:=⟨a.cell 0 rfl,a.cell 1 rfl,a.cell 2 rfl,a.cell 3 rfl,a.cell 4 rfl,a.cell 5 rfl,a.cell 6 rfl,a.cell 7 rfl⟩
structure Wise (es:List Ent):Prop where
 sh:Shape es
 ac:Acyc es
 par:Zdi es
 uq:Uniq es
 cl:∀(i:Nat) (e:Ent),es[i]?=some e->Zah e.cls.name=true
 obj:es[0]?=some ⟨objC,none,[]⟩
 flt:es[1]?=some ⟨Zb8,some 0,[]⟩
 up:∀(i:Nat) (e:Ent),es[i]?=some e->i≠0->∃j,e.up=some j
 lk:∀(i:Nat) (e:Ent),es[i]?=some e->∀k∈e.lk,ZcB es k=true
 itf:∀(i:Nat) (e:Ent),es[i]?=some e->e.cls.itf=true->e.up=some 0/\e.cls.flds=[]/\∀m∈e.cls.mths,m.abs=true
 sup:∀(i:Nat) (e:Ent) (j:Nat),es[i]?=some e->e.up=some j->ZcB es j=false
 mth:∀(i:Nat) (e:Ent),es[i]?=some e->(e.cls.mths.map Mth.name).Nodup
 fld:∀(i:Nat) (e:Ent),es[i]?=some e->(e.cls.flds.map Fld.name).Nodup
 good:Zhf es
theorem ZgT {l:List (List UInt8)}(d:ZbM l=true):l.Nodup:=by
 unfold ZbM ZbG at d;rw[YaF]at d;rw[List.nodup_iff_pairwise_ne,List.pairwise_iff_getElem];intro i h g b f c;have a:=d h (YbM.2 b);unfold Zf0 at a;rw[Ybj,YaW]at a;refine a l[i] ?_ ?_
 ·rw[List.mem_iff_getElem];exact⟨i,by rw[YaA];omega,by rw[List.getElem_take]⟩
 ·rw[Yap,Yaa b,c];simp
theorem Za1:∀i,i<8->∀e,startL[i]?=some e->Zah e.cls.name=true/\(i≠0->e.up.isSome=true)/\e.lk=[]/\e.cls.itf=false/\(∀j,e.up=some j->j<2)/\e.cls.mths=[]/\e.cls.flds.length<=1:=by
 have p:startL.all (fun e=>Zah e.cls.name&&(decide (e.lk=[])&&(decide (e.cls.itf=false)&&(decide (e.cls.mths.length=0)&&decide (e.cls.flds.length<=1)))))=true:=by decide
 have n:∀i,i<8->(i=0\/((startL[i]?).bind Ent.up).isSome=true)/\∀j,(startL[i]?).bind Ent.up=some j->j<2:=by decide
 intro i l e k;have h:=YaF.1 p e (Yaf k);simp only[Yaw,YaP]at h;obtain⟨a,b,c,d,f⟩:=h;have g:=n i l;rw[k]at g;exact⟨a,fun m=>g.1.resolve_left m,b,c,g.2,Ya0.1 d,f⟩
theorem Lined.itf_sup {cs:List Cls}(g:Lined cs){c:Cls}(d:c∈cs)(f:c.itf=true):c.sup=objL/\c.flds=[]/\∀m∈c.mths,m.abs=true:=by
 have b:=(g.good c d).parts.2;unfold Cls.fine at b;simp only[Yaw]at b;have a:=b.2.1;unfold Cls.sort at a;split at a
 ·cases a
 ·split at a
  ·cases a
  ·simp only[Yaw,YaP,YaF]at a;exact⟨a.2.1,Ya0.1 a.2.2.1,a.2.2.2⟩
theorem Lined.dist {cs:List Cls}(f:Lined cs){c:Cls}(d:c∈cs):(c.flds.map Fld.name).Nodup/\(c.mths.map Mth.name).Nodup:=by
 have b:=(f.good c d).parts.2;unfold Cls.fine at b;simp only[Yaw]at b;have a:=b.1;unfold Cls.names at a;simp only[Yaw]at a;exact⟨ZgT a.2.2.2.2.1,ZgT a.2.2.2.2.2⟩
theorem ZbA {cs:List Cls}{i:Nat}(a:i<8):(newT cs)[i]?=startL[i]?:=by
 unfold newT;rw[YaR (by rw[ZaF];exact a)]
theorem ZdB {cs:List Cls}{i:Nat}(a:i<8):(Zar cs)[i]?=startL[i]?:=by
 unfold Zar;rw[YaR (by rw[ZaF];exact a)]
theorem Zpq {cs:List Cls}:Zad (Zar cs) objL=some 0:=by
 unfold Zad Zar;rw[YcA];rfl
theorem Lined.wise {cs:List Cls}(s:Lined cs)(y:Shape (newT cs))(A:Acyc (newT cs))(D:Zhf (newT cs)):Wise (newT cs) where
 sh:=y
 ac:=A
 par:=s.par
 uq:=s.uniq
 cl:=fun i e p=>by
  rcases Zbn p with⟨j,h⟩|⟨j,c,h,rfl⟩
  ·exact(Za1 i j e h).1
  ·exact(s.good c (Yaf h)).name
 obj:=ZbA (by omega)
 flt:=ZbA (by omega)
 up:=fun i e p C=>by
  rcases Zbn p with⟨j,h⟩|⟨j,c,h,rfl⟩
  ·exact YaL.1 ((Za1 i j e h).2.1 C)
  ·exact YaL.1 (s.ups c (Yaf h))
 lk:=fun i e p k v=>by
  rcases Zbn p with⟨j,h⟩|⟨j,c,h,rfl⟩
  ·rw[(Za1 i j e h).2.2.1]at v;cases v
  ·obtain⟨n,B,r⟩:=Ya2.1 (show k∈c.like.map fun n=>(Zcp (Zar cs) n).getD 0 from v);have G:=YaF.1 (s.likes c (Yaf h)) n B;obtain⟨t,q⟩:=YaL.1 G;rw[q]at r;obtain rfl:t=k:=r;rw[ZeK (Zcj cs)];exact(ZcV q).2
 itf:=fun i e p w=>by
  rcases Zbn p with⟨j,h⟩|⟨j,c,h,rfl⟩
  ·rw[(Za1 i j e h).2.2.2.1]at w;cases w
  ·obtain⟨a,b,d⟩:=s.itf_sup (Yaf h) w;refine⟨?_,b,d⟩;show upE (Zar cs) c.sup=some 0;rw[a];unfold upE;rw[Zpq];have m:ZcB (Zar cs) 0=false:=by unfold ZcB;rw[ZdB (by omega)];rfl
   have u:ZfV (Zar cs) 0=false:=by unfold ZfV;rw[ZdB (by omega)];rfl
   dsimp only;rw[m,u];rfl
 sup:=fun i e t p q=>by
  rcases Zbn p with⟨j,h⟩|⟨j,c,h,rfl⟩
  ·have m:=(Za1 i j e h).2.2.2.2.1 t q;have u:∀t,t<2->ZcB startL t=false:=by decide
   unfold ZcB;rw[ZbA (by omega)];exact u t m
  ·have m:upE (Zar cs) c.sup=some t:=q;unfold upE at m;cases x:Zad (Zar cs) c.sup with
   |none=>rw[x]at m;cases m
   |some E=>
    rw[x]at m;dsimp only at m;split at m
    ·cases m
    ·rename_i z;obtain rfl:=Yac m;rw[ZeK (Zcj cs)];cases F:ZcB (Zar cs) E
     ·rfl
     ·rw[F]at z;exact absurd rfl z
 mth:=fun i e p=>by
  rcases Zbn p with⟨j,h⟩|⟨j,c,h,rfl⟩
  ·rw[(Za1 i j e h).2.2.2.2.2.1];exact Yb9
  ·exact(s.dist (Yaf h)).2
 fld:=fun i e p=>by
  rcases Zbn p with⟨j,h⟩|⟨j,c,h,rfl⟩
  ·have m:=(Za1 i j e h).2.2.2.2.2.2
   match H:e.cls.flds,m with
   |[],_=>exact Yb9
   |[f],_=>simp
   |f::g::l,m=>simp at m
  ·exact(s.dist (Yaf h)).1
 good:=D
