/- laws -/
import Derived.Test.YtegljjbclladdaaGreatDoorK10
import Derived.Lib.AppendZeros
set_option maxRecDepth 100000
set_option maxHeartbeats 16000000
namespace Go.Proofs.YtegljjbclladdaaGreatDoor
open Go.RowKit Tryz
def SlR {α:Type}(n:Nat)(R:Zao α):Zao (List α):=fun A w l v=>Src n R A w v l
theorem Zbf {P:Program}(w:World)(t ty e:TypeId)(i:TypeInfo)(size:Nat)(b:P.underlying t=some (.slice e))(d:P.info? e=some i)
  (v:Value)(n:Nat)(xs:List Value)(a:w.ownsRow 0 e size v n xs)(A:Option Addr)(c:Nat):(Builtin.append_ #[t,t] ty #[v,.slice A 0 c]).run P w=.ok v w:=by
 rcases a.2 with⟨rfl,rfl⟩|⟨g,k,l,rfl,_,m,f,_,j,h⟩
 ·cases A<;>simp[Builtin.append_,run_underlying b,sizeOf,typeInfo,d,Builtin.lenOf,Builtin.firstCells,loadCells,loadCellsFrom]
 ·cases A<;>simp[Builtin.append_,run_underlying b,sizeOf,typeInfo,d,Builtin.lenOf,Builtin.firstCells,f,storeCells,loadCells,loadCellsFrom]
theorem ZqB {α:Type}{f:α->Value}(g:∀x,(f x).cells=#[f x]){A:Nat->Prop}{w:World}{b o:Nat}{l:List α}(i:∀k x,l[k]?=some x->∃v,Flat f A w x v/\v.cells.size=1/\∀c u,v.cells[c]?=some u->w.cell? ⟨b,o+k*1+c,none⟩=some u) :
  ∀c u,(l.map f)[c]?=some u->w.cell? ((⟨b,o,none⟩:Addr).add c)=some u:=by
 intro c u a;rw[Yav]at a;cases d:l[c]? with
 |none=>rw[d]at a;cases a
 |some x=>
  rw[d]at a;cases a
  obtain⟨v,rfl,_,h⟩:=i c x d;have:=h 0 (f x) (by rw[g];rfl);rw[Ybn];rw[YaH,YbO]at this;exact this
theorem Zm0 {α:Type}{f:α->Value}(c:∀x,(f x).cells=#[f x]){t:TypeId}{w:World}{v:Value}{l:List α}(n:w.ownsRow 0 t 1 v (l.map f).length (l.map f)):Src 1 (Flat f) Anyw w v l:=by
 rcases n.2 with⟨rfl,p⟩|⟨g,j,y,rfl,z,m,b,d,_⟩
 ·exact .inl ⟨_,_,rfl,List.eq_nil_of_length_eq_zero (by simpa using p)⟩
 ·refine .inr ⟨g,0,j,by rw[YaB],⟨trivial,lt_of_block m,by rw[YaB]at b;exact b,d⟩,fun k x r=>⟨_,rfl,by rw[c];rfl,fun s u a=>?_⟩⟩;rw[c]at a;have i:s=0:=by
   rcases YbR s with n|n
   ·exact n
   ·rw[Array.getElem?_eq_none (by simp;omega)]at a;cases a
  subst i;have q:u=f x:=by simpa using a.symm
  subst q;have h:=n.cells (g:=g) rfl k (f x) (by rw[Yav,r];rfl);rw[Ybn]at h;rw[YaH,YbO];exact h
theorem Zfi {α:Type}(a:List (List α))(k:Nat)(x:List α)(b:a[k]?=some x):(a.take (k+1)).flatten=(a.take k).flatten++x:=by
 rw[YaK,b];simp
theorem ZgR {α:Type}(a:List (List α))(k:Nat):(a.take k).flatten.length<=a.flatten.length:=by
 conv=>rhs;rw[←Ya5 k a,List.flatten_append,Yal]
 omega
def preN {α:Type}(a:List (List α))(k:Nat):Nat:=(a.take k).flatten.length
def preV {α:Type}(f:α->Value)(a:List (List α))(k:Nat):List Value:=(a.take k).flatten.map f
def ZrF (t:TypeId)(xs:List Value)(w:World)(e:Ending)(w':World):Prop:=∃v,e=.returned v/\w'.ownsRow 0 t 1 v xs.length xs/\(∀g,v.ownBlock=some g->w.heap.size<=g)/\Below w.heap.size w w'
theorem Zet {w:World}{e:TypeId}{size:Nat}{v:Value}{n:Nat}{xs:List Value}(f:w.ownsRow 0 e size v n xs):∃a m c,v=.slice a m c:=by
 rcases f.2 with⟨rfl,_⟩|⟨g,b,d,rfl,_⟩
 ·exact⟨_,_,_,rfl⟩
 ·exact⟨_,_,_,rfl⟩
theorem ZhA:(prog.info? 9).map (fun i=>(i.zero,i.size,i.bytes))=some (some (.string ⟨#[]⟩),1,16):=by kernel_rfl
theorem ZqC (n:Nat)(w:World)(A:n*16<=140737488355328) :
  Calls prog 183 #[.slice none 0 0,.int .i64 (n:Nat)] w fun e w'=>∃v,e=.returned v/\w'.ownsRow 0 9 1 v 0 []/\(∀g,v.ownBlock=some g->w.heap.size<=g)/\Below w.heap.size w w':=by
 obtain⟨q,c,d,f,a⟩:=info_parts ZhA;have x:(n:Int)<=140737488355328:=by omega
 have y:(0:Int)<=(n:Int):=by omega
 by_cases p:n=0
 ·subst p;go_enter func183,ntmps183;go_wp2;go_ret;exact⟨_,rfl,World.ownsRow_nil _ _ _ _,fun g j=>by simp[Value.ownBlock]at j,Yab _ _⟩
 ·have r:0<(n:Int):=by omega
  have s:=Hd (fun ty=>Lib.run_append_nil_zeros (P:=prog) w 22 3 ty 9 q (.string ⟨#[]⟩) .i64 .i64 underlying22 underlying3 c d n (by omega) (by rw[f];decide) (by omega) (by rw[a];omega));have b:=grownCap_ge w n 0 9;have h:grownCap w n 0 9<=maxLen:=grownCap_le_maxLen w _ 0 9 (by unfold maxLen;omega);have i:(Builtin.zeroCells (.string ⟨#[]⟩:Value).cells n++Builtin.zeroCells (.string ⟨#[]⟩:Value).cells (grownCap w n 0 9-n)).size=grownCap w n 0 9:=by
   rw[Array.size_append,size_zeroCells,size_zeroCells,show(.string ⟨#[]⟩:Value).cells.size=1 from rfl];omega
  have z:=Hd b;have m:=Hd h;have l:=Hd i;clear b h i c d f a;generalize grownCap w n 0 9=k at *;generalize (Builtin.zeroCells (.string ⟨#[]⟩:Value).cells n++Builtin.zeroCells (.string ⟨#[]⟩:Value).cells (k-n))=t at *;have u:(0:Int)<=(k:Int):=by omega
  go_enter func183,ntmps183
  go_wp2_with (at_builtin;refine Lib.wpList_append_run _ rfl _ _ 22 3 rfl (.slice none 0 0) (.int .i64 (n:Nat)) rfl rfl _ _ (s.o _) ?_)
  go_ret;refine⟨_,rfl,⟨rfl,.inr ⟨w.heap.size,k,t,rfl,Yao _,heap_alloc_new w.drew _,Yao _,m.o,by rw[l.o,YaH],by simp⟩⟩,fun g j=>by simp[Value.ownBlock]at j;omega,(Yab _ w).drew.alloc (Yad _) _⟩
theorem ZlH {A:Nat->Prop}(a:List (List (List UInt8)))(sv:Value)(w:World)(X:Src 1 (SlR 1 StrR) A w sv a)(r:a.flatten.length*16<=140737488355328)(ax:a.length<=1048576) :
  Calls prog 119 #[sv] w (ZrF 9 (a.flatten.map strV) w):=by
 obtain⟨aT,aj⟩:∃aT,aT=a.flatten.map strV:=⟨_,rfl⟩
 rw[←aj];have aY:=Hd aj;clear aj;obtain⟨p,y⟩:∃p,p=a.flatten.length:=⟨_,rfl⟩
 have aF:=Hd y;have ar:Hid (p*16<=140737488355328):=Hd (by rw[y];exact r);clear y;obtain⟨av,af,aB,aQ,aI⟩:=info_parts ZhA;have a4:=Hd X;have J:=Hd r;obtain⟨n,z⟩:∃n,n=a.length:=⟨_,rfl⟩
 obtain⟨au,ay,rfl⟩:∃au ay,sv=.slice au n ay:=by rw[z];exact X.shape
 rw[←z]at ax;have aw:=Hd z;clear z;have aa:Hid (∀k:Nat,k<n->∃(b o:Nat) (x:List (List UInt8)) (v:Value),au=some ⟨b,o,none⟩/\a[k]?=some x/\Src 1 StrR A w v x/\w.cell? ⟨b,o+k,none⟩=some v):=Hd (fun k a0=>by
  rcases X with⟨s,a7,Z,rfl⟩|⟨b,o,bj,Z,_,Q⟩
  ·simp at Z;omega
  ·simp at Z;have ae:k<a.length:=by omega
   obtain⟨v,d,bh,aS⟩:=Q k _ (Yaa ae);refine⟨b,o,_,v,Z.1,Yaa ae,d,?_⟩;have:=aS 0 v (by obtain⟨s,E,rfl⟩:=Src.shape d;rfl);rw[YaH,YbO]at this;exact this)
 clear X r;have aN:a.flatten.length<=140737488355328:=by have:=J.o;omega
 have a1:=Hd aN;clear aN;go_enter func119,ntmps119;go_wp2
 go_loop [3,11] (fun aW K=>∃k:Nat,k<=n/\K=.int .i64 k/\aW=.int .i64 (preN a k:Nat)) (fun _ K=>n-(intOf K).toNat)
 case atStart=>exact⟨0,Yao _,rfl,rfl⟩
 case round=>
  obtain⟨k,a0,rfl,rfl⟩:=hrel;by_cases aA:k<n
  ·obtain⟨b,o,x,v,rfl,V,d,Q⟩:=aa.o k aA;obtain⟨s,E,rfl⟩:=d.shape;have c:=Ya8 List.length (Zfi a k x V);rw[Yal]at c;change preN a (k+1)=preN a k+x.length at c;have B:preN a (k+1)<=a.flatten.length:=ZgR a (k+1);have aR:=a1.o;obtain⟨t,aJ⟩:∃t,t=preN a k:=⟨_,rfl⟩
   rw[←aJ]at c⊢;have az:=Hd c;have U:(t:Int)+(x.length:Int)<=140737488355328:=by omega
   have ba:(0:Int)<=(t:Int):=by omega
   have bb:(0:Int)<=(x.length:Int):=by omega
   have bg:(0:Int)<=k:=by omega
   have a9:(k:Int)<(n:Int):=by omega
   clear c B aR d V aJ;generalize x.length=m at *;go_wp2;go_round
   case rel=>exact⟨k+1,by omega,by go_num,by rw[az.o];go_num⟩
   case measure=>simp[intOf];omega
  ·obtain rfl:k=n:=by omega
   have ah:preN a k=p:=by rw[aF.o];unfold preN;rw[Yaz (by rw[aw.o];exact Yad _)]
   rw[ah];clear ah;go_wp2_with fail;with_reducible refine(ZqC p w ar.o).mono ?_
   rintro e bk⟨bp,rfl,I,ab,U⟩;obtain⟨bc,bo,bn,aE⟩:=Zet I;have aL:=Hd I;have aK:=Hd ab;have aH:=Hd U;clear I ab U;subst aE;go_wp2;go_loopw [6,27] (fun aO N wr=>∃i:Nat,i<=k/\N=.int .i64 i/\wr.ownsRow 0 9 1 aO (preV strV a i).length (preV strV a i)/\(∀g,aO.ownBlock=some g->w.heap.size<=g)/\Below w.heap.size w wr) (fun _ N _=>k-(intOf N).toNat)
   case atStart=>exact⟨0,Yao _,rfl,aL.o,aK.o,aH.o⟩
   case round=>
    obtain⟨i,bm,rfl,q,ag,ad⟩:=hrel;obtain⟨H,ai,am,aM⟩:=Zet q;subst aM;have h:=Hd q;have R:=Hd ag;have l:=Hd ad;clear q ag ad;by_cases ao:i<k
    ·obtain⟨b,o,x,v,rfl,V,d,Q⟩:=aa.o i ao;have L:=Yae (S:=fun _=>False) l.o;have aC:=L.cell Q id;have c:=Zfi a i x V;have B:=ZgR a (i+1);have aq:Hid (∀ty,∃D w',(Builtin.append_ #[22,22] ty #[.slice H ai am,v]).run prog wr=.ok D w'/\w'.ownsRow 0 9 1 D (preV strV a (i+1)).length (preV strV a (i+1))/\Grew wr (.slice H ai am) w' D):=Hd (fun ty=>by
      have aP:preV strV a (i+1)=preV strV a i++x.map strV:=by unfold preV;rw[c,Ya9]
      have ac:(preV strV a i).length=(a.take i).flatten.length:=by unfold preV;rw[YaB]
      rw[aP,Yal];rcases d with⟨s,E,rfl,rfl⟩|⟨aV,aX,al,rfl,_,aG⟩
      ·refine⟨_,_,Zbf _ _ ty _ av 1 underlying22 af _ _ _ h.o s E,?_,Grew.refl _ _⟩;simp only[Ycu,YaN,List.length_nil,YbO];exact h.o
      ·have bf:(a.take i).flatten.length+x.length<=a.flatten.length:=by rw[←Yal,←c];exact B
       have bd:=J.o;have O:=ZqB (f:=strV) (fun _=>rfl) aG;have a6:=Zbw (P:=prog) wr 22 ty 9 av (.string ⟨#[]⟩) 1 16 underlying22 af aB aQ aI rfl (by decide) _ _ _ h.o ⟨aV,aX,none⟩ x.length al (x.map strV) (by simp)
        (fun bl u a3=>L.cell (O bl u a3) id) (fun u a5=>by obtain⟨br,_,rfl⟩:=Ya2.1 a5;rfl) (by rw[ac];unfold maxLen;omega) (by rw[ac];omega)
       rw[YaB];exact a6)
     have M:∃s E,v=.slice s x.length E:=d.shape;obtain⟨s,E,rfl⟩:=M;have bi:(0:Int)<=i:=by omega
     have a8:(i:Int)<(k:Int):=by omega
     clear Q d V L c B;go_wp2_with (at_builtin;(obtain⟨D,w',G,C,j⟩:=aq.o _;refine Zak rfl _ _ 22 rfl _ _ D w' rfl rfl G ?_))
     have T:∀g,D.ownBlock=some g->w.heap.size<=g:=fun g aD=>by
      rcases j.came with e|e
      ·exact R.o g (e▸aD)
      ·exact Yaj l.o.size (e g aD)
     have W:Below w.heap.size w w':=l.o.trans (j.only.below l.o.size (fun bq a2=>R.o bq a2));have Y:=Hd C;have ap:=Hd T;have ak:=Hd W;clear C T W j G aC;go_wp2;go_roundw
     case rel=>exact⟨i+1,by omega,by go_num,Y.o,ap.o,ak.o⟩
     case measure=>simp[intOf];omega
    ·obtain rfl:i=k:=by omega
     have F:wr.ownsRow 0 9 1 (.slice H ai am) aT.length aT:=by
      have aU:=h.o;unfold preV at aU;rw[Yaz (by rw[aw.o];exact Yad _),←aY.o]at aU;exact aU
     have aZ:=Hd F;clear F;go_wp2;go_ret;exact⟨_,rfl,aZ.o,R.o,l.o⟩
theorem ZbX {A:Nat->Prop}{w:World}{c:Cls}{v:Value}(q:ClsR A w c v):∃a b d,v=.agg #[.string (S c.name),.string (S c.sup),a,.bool c.itf,.bool c.abs,.bool c.fin,b,d]/\(∃lo m,a=.slice lo c.like.length m)/\(∃h fc,b=.slice h c.flds.length fc)/\∃n k,d=.slice n c.mths.length k:=by
 obtain⟨p,l,g,rfl,f,j,i⟩:=q;exact⟨p,l,g,rfl,f.shape,j.shape,i.shape⟩
