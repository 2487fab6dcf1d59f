/- laws -/
import Derived.Test.YtegljjbclladdaaGreatDoorK62
import Derived.Test.YtegljjbclladdaaGreatDoorK67
set_option maxRecDepth 100000
set_option maxHeartbeats 16000000
namespace Go.Proofs.YtegljjbclladdaaGreatDoor
open Go.RowKit Proofs.Tryz
theorem Vals.snoc {A:Nat->Prop}{w:World}{l:List Cls}{f:List CV}(g:Vals A w l f){c:Cls}{u:CV}(h:ClsR A w c (cvV u)):Vals A w (l++[c]) (f++[u]):=by
 refine⟨by simp[g.len],fun k x a=>?_⟩;rcases YaC k l.length with b|b
 ·rw[YaR b]at a;rw[YaR (by rw[g.len];exact b)];exact g.each k x a
 ·rw[YaJ b]at a;rw[YaJ (by rw[g.len];exact b),g.len];rcases YbR (k-l.length)with d|d
  ·rw[d]at a⊢;obtain rfl:=Yac (show some c=some x from a);exact⟨u,rfl,h⟩
  ·rw[YaS (by simp;omega)]at a;cases a
theorem Vals.frame {A:Nat->Prop}{S:Nat->Prop}{w w':World}{cs:List Cls}{a:List CV}(b:Vals A w cs a)(g:Only S w w')(f:∀k,A k->¬S k):Vals A w' cs a:=
 ⟨b.len,fun k c d=>by obtain⟨u,i,h⟩:=b.each k c d;exact⟨u,i,ClsR.st.keep h g f⟩⟩
theorem Vals.mono {A A':Nat->Prop}{w:World}{cs:List Cls}{a:List CV}(b:Vals A w cs a)(i:∀k,A k->A' k):Vals A' w cs a:=
 ⟨b.len,fun k c d=>by obtain⟨u,g,f⟩:=b.each k c d;exact⟨u,g,ClsR.st.mono f (fun k _ h=>i k h)⟩⟩
theorem ZsO {lo:Nat}{w:World}{v:Value}{l:List Cls}{b:List Value}(n:TRow 8 70 ClsR lo w v l b):∃a,Vals (fun i=>v.ownBlock≠some i) w l a/\Zp7 lo w v a:=by
 have g:∀u∈b,u.cells.size=8/\∀x∈u.cells.toList,x.oneCell'=true:=fun u g=>by
  obtain⟨k,q⟩:=Ya4.1 g;have p:k<l.length:=by rw[←n.len];exact(Yag.1 q).1
  obtain⟨A,d,m⟩:=n.each k _ (Yaa p);rw[q]at d;obtain rfl:=Yac d;exact ZjI m
 have s:∀b:List Value,(∀u∈b,u.cells.size=8/\∀x∈u.cells.toList,x.oneCell'=true)->∃a:List CV,a.map cvV=b:=by
  intro b;induction b with
  |nil=>intro _;exact⟨[],rfl⟩
  |cons u b z=>
   intro j;obtain⟨a,f⟩:=z (fun x h=>j x (Yau _ h));exact⟨⟨u,(j u Yam).1,(j u Yam).2⟩::a,by rw[YbI,f]⟩
 obtain⟨a,rfl⟩:=s b g;have r:a.length=l.length:=by have:=n.len;rwa [YaB]at this
 refine⟨a,⟨r,fun k c f=>?_⟩,⟨by rw[r];exact n.row,n.own,by rw[YaB],n.size,fun k x h=>⟨cvV x,by rw[Yav,h];rfl,rfl⟩⟩⟩;obtain⟨u,d,m⟩:=n.each k c f;rw[Yav]at d;obtain⟨x,y,rfl⟩:=YaO.1 d;exact⟨x,y,ClsR.st.mono m (fun i _ t=>t.2)⟩
theorem ZlD {A:Nat->Prop}(lo:Nat)(W:World)(v sv:Value)(ty:TypeId)(l1 l2:List CV)(i:Zp7 lo W v l1)(h:lo<=W.heap.size)(k:Src 8 CVR A W sv l2)(l:l1.length+l2.length<=1048576) :
  ∃a w',(Builtin.append_ #[33,33] ty #[v,sv]).run prog W=.ok a w'/\Zp7 lo w' a (l1++l2)/\Grew W v w' a:=by
 obtain⟨j,c,d,b,g⟩:=info_parts Zhz;exact Zbu (f:=cvV) (n:=8) (by decide) (fun x=>x.sz) (fun x=>x.one) 33 ty 70 j _ 112 underlying33 c d b g rfl i h k (by omega) (by omega)
theorem Zsh {o:Option Nat}{m:Nat}(a:o≠some m):¬idxV o=(m:Int):=by
 intro e;cases o with
 |none=>have:(-1:Int)=(m:Int):=e;omega
 |some k=>have:(k:Int)=(m:Int):=e;exact a (by rw[show k=m by omega])
def ZrU (cs:List Cls)(w:World)(e:Ending)(w':World):Prop:=
 (∃i z,NewBad cs i z/\e=.returned (.tuple #[.slice none 0 0,.int .i64 i,.int .i64 (z:Nat)])/\Below w.heap.size w w')\/
 (NewOk cs/\∃v,e=.returned (.tuple #[v,.int .i64 0,.int .i64 0])/\Src 8 ClsR Anyw w' v (allR cs)/\Below w.heap.size w w')
theorem Zrh {A:Nat->Prop}(cs:List Cls)(sv:Value)(w:World)(cw:Src 8 ClsR A w sv cs)(bO:∀c∈cs,c.Fit)(aQ:∀c∈cs,c.held)(aP:cs.length<=1000) :
  Calls prog 13 #[sv] w (ZrU cs w):=by
 have cc:=ClsR.st.srcMono (A':=fun k=>k<w.heap.size) cw (fun k c5 _=>c5);have bU:=Hd cc;have cH:=Hd (ZmV w);have cO:=Hd bO;have a3:=Hd aQ;obtain⟨df,dP,rfl⟩:=cw.shape;obtain⟨n,cy⟩:∃n,n=cs.length:=⟨_,rfl⟩
 rw[←cy]at bU aP⊢;have L:=Hd cy;unfold Znd at cH;unfold ZrU;clear cw cc bO aQ cy;go_enter func13,ntmps13
 go_wp2_with fail;with_reducible refine cH.o.mono ?_
 rintro e bb⟨dS,dV,rfl,b7,cq⟩;obtain⟨a9,bw,a4⟩:=ZsO b7;have bN:=Hd bw;have bq:=Hd a4;have aX:=Hd cq;have b:a9.length=8:=bw.len;obtain⟨aL,aC,rfl⟩:=a4.shape;have ad:Hid (∀g,(Value.slice aL a9.length aC).ownBlock=some g->w.heap.size<=g):=Hd a4.own;rw[b]at bN bq ad⊢;have c8:=Hd b;clear b7 bw a4 cq cH b;go_wp2;go_loopw [5,7] (fun dk cR wr=>∃(k:Nat) (af:List CV),k<=n/\cR=.int .i64 k/\Vals (fun i=>(Value.slice aL 8 aC).ownBlock≠some i) bb (givenL++cs.take k) af/\Zp7 w.heap.size wr dk af/\Grew bb (.slice aL 8 aC) wr dk/\∀h d,h<k->cs[h]?=some d->d.e=0) (fun _ cR _=>n-(intOf cR).toNat)
 case atStart=>exact⟨0,a9,Yao _,rfl,by simpa using bN.o,bq.o,Grew.refl _ _,fun h d K=>by omega⟩
 case round=>
  obtain⟨k,af,c5,rfl,Q,cE,aE,co⟩:=hrel;have bX:=Hd Q;have cD:=Hd cE;have bx:=Hd aE;have aW:=Hd co;have q:Hid (Below w.heap.size w wr):=Hd (aX.o.trans (aE.only.below aX.o.size (fun g aE=>ad.o g aE)));obtain⟨cJ,cI,rfl⟩:=cE.shape;clear Q cE aE co;by_cases cV:k<n
  ·obtain⟨x,H⟩:∃x,cs[k]?=some x:=⟨_,Yaa (by rw[←L.o];exact cV)⟩
   obtain⟨y,B,v,rfl,Q,_,b⟩:=Src.elem bU.o k x H;have N:=Hd Q;obtain⟨_,_,_,rfl,⟨lo,aO,rfl⟩,⟨aJ,fc,rfl⟩,⟨aM,aF,rfl⟩⟩:=ZbX Q;have a0:Hid (∀V,Below w.heap.size w V->V.cell? ⟨y,B+k*8,none⟩=some (.string (S x.name))/\V.cell? ⟨y,B+k*8+1,none⟩=some (.string (S x.sup))/\V.cell? ⟨y,B+k*8+2,none⟩=some (.slice lo x.like.length aO)/\V.cell? ⟨y,B+k*8+3,none⟩=some (.bool x.itf)/\V.cell? ⟨y,B+k*8+4,none⟩=some (.bool x.abs)/\V.cell? ⟨y,B+k*8+5,none⟩=some (.bool x.fin)/\V.cell? ⟨y,B+k*8+6,none⟩=some (.slice aJ x.flds.length fc)/\V.cell? ⟨y,B+k*8+7,none⟩=some (.slice aM x.mths.length aF)):=Hd (fun V cz=>by
    have U:=Yae (S:=fun _=>False) cz;exact⟨U.cell (a:=⟨y,B+k*8,none⟩) (b 0 _ rfl) id,U.cell (a:=⟨y,B+k*8+1,none⟩) (b 1 _ rfl) id,U.cell (a:=⟨y,B+k*8+2,none⟩) (b 2 _ rfl) id,U.cell (a:=⟨y,B+k*8+3,none⟩) (b 3 _ rfl) id,U.cell (a:=⟨y,B+k*8+4,none⟩) (b 4 _ rfl) id,U.cell (a:=⟨y,B+k*8+5,none⟩) (b 5 _ rfl) id,U.cell (a:=⟨y,B+k*8+6,none⟩) (b 6 _ rfl) id,U.cell (a:=⟨y,B+k*8+7,none⟩) (b 7 _ rfl) id⟩)
   have ci:=Hd (ZhP x _ wr (ClsR.st.keep N.o (Yae (S:=fun _=>False) q.o) (fun _ _=>id)) (cO.o x (Yaf H)));have ag:=Hd H;have ay:(0:Int)<=(k:Int):=by omega
   have ao:(k:Int)<(n:Int):=by omega
   obtain⟨b6,b0,bW,b2,bY,b3,b4,b5⟩:=a0.o wr q.o;clear b H Q;go_wp2_with fail;with_reducible refine ci.o.mono ?_
   rintro e w2⟨rfl,bG⟩;have aK:=Hd bG;have a2:=Hd (q.o.trans (bG.mono q.o.size));clear bG b6 b0 bW b2 bY b3 b4 b5 ci;by_cases az:x.e=0
   ·have aq:((x.e:Nat):Int)=0:=by rw[az];rfl
    rw[aq];have ca:=cD.o.below ZrQ aK.o;obtain⟨aA,bu⟩:∃aA:CV,cvV aA=.agg #[.string (S x.name),.string (S x.sup),.slice lo x.like.length aO,.bool x.itf,.bool x.abs,.bool x.fin,.slice aJ x.flds.length fc,.slice aM x.mths.length aF]:=⟨⟨_,(ZjI N.o).1,(ZjI N.o).2⟩,rfl⟩
    have aS:Below w2.heap.size w2 (w2.alloc (.cells #[.string (S x.name),.string (S x.sup),.slice lo x.like.length aO,.bool x.itf,.bool x.abs,.bool x.fin,.slice aJ x.flds.length fc,.slice aM x.mths.length aF] 70)):=Zaa (Yab _ _) _;have ck:Src 8 CVR Anyw (w2.alloc (.cells #[.string (S x.name),.string (S x.sup),.slice lo x.like.length aO,.bool x.itf,.bool x.abs,.bool x.fin,.slice aJ x.flds.length fc,.slice aM x.mths.length aF] 70)) (.slice (some ⟨w2.heap.size,0,none⟩) 1 1) [aA]:=by
     have K:=Zkw (f:=cvV) (n:=8) (fun x=>x.sz) w2 aA 70;rw[bu]at K;exact K
    have dh:af.length<=1008:=by
     rw[bX.o.len,Yal,ZiF,YaA];omega
    obtain⟨cU,w',dg,aU,cZ⟩:=ZlD w.heap.size (w2.alloc (.cells #[.string (S x.name),.string (S x.sup),.slice lo x.like.length aO,.bool x.itf,.bool x.abs,.bool x.fin,.slice aJ x.flds.length fc,.slice aM x.mths.length aF] 70)) (.slice cJ af.length cI) (.slice (some ⟨w2.heap.size,0,none⟩) 1 1) 33 af [aA] (ca.below ZrQ aS) (a2.o.trans (aS.mono a2.o.size)).size ck (by simp;omega);have bI:ClsR (fun i=>(Value.slice aL 8 aC).ownBlock≠some i) bb x (cvV aA):=by
     rw[bu];exact ClsR.st.mono (ClsR.st.keep N.o (Yae (S:=fun _=>False) aX.o) (fun _ _=>id)) (fun i _ (c1:i<w.heap.size) e=>by have:=ad.o i e;omega)
    obtain⟨bP,aB⟩:∃bP,bP=af++[aA]:=⟨_,rfl⟩
    rw[←aB]at aU;have de:Hid (Vals (fun i=>(Value.slice aL 8 aC).ownBlock≠some i) bb (givenL++cs.take (k+1)) bP):=Hd (by
     rw[YaK,ag.o,←YaY,aB];exact bX.o.snoc bI)
    have dj:Hid (Grew bb (.slice aL 8 aC) w' cU):=Hd (bx.o.trans (Grew.trans ⟨Yae (aK.o.trans (aS.mono aK.o.size)),.inl rfl⟩ cZ));have c9:=Hd dg;have cW:=Hd aU;have cM:Hid (∀h d,h<k+1->cs[h]?=some d->d.e=0):=Hd (fun h d G M=>by
     rcases YaC h k with K|K
     ·exact aW.o h d K M
     ·rw[show h=k by omega,ag.o]at M;rw[←Yac M];exact az)
    obtain⟨dn,ds,rfl⟩:=aU.shape;obtain⟨b6,b0,bW,b2,bY,b3,b4,b5⟩:=a0.o w2 a2.o;clear az aq ca bu aS ck dh dg aU cZ bI a0 N aB;go_wp2_with (at_builtin;refine Zak rfl _ _ 33 rfl _ _ _ w' rfl rfl c9.o ?_)
    go_wp2;go_roundw
    case rel=>exact⟨k+1,_,by omega,by go_num,de.o,cW.o,dj.o,cM.o⟩
    case measure=>simp[intOf];omega
   ·have D:Hid (NewBad cs (k:Nat) x.e):=Hd (.inl ⟨k,x,rfl,ag.o,rfl,az,aW.o⟩);have aq:¬((x.e:Nat):Int)=0:=by omega
    have c0:(((x.e:Nat):Int) != 0)=true:=by rw[bne_iff_ne];exact aq
    generalize x.e=dW at D aq c0⊢;clear az a0 N;go_wp2;go_ret3;exact .inl ⟨_,_,D.o,rfl,a2.o⟩
  ·obtain rfl:k=n:=by omega
   have bR:Vals (fun i=>(Value.slice aL 8 aC).ownBlock≠some i) wr (allR cs) af:=by
    have K:=bX.o;rw[L.o,YaE]at K;exact K.frame bx.o.only (fun i c1 e=>c1 e)
   have bK:=Zrz (bR.mono (A':=fun _=>True) (fun _ _=>trivial)) (cD.o.src ZrQ);obtain⟨m,cu⟩:∃m,m=af.length:=⟨_,rfl⟩
   rw[←cu]at bK⊢;have bC:(allR cs).length=m:=by rw[cu,bR.len]
   have Y:Hid (m=8+k):=Hd (by rw[←bC,Zc5,L.o]);have dL:m<=1008:=by have:=Y.o;omega
   obtain⟨w2,rfl⟩:∃w2,w2=wr:=⟨_,rfl⟩
   have bM:=Hd bK;have aK:=Hd q.o;have O:Hid (∀c∈cs,c.e=0):=Hd (fun c aw=>by
    obtain⟨h,G⟩:=Ya4.1 aw;exact aW.o h c (by rw[L.o];exact(Yag.1 G).1) G)
   have bD:=Hd bC;clear bR bK q aW bX cD bx bN bq c8 ad aX bC cu;go_wp2;go_loopw [9] (fun cS wr=>∃t:Nat,t<=k/\cS=.int .i64 t/\(∀h d,h<t->cs[h]?=some d->Zad (Zav cs h) d.name=none)/\Below w2.heap.size w2 wr) (fun cS _=>k-(intOf cS).toNat)
   case atStart=>exact⟨0,Yao _,rfl,fun h d K=>by omega,Yab _ _⟩
   case round=>
    obtain⟨t,dH,rfl,I,F⟩:=hrel;have r:=Hd I;have q:=Hd F;have C:=Hd (aK.o.trans (F.mono aK.o.size));clear I F;by_cases cG:t<k
    ·obtain⟨x,H⟩:∃x,cs[t]?=some x:=⟨_,Yaa (by rw[←L.o];exact cG)⟩
     obtain⟨y,B,v,bl,Q,_,b⟩:=Src.elem (ClsR.st.below bU.o C.o) t x H;obtain rfl:df=some ⟨y,B,none⟩:=bl;obtain⟨_,_,_,rfl,_⟩:=Q;have dC:wr.cell? ⟨y,B+t*8,none⟩=some (.string (S x.name)):=b 0 _ rfl;have bk:=Hd (ZeU (allR cs) _ x.name wr (ClsR.st.below bM.o q.o) (by rw[bD.o];omega));unfold Zef at bk;have ch:=Hd (ZqU H);have ag:=Hd H;have ay:(0:Int)<=(t:Int):=by omega
     have ao:(t:Int)<(k:Int):=by omega
     clear b H;go_wp2_with fail;with_reducible refine bk.o.mono ?_
     rintro e bJ⟨rfl,bH⟩;have bS:=Hd (q.o.trans (bH.mono q.o.size));have c3:=Hd (C.o.trans (bH.mono C.o.size));clear bH dC bk;by_cases a7:Zba (allR cs) x.name=some (8+t)
     ·have av:idxV (Zba (allR cs) x.name)=8+(t:Int):=by rw[a7];show((8+t:Nat):Int)=_;omega
      have X:Hid (∀h d,h<t+1->cs[h]?=some d->Zad (Zav cs h) d.name=none):=Hd (fun h d G M=>by
       rcases YaC h t with K|K
       ·exact r.o h d K M
       ·have:h=t:=by omega
        subst this;rw[ag.o]at M;rw[←Yac M];exact ch.o.1 a7)
      rw[av];clear a7 av;go_wp2;go_roundw
      case rel=>exact⟨t+1,by omega,by go_num,X.o,bS.o⟩
      case measure=>simp[intOf];omega
     ·have av:=Zsh a7;have cr:¬idxV (Zba (allR cs) x.name)=8+(t:Int):=by
       intro e;apply av;rw[e];show _=((8+t:Nat):Int)
       omega
      have cT:(idxV (Zba (allR cs) x.name) != 8+(t:Int))=true:=by rw[bne_iff_ne];exact cr
      have D:Hid (NewBad cs (t:Nat) 60):=Hd (.inr ⟨O.o,.inl ⟨t,x,rfl,ag.o,rfl,by
       cases K:Zad (Zav cs t) x.name with
       |none=>exact absurd (ch.o.2 K) a7
       |some h=>rfl,r.o⟩⟩)
      generalize idxV (Zba (allR cs) x.name)=a6 at av cr cT⊢;clear a7;go_wp2;go_ret3;exact .inl ⟨_,_,D.o,rfl,c3.o⟩
    ·obtain rfl:t=k:=by omega
     have bB:Hid (∀h d,cs[h]?=some d->Zad (Zav cs h) d.name=none):=Hd (fun h d M=>r.o h d (by rw[L.o];exact(Yag.1 M).1) M);obtain⟨bJ,rfl⟩:∃bJ,bJ=wr:=⟨_,rfl⟩
     have ac:=Hd (ClsR.st.below bM.o q.o);have bS:=Hd C.o;clear r q C bM aK;go_wp2;go_loopw [10] (fun bt wr=>∃s:Nat,s<=t/\bt=.int .i64 s/\(∀h d,h<s->cs[h]?=some d->(upE (Zar cs) d.sup).isSome=true/\ZaH (Zar cs) d.like=true)/\Below bJ.heap.size bJ wr) (fun bt _=>t-(intOf bt).toNat)
     case atStart=>exact⟨0,Yao _,rfl,fun h d K=>by omega,Yab _ _⟩
     case round=>
      obtain⟨s,dE,rfl,I,F⟩:=hrel;have r:=Hd I;have q:=Hd F;have C:=Hd (bS.o.trans (F.mono bS.o.size));clear I F;by_cases cN:s<t
      ·obtain⟨x,H⟩:∃x,cs[s]?=some x:=⟨_,Yaa (by rw[←L.o];exact cN)⟩
       obtain⟨y,B,v,bl,Q,_,b⟩:=Src.elem (ClsR.st.below bU.o C.o) s x H;obtain rfl:df=some ⟨y,B,none⟩:=bl;have N:=Hd Q;obtain⟨_,_,_,rfl,⟨lo,aO,rfl⟩,⟨aJ,fc,rfl⟩,⟨aM,aF,rfl⟩⟩:=ZbX Q;have b6:wr.cell? ⟨y,B+s*8,none⟩=some (.string (S x.name)):=b 0 _ rfl;have b0:wr.cell? ⟨y,B+s*8+1,none⟩=some (.string (S x.sup)):=b 1 _ rfl;have bW:wr.cell? ⟨y,B+s*8+2,none⟩=some (.slice lo x.like.length aO):=b 2 _ rfl;have b2:wr.cell? ⟨y,B+s*8+3,none⟩=some (.bool x.itf):=b 3 _ rfl;have bY:wr.cell? ⟨y,B+s*8+4,none⟩=some (.bool x.abs):=b 4 _ rfl;have b3:wr.cell? ⟨y,B+s*8+5,none⟩=some (.bool x.fin):=b 5 _ rfl;have b4:wr.cell? ⟨y,B+s*8+6,none⟩=some (.slice aJ x.flds.length fc):=b 6 _ rfl;have b5:wr.cell? ⟨y,B+s*8+7,none⟩=some (.slice aM x.mths.length aF):=b 7 _ rfl;have aV:x.Good:=⟨O.o x (Yaf H),a3.o x (Yaf H)⟩;have cd:=Hd (Zkp cs (by rw[←L.o];exact aP) _ _ x wr (ClsR.st.below ac.o q.o) N.o (by have:=aV.nums.1;omega));have ag:=Hd H;have ay:(0:Int)<=(s:Int):=by omega
       have ao:(s:Int)<(t:Int):=by omega
       clear b H Q aV N;go_wp2_with fail;with_reducible refine cd.o.mono ?_
       rintro e dT⟨rfl,bo⟩;have dB:=Hd (q.o.trans (bo.mono q.o.size));have c4:=Hd (C.o.trans (bo.mono C.o.size));clear bo b6 b0 bW b2 bY b3 b4 b5 cd;by_cases ax:upC cs x=0
       ·have ap:((upC cs x:Nat):Int)=0:=by rw[ax];rfl
        have X:Hid (∀h d,h<s+1->cs[h]?=some d->(upE (Zar cs) d.sup).isSome=true/\ZaH (Zar cs) d.like=true):=Hd (fun h d G M=>by
         rcases YaC h s with K|K
         ·exact r.o h d K M
         ·rw[show h=s by omega,ag.o]at M;rw[←Yac M];exact Zrx ax)
        rw[ap];clear ax ap;go_wp2;go_roundw
        case rel=>exact⟨s+1,by omega,by go_num,X.o,dB.o⟩
        case measure=>simp[intOf];omega
       ·have D:Hid (NewBad cs (s:Nat) (upC cs x)):=Hd (.inr ⟨O.o,.inr ⟨bB.o,.inl ⟨s,x,rfl,ag.o,ZsP ax,r.o⟩⟩⟩);have ap:¬((upC cs x:Nat):Int)=0:=by omega
        have dd:(((upC cs x:Nat):Int) != 0)=true:=by rw[bne_iff_ne];exact ap
        generalize upC cs x=a6 at D ap dd⊢;clear ax;go_wp2;go_ret3;exact .inl ⟨_,_,D.o,rfl,c4.o⟩
      ·obtain rfl:s=t:=by omega
       have Z:Lined cs:=⟨by rw[←L.o];exact aP,fun c aw=>⟨O.o c aw,a3.o c aw⟩,bB.o,fun c aw=>by
        obtain⟨h,G⟩:=Ya4.1 aw;exact(r.o h c (by rw[L.o];exact(Yag.1 G).1) G).1,fun c aw=>by
        obtain⟨h,G⟩:=Ya4.1 aw;exact(r.o h c (by rw[L.o];exact(Yag.1 G).1) G).2⟩
       have P:=Hd Z;have aY:=Hd (Zg5 (allR cs) _ wr (ClsR.st.below ac.o q.o) (by rw[bD.o];omega) Z.like_len);unfold Zh5 at aY;rw[bD.o]at aY;have bc:=Hd (ClsR.st.below ac.o q.o);clear Z r bB q ac bS;go_wp2_with fail;with_reducible refine aY.o.mono ?_
       rintro e T⟨du,v,dx,rfl,bA,bQ,aD,da,bz⟩;have bZ:=Hd (C.o.trans (bz.mono C.o.size));have aI:=Hd (ClsR.st.below bc.o bz);have aN:=Hd aD;have bi:=Hd bA;have cl:=Hd bQ;have cf:Hid (∀h,h<s->(dx (8+h) (8+h)=true↔Over (newT cs) (8+h) (8+h))):=Hd (fun h G=>by
        rw[da (8+h) (8+h) (by have:=Y.o;omega) (by have:=Y.o;omega),Zi5 (fun i h=>P.o.step i h)])
       obtain⟨dt,dQ,rfl⟩:=aD.shape;rw[bQ]at aN⊢;clear bA bQ aD da bz aY bc C;go_wp2;go_loopw [13] (fun bs wr=>∃j:Nat,j<=s/\bs=.int .i64 j/\(∀h,h<j->¬Over (newT cs) (8+h) (8+h))/\wr=T) (fun bs _=>s-(intOf bs).toNat)
       case atStart=>exact⟨0,Yao _,rfl,fun h K=>by omega,rfl⟩
       case round=>
        obtain⟨j,dK,rfl,I,dl⟩:=hrel;subst dl;have r:=Hd I;clear I;by_cases bd:j<s
        ·have cj:8+j<m:=by have:=Y.o;omega
         obtain⟨bF,a8⟩:∃bF,du[8+j]?=some bF:=⟨_,Yaa (by rw[cl.o];exact cj)⟩
         obtain⟨dc,db,u,cX,cP,_,b⟩:=Src.elem aN.o (8+j) bF a8;obtain rfl:dt=some ⟨dc,db,none⟩:=cX;obtain rfl:=cP;have dU:wr.cell? ⟨dc,db+(8+j),none⟩=some (.slice (some ⟨bF,0,none⟩) m m):=by have ct:=b 0 _ rfl;rw[YaH]at ct;exact ct
         have di:=bi.o.cell a8 cj;have dz:wr.cell? ⟨bF,0+(8+j),none⟩=some (.bool (dx (8+j) (8+j))):=by rw[Ya6];exact di
         have bf:=Hd (cf.o j bd);have ay:(0:Int)<=(j:Int):=by omega
         have ao:(j:Int)<(s:Int):=by omega
         have dG:(8:Int)+(j:Int)<(m:Int):=by omega
         have dI:(0:Int)<=8+(j:Int):=by omega
         have dM:(8+(j:Int)).toNat=8+j:=by omega
         generalize dx (8+j) (8+j)=x at di dz bf;clear a8 b;cases x with
         |true=>
          have ab:=P.o.loop_bad (k:=j) (by rw[←L.o];exact bd) (bf.o.1 rfl) r.o;have D:Hid (NewBad cs (j:Nat) 63):=Hd (.inr ⟨O.o,.inr ⟨P.o.names,.inr ⟨P.o,.inl ⟨ab.1,ab.2,rfl⟩⟩⟩⟩);clear ab;go_wp2;go_ret3;exact .inl ⟨_,_,D.o,rfl,bZ.o⟩
         |false=>
          have X:Hid (∀h,h<j+1->¬Over (newT cs) (8+h) (8+h)):=Hd (fun h G U=>by
           rcases YaC h j with K|K
           ·exact r.o h K U
           ·rw[show h=j by omega]at U;have:=bf.o.2 U;cases this)
          go_wp2;go_roundw
          case rel=>exact⟨j+1,by omega,by go_num,X.o,trivial⟩
          case measure=>simp[intOf];omega
        ·obtain rfl:j=s:=by omega
         have al:Hid (firstT (ZaI (newT cs) (newT cs).length).loop<0):=Hd (P.o.loop_none (fun h G=>r.o h (by rw[L.o];exact G)));have bn:=Hd (P.o.wise0 al.o);have au:Hid ((newT cs).length=m):=Hd (by rw[ZaX,←L.o,Y.o]);have cp:=Hd (ZeV (n:=1) (R:=Flat natV) 3 wr.heap.size wr (Yad _));have cg:=Hd (Zaa (Yab wr.heap.size wr) (.cells #[] 3));obtain⟨T,rfl⟩:∃T,T=wr:=⟨_,rfl⟩
         have cL:Hid (∀(i:Nat) (l:List Nat) (u:Value) (V:World),i<(newT cs).length->l.Nodup->(∀x∈l,x<(newT cs).length)->Below T.heap.size T V->ZgF T.heap.size V u l->
           Calls prog 35 #[.slice cJ m cI,u,.int .i64 8,.int .i64 (idxV (some i))] V (PutT T.heap.size (putE (newT cs) (newT cs).length l i) V u)):=Hd (fun i l u V b1 cQ cv dA dq=>Zrj cs P.o bn.o _ T aI.o (newT cs).length (some i) l u V (fun h G=>by obtain rfl:=Yac G;exact⟨bn.o.deepU b1,b1⟩) cQ cv dA dq)
         have aZ:Hid (∀(i:Nat) (l:List Nat),i<(newT cs).length->l.Nodup->(∀x∈l,x<(newT cs).length)->(putE (newT cs) (newT cs).length l i).Nodup/\∀x∈putE (newT cs) (newT cs).length l i,x<(newT cs).length):=Hd (fun i l b1 cQ cv=>by
          have K:=ZhO bn.o.ac bn.o.par (newT cs).length l i b1 cQ cv;exact⟨K.1,fun x H=>(K.2 x H).1⟩)
         unfold PutT at cL;clear r cf aN bi cl;go_wp2;go_loopw [14,15] (fun c7 bg wr=>∃E:Nat,E<=j/\bg=.int .i64 E/\ZgF T.heap.size wr c7 (((List.range E).map (8 + ·)).foldl (putE (newT cs) (newT cs).length) [])/\(((List.range E).map (8 + ·)).foldl (putE (newT cs) (newT cs).length) []).Nodup/\(∀x∈((List.range E).map (8 + ·)).foldl (putE (newT cs) (newT cs).length) [],x<(newT cs).length)/\Below T.heap.size T wr) (fun _ bg _=>j-(intOf bg).toNat)
         case atStart=>exact⟨0,Yao _,rfl,cp.o,Yb9,fun x H=>(by cases H),cg.o⟩
         case round=>
          obtain⟨E,dJ,rfl,br,cb,ab,F⟩:=hrel;have am:=Hd br;have aj:=Hd cb;have aa:=Hd ab;have q:=Hd F;obtain⟨dr,dR,rfl⟩:=br.shape;have ah:Hid (((List.range (E+1)).map (8 + ·)).foldl (putE (newT cs) (newT cs).length) []=putE (newT cs) (newT cs).length (((List.range E).map (8 + ·)).foldl (putE (newT cs) (newT cs).length) []) (8+E)):=Hd (by rw[YbU,Ya9,Ybc];rfl);obtain⟨ak,aG⟩:∃ak,ak=((List.range E).map (8 + ·)).foldl (putE (newT cs) (newT cs).length) []:=⟨_,rfl⟩
          rw[←aG]at am aj aa ah⊢;have b8:=Hd aG;clear br cb ab F aG;by_cases dp:E<j
          ·have bE:8+E<(newT cs).length:=by rw[au.o];have:=Y.o;omega
           have bT:=Hd (cL.o (8+E) ak _ wr bE aj.o aa.o q.o am.o);rw[show idxV (some (8+E))=8+(E:Int)by show((8+E:Nat):Int)=_;omega]at bT;have ce:=Hd (aZ.o (8+E) ak bE aj.o aa.o);have ay:(0:Int)<=(E:Int):=by omega
           have ao:(E:Int)<(j:Int):=by omega
           clear bE;go_wp2_with fail;with_reducible refine bT.o.mono ?_
           rintro e aH⟨cU,rfl,bh,b9⟩;have HT6:=Hd bh;have bV:=Hd (q.o.trans (b9.only.below q.o.size (fun g aE=>am.o.own g aE)));obtain⟨dn,ds,rfl⟩:=bh.shape;clear bh b9 bT;go_wp2;go_roundw
           case rel=>exact⟨E+1,by omega,by go_num,by rw[ah.o];exact HT6.o,by rw[ah.o];exact ce.o.1,by rw[ah.o];exact ce.o.2,bV.o⟩
           case measure=>simp[intOf];omega
          ·obtain rfl:E=j:=by omega
           obtain⟨aH,rfl⟩:∃aH,aH=wr:=⟨_,rfl⟩
           have ba:ak=Zcx (newT cs):=by
            rw[b8.o];unfold Zcx;rw[au.o,show m-8=E by have:=Y.o;omega,←au.o]
           have bj:=Hd (am.o.src (Flat.stays _));have bm:=Hd (ClsR.st.below aI.o q.o);have bV:=Hd (bZ.o.trans (q.o.mono bZ.o.size));rw[ba]at bj aa⊢;obtain⟨p,cC⟩:∃p,p=(Zcx (newT cs)).length:=⟨_,rfl⟩
           have cn:=Hd cC;rw[ba]at aj;have dD:p<=1008:=by
            have:=ZcW (newT cs).length (Zcx (newT cs)) aj.o aa.o;rw[au.o]at this;omega
           rw[←cC]at bj⊢;clear ba am ah b8 cL aZ q aI bZ cC cp cg;go_wp2;go_loopw [16] (fun bL wr=>∃J:Nat,J<=p/\bL=.int .i64 J/\(∀h ae,h<J->(Zcx (newT cs))[h]?=some ae->chkT (newT cs) ae=0)/\Below aH.heap.size aH wr) (fun bL _=>p-(intOf bL).toNat)
           case atStart=>exact⟨0,Yao _,rfl,fun h ae K=>by omega,Yab _ _⟩
           case round=>
            obtain⟨J,dN,rfl,I,F⟩:=hrel;have r:=Hd I;have q:=Hd F;have C:=Hd (bV.o.trans (F.mono bV.o.size));clear I F;by_cases cA:J<p
            ·obtain⟨ae,ar⟩:∃ae,(Zcx (newT cs))[J]?=some ae:=⟨_,Yaa (by rw[←cn.o];exact cA)⟩
             obtain⟨cx,cB,u,c2,cP,_,b⟩:=Src.elem bj.o J ae ar;obtain rfl:dr=some ⟨cx,cB,none⟩:=c2;obtain rfl:=cP;have cm:Hid (∀V,Below aH.heap.size aH V->V.cell? ⟨cx,cB+J,none⟩=some (.int .i64 (ae:Nat))):=Hd (fun V cz=>(Yae (S:=fun _=>False) cz).cell (a:=⟨cx,cB+J,none⟩) (by have ct:=b 0 _ rfl;rw[YaH]at ct;exact ct) id);have aT:ae<(newT cs).length:=aa.o ae (Yaf ar);have dF:ae<m:=by rw[←au.o];exact aT
             have bv:=Hd (Zjc cs P.o bn.o (.slice cJ m cI) ae wr aT (ClsR.st.below bm.o q.o) (P.o.anc al.o ar aT r.o));have W:Hid (chkT (newT cs) ae≠0->NewBad cs ((ae:Nat)-8) (chkT (newT cs) ae)):=Hd (fun K=>.inr ⟨O.o,.inr ⟨P.o.names,.inr ⟨P.o,.inr ⟨al.o,P.o.chk_bad al.o ar K r.o⟩⟩⟩⟩);have a1:Hid (chkT (newT cs) ae=0->∀h z,h<J+1->(Zcx (newT cs))[h]?=some z->chkT (newT cs) z=0):=Hd (fun K h z G cK=>by
              rcases YaC h J with ct|ct
              ·exact r.o h z ct cK
              ·rw[show h=J by omega,ar]at cK;rw[←Yac cK];exact K)
             have ay:(0:Int)<=(J:Int):=by omega
             have ao:(J:Int)<(p:Int):=by omega
             have dm:=cm.o wr q.o;generalize chkT (newT cs) ae=a6 at bv W a1;clear b ar aT;go_wp2_with fail;with_reducible refine bv.o.mono ?_
             rintro e dw⟨rfl,bp⟩;have c6:=Hd (q.o.trans (bp.mono q.o.size));have aR:=Hd (C.o.trans (bp.mono C.o.size));have dv:=cm.o dw c6.o;clear bp dm bv;by_cases ai:a6=0
             ·have a5:((a6:Nat):Int)=0:=by rw[ai];rfl
              have X:=Hd (a1.o ai);rw[a5];clear ai a5 W a1 dv;go_wp2;go_roundw
              case rel=>exact⟨J+1,by omega,by go_num,X.o,c6.o⟩
              case measure=>simp[intOf];omega
             ·have D:=Hd (W.o ai);have a5:¬((a6:Nat):Int)=0:=by omega
              have dO:(((a6:Nat):Int) != 0)=true:=by rw[bne_iff_ne];exact a5
              have dy:=Hd (Zab aR.o);clear ai W a1;go_upto_region 37 with fail;go_quiet (fail)
              go_wp2;go_ret3;exact .inl ⟨_,_,D.o,rfl,by first|exact aR.o|exact dy.o|exact aR.o.trans (YbP (ZaD _ _) aR.o.size)⟩
            ·obtain rfl:J=p:=by omega
             have cF:Hid (NewOk cs):=Hd (P.o.ok al.o (fun ae ar=>by
              obtain⟨h,G⟩:=Ya4.1 ar;exact r.o h ae (by rw[cn.o];exact(Yag.1 G).1) G))
             have cY:=Hd (ClsR.st.below bm.o q.o);go_wp2;go_ret3;exact .inr ⟨cF.o,_,rfl,cY.o,C.o⟩
