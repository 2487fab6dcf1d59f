/- laws -/
import Derived.Test.YtegljjbclladdaaGreatDoorK34
import Derived.Shelf.LaysM
import Derived.Shelf.Strings.BuilderK
set_option maxRecDepth 100000
set_option maxHeartbeats 16000000
namespace Go.Proofs.YtegljjbclladdaaGreatDoor
open Go.RowKit Tryz
def NewBad (cs:List Cls)(i:Int)(z:Nat):Prop:=
 (∃(k:Nat) (c:Cls),i=(k:Nat)/\cs[k]?=some c/\z=c.e/\c.e≠0/\∀a d,a<k->cs[a]?=some d->d.e=0)\/
 (∀c∈cs,c.e=0)/\((∃(k:Nat) (c:Cls),i=(k:Nat)/\cs[k]?=some c/\z=60/\(Zad (Zav cs k) c.name).isSome=true/\∀a d,a<k->cs[a]?=some d->Zad (Zav cs a) d.name=none)\/
 (∀k c,cs[k]?=some c->Zad (Zav cs k) c.name=none)/\((∃(k:Nat) (c:Cls),i=(k:Nat)/\cs[k]?=some c/\(z=61/\upE (Zar cs) c.sup=none\/z=62/\(upE (Zar cs) c.sup).isSome=true/\ZaH (Zar cs) c.like=false)/\
   ∀a d,a<k->cs[a]?=some d->(upE (Zar cs) d.sup).isSome=true/\ZaH (Zar cs) d.like=true)\/
 Lined cs/\((0<=firstT (ZaI (newT cs) (newT cs).length).loop/\i=firstT (ZaI (newT cs) (newT cs).length).loop-8/\z=63)\/
  (firstT (ZaI (newT cs) (newT cs).length).loop<0/\∃(k x:Nat),(Zca (newT cs) (newT cs).length)[k]?=some x/\i=(x:Int)-8/\z=chkT (newT cs) x/\chkT (newT cs) x≠0/\∀a b,a<k->(Zca (newT cs) (newT cs).length)[a]?=some b->chkT (newT cs) b=0))))
structure NewOk (cs:List Cls):Prop where
 lined:Lined cs
 loops:firstT (ZaI (newT cs) (newT cs).length).loop<0
 checks:∀x∈Zca (newT cs) (newT cs).length,chkT (newT cs) x=0
def NewG (cs:List Cls)(w:World)(e:Ending)(w':World):Prop:=
 (∃i z,NewBad cs i z/\e=.returned (.tuple #[.pointer none,.int .i64 i,.int .i64 (z:Nat)])/\Below w.heap.size w w')\/
 (NewOk cs/\∃b a B,e=.returned (.tuple #[.pointer (some ⟨b,0,none⟩),.int .i64 0,.int .i64 0])/\Tb w.heap.size w' b a B (newT cs) (newT cs).length/\Below w.heap.size w w')
theorem ZlO {l:List Bool}(f:firstT l<0):∀b∈l,b=false:=fun b c=>by
 unfold firstT at f;split at f
 ·omega
 ·rename_i d;cases a:b with
  |false=>rfl
  |true=>
   exfalso;subst a;exact d (List.findIdx_lt_length_of_exists ⟨true,c,rfl⟩)
theorem Ze3 {es:List Ent}(f:(ZaI es es.length).loop.length=es.length/\∀x,x<es.length->((ZaI es es.length).loop.getD x false=true↔Over es x x))(i:firstT (ZaI es es.length).loop<0):Acyc es:=fun x g=>by
 have b:x<es.length:=by
  obtain⟨d,c,_⟩:=g;rcases YaC x es.length with a|a
  ·exact a
  ·unfold parE at c;rw[YaS a]at c;cases c
 have a:=(f.2 x b).2 g;rw[Yap,Yaa (by rw[f.1];exact b)]at a;have h:=ZlO i _ (Ycf (l:=(ZaI es es.length).loop) (n:=x) (by rw[f.1];exact b));rw[h]at a;cases a
theorem Zhb {es:List Ent}(h:Zdi es):∀(f:Nat) (s:List Bool×List Nat) (c:Nat),c<es.length->∀x∈(Zaq es f s c).2,x∈s.2\/x<es.length
 |0,s,c,_,x,a=>.inl a
 |f+1,s,c,k,x,a=>by
  have m:=Zhb h f;have b:∀(l:List Nat) (s:List Bool×List Nat),(∀d∈l,d<es.length)->∀x∈(l.foldl (Zaq es f) s).2,x∈s.2\/x<es.length:=by
   intro l;induction l with
   |nil=>intro s _ x a;exact .inl a
   |cons d l j=>
    intro s i x a;rw[YaM]at a;rcases j _ (fun p n=>i p (Yau d n)) x a with g|g
    ·exact m s d (i d Yam) x g
    ·exact .inr g
  unfold Zaq at a;split at a
  ·exact .inl a
  ·dsimp only at a;rcases Yaq.1 a with g|g
   ·exact b (parE es c) (s.1.set c true,s.2) (h c) x g
   ·rw[Yax.1 g];exact .inr k
theorem Zpk {es:List Ent}(j:Zdi es):∀i∈Zca es es.length,i<es.length:=fun i g=>by
 have c:∀(l:List Nat) (s:List Bool×List Nat),(∀d∈l,d<es.length)->∀x∈(l.foldl (Zaq es es.length) s).2,x∈s.2\/x<es.length:=by
  intro l;induction l with
  |nil=>intro s _ x a;exact .inl a
  |cons d l h=>
   intro s b x a;rw[YaM]at a;rcases h _ (fun i g=>b i (Yau d g)) x a with f|f
   ·exact Zhb j _ s d (b d Yam) x f
   ·exact .inr f
 rcases c (List.range es.length) _ (fun d b=>YbM.1 b) i g with f|f
 ·cases f
 ·exact f
theorem ZmL {es:List Ent}(b:Zdi es):(Zca es es.length).length<=es.length:=by
 have a:=ZdV b es.length (List.range es.length) (List.replicate es.length false,[]) (by simp) (fun d c=>YbM.1 c);have f:=ZdZ (List.replicate es.length false);rw[Ybm]at f;have g:(([]:List Nat)).length=0:=rfl;dsimp only at a;unfold Zca;omega
theorem Lined.goodT {cs:List Cls}(h:Lined cs):Zhf (newT cs):=fun i m a=>by
 unfold Zal at a;cases c:(newT cs)[i]? with
 |none=>rw[c]at a;cases a
 |some e=>
  rw[c]at a;rcases Zbn c with⟨f,b⟩|⟨f,x,b,rfl⟩
  ·have g:startL.all (fun e=>e.cls.mths.isEmpty)=true:=by decide
   have d:=YaF.1 g e (Yaf b);rw[List.isEmpty_iff]at d;dsimp only at a;rw[d]at a;cases a
  ·exact(h.good x (Yaf b)).mths m a
theorem fitT {cs:List Cls}(a:∀c∈cs,c.Fit)(i:Nat):(ZfJ (newT cs) i).Fit:=by
 have p:∀c:Cls,c.name.length<=32->c.sup.length<=32->c.like=[]->c.mths=[]->c.flds.length<=32->(∀f∈c.flds,f.name.length<=32/\f.kind.length<=32)->c.Fit:=fun c k g d b n h=>by
  refine⟨?_,?_,fun x l=>?_,fun f a=>⟨?_,?_⟩,fun m j=>?_,?_,?_,?_⟩
  ·unfold Zaw;omega
  ·unfold Zaw;omega
  ·rw[d]at l;cases l
  ·have:=(h f a).1;unfold Zaw;omega
  ·have:=(h f a).2;unfold Zaw;omega
  ·rw[b]at j;cases j
  ·rw[d];simp
  ·omega
  ·rw[b];simp
 unfold ZfJ;cases v:(newT cs)[i]? with
 |none=>exact p objC (by decide) (by decide) rfl rfl (by decide) (by decide)
 |some e=>
  rcases Zbn v with⟨k,g⟩|⟨k,x,g,rfl⟩
  ·have d:startL.all (fun e=>decide (e.cls.name.length<=32/\e.cls.sup.length<=32/\e.cls.like=[]/\e.cls.flds.length<=32/\e.cls.flds.all (fun f=>decide (f.name.length<=32/\f.kind.length<=32))=true)&&e.cls.mths.isEmpty)=true:=by decide
   have b:=YaF.1 d e (Yaf g);rw[Yaw,List.isEmpty_iff]at b;obtain⟨n,h⟩:=b;obtain⟨q,s,t,u,r⟩:=of_decide_eq_true n;exact p e.cls q s t h u (fun f a=>of_decide_eq_true (YaF.1 r f a))
  ·exact a x (Yaf g)
structure NewJ (w:World) (T mb FB:Nat) (B:Nat->Nat) (es:List Ent) (u:Nat) (wr:World):Prop where
 tb:Tb w.heap.size wr T mb B es u
 bel:Below w.heap.size w wr
 fb:Box wr FB #[.func (.func 22) #[] #[],.func (.func 23) #[.pointer (some ⟨T,0,none⟩)] #[],.func (.func 24) #[.pointer (some ⟨T,0,none⟩)] #[]] 65
 nB:∀i,i<es.length->B i≠FB
 nM:mb≠FB
theorem NewJ.below {w:World}{d c FB:Nat}{B:Nat->Nat}{es:List Ent}{u:Nat}{wr W:World}(b:NewJ w d c FB B es u wr)(a:Below wr.heap.size wr W):NewJ w d c FB B es u W:=
 ⟨b.tb.below a,b.bel.trans (a.mono b.bel.size),b.fb.below a,b.nB,b.nM⟩
def ZtC (w:World)(cs:List Cls)(b a FB s:Nat)(wr:World):Prop:=∃B es u,NewJ w b a FB B es u wr/\
 ((s=0/\es=startL/\u=8)\/(s=1/\es=startL/\u=8/\∀c∈cs,c.e=0)\/
  (s=2/\es=Zar cs/\u=8/\(∀c∈cs,c.e=0)/\∀k c,cs[k]?=some c->Zad (Zav cs k) c.name=none)\/
  (s=3/\es=newT cs/\u=(newT cs).length/\Lined cs))
theorem Zsr {A:Nat->Prop}(cs:List Cls)(sv:Value)(w:World)(cm:Src 8 ClsR A w sv cs)(cM:FaultTab w)(cE:CT w)(bI:∀c∈cs,c.Fit)(aU:∀c∈cs,c.held)(bN:cs.length<=1000) :
  Calls prog 11 #[sv] w (NewG cs w):=by
 have c2:=Ymf;have c3:∀args w,(callFunc 22 args).run prog w=.ok (.enter 22 args) w:=Zac func22 (by kernel_rfl) rfl;have cT:∀args w,(callFunc 23 args).run prog w=.ok (.enter 23 args) w:=Zac func23 (by kernel_rfl) rfl;have cU:∀args w,(callFunc 24 args).run prog w=.ok (.enter 24 args) w:=Zac func24 (by kernel_rfl) rfl;obtain⟨dc,c4,rfl⟩:=cm.shape;obtain⟨n,cp⟩:∃n,n=cs.length:=⟨_,rfl⟩
 have bP:=Hd (ClsR.st.srcMono (A':=fun k=>k<w.heap.size) cm (fun k bv _=>bv));have b9:=Hd (ZpJ w cM);have cO:=Hd cE;have bG:=Hd bI;have az:=Hd aU;rw[←cp]at bP bN⊢;have O:=Hd cp;clear cm cM cE cp bI aU;go_enter func11,ntmps11
 go_wp2_with fail;refine b9.o.mono ?_;rintro c6 ax⟨aB,aA,B,rfl,a0,cf⟩;have R:=Hd a0;have bp:=Hd cf;have cQ:ax.cell? ⟨aB,0,none⟩=some (.map (some aA)):=a0.tab.box.cell 0 rfl;have bT:=fun ty=>a0.tab.map.len (t:=62) underlying62 ty;rw[ZaF]at bT;clear a0 cf b9;go_upto_region 4 with fail;clear cQ bT;have aV:NewJ w aB aA ax.heap.size B startL 8 (ax.alloc (.cells #[.func (.func 22) #[] #[],.func (.func 23) #[.pointer (some ⟨aB,0,none⟩)] #[],.func (.func 24) #[.pointer (some ⟨aB,0,none⟩)] #[]] 65)):=by
  have bZ:Below ax.heap.size ax (ax.alloc (.cells #[.func (.func 22) #[] #[],.func (.func 23) #[.pointer (some ⟨aB,0,none⟩)] #[],.func (.func 24) #[.pointer (some ⟨aB,0,none⟩)] #[]] 65)):=Zaa (Yab _ _) _;exact⟨R.o.below bZ,bp.o.trans (bZ.mono bp.o.size),Box.new ax _ _,fun i aE e=>by have:=R.o.tab.lt aE;omega,fun e=>by have:=R.o.tab.map.lt;omega⟩
 generalize ax.heap.size=FB at aV⊢;generalize ax.alloc (.cells #[.func (.func 22) #[] #[],.func (.func 23) #[.pointer (some ⟨aB,0,none⟩)] #[],.func (.func 24) #[.pointer (some ⟨aB,0,none⟩)] #[]] 65)=W2 at aV⊢;have aK:=Hd aV;clear aV R bp;go_loopw [29] (fun bs wr=>∃s:Nat,s<=3/\bs=.int .i64 s/\ZtC w cs aB aA FB s wr) (fun bs _=>3-(intOf bs).toNat)
 case atStart=>exact⟨0,by omega,rfl,_,_,_,aK.o,.inl ⟨rfl,rfl,rfl⟩⟩
 case round=>
  obtain⟨s,cS,rfl,B,es,u,h,cA⟩:=hrel;rcases cA with⟨rfl,rfl,rfl⟩|⟨rfl,rfl,rfl,am⟩|⟨rfl,rfl,rfl,am,bV⟩|⟨rfl,rfl,rfl,j⟩
  ·have aM:=Hd h;have bf:wr.cell? ⟨FB,0,none⟩=some (.func (.func 22) #[] #[]):=h.fb.cell 0 rfl;clear h aK;go_wp2;obtain⟨aa,rfl⟩:∃aa,aa=wr:=⟨_,rfl⟩
   clear bf;go_loopw [35] (fun H wr=>∃k:Nat,k<=n/\H=.int .i64 k/\Below aa.heap.size aa wr/\∀D d,D<k->cs[D]?=some d->d.e=0) (fun H _=>n-(intOf H).toNat)
   case atStart=>exact⟨0,Yao _,rfl,Yab _ _,fun D d bO _=>absurd bO (YbN _)⟩
   case round=>
    obtain⟨k,bv,rfl,ai,L⟩:=hrel;have r:=Hd L;have a7:=Hd ai;have q:=Hd (aM.o.bel.trans (ai.mono aM.o.bel.size));clear L ai;by_cases af:k<n
    ·
     obtain⟨x,C⟩:∃x,cs[k]?=some x:=⟨_,Yaa (by rw[←O.o];exact af)⟩
     have F:=Yaf C;obtain⟨b,o,v,rfl,Y,_,a⟩:=Src.elem (ClsR.st.below bP.o q.o) k x C;obtain⟨_,_,_,rfl,⟨lo,N,rfl⟩,⟨J,fc,rfl⟩,⟨K,I,rfl⟩⟩:=ZbX Y;have aT:wr.cell? ⟨b,o+k*8,none⟩=some (.string (S x.name)):=a 0 _ rfl;have bn:wr.cell? ⟨b,o+k*8+1,none⟩=some (.string (S x.sup)):=a 1 _ rfl;have ba:wr.cell? ⟨b,o+k*8+2,none⟩=some (.slice lo x.like.length N):=a 2 _ rfl;have bC:wr.cell? ⟨b,o+k*8+3,none⟩=some (.bool x.itf):=a 3 _ rfl;have bK:wr.cell? ⟨b,o+k*8+4,none⟩=some (.bool x.abs):=a 4 _ rfl;have bA:wr.cell? ⟨b,o+k*8+5,none⟩=some (.bool x.fin):=a 5 _ rfl;have bc:wr.cell? ⟨b,o+k*8+6,none⟩=some (.slice J x.flds.length fc):=a 6 _ rfl;have bj:wr.cell? ⟨b,o+k*8+7,none⟩=some (.slice K x.mths.length I):=a 7 _ rfl;have bD:(0:Int)<=(k:Int):=by omega
     have bk:(k:Int)<(n:Int):=by omega
     have aF:=Hd Y;have U:=Hd C;have ac:=Hd F;have aI:Below wr.heap.size wr (wr.alloc (.cells #[.string (S x.name),.string (S x.sup),.slice lo x.like.length N,.bool x.itf,.bool x.abs,.bool x.fin,.slice J x.flds.length fc,.slice K x.mths.length I] 70))/\Box (wr.alloc (.cells #[.string (S x.name),.string (S x.sup),.slice lo x.like.length N,.bool x.itf,.bool x.abs,.bool x.fin,.slice J x.flds.length fc,.slice K x.mths.length I] 70)) wr.heap.size #[.string (S x.name),.string (S x.sup),.slice lo x.like.length N,.bool x.itf,.bool x.abs,.bool x.fin,.slice J x.flds.length fc,.slice K x.mths.length I] 70:=⟨Zaa (Yab _ _) _,Box.new wr _ _⟩;clear Y a C F
     go_upto_region 9 with fail;refine Zau (fun W=>Below wr.heap.size wr W/\Box W wr.heap.size #[.string (S x.name),.string (S x.sup),.slice lo x.like.length N,.bool x.itf,.bool x.abs,.bool x.fin,.slice J x.flds.length fc,.slice K x.mths.length I] 70) aI ?_;rintro a6⟨l,f⟩;have M:=Hd l;have bb:=f.cell 0 rfl;have bu:=f.cell 1 rfl;have bM:=f.cell 2 rfl;have bE:=f.cell 3 rfl;have bm:=f.cell 4 rfl;have bJ:=f.cell 5 rfl;have bh:=f.cell 6 rfl;have br:=f.cell 7 rfl;have aL:=Hd (Zcd aF.o l);have p:=Hd (q.o.trans (l.mono q.o.size));clear aI l f aT bn ba bC bK bA bc bj aF;go_wp2_with fail;with_reducible refine(Zlv x _ a6 aL.o (cO.o.keep p.o) (bG.o x ac.o)).mono ?_
     rintro cn a2⟨rfl,Q⟩;have au:=Hd Q;clear Q;clear bb bu bM bE bm bJ bh br;by_cases ay:x.e=0
     ·rw[ay];have ao:=Hd ay;clear ay;go_wp2;go_roundw
      case rel=>
       refine⟨_,_,_,_,_,_,_,_,_,_,_,_,_,_,_,_,_,_,_,?_,rfl⟩;exact⟨k+1,by omega,by go_num,a7.o.trans ((M.o.trans (au.o.mono M.o.size)).mono a7.o.size),fun D d h ah=>by
        rcases YaC D k with ae|ae
        ·exact r.o D d ae ah
        ·rw[show D=k by omega,U.o]at ah;rw[←Yac ah];exact ao.o⟩
      case measure=>simp[intOf];omega
     ·have ao:=Hd ay;have cL:¬(x.e:Int)=0:=by omega
      have cc:((x.e:Int) != 0)=true:=by rw[bne_iff_ne];omega
      clear ay;go_wp2;go_ret3;exact .inl ⟨_,x.e,.inl ⟨k,x,rfl,U.o,rfl,ao.o,r.o⟩,rfl,p.o.trans (au.o.mono p.o.size)⟩
    ·obtain rfl:k=n:=by omega
     go_wp2;go_roundw
     case rel=>
      refine⟨1,by omega,by go_num,B,_,_,aM.o.below a7.o,.inr (.inl ⟨rfl,rfl,rfl,fun c E=>?_⟩)⟩;obtain⟨D,h⟩:=YbF E;exact r.o D c (by rw[O.o];exact(Yag.1 h).1) h
     case measure=>simp[intOf]
  ·have aM:=Hd h;have G:=Hd am;have bf:wr.cell? ⟨FB,1,none⟩=some (.func (.func 23) #[.pointer (some ⟨aB,0,none⟩)] #[]):=h.fb.cell 1 rfl;clear h aK am;go_wp2;obtain⟨aa,rfl⟩:∃aa,aa=wr:=⟨_,rfl⟩
   clear bf;go_loopw [35] (fun H wr=>∃(k:Nat) (bR:Nat->Nat),k<=n/\H=.int .i64 k/\NewJ w aB aA FB bR (Zav cs k) 8 wr/\∀D d,D<k->cs[D]?=some d->Zad (Zav cs D) d.name=none) (fun H _=>n-(intOf H).toNat)
   case atStart=>exact⟨0,B,Yao _,rfl,by rw[ZeE];exact aM.o,fun D d bO _=>absurd bO (YbN _)⟩
   case round=>
    obtain⟨k,bR,bv,rfl,aj,L⟩:=hrel;have r:=Hd L;have aD:=Hd aj;have q:=Hd aj.bel;clear L aj;by_cases af:k<n
    ·
     obtain⟨x,C⟩:∃x,cs[k]?=some x:=⟨_,Yaa (by rw[←O.o];exact af)⟩
     have F:=Yaf C;obtain⟨b,o,v,rfl,Y,_,a⟩:=Src.elem (ClsR.st.below bP.o q.o) k x C;obtain⟨_,_,_,rfl,⟨lo,N,rfl⟩,⟨J,fc,rfl⟩,⟨K,I,rfl⟩⟩:=ZbX Y;have aT:wr.cell? ⟨b,o+k*8,none⟩=some (.string (S x.name)):=a 0 _ rfl;have bn:wr.cell? ⟨b,o+k*8+1,none⟩=some (.string (S x.sup)):=a 1 _ rfl;have ba:wr.cell? ⟨b,o+k*8+2,none⟩=some (.slice lo x.like.length N):=a 2 _ rfl;have bC:wr.cell? ⟨b,o+k*8+3,none⟩=some (.bool x.itf):=a 3 _ rfl;have bK:wr.cell? ⟨b,o+k*8+4,none⟩=some (.bool x.abs):=a 4 _ rfl;have bA:wr.cell? ⟨b,o+k*8+5,none⟩=some (.bool x.fin):=a 5 _ rfl;have bc:wr.cell? ⟨b,o+k*8+6,none⟩=some (.slice J x.flds.length fc):=a 6 _ rfl;have bj:wr.cell? ⟨b,o+k*8+7,none⟩=some (.slice K x.mths.length I):=a 7 _ rfl;have bD:(0:Int)<=(k:Int):=by omega
     have bk:(k:Int)<(n:Int):=by omega
     have aF:=Hd Y;have U:=Hd C;have ac:=Hd F;have aI:Below wr.heap.size wr (wr.alloc (.cells #[.string (S x.name),.string (S x.sup),.slice lo x.like.length N,.bool x.itf,.bool x.abs,.bool x.fin,.slice J x.flds.length fc,.slice K x.mths.length I] 70))/\Box (wr.alloc (.cells #[.string (S x.name),.string (S x.sup),.slice lo x.like.length N,.bool x.itf,.bool x.abs,.bool x.fin,.slice J x.flds.length fc,.slice K x.mths.length I] 70)) wr.heap.size #[.string (S x.name),.string (S x.sup),.slice lo x.like.length N,.bool x.itf,.bool x.abs,.bool x.fin,.slice J x.flds.length fc,.slice K x.mths.length I] 70:=⟨Zaa (Yab _ _) _,Box.new wr _ _⟩;clear Y a C F
     go_upto_region 9 with fail;refine Zau (fun W=>Below wr.heap.size wr W/\Box W wr.heap.size #[.string (S x.name),.string (S x.sup),.slice lo x.like.length N,.bool x.itf,.bool x.abs,.bool x.fin,.slice J x.flds.length fc,.slice K x.mths.length I] 70) aI ?_;rintro a6⟨l,f⟩;have M:=Hd l;have bb:=f.cell 0 rfl;have bu:=f.cell 1 rfl;have bM:=f.cell 2 rfl;have bE:=f.cell 3 rfl;have bm:=f.cell 4 rfl;have bJ:=f.cell 5 rfl;have bh:=f.cell 6 rfl;have br:=f.cell 7 rfl;have aL:=Hd (Zcd aF.o l);have p:=Hd (q.o.trans (l.mono q.o.size));clear aI l f aT bn ba bC bK bA bc bj aF;have X:x.Good:=⟨G.o x ac.o,az.o x ac.o⟩;have av:(Zav cs k).length=8+k:=Ziv cs (by rw[←O.o];omega);have ad:=aD.o.below M.o;have y:=Hd ad;have bi:=Hd (Ziu x _ a6 ad.tb p.o.size aL.o X.small (by omega));have cC:=Hd av;clear X ad av
     go_wp2_with fail;with_reducible refine bi.o.mono ?_
     rintro cn a2⟨aO,aQ⟩;clear bb bu bM bE bm bJ bh br;cases a5:Zad (Zav cs k) x.name with
     |some ck=>
      obtain⟨rfl,Q⟩:=aO (by rw[a5];rfl);have cw:Hid ((Zad (Zav cs k) x.name).isSome=true):=Hd (by rw[a5];rfl);have au:=Hd Q;clear aO aQ Q a5 bi;go_wp2;go_ret3;exact .inl ⟨_,60,.inr ⟨G.o,.inl ⟨k,x,rfl,U.o,rfl,cw.o,r.o⟩⟩,rfl,p.o.trans (au.o.mono p.o.size)⟩
     |none=>
      obtain⟨rfl,P,b4,Q,aw⟩:=aQ a5;have cw:=Hd a5;have al:=y.o.fb.lt;have bW:NewJ w aB aA FB (addB bR (8+k) b4) (Zav cs (k+1)) 8 a2:=by
       rw[ZeD U.o,←cC.o];refine⟨aw,y.o.bel.trans (P.below y.o.bel.size (fun aq (e:aq=aA)=>by have:=y.o.tb.tM;omega)),y.o.fb.keep P (fun e=>y.o.nM e.symm),fun i aE=>?_,y.o.nM⟩;rw[Yal]at aE;by_cases e:i=(Zav cs k).length
       ·rw[e,ZbU];omega
       ·rw[Zhi (by simp at aE;omega)];exact y.o.nB i (by simp at aE;omega)
      have a9:=Hd bW;clear aO aQ P Q aw a5 al bW bi;go_wp2;go_roundw
      case rel=>
       refine⟨_,_,_,_,_,_,_,_,_,_,_,_,_,_,_,_,_,_,_,?_,rfl⟩;exact⟨k+1,_,by omega,by go_num,a9.o,fun D d h ah=>by
        rcases YaC D k with ae|ae
        ·exact r.o D d ae ah
        ·rw[show D=k by omega,U.o]at ah;rw[←Yac ah,show D=k by omega];exact cw.o⟩
      case measure=>simp[intOf];omega
    ·obtain rfl:k=n:=by omega
     go_wp2;go_roundw
     case rel=>
      refine⟨2,by omega,by go_num,bR,_,_,aD.o,.inr (.inr (.inl ⟨rfl,by rw[O.o,Zc8],rfl,G.o,fun D c h=>?_⟩))⟩;exact r.o D c (by rw[O.o];exact(Yag.1 h).1) h
     case measure=>simp[intOf]
  ·have aM:=Hd h;have G:=Hd am;have aZ:=Hd bV;have bf:wr.cell? ⟨FB,2,none⟩=some (.func (.func 24) #[.pointer (some ⟨aB,0,none⟩)] #[]):=h.fb.cell 2 rfl;clear h aK am bV;go_wp2;obtain⟨aa,rfl⟩:∃aa,aa=wr:=⟨_,rfl⟩
   clear bf;go_loopw [35] (fun H wr=>∃k:Nat,k<=n/\H=.int .i64 k/\NewJ w aB aA FB B (Zbl cs k) (8+k) wr/\∀D d,D<k->cs[D]?=some d->(upE (Zar cs) d.sup).isSome=true/\ZaH (Zar cs) d.like=true) (fun H _=>n-(intOf H).toNat)
   case atStart=>exact⟨0,Yao _,rfl,by rw[ZiT];exact aM.o,fun D d bO _=>absurd bO (YbN _)⟩
   case round=>
    obtain⟨k,bv,rfl,aj,L⟩:=hrel;have r:=Hd L;have aD:=Hd aj;have q:=Hd aj.bel;clear L aj;by_cases af:k<n
    ·
     obtain⟨x,C⟩:∃x,cs[k]?=some x:=⟨_,Yaa (by rw[←O.o];exact af)⟩
     have F:=Yaf C;obtain⟨b,o,v,rfl,Y,_,a⟩:=Src.elem (ClsR.st.below bP.o q.o) k x C;obtain⟨_,_,_,rfl,⟨lo,N,rfl⟩,⟨J,fc,rfl⟩,⟨K,I,rfl⟩⟩:=ZbX Y;have aT:wr.cell? ⟨b,o+k*8,none⟩=some (.string (S x.name)):=a 0 _ rfl;have bn:wr.cell? ⟨b,o+k*8+1,none⟩=some (.string (S x.sup)):=a 1 _ rfl;have ba:wr.cell? ⟨b,o+k*8+2,none⟩=some (.slice lo x.like.length N):=a 2 _ rfl;have bC:wr.cell? ⟨b,o+k*8+3,none⟩=some (.bool x.itf):=a 3 _ rfl;have bK:wr.cell? ⟨b,o+k*8+4,none⟩=some (.bool x.abs):=a 4 _ rfl;have bA:wr.cell? ⟨b,o+k*8+5,none⟩=some (.bool x.fin):=a 5 _ rfl;have bc:wr.cell? ⟨b,o+k*8+6,none⟩=some (.slice J x.flds.length fc):=a 6 _ rfl;have bj:wr.cell? ⟨b,o+k*8+7,none⟩=some (.slice K x.mths.length I):=a 7 _ rfl;have bD:(0:Int)<=(k:Int):=by omega
     have bk:(k:Int)<(n:Int):=by omega
     have aF:=Hd Y;have U:=Hd C;have ac:=Hd F;have aI:Below wr.heap.size wr (wr.alloc (.cells #[.string (S x.name),.string (S x.sup),.slice lo x.like.length N,.bool x.itf,.bool x.abs,.bool x.fin,.slice J x.flds.length fc,.slice K x.mths.length I] 70))/\Box (wr.alloc (.cells #[.string (S x.name),.string (S x.sup),.slice lo x.like.length N,.bool x.itf,.bool x.abs,.bool x.fin,.slice J x.flds.length fc,.slice K x.mths.length I] 70)) wr.heap.size #[.string (S x.name),.string (S x.sup),.slice lo x.like.length N,.bool x.itf,.bool x.abs,.bool x.fin,.slice J x.flds.length fc,.slice K x.mths.length I] 70:=⟨Zaa (Yab _ _) _,Box.new wr _ _⟩;clear Y a C F
     go_upto_region 9 with fail;refine Zau (fun W=>Below wr.heap.size wr W/\Box W wr.heap.size #[.string (S x.name),.string (S x.sup),.slice lo x.like.length N,.bool x.itf,.bool x.abs,.bool x.fin,.slice J x.flds.length fc,.slice K x.mths.length I] 70) aI ?_;rintro a6⟨l,f⟩;have M:=Hd l;have bb:=f.cell 0 rfl;have bu:=f.cell 1 rfl;have bM:=f.cell 2 rfl;have bE:=f.cell 3 rfl;have bm:=f.cell 4 rfl;have bJ:=f.cell 5 rfl;have bh:=f.cell 6 rfl;have br:=f.cell 7 rfl;have aL:=Hd (Zcd aF.o l);have p:=Hd (q.o.trans (l.mono q.o.size));clear aI l f aT bn ba bC bK bA bc bj aF;have X:x.Good:=⟨G.o x ac.o,az.o x ac.o⟩;have av:(Zbl cs k).length=8+cs.length:=Zeq cs (by rw[←O.o];omega);have aR:=Zga cs k;have ad:=aD.o.below M.o;have y:=Hd ad;have aP:=Zj4 U.o;have b3:Uniq (Zbl cs k):=Uniq.cls aR (by rw[←Zc8];exact ZcA aZ.o _ (Yad _));have bH:8+k<(Zbl cs k).length:=by rw[av,←O.o];omega
     have b0:=Hd (ZkW x _ a6 ad.tb p.o.size aP (b3 _ _ aP) aL.o (fun aq bx e=>by have ae:=ad.tb.tB _ bH;have dd:aq<w.heap.size:=bx;omega) X.small (by rw[av,←O.o];omega));have bX:=Hd bH;have ak:=Hd aR;clear X ad av aR aP b3 bH;go_wp2_with fail;with_reducible refine b0.o.mono ?_
     rintro cn a2⟨aJ,aG,ar⟩;clear bb bu bM bE bm bJ bh br;rw[ZpU ak.o,Zf6 ak.o]at aG;rw[ZpU ak.o]at aJ ar;rw[Zf6 ak.o,Zl2 ak.o]at ar;have b5:∀w',Only (fun aq=>aq=B (8+k)) a6 w'->Below w.heap.size w w':=fun w' cP=>p.o.trans (cP.below p.o.size (fun aq (e:aq=B (8+k))=>by have:=y.o.tb.tB _ bX.o;omega));have b8:=Hd b5;clear b5 b0;cases ap:upE (Zar cs) x.sup with
     |none=>
      obtain⟨rfl,Q⟩:=aJ ap;have bq:=Hd ap;have au:=Hd Q;clear aJ aG ar Q ap;go_wp2;go_ret3;exact .inl ⟨_,61,.inr ⟨G.o,.inr ⟨aZ.o,.inl ⟨k,x,rfl,U.o,.inl ⟨rfl,bq.o⟩,r.o⟩⟩⟩,rfl,p.o.trans (au.o.mono p.o.size)⟩
     |some ck=>
      cases T:ZaH (Zar cs) x.like with
      |false=>
       obtain⟨rfl,P⟩:=aG (by rw[ap];rfl) T;have bq:Hid ((upE (Zar cs) x.sup).isSome=true):=Hd (by rw[ap];rfl);have cB:=Hd T;have cz:=Hd P;clear aJ aG ar P ap T;go_wp2;go_ret3;exact .inl ⟨_,62,.inr ⟨G.o,.inr ⟨aZ.o,.inl ⟨k,x,rfl,U.o,.inr ⟨rfl,bq.o,cB.o⟩,r.o⟩⟩⟩,rfl,b8.o _ cz.o⟩
      |true=>
       obtain⟨rfl,P,aw⟩:=ar ck ap T;have ci:(⟨x,some ck,ZbI (Zar cs) x.like⟩:Ent)=Zdg cs x:=by unfold Zdg;rw[ap]
       rw[ci,ZiS U.o]at aw;have bq:Hid ((upE (Zar cs) x.sup).isSome=true/\ZaH (Zar cs) x.like=true):=Hd ⟨by rw[ap];rfl,T⟩;have a9:Hid (NewJ w aB aA FB B (Zbl cs (k+1)) (8+(k+1)) a2):=Hd ⟨aw,b8.o _ P,y.o.fb.keep P (fun e=>y.o.nB _ bX.o e.symm),fun i aE=>y.o.nB i (by rw[Zeq cs (by rw[←O.o];omega)];rw[Zeq cs (by rw[←O.o];omega)]at aE;exact aE),y.o.nM⟩;clear aJ aG ar P aw ci ap T;go_wp2;go_roundw
       case rel=>
        refine⟨_,_,_,_,_,_,_,_,_,_,_,_,_,_,_,_,_,_,_,?_,rfl⟩;exact⟨k+1,by omega,by go_num,a9.o,fun D d h ah=>by
         rcases YaC D k with ae|ae
         ·exact r.o D d ae ah
         ·rw[show D=k by omega,U.o]at ah;rw[←Yac ah];exact bq.o⟩
       case measure=>simp[intOf];omega
    ·obtain rfl:k=n:=by omega
     have al:∀c∈cs,(upE (Zar cs) c.sup).isSome=true/\ZaH (Zar cs) c.like=true:=fun c E=>by
      obtain⟨D,h⟩:=YbF E;exact r.o D c (by rw[O.o];exact(Yag.1 h).1) h
     have aC:=Hd al;clear al;go_wp2;go_roundw
     case rel=>
      refine⟨3,by omega,by go_num,B,_,_,aD.o,.inr (.inr (.inr ⟨rfl,by rw[O.o,Zf9],by rw[ZaX,O.o],?_⟩))⟩;exact⟨by rw[←O.o];exact bN,fun c E=>⟨G.o c E,az.o c E⟩,aZ.o,fun c E=>(aC.o c E).1,fun c E=>(aC.o c E).2⟩
     case measure=>simp[intOf]
  ·have Z:=Hd j;have a1:=Hd h.bel;have R:=Hd h.tb;obtain⟨m,cl⟩:∃m,m=(newT cs).length:=⟨_,rfl⟩
   have ag:(newT cs).length<=1048576:=by rw[ZaX];have:=j.len;omega
   have bB:=Hd (Zj0 h.tb.tab j.uniq ag wr (Yab _ _));have T:∀(i:Nat) (e:Ent),(newT cs)[i]?=some e->e.lk.length<=9223372036854775807:=fun i e cr=>by have:=(j.small i e cr).2.2.2;omega
   have bt:Hid (∀ab g,Below wr.heap.size wr ab->MRow ab g (newT cs).length 77 ((List.range (newT cs).length).map (entV B))->Calls prog 27 #[.slice (some ⟨g,0,none⟩) (newT cs).length (newT cs).length] ab (ZrR (newT cs) ab)):=Hd (fun ab g aN cy=>Zl5 ab (R.o.below aN).tab ag T j.par g cy);have bF:Hid (∀ab g,Below wr.heap.size wr ab->MRow ab g (newT cs).length 77 ((List.range (newT cs).length).map (entV B))->Calls prog 28 #[.slice (some ⟨g,0,none⟩) (newT cs).length (newT cs).length] ab (ZrC B (newT cs) ab)):=Hd (fun ab g aN cy=>Zn8 ab (R.o.below aN).tab ag T j.par g cy);have al:=Zd0 ag j.par j.self;have aC:=Hd al;have V:=Hd cl;have cV:=Hd ag;rw[←cl]at bB bt bF ag;clear h aK j T al cl;go_wp2_with fail;with_reducible refine bB.o.mono ?_
   rintro c7 w2⟨g,rfl,_,aS,bw⟩;have cu:=Hd aS;have ca:=Hd bw;have b7:=Hd (bt.o w2 g bw aS);clear aS bw bB bt;go_wp2_with fail;with_reducible refine b7.o.mono ?_
   rintro c5 cx⟨gl,rfl,bL,_,l⟩;rw[←V.o]at bL⊢;have aH:(ZaI (newT cs) m).loop.length=m:=by have:=aC.o.1;rwa [←V.o]at this
   have b1:Hid (Calls prog 26 #[.slice (some ⟨gl,0,none⟩) m m,.bool true] cx (ZrE (ZaI (newT cs) m).loop cx)):=Hd (by
    have aq:=Zoi (ZaI (newT cs) m).loop cx gl (by rw[aH];exact bL) (by rw[aH];exact ag);rw[aH]at aq;exact aq)
   have M:=Hd (ca.o.trans (l.mono ca.o.size));have ct:=Hd l;obtain⟨z,ay⟩:∃z,z=firstT (ZaI (newT cs) m).loop:=⟨_,rfl⟩
   have cc:-1<=z/\z<=1048576:=by
    rw[ay];unfold firstT;split
    ·rename_i bO;rw[aH]at bO;omega
    ·omega
   have ao:=Hd ay;clear bL aH l b7 ay;go_wp2_with fail;with_reducible refine b1.o.mono ?_
   rintro cn a2⟨rfl,rfl⟩;rw[←ao.o];obtain⟨cL,cY⟩:=cc;clear b1;by_cases aW:0<=z
   ·go_wp2;go_ret3;refine .inl ⟨_,63,.inr ⟨fun c E=>(Z.o.good c E).1,.inr ⟨Z.o.names,.inr ⟨Z.o,.inl ⟨?_,?_,rfl⟩⟩⟩⟩,rfl,a1.o.trans (M.o.mono a1.o.size)⟩
    ·rw[←V.o,←ao.o];exact aW
    ·rw[←V.o,←ao.o]
   ·have cW:¬(0<=z):=aW;have c1:decide (0<=z)=false:=Yan aW;have bU:=Hd (bF.o a2 g M.o (cu.o.keep (Yae (S:=fun _=>False) ct.o) id));clear bF aW;go_wp2_with fail;with_reducible refine bU.o.mono ?_
    rintro c8 cG⟨db,rfl,aY,b6⟩;obtain⟨c9,de,rfl⟩:=aY.shape;rw[←V.o]at aY⊢;have cj:Acyc (newT cs):=Ze3 aC.o (by rw[←V.o,←ao.o];omega);have ce:=Z.o.shape cj;have bS:∀i,(Zal (newT cs) i).length<=32:=fun i=>by
     unfold Zal;cases cr:(newT cs)[i]? with
     |none=>simp
     |some e=>exact(Z.o.small i e cr).2.2.1
    have cH:Hid (∀x ab,x<m->Below wr.heap.size wr ab->Calls prog 29 #[.pointer (some ⟨aB,0,none⟩),entV B x] ab (fun e w'=>e=.returned (.int .i64 (chkT (newT cs) x:Nat))/\Below ab.heap.size ab w')):=Hd (fun x ab C aN=>Zr3 R.o.tab ce Z.o.par bS Z.o.goodT (fitT bG.o) x (by rw[←V.o];exact C) ab aN);have cd:Hid (∀bQ∈Zca (newT cs) m,bQ<m):=Hd (by rw[V.o];exact Zpk Z.o.par);have bY:(Zca (newT cs) m).length<=m:=by rw[V.o];exact ZmL Z.o.par
    have bd:=Hd aY;have cb:=Hd (M.o.trans (b6.mono M.o.size));obtain⟨aa,rfl⟩:∃aa,aa=wr:=⟨_,rfl⟩
    obtain⟨cJ,co⟩:∃cJ,cJ=Zca (newT cs) m:=⟨_,rfl⟩
    rw[←co]at bd cd bY⊢;obtain⟨aq,bx⟩:∃aq,aq=cJ.length:=⟨_,rfl⟩
    rw[←bx]at bd bY⊢;have cK:=Hd bx;have cv:=Hd co;clear bU aY b6 cj ce bS co bx;go_wp2;go_loopw [62] (fun bg wr=>∃k:Nat,k<=aq/\bg=.int .i64 k/\Below cG.heap.size cG wr/\∀D bQ,D<k->cJ[D]?=some bQ->chkT (newT cs) bQ=0) (fun bg _=>aq-(intOf bg).toNat)
    case atStart=>exact⟨0,Yao _,rfl,Yab _ _,fun D bQ bO _=>absurd bO (YbN _)⟩
    case round=>
     obtain⟨k,bv,rfl,ai,L⟩:=hrel;have r:=Hd L;have bl:=Hd ai;have q:=Hd (cb.o.trans (ai.mono cb.o.size));clear L ai;by_cases af:k<aq
     ·obtain⟨x,C⟩:∃x,cJ[k]?=some x:=⟨_,Yaa (by rw[←cK.o];exact af)⟩
      have F:=cd.o x (Yaf C);obtain⟨b,o,v,rfl,Y,_,a⟩:=Src.elem ((EntP.st B).below bd.o bl.o) k x C;obtain rfl:=Y;have aT:wr.cell? ⟨b,o+k,none⟩=some (entV B x):=by have aq:=a 0 _ rfl;rw[YaH]at aq;exact aq
      have bD:(0:Int)<=(k:Int):=by omega
      have bk:(k:Int)<(aq:Int):=by omega
      have U:=Hd C;have ac:=Hd F;have aX:=Hd (cH.o x wr F q.o);clear a C;go_wp2_with fail;with_reducible refine aX.o.mono ?_
      rintro da a3⟨rfl,bo⟩;have cD:=Hd bo;have bz:=Hd (q.o.trans (bo.mono q.o.size));clear bo aT aX;by_cases E:chkT (newT cs) x=0
      ·rw[E];have a8:=Hd E;clear E;go_wp2;go_roundw
       case rel=>exact⟨k+1,by omega,by go_num,bl.o.trans (cD.o.mono bl.o.size),fun D bQ h a4=>by
        rcases YaC D k with ae|ae
        ·exact r.o D bQ ae a4
        ·rw[show D=k by omega,U.o]at a4;rw[←Yac a4];exact a8.o⟩
       case measure=>simp[intOf];omega
      ·have a8:=Hd E;have cR:¬((chkT (newT cs) x:Nat):Int)=0:=by omega
       have cX:(((chkT (newT cs) x:Nat):Int) != 0)=true:=by rw[bne_iff_ne];omega
       obtain⟨cq,ch⟩:∃cq,(newT cs)[x]?=some cq:=⟨_,Yaa (by rw[←V.o];exact F)⟩
       obtain⟨_,_,_,_,b2,_⟩:=(R.o.below bz.o).tab.ent x cq ch;have cF:a3.cell? ⟨B x,0,none⟩=some (.int .i64 x):=b2.cell 0 rfl;have cZ:(0:Int)<=(x:Int):=by omega
       have c0:(x:Int)<=1048576:=by omega
       have cg:Hid (∀ab,Below a3.heap.size a3 ab->ab.cell? ⟨B x,0,none⟩=some (.int .i64 x)):=Hd (fun ab aN=>(Yae (S:=fun _=>False) aN).cell cF id);have cN:Below a3.heap.size a3 a3:=Yab _ _;clear E ch b2;go_upto_region 23 with fail;first
       |(go_region_held (fun ab=>ab.cell? ⟨B x,0,none⟩=some (.int .i64 x)) ((refine cg.o _ ?_;(with_reducible repeat (first|exact Yab _ _|assumption|refine Zab ?_)))) (fail))
       |fail
       have cI:Hid (IntKind.i64.wrap ((x:Int)-8)=(x:Int)-8):=Hd (by unfold IntKind.wrap;simp[IntKind.bits,IntKind.signed];omega);clear cF cN cg;go_wp2;go_ret3;refine .inl ⟨(x:Int)-8,chkT (newT cs) x,.inr ⟨fun c E=>(Z.o.good c E).1,.inr ⟨Z.o.names,.inr ⟨Z.o,.inr ⟨?_,k,x,?_,rfl,rfl,a8.o,?_⟩⟩⟩⟩,by(show Ending.returned (.tuple #[.pointer none,.int .i64 (IntKind.i64.wrap ((x:Int)-8)),.int .i64 ((chkT (newT cs) x:Nat):Int)])=_;rw[cI.o]),a1.o.trans ((Zab bz.o).mono a1.o.size)⟩
       ·rw[←V.o,←ao.o];omega
       ·rw[←V.o,←cv.o];exact U.o
       ·rw[←V.o,←cv.o];exact r.o
     ·obtain rfl:k=aq:=by omega
      go_wp2;go_ret3;refine .inr ⟨⟨Z.o,by rw[←V.o,←ao.o];omega,fun bQ a4=>?_⟩,aB,aA,B,rfl,R.o.below q.o,a1.o.trans (q.o.mono a1.o.size)⟩;rw[←V.o,←cv.o]at a4;obtain⟨D,h⟩:=YbF a4;exact r.o D bQ (by rw[cK.o];exact(Yag.1 h).1) h
def objE (es:List Ent)(n:List UInt8):Bool:=match Zad es n with
 |some i=>match es[i]? with|some e=>!e.cls.abs|none=>false
 |none=>false
theorem Zkb {A:Nat->Prop}{B:Nat->Nat}{m j:Nat}{es:List Ent}{f:World}(c:Tab A f m j B es)(n:List UInt8)(w:World)(b:Below f.heap.size f w)(g:n.length<=9223372036854775807) :
  Calls prog 107 #[.pointer (some ⟨m,0,none⟩),.string (S n)] w (fun e w'=>e=.returned (.bool (objE es n))/\Below w.heap.size w w'):=by
 have p:w.cell? ⟨m,0,none⟩=some (.map (some j)):=(c.below b).box.cell 0 rfl;have d:=(c.below b).look n g;unfold objE;cases a:Zad es n with
 |none=>
  rw[a,Zdx]at d;clear c b g a;go_enter func107,ntmps107
  go_wp2_with fail;go_ret;exact⟨rfl,Yab _ _⟩
 |some i=>
  rw[a,Zbv]at d;have k:=ZaV a;obtain⟨q,r,s,sv,h,_⟩:=c.ent i es[i] (Yaa k);dsimp only;rw[Yaa k];have l:w.cell? ⟨B i,5,none⟩=some (.bool es[i].cls.abs):=(h.below b).cell 5 rfl;dsimp only;generalize es[i].cls.abs=t at l⊢;clear c b g a h;go_enter func107,ntmps107
  go_wp2_with fail;go_ret;exact⟨rfl,Yab _ _⟩
theorem NewOk.acyc {cs:List Cls}(a:NewOk cs):Acyc (newT cs):=Ze3 (Zd0 (by have:=a.lined.len;rw[ZaX];omega) (fun c d b=>a.lined.par c d b) a.lined.self) a.loops
theorem NewOk.shape {cs:List Cls}(a:NewOk cs):Shape (newT cs):=a.lined.shape a.acyc
