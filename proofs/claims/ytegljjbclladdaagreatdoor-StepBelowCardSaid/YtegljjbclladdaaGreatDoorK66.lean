/- laws -/
import Derived.Test.YtegljjbclladdaaGreatDoorK64
set_option maxRecDepth 100000
set_option maxHeartbeats 16000000
namespace Go.Proofs.YtegljjbclladdaaGreatDoor
open Go.RowKit Proofs.Tryz
theorem ZfX {α:Type}{l:List α}{p:α->Bool}{k:Nat}(g:l.findIdx? p=some k):∃m,l[k]?=some m/\l.find? p=some m:=by
 obtain⟨a,c,b⟩:=YaX.1 g;refine⟨l[k],Yaa a,List.find?_eq_some_iff_getElem.2 ⟨c,k,a,rfl,fun f d=>?_⟩⟩;have:=b f d;simpa using this
theorem Zfh {α:Type}{l:List α}{p:α->Bool}(b:l.findIdx? p=none):l.find? p=none:=by
 rw[YbK]at b;rw[Ycl];intro x a;rw[b x a];decide
def Zh8 (a:Nat)(es:List Ent)(b:Option (Nat×Mth))(w:World)(e:Ending)(w':World):Prop:=Below w.heap.size w w'/\
 ((b=none/\e=.returned (.tuple #[.string ⟨#[]⟩,mthZ,.bool false]))\/∃x m v,b=some (x,m)/\e=.returned (.tuple #[.string (S (nmE es x)),v,.bool true])/\MthR (fun k=>k<a) w' m v)
theorem ZmW (aN:Nat)(cs:List Cls)(aP:Lined cs)(sv:Value)(n:List UInt8) :
  ∀(f:Nat) (i:Nat) (en:Ent) (A':Nat->Prop) (v:Value) (w:World),(newT cs)[i]?=some en->Deep (newT cs) f en.lk->aN<=w.heap.size->Src 8 ClsR (fun k=>k<aN) w sv (allR cs)->ClsR A' w en.cls v->
   Calls prog 166 #[sv,v,.string (S n)] w (Zh8 aN (newT cs) (ZbY (newT cs) (ownG (newT cs) n) f en.lk) w):=by
 intro f;induction f with
 |zero=>
  intro i en A' v w L ag ab ac b9;have bZ:en.lk=[]:=ag;have b3:en.cls.like.length=0:=by
   have ap:=Ya8 List.length (aP.like L);rw[YaB,YaB,bZ]at ap;exact ap
  obtain⟨cQ,cY,cP,rfl,au,a5,aU⟩:=b9;obtain⟨lo,M,rfl⟩:=au.shape;obtain⟨Y,fc,rfl⟩:=a5.shape;obtain⟨Z,X,rfl⟩:=aU.shape;obtain⟨c6,cK,rfl⟩:=ac.shape;rw[b3];have N:=(Box.new w #[.string (S en.cls.name),.string (S en.cls.sup),.slice lo (0:Nat) M,.bool en.cls.itf,.bool en.cls.abs,.bool en.cls.fin,.slice Y en.cls.flds.length fc,.slice Z en.cls.mths.length X] 70).below (Zaa (Yab _ _) (.cells #[.string ⟨#[]⟩,.slice none 0 0,.string ⟨#[]⟩,.bool false,.int .i64 0,.slice none 0 0,.slice none 0 0] 26));have bw:=Zii (W:=w.alloc (.cells #[.string (S en.cls.name),.string (S en.cls.sup),.slice lo (0:Nat) M,.bool en.cls.itf,.bool en.cls.abs,.bool en.cls.fin,.slice Y en.cls.flds.length fc,.slice Z en.cls.mths.length X] 70)) (b:=w.heap.size+1) (cs:=#[.string ⟨#[]⟩,.slice none 0 0,.string ⟨#[]⟩,.bool false,.int .i64 0,.slice none 0 0,.slice none 0 0]) (t:=26) (by simp);have aM:Below w.heap.size w ((w.alloc (.cells #[.string (S en.cls.name),.string (S en.cls.sup),.slice lo (0:Nat) M,.bool en.cls.itf,.bool en.cls.abs,.bool en.cls.fin,.slice Y en.cls.flds.length fc,.slice Z en.cls.mths.length X] 70)).alloc (.cells #[.string ⟨#[]⟩,.slice none 0 0,.string ⟨#[]⟩,.bool false,.int .i64 0,.slice none 0 0,.slice none 0 0] 26)):=Zaa (Zaa (Yab _ _) _) _;have J:=Hd N;have g:=Hd bw;have am:=Hd aM;have T:Hid (ZbY (newT cs) (ownG (newT cs) n) 0 en.lk=none):=Hd rfl;generalize ZbY (newT cs) (ownG (newT cs) n) 0 en.lk=cC at T⊢;clear ac au a5 aU N bw aM ag bZ b3 L ab;go_enter func166,ntmps166
  go_upto_region 1 with fail;obtain⟨s,I⟩:∃s,s=w.heap.size:=⟨_,rfl⟩
  generalize cj:(w.alloc (.cells #[.string (S en.cls.name),.string (S en.cls.sup),.slice lo (0:Nat) M,.bool en.cls.itf,.bool en.cls.abs,.bool en.cls.fin,.slice Y en.cls.flds.length fc,.slice Z en.cls.mths.length X] 70)).alloc (.cells #[.string ⟨#[]⟩,.slice none 0 0,.string ⟨#[]⟩,.bool false,.int .i64 0,.slice none 0 0,.slice none 0 0] 26)=bI at J g am⊢;rw[←I]at J g⊢;have G:=Hd I;clear cj I;go_wp2;go_loopw [9] (fun bx wr=>bx=.int .i64 0/\wr=bI) (fun _ _=>0)
  case atStart=>exact⟨rfl,rfl⟩
  case round=>
   obtain⟨rfl,rfl⟩:=hrel;have cF:wr.cell? ⟨s,2,none⟩=some (.slice lo (0:Nat) M):=J.o.cell 2 rfl;obtain⟨a3,bs,bf,bj,aX,bA,bp⟩:=ZfZ g.o;obtain⟨bk,aV,a0,aZ,bm,bt,bC⟩:=Zdl g.o;obtain⟨H,E⟩:=set7 g.o (.string ⟨#[]⟩) (.slice none 0 0) (.string ⟨#[]⟩) (.bool false) (.int .i64 0) (.slice none 0 0) (.slice none 0 0);have ar:=Hd H;have K:=Hd (am.o.trans (E.below am.o.size (fun k (O:k=s+1)=>by have:=G.o;omega)));clear H E J g;go_wp2;have l:=ZaS (P:=prog) (ty:=26) ar.o underlying26 rfl Zbg;refine bodyPost_ret (v:=.tuple #[.string ⟨#[]⟩,mthZ,.bool false]) ?_ rfl ⟨K.o,.inl ⟨T.o,rfl⟩⟩;simp only[results,results166];simp[asAddr,l,mthZ]
 |succ f cH=>
  intro i en A' v w L ag ab ac b9;have aw:=aP.like L;have bW:en.cls.like.length=en.lk.length:=by
   have ap:=Ya8 List.length aw
   rwa [YaB,YaB]at ap
  have bK:∀(k:Nat) (x:List UInt8),en.cls.like[k]?=some x->∃d c,en.lk[k]?=some d/\Zad (newT cs) x=some d/\(newT cs)[d]?=some c/\Deep (newT cs) f c.lk:=fun k x N=>by
   have ap:=aP.like_at L k;rw[N]at ap;cases ca:en.lk[k]? with
   |none=>rw[ca]at ap;cases ap
   |some d=>
    rw[ca]at ap;have cX:Zad (newT cs) x=some d:=Yac ap;obtain⟨c,cR,cI⟩:=ag d (Yaf ca);exact⟨d,c,rfl,cX,cR,cI⟩
  have bX:=Hd bK;have bM:=Hd ab;have cz:en.cls.like.length<=1000:=aP.like_len en.cls (Yaf (show(allR cs)[i]?=some en.cls by rw[ZdR,L];rfl));obtain⟨cQ,cY,cP,rfl,au,a5,aU⟩:=b9;obtain⟨lo,M,rfl⟩:=au.shape;obtain⟨Y,fc,rfl⟩:=a5.shape;obtain⟨Z,X,rfl⟩:=aU.shape;obtain⟨O,bG⟩:∃O,O=en.cls.like.length:=⟨_,rfl⟩
  rw[←bG]at au cz⊢;have c4:=Hd bG;have cv:Hid (O=en.lk.length):=Hd (by rw[bG,bW]);have bN:=Hd ac;have cc:Hid (∀(d:Nat) (c:Ent) (bJ:Value) (V:World),(newT cs)[d]?=some c->Deep (newT cs) f c.lk->Below w.heap.size w V->ClsR Anyw V c.cls bJ->Calls prog 166 #[sv,bJ,.string (S n)] V (Zh8 aN (newT cs) (ZbY (newT cs) (ownG (newT cs) n) f c.lk) V)):=Hd (fun d c bJ V cW c7 bE cN=>cH d c Anyw bJ V cW c7 (Yaj ab bE.size) (ClsR.st.below ac bE) cN);have ch:Hid (∀x V,Below w.heap.size w V->Calls prog 32 #[sv,.string (S x)] V (fun e w'=>e=.returned (.int .i64 (idxV (Zad (newT cs) x)))/\Below V.heap.size V w')):=Hd (fun x V bE=>ZcL cs aP.len sv x V (ClsR.st.below ac bE));have cG:Hid (∀(d:Nat) (c:Ent),(newT cs)[d]?=some c->c.cls.mths.length<=9223372036854775807):=Hd (fun d c ap=>by have:=(aP.small d c ap).2.2.1;omega);obtain⟨c6,cK,rfl⟩:=ac.shape;obtain⟨m,bl⟩:∃m,m=(allR cs).length:=⟨_,rfl⟩
  have cu:=Hd bl;rw[←bl]at ch cc bN⊢;have N:=(Box.new w #[.string (S en.cls.name),.string (S en.cls.sup),.slice lo O M,.bool en.cls.itf,.bool en.cls.abs,.bool en.cls.fin,.slice Y en.cls.flds.length fc,.slice Z en.cls.mths.length X] 70).below (Zaa (Yab _ _) (.cells #[.string ⟨#[]⟩,.slice none 0 0,.string ⟨#[]⟩,.bool false,.int .i64 0,.slice none 0 0,.slice none 0 0] 26));have bw:=Zii (W:=w.alloc (.cells #[.string (S en.cls.name),.string (S en.cls.sup),.slice lo O M,.bool en.cls.itf,.bool en.cls.abs,.bool en.cls.fin,.slice Y en.cls.flds.length fc,.slice Z en.cls.mths.length X] 70)) (b:=w.heap.size+1) (cs:=#[.string ⟨#[]⟩,.slice none 0 0,.string ⟨#[]⟩,.bool false,.int .i64 0,.slice none 0 0,.slice none 0 0]) (t:=26) (by simp);have aM:Below w.heap.size w ((w.alloc (.cells #[.string (S en.cls.name),.string (S en.cls.sup),.slice lo O M,.bool en.cls.itf,.bool en.cls.abs,.bool en.cls.fin,.slice Y en.cls.flds.length fc,.slice Z en.cls.mths.length X] 70)).alloc (.cells #[.string ⟨#[]⟩,.slice none 0 0,.string ⟨#[]⟩,.bool false,.int .i64 0,.slice none 0 0,.slice none 0 0] 26)):=Zaa (Zaa (Yab _ _) _) _;have J:=Hd N;have g:=Hd bw;have am:=Hd aM;have bS:=Hd (StrR.st.below au aM);have T:Hid (ZbY (newT cs) (ownG (newT cs) n) (f+1) en.lk=en.lk.findSome? (fun d=>(ownG (newT cs) n d).or (ZbY (newT cs) (ownG (newT cs) n) f (lkOf (newT cs) d)))):=Hd rfl;generalize ZbY (newT cs) (ownG (newT cs) n) (f+1) en.lk=cC at T⊢;clear ac au a5 aU N bw aM ag L aw bW bK bG bl cH ab;unfold Zh8;go_enter func166,ntmps166
  go_upto_region 1 with fail;obtain⟨s,I⟩:∃s,s=w.heap.size:=⟨_,rfl⟩
  generalize cj:(w.alloc (.cells #[.string (S en.cls.name),.string (S en.cls.sup),.slice lo O M,.bool en.cls.itf,.bool en.cls.abs,.bool en.cls.fin,.slice Y en.cls.flds.length fc,.slice Z en.cls.mths.length X] 70)).alloc (.cells #[.string ⟨#[]⟩,.slice none 0 0,.string ⟨#[]⟩,.bool false,.int .i64 0,.slice none 0 0,.slice none 0 0] 26)=bI at J g am bS⊢;rw[←I]at J g⊢;have G:=Hd I;clear cj I;go_wp2;go_loopw [9] (fun bx wr=>∃k:Nat,k<=O/\bx=.int .i64 k/\(en.lk.take k).findSome? (fun d=>(ownG (newT cs) n d).or (ZbY (newT cs) (ownG (newT cs) n) f (lkOf (newT cs) d)))=none/\Below bI.heap.size bI wr) (fun bx _=>O-(intOf bx).toNat)
  case atStart=>exact⟨0,Yao _,rfl,rfl,Yab _ _⟩
  case round=>
   obtain⟨k,cE,rfl,b8,az⟩:=hrel;have aA:=Hd b8;have ao:=Hd az;have R:=Hd (am.o.trans (az.mono am.o.size));have cF:wr.cell? ⟨s,2,none⟩=some (.slice lo O M):=(J.o.below az).cell 2 rfl;clear b8 az;by_cases ct:k<O
   ·obtain⟨x,N⟩:∃x,en.cls.like[k]?=some x:=⟨_,Yaa (by rw[←c4.o];exact ct)⟩
    obtain⟨d,c,b5,bL,Q,bP⟩:=bX.o k x N;obtain⟨cO,cU,u,rfl,c5,_,b7⟩:=Src.elem (StrR.st.below bS.o ao.o) k x N;obtain rfl:=c5;have cJ:wr.cell? ⟨cO,cU+k,none⟩=some (.string (S x)):=by have O:=b7 0 _ rfl;rw[YaH]at O;exact O
    have dc:(0:Int)<=(k:Int):=by omega
    have db:(k:Int)<(O:Int):=by omega
    have aH:=Hd (ch.o x wr R.o);rw[bL]at aH;have co:idxV (some d)=(d:Int):=rfl;rw[co]at aH;have bb:(allR cs)[d]?=some c.cls:=by rw[ZdR,Q];rfl
    have df:(0:Int)<=(d:Int):=by omega
    have de:(d:Int)<(m:Int):=by have:=(Yag.1 bb).1;have:=cu.o;omega
    have cd:Hid (nmE (newT cs) d=c.cls.name):=Hd (Zgi Q);have cy:Hid (lkOf (newT cs) d=c.lk):=Hd (Zbm Q);have bT:Hid (ownG (newT cs) n d=(c.cls.mths.find? (fun m=>m.name==n)).map (fun m=>(d,m))):=Hd (by unfold ownG ownM;rw[Zcr Q]);have aj:Hid ((en.lk.take (k+1)).findSome? (fun d=>(ownG (newT cs) n d).or (ZbY (newT cs) (ownG (newT cs) n) f (lkOf (newT cs) d)))=(ownG (newT cs) n d).or (ZbY (newT cs) (ownG (newT cs) n) f c.lk)):=Hd (by
     rw[YaK,b5,Ybd,aA.o,YbA,←cy.o];simp)
    have aG:Hid (∀z,(en.lk.take (k+1)).findSome? (fun d=>(ownG (newT cs) n d).or (ZbY (newT cs) (ownG (newT cs) n) f (lkOf (newT cs) d)))=some z->cC=some z):=Hd (fun z c2=>by
     rw[T.o];exact ZdU (List.take_prefix _ _) c2)
    have b6:=Hd Q;have cp:=Hd bP;have cr:=Hd bb;clear b7 N b5 bL Q bP bb co aA;go_wp2_with fail;with_reducible refine aH.o.mono ?_
    rintro e B⟨rfl,bq⟩;have cm:=Hd (ao.o.trans (bq.mono ao.o.size));have aB:=Hd (R.o.trans (bq.mono R.o.size));obtain⟨ad,ak,dg,rfl,bU,_,h⟩:=Src.elem (ClsR.st.below bN.o aB.o) d c.cls cr.o;have b4:=Hd bU;obtain⟨_,_,_,rfl,b1,bY,aS⟩:=bU;obtain⟨aF,aK,rfl⟩:=b1.shape;obtain⟨aJ,aE,rfl⟩:=bY.shape;obtain⟨ah,aC,rfl⟩:=aS.shape;have aR:=Hd aS;have c3:B.cell? ⟨ad,ak+d*8,none⟩=some (.string (S c.cls.name)):=h 0 _ rfl;have cT:B.cell? ⟨ad,ak+d*8+1,none⟩=some (.string (S c.cls.sup)):=h 1 _ rfl;have cL:B.cell? ⟨ad,ak+d*8+2,none⟩=some (.slice aF c.cls.like.length aK):=h 2 _ rfl;have c1:B.cell? ⟨ad,ak+d*8+3,none⟩=some (.bool c.cls.itf):=h 3 _ rfl;have c8:B.cell? ⟨ad,ak+d*8+4,none⟩=some (.bool c.cls.abs):=h 4 _ rfl;have c0:B.cell? ⟨ad,ak+d*8+5,none⟩=some (.bool c.cls.fin):=h 5 _ rfl;have cM:B.cell? ⟨ad,ak+d*8+6,none⟩=some (.slice aJ c.cls.flds.length aE):=h 6 _ rfl;have cS:B.cell? ⟨ad,ak+d*8+7,none⟩=some (.slice ah c.cls.mths.length aC):=h 7 _ rfl;have p:Below B.heap.size B (B.alloc (.cells #[.string (S c.cls.name),.string (S c.cls.sup),.slice aF c.cls.like.length aK,.bool c.cls.itf,.bool c.cls.abs,.bool c.cls.fin,.slice aJ c.cls.flds.length aE,.slice ah c.cls.mths.length aC] 70)):=Zaa (Yab _ _) _;have bu:=Hd (Box.new B #[.string (S c.cls.name),.string (S c.cls.sup),.slice aF c.cls.like.length aK,.bool c.cls.itf,.bool c.cls.abs,.bool c.cls.fin,.slice aJ c.cls.flds.length aE,.slice ah c.cls.mths.length aC] 70);have bH:=Hd (cm.o.trans (p.mono cm.o.size));have aD:=Hd (aB.o.trans (p.mono aB.o.size));have aI:=Hd (ClsR.st.keep (ClsR.st.mono (A':=Anyw) b4.o (fun _ _ _=>trivial)) (Yae (S:=fun _=>False) p) (fun _ _=>id));have ax:=Hd (Zlc c.cls _ n _ aI.o (cG.o d c b6.o));unfold Zef at ax;have aq:=Hd p;clear h b1 bY aS bq cF cJ p aH;go_upto_region 5 with fail;generalize a4:B.alloc (.cells #[.string (S c.cls.name),.string (S c.cls.sup),.slice aF c.cls.like.length aK,.bool c.cls.itf,.bool c.cls.abs,.bool c.cls.fin,.slice aJ c.cls.flds.length aE,.slice ah c.cls.mths.length aC] 70)=di at bu bH aD aI ax aq⊢;obtain⟨cD,b2⟩:∃cD,cD=B.heap.size:=⟨_,rfl⟩
    rw[←b2]at bu⊢;clear a4 b2 c3 cT cL c1 c8 c0 cM cS b4 cm aB;obtain⟨a6,aT,bn,bB,bv,br,a8,aY⟩:=Zny bu.o;go_wp2_with fail;with_reducible refine ax.o.mono ?_
    rintro e af⟨rfl,U⟩;have bg:=Hd (bH.o.trans (U.mono bH.o.size));have ai:=Hd (aD.o.trans (U.mono aD.o.size));have av:=Hd (bu.o.below U);have bo:=Hd (MthR.st.below aR.o (aq.o.trans (U.mono aq.o.size)));have bd:=Hd (ClsR.st.keep aI.o (Yae (S:=fun _=>False) U) (fun _ _=>id));clear a6 aT bn bB bv br a8 aY ax bu aI bH aD U;cases ay:c.cls.mths.findIdx? (fun m=>m.name==n)with
    |none=>
     have cq:Hid (ownG (newT cs) n d=none):=Hd (by rw[bT.o,Zfh ay];rfl);have aQ:idxV none=(-1:Int):=rfl;rw[aQ];obtain⟨a6,aT,bn,bB,bv,br,a8,aY⟩:=Zny av.o;have bz:=Hd (cc.o d c _ af b6.o cp.o ai.o bd.o);unfold Zh8 at bz;clear ay aQ;go_wp2_with fail;with_reducible refine bz.o.mono ?_
     rintro e ae⟨bc,bD⟩;have aO:=Hd (bg.o.trans (bc.mono bg.o.size));have a9:=Hd (ai.o.trans (bc.mono ai.o.size));clear a6 aT bn bB bv br a8 aY bc bz;rcases bD with⟨bO,rfl⟩|⟨x,a,dj,bR,rfl,a7⟩
     ·have cx:Hid ((en.lk.take (k+1)).findSome? (fun d=>(ownG (newT cs) n d).or (ZbY (newT cs) (ownG (newT cs) n) f (lkOf (newT cs) d)))=none):=Hd (by rw[aj.o,cq.o,YbA];exact bO);have cZ:=Hd (aO.o.trans ((Zaa (Yab ae.heap.size ae) (.cells #[.string ⟨#[]⟩,.slice none 0 0,.string ⟨#[]⟩,.bool false,.int .i64 0,.slice none 0 0,.slice none 0 0] 26)).mono aO.o.size));clear bO aj aG;unfold mthZ;go_wp2;go_roundw
      case rel=>exact⟨k+1,by omega,by go_num,cx.o,cZ.o⟩
      case measure=>simp[intOf];omega
     ·have bh:Hid (cC=some (x,a)):=Hd (aG.o _ (by rw[aj.o,cq.o,YbA];exact bR));have bV:=Hd a7;obtain⟨_,_,_,rfl,⟨q,C,rfl⟩,⟨A,y,rfl⟩,⟨r,D,rfl⟩⟩:=Zaj a7;have p:Below ae.heap.size ae (ae.alloc (.cells #[.string (S a.name),.slice q a.params.length C,.string (S a.res),.bool a.abs,.int .i64 a.loc,.slice A a.code.length y,.slice r a.cats.length D] 26)):=Zaa (Yab _ _) _;have aL:=Hd (Box.new ae #[.string (S a.name),.slice q a.params.length C,.string (S a.res),.bool a.abs,.int .i64 a.loc,.slice A a.code.length y,.slice r a.cats.length D] 26);have aW:=Hd (MthR.st.keep bV.o (Yae (S:=fun _=>False) p) (fun _ _=>id));have bF:=Hd (aO.o.trans (p.mono aO.o.size));have a1:=Hd (a9.o.trans (p.mono a9.o.size));clear bR a7 p aj aG bV;go_upto_region 9 with fail;generalize a4:ae.alloc (.cells #[.string (S a.name),.slice q a.params.length C,.string (S a.res),.bool a.abs,.int .i64 a.loc,.slice A a.code.length y,.slice r a.cats.length D] 26)=dh at aL bF a1 aW⊢;obtain⟨cg,bQ⟩:∃cg,cg=ae.heap.size:=⟨_,rfl⟩
      have cV:Hid (cg≠s+1):=Hd (by have:=g.o.lt;have:=aO.o.size;omega);rw[←bQ]at aL⊢;clear a4 bQ aO a9;obtain⟨cn,cf,cb,ci,ce,ck,cl⟩:=Zdl aL.o;obtain⟨a3,bs,bf,bj,aX,bA,bp⟩:=ZfZ (g.o.below bF.o);obtain⟨bk,aV,a0,aZ,bm,bt,bC⟩:=Zdl (g.o.below bF.o);obtain⟨H,E⟩:=set7 (g.o.below bF.o) (.string (S a.name)) (.slice q a.params.length C) (.string (S a.res)) (.bool a.abs) (.int .i64 a.loc) (.slice A a.code.length y) (.slice r a.cats.length D);go_upto_region 10 with fail;go_region
      all_goals
       have ar:=Hd (H.below (Zab (Yab _ _)));have K:=Hd (a1.o.trans (E.drew.below a1.o.size (fun k (O:k=s+1)=>by have:=G.o;omega)));have bi:=Hd (MthR.st.keep aW.o E.drew (fun k (cE:k<aN) (O:k=s+1)=>by have:=G.o;have:=bM.o;omega));clear H E cn cf cb ci ce ck cl a3 bs bf bj aX bA bp bk aV a0 aZ bm bt bC aL g J bd av bo aR;go_wp2;have l:=ZaS (P:=prog) (ty:=26) ar.o underlying26 rfl Zbg;refine bodyPost_ret (v:=.tuple #[.string (S (nmE (newT cs) x)),.agg #[.string (S a.name),.slice q a.params.length C,.string (S a.res),.bool a.abs,.int .i64 a.loc,.slice A a.code.length y,.slice r a.cats.length D],.bool true]) ?_ rfl ⟨K.o,.inr ⟨x,a,_,bh.o,rfl,bi.o⟩⟩;simp only[results,results166];simp[asAddr,l]
    |some F=>
     obtain⟨a,a2,b0⟩:=ZfX ay;have bh:Hid (cC=some (d,a)):=Hd (aG.o _ (by rw[aj.o,bT.o,b0];rfl));have aQ:idxV (some F)=(F:Int):=rfl;rw[aQ];obtain⟨aa,al,dd,cA,ba,_,j⟩:=Src.elem bo.o F a a2;obtain rfl:ah=some ⟨aa,al,none⟩:=cA;have cB:=Hd ba;obtain⟨_,_,_,rfl,⟨q,C,rfl⟩,⟨A,y,rfl⟩,⟨r,D,rfl⟩⟩:=Zaj ba;obtain⟨a6,aT,bn,bB,bv,br,a8,aY⟩:=Zny av.o;have cn:af.cell? ⟨aa,al+F*7,none⟩=some (.string (S a.name)):=j 0 _ rfl;have cf:af.cell? ⟨aa,al+F*7+1,none⟩=some (.slice q a.params.length C):=j 1 _ rfl;have cb:af.cell? ⟨aa,al+F*7+2,none⟩=some (.string (S a.res)):=j 2 _ rfl;have ci:af.cell? ⟨aa,al+F*7+3,none⟩=some (.bool a.abs):=j 3 _ rfl;have ce:af.cell? ⟨aa,al+F*7+4,none⟩=some (.int .i64 a.loc):=j 4 _ rfl;have ck:af.cell? ⟨aa,al+F*7+5,none⟩=some (.slice A a.code.length y):=j 5 _ rfl;have cl:af.cell? ⟨aa,al+F*7+6,none⟩=some (.slice r a.cats.length D):=j 6 _ rfl;have c9:(0:Int)<=(F:Int):=by omega
     have da:(F:Int)<(c.cls.mths.length:Int):=by have:=(Yag.1 a2).1;omega
     obtain⟨a3,bs,bf,bj,aX,bA,bp⟩:=ZfZ (g.o.below bg.o);obtain⟨bk,aV,a0,aZ,bm,bt,bC⟩:=Zdl (g.o.below bg.o);obtain⟨H,E⟩:=set7 (g.o.below bg.o) (.string (S a.name)) (.slice q a.params.length C) (.string (S a.res)) (.bool a.abs) (.int .i64 a.loc) (.slice A a.code.length y) (.slice r a.cats.length D);clear ay a2 b0 ba j aQ;go_upto_region 7 with fail;go_region
     all_goals
      have ar:=Hd (H.below (Zab (Yab _ _)));have K:=Hd (ai.o.trans (E.drew.below ai.o.size (fun k (O:k=s+1)=>by have:=G.o;omega)));have bi:=Hd (MthR.st.keep cB.o E.drew (fun k (cE:k<aN) (O:k=s+1)=>by have:=G.o;have:=bM.o;omega));clear H E a6 aT bn bB bv br a8 aY cn cf cb ci ce ck cl a3 bs bf bj aX bA bp bk aV a0 aZ bm bt bC g J bd av bo aR;go_wp2;have l:=ZaS (P:=prog) (ty:=26) ar.o underlying26 rfl Zbg;refine bodyPost_ret (v:=.tuple #[.string (S c.cls.name),.agg #[.string (S a.name),.slice q a.params.length C,.string (S a.res),.bool a.abs,.int .i64 a.loc,.slice A a.code.length y,.slice r a.cats.length D],.bool true]) ?_ rfl ⟨K.o,.inr ⟨d,a,_,bh.o,by rw[cd.o],bi.o⟩⟩;simp only[results,results166];simp[asAddr,l]
   ·obtain rfl:k=O:=by omega
    have cw:Hid (cC=none):=Hd (by have ap:=aA.o;rw[cv.o,YaE]at ap;rw[T.o];exact ap);obtain⟨a3,bs,bf,bj,aX,bA,bp⟩:=ZfZ (g.o.below ao.o);obtain⟨bk,aV,a0,aZ,bm,bt,bC⟩:=Zdl (g.o.below ao.o);obtain⟨H,E⟩:=set7 (g.o.below ao.o) (.string ⟨#[]⟩) (.slice none 0 0) (.string ⟨#[]⟩) (.bool false) (.int .i64 0) (.slice none 0 0) (.slice none 0 0);have ar:=Hd H;have K:=Hd (R.o.trans (E.below R.o.size (fun k (O:k=s+1)=>by have:=G.o;omega)));clear H E J g aA ao R bX cc ch;go_wp2;have l:=ZaS (P:=prog) (ty:=26) ar.o underlying26 rfl Zbg;refine bodyPost_ret (v:=.tuple #[.string ⟨#[]⟩,mthZ,.bool false]) ?_ rfl ⟨K.o,.inl ⟨cw.o,rfl⟩⟩;simp only[results,results166];simp[asAddr,l,mthZ]
theorem Src.elem2 {α:Type}{n:Nat}{R:Zao α}{A:Nat->Prop}{w:World}{b o m c:Nat}{l:List α}(q:Src n R A w (.slice (some ⟨b,o,none⟩) m c) l)(k:Nat)(x:α)(a:l[k]?=some x):∃v,R A w x v/\v.cells.size=n/\∀h u,v.cells[h]?=some u->w.cell? ⟨b,o+k*n+h,none⟩=some u:=by
 rcases q with⟨j,g,d,rfl⟩|⟨i,p,g,d,_,f⟩
 ·simp at a
 ·injection d with e1 e2 e3
  injection e1 with e1
  injection e1 with e4 e5
  subst e4 e5;exact f k x a
theorem Zkn (Y:Nat)(cs:List Cls)(a9:Lined cs)(W:Wise (newT cs))(sv:Value)(c n:List UInt8)(w:World)(aG:Y<=w.heap.size)(ay:Src 8 ClsR (fun k=>k<Y) w sv (allR cs)) :
  Calls prog 98 #[sv,.string (S c),.string (S n)] w (Zh8 Y (newT cs) (Zbt (newT cs) (Zad (newT cs) c) n) w):=by
 have aU:∀i,Zad (newT cs) c=some i->i<(newT cs).length:=fun i cz=>ZaV cz;have ap:=Hd (W.methR (Zad (newT cs) c) aU n);have a3:Hid (∀x V,Below w.heap.size w V->Calls prog 32 #[sv,.string (S x)] V (fun e w'=>e=.returned (.int .i64 (idxV (Zad (newT cs) x)))/\Below V.heap.size V w')):=Hd (fun x V ac=>ZcL cs a9.len sv x V (ClsR.st.below ay ac));have aO:Hid (∀(i:Nat) (en:Ent) (bF:Value) (V:World),(newT cs)[i]?=some en->Below w.heap.size w V->ClsR (fun k=>k<Y) V en.cls bF->Calls prog 166 #[sv,bF,.string (S n)] V (Zh8 Y (newT cs) (ZbY (newT cs) (ownG (newT cs) n) (newT cs).length (lkOf (newT cs) i)) V)):=Hd (fun i en bF V b5 ac cx=>by
  rw[Zbm b5];exact ZmW Y cs a9 sv n (newT cs).length i en _ bF V b5 (W.sh.deep i en b5) (Yaj aG ac.size) (ClsR.st.below ay ac) cx)
 have co:Hid (∀(d:Nat) (bD:Ent),(newT cs)[d]?=some bD->bD.cls.mths.length<=9223372036854775807):=Hd (fun d bD bm=>by have:=(a9.small d bD bm).2.2.1;omega);have aI:=Hd ay;have bJ:=Hd aG;have bt:=Hd W;have bP:=Hd a9;have bU:(allR cs).length=(newT cs).length:=by rw[Zc5,ZaX]
 obtain⟨cl,bQ⟩:∃cl,(allR cs)[0]?=some cl:=⟨_,Yaa (by rw[Zc5];omega)⟩
 obtain⟨cM,cK,rfl⟩:=ay.shape;obtain⟨g,h,v,rfl,_,_,_⟩:=Src.elem ay 0 _ bQ;obtain⟨m,a4⟩:∃m,m=(allR cs).length:=⟨_,rfl⟩
 have bI:Hid (m=(newT cs).length):=Hd (by rw[a4,bU]);rw[←a4]at a3 aO aI⊢;have cq:=Box.new w #[.string ⟨#[]⟩,.slice none 0 0,.string ⟨#[]⟩,.bool false,.int .i64 0,.slice none 0 0,.slice none 0 0] 26;have ci:Below w.heap.size w (w.alloc (.cells #[.string ⟨#[]⟩,.slice none 0 0,.string ⟨#[]⟩,.bool false,.int .i64 0,.slice none 0 0,.slice none 0 0] 26)):=Zaa (Yab _ _) _;have u:=Hd cq;have ax:=Hd ci;generalize Zbt (newT cs) (Zad (newT cs) c) n=cr at ap⊢;have bL:=Hd aU;unfold Zh8 at aO⊢;clear ay cq ci bQ bU a4 aU aG W a9;go_enter func98,ntmps98
 go_upto_region 1 with fail;obtain⟨aj,bh⟩:∃aj,aj=w.heap.size:=⟨_,rfl⟩
 generalize cE:w.alloc (.cells #[.string ⟨#[]⟩,.slice none 0 0,.string ⟨#[]⟩,.bool false,.int .i64 0,.slice none 0 0,.slice none 0 0] 26)=bb at u ax⊢;rw[←bh]at u⊢;have U:=Hd bh;clear cE bh;go_wp2_with fail;with_reducible refine(a3.o c bb ax.o).mono ?_
 rintro e cI⟨rfl,bV⟩;have cF:=Hd bV;clear bV;go_wp2;go_loopw [9] (fun cg wr=>∃(o:Option Nat) (C:List Nat),cg=.int .i64 (idxV o)/\(∀i,o=some i->i<(newT cs).length)/\Zan (newT cs) (Zad (newT cs) c)=C++Zan (newT cs) o/\C.findSome? (ownG (newT cs) n)=none/\Below bb.heap.size bb wr) (fun cg _=>(Zan (newT cs) (Zpj cg)).length)
 case atStart=>exact⟨Zad (newT cs) c,[],rfl,bL.o,rfl,rfl,cF.o⟩
 case round=>
  obtain⟨o,C,rfl,Z,R,al,L⟩:=hrel;have M:=Hd Z;have r:=Hd R;have q:=Hd al;have J:=Hd L;have p:=Hd (ax.o.trans (L.mono ax.o.size));clear Z R al L;cases o with
  |some i=>
   have ai:=M.o i rfl;obtain⟨en,j⟩:∃en,(newT cs)[i]?=some en:=⟨_,Yaa ai⟩
   have bj:(allR cs)[i]?=some en.cls:=by rw[ZdR,j];rfl
   obtain⟨cy,ab,_,f⟩:=Src.elem2 (ClsR.st.below aI.o p.o) i en.cls bj;have bf:=Hd ab;obtain⟨_,_,_,rfl,ah,ae,K⟩:=ab;obtain⟨a6,bi,rfl⟩:=ah.shape;obtain⟨bc,a5,rfl⟩:=ae.shape;obtain⟨av,a1,rfl⟩:=K.shape;have bH:=Hd K;have af:Hid (∀V,Below wr.heap.size wr V->V.cell? ⟨g,h+i*8,none⟩=some (.string (S en.cls.name))/\V.cell? ⟨g,h+i*8+1,none⟩=some (.string (S en.cls.sup))/\V.cell? ⟨g,h+i*8+2,none⟩=some (.slice a6 en.cls.like.length bi)/\V.cell? ⟨g,h+i*8+3,none⟩=some (.bool en.cls.itf)/\V.cell? ⟨g,h+i*8+4,none⟩=some (.bool en.cls.abs)/\V.cell? ⟨g,h+i*8+5,none⟩=some (.bool en.cls.fin)/\V.cell? ⟨g,h+i*8+6,none⟩=some (.slice bc en.cls.flds.length a5)/\V.cell? ⟨g,h+i*8+7,none⟩=some (.slice av en.cls.mths.length a1)):=Hd (fun V ac=>
    have s:=Yae (S:=fun _=>False) ac
    ⟨s.cell (a:=⟨g,h+i*8,none⟩) (f 0 _ rfl) id,s.cell (a:=⟨g,h+i*8+1,none⟩) (f 1 _ rfl) id,s.cell (a:=⟨g,h+i*8+2,none⟩) (f 2 _ rfl) id,s.cell (a:=⟨g,h+i*8+3,none⟩) (f 3 _ rfl) id,s.cell (a:=⟨g,h+i*8+4,none⟩) (f 4 _ rfl) id,s.cell (a:=⟨g,h+i*8+5,none⟩) (f 5 _ rfl) id,s.cell (a:=⟨g,h+i*8+6,none⟩) (f 6 _ rfl) id,s.cell (a:=⟨g,h+i*8+7,none⟩) (f 7 _ rfl) id⟩)
   have I:idxV (some i)=(i:Int):=rfl;have cw:(0:Int)<=(i:Int):=by omega
   have cv:(i:Int)<(m:Int):=by have:=bI.o;omega
   have aW:Hid (nmE (newT cs) i=en.cls.name):=Hd (Zgi j);have aB:Hid (Zad (newT cs) en.cls.sup=en.up):=Hd (bP.o.sup j);have aT:Hid (∀bp,en.up=some bp->bp<(newT cs).length):=Hd (fun bp b9=>bt.o.upj i en bp j b9);have G:Hid (Zan (newT cs) (some i)=i::Zan (newT cs) en.up):=Hd (bt.o.line j);have aq:=Hd j;rw[I];clear f ah ae K bj ai j I M;have aK:=Hd (Zlc en.cls _ n wr bf.o (co.o i en aq.o));unfold Zef at aK;have aV:Hid (ownG (newT cs) n i=(en.cls.mths.find? (fun m=>m.name==n)).map (fun m=>(i,m))):=Hd (by unfold ownG ownM;rw[Zcr aq.o]);obtain⟨cd,b1,bX,ca,ce,b8,bY,b0⟩:=af.o wr (Yab _ _);go_wp2_with fail;with_reducible refine aK.o.mono ?_
   rintro e Q⟨rfl,ad⟩;have aZ:=Hd (J.o.trans (ad.mono J.o.size));have bd:=Hd (p.o.trans (ad.mono p.o.size));have cp:=Hd (MthR.st.below bH.o ad);obtain⟨aL,aC,a7,bk,bg,ba,aN,aF⟩:=af.o Q ad;clear cd b1 bX ca ce b8 bY b0 aK ad;cases ar:en.cls.mths.findIdx? (fun m=>m.name==n)with
   |none=>
    have aY:Hid ((C++[i]).findSome? (ownG (newT cs) n)=none):=Hd (by
     rw[Ybd,q.o,YbA];simp[aV.o,Zfh ar])
    have ao:Hid (Zan (newT cs) (Zad (newT cs) c)=(C++[i])++Zan (newT cs) en.up):=Hd (by rw[r.o,G.o];simp);have a8:Hid ((Zan (newT cs) en.up).length<(Zan (newT cs) (some i)).length):=Hd (by rw[G.o,YaI];omega);have aA:idxV none=(-1:Int):=rfl;rw[aA];clear ar aA q r G aV;go_wp2_with fail;with_reducible refine(a3.o en.cls.sup Q bd.o).mono ?_
    rintro e cu⟨rfl,am⟩;have cf:=Hd (aZ.o.trans (am.mono aZ.o.size));rw[aB.o];clear am aL aC a7 bk bg ba aN aF;go_wp2;go_roundw
    case rel=>exact⟨en.up,C++[i],rfl,aT.o,ao.o,aY.o,cf.o⟩
    case measure=>rw[Zgk,Zi3];exact a8.o
   |some H=>
    obtain⟨b,aJ,bT⟩:=ZfX ar;have a0:Hid (cr=some (i,b)):=Hd (by
     have bm:(C++Zan (newT cs) (some i)).findSome? (ownG (newT cs) n)=some (i,b):=by
      rw[Ybd,q.o,YbA,G.o,YbG,aV.o,bT];rfl
     rw[ap.o,r.o,bm];rfl)
    have aA:idxV (some H)=(H:Int):=rfl;rw[aA];obtain⟨X,ak,cJ,cm,aQ,_,t⟩:=Src.elem cp.o H b aJ;obtain rfl:av=some ⟨X,ak,none⟩:=cm;have cn:=Hd aQ;obtain⟨_,_,_,rfl,⟨y,E,rfl⟩,⟨D,B,rfl⟩,⟨z,F,rfl⟩⟩:=Zaj aQ;have ch:Q.cell? ⟨X,ak+H*7,none⟩=some (.string (S b.name)):=t 0 _ rfl;have b3:Q.cell? ⟨X,ak+H*7+1,none⟩=some (.slice y b.params.length E):=t 1 _ rfl;have bZ:Q.cell? ⟨X,ak+H*7+2,none⟩=some (.string (S b.res)):=t 2 _ rfl;have b7:Q.cell? ⟨X,ak+H*7+3,none⟩=some (.bool b.abs):=t 3 _ rfl;have b2:Q.cell? ⟨X,ak+H*7+4,none⟩=some (.int .i64 b.loc):=t 4 _ rfl;have cb:Q.cell? ⟨X,ak+H*7+5,none⟩=some (.slice D b.code.length B):=t 5 _ rfl;have cc:Q.cell? ⟨X,ak+H*7+6,none⟩=some (.slice z b.cats.length F):=t 6 _ rfl;have cG:(0:Int)<=(H:Int):=by omega
    have cH:(H:Int)<(en.cls.mths.length:Int):=by have:=(Yag.1 aJ).1;omega
    obtain⟨bs,bB,bu,bv,bn,bE,bA⟩:=ZfZ (u.o.below aZ.o);obtain⟨bw,bl,bq,bo,bz,bC,bG⟩:=Zdl (u.o.below aZ.o);obtain⟨T,N⟩:=set7 (u.o.below aZ.o) (.string (S b.name)) (.slice y b.params.length E) (.string (S b.res)) (.bool b.abs) (.int .i64 b.loc) (.slice D b.code.length B) (.slice z b.cats.length F);clear ar aJ bT aQ t aA aC a7 bk bg ba aN;go_upto_region 6 with fail;go_region
    all_goals
     have aS:=Hd (T.below (Zab (Yab _ _)));have ag:=Hd (bd.o.trans (N.drew.below bd.o.size (fun k (ct:k=aj)=>by have:=U.o;omega)));have a2:=Hd (MthR.st.keep cn.o N.drew (fun k (cD:k<Y) (ct:k=aj)=>by have:=U.o;have:=bJ.o;omega));clear T N aL aF ch b3 bZ b7 b2 cb cc bs bB bu bv bn bE bA bw bl bq bo bz bC bG u;go_wp2;have l:=ZaS (P:=prog) (ty:=26) aS.o underlying26 rfl Zbg;refine bodyPost_ret (v:=.tuple #[.string (S en.cls.name),.agg #[.string (S b.name),.slice y b.params.length E,.string (S b.res),.bool b.abs,.int .i64 b.loc,.slice D b.code.length B,.slice z b.cats.length F],.bool true]) ?_ rfl ⟨ag.o,.inr ⟨i,b,_,a0.o,by rw[aW.o],a2.o⟩⟩;simp only[results,results98];simp[asAddr,l]
  |none=>
   have I:idxV none=(-1:Int):=rfl;rw[I];have aR:Hid (cr=(Zan (newT cs) (Zad (newT cs) c)).findSome? (fun d=>ZbY (newT cs) (ownG (newT cs) n) (newT cs).length (lkOf (newT cs) d))):=Hd (by
    have bm:=r.o;rw[Zbi,YaN]at bm;rw[ap.o,bm,q.o,YbA])
   clear r q M ap I;go_wp2_with fail;with_reducible refine(a3.o c wr p.o).mono ?_
   rintro e w2⟨rfl,bR⟩;have cB:=Hd (J.o.trans (bR.mono J.o.size));clear bR J p;go_wp2;go_loopw [11] (fun aX wr=>∃(o:Option Nat) (C:List Nat),aX=.int .i64 (idxV o)/\(∀i,o=some i->i<(newT cs).length)/\Zan (newT cs) (Zad (newT cs) c)=C++Zan (newT cs) o/\C.findSome? (fun d=>ZbY (newT cs) (ownG (newT cs) n) (newT cs).length (lkOf (newT cs) d))=none/\Below bb.heap.size bb wr) (fun aX _=>(Zan (newT cs) (Zpj aX)).length)
   case atStart=>exact⟨Zad (newT cs) c,[],rfl,bL.o,rfl,rfl,cB.o⟩
   case round=>
    obtain⟨o,C,rfl,Z,R,al,L⟩:=hrel;have M:=Hd Z;have r:=Hd R;have q:=Hd al;have J:=Hd L;have p:=Hd (ax.o.trans (L.mono ax.o.size));clear Z R al L;cases o with
    |none=>
     have I:idxV none=(-1:Int):=rfl;rw[I];have cj:Hid (cr=none):=Hd (by
      have bm:=r.o;rw[Zbi,YaN]at bm;rw[aR.o,bm,q.o])
     obtain⟨bs,bB,bu,bv,bn,bE,bA⟩:=ZfZ (u.o.below J.o);obtain⟨bw,bl,bq,bo,bz,bC,bG⟩:=Zdl (u.o.below J.o);obtain⟨T,N⟩:=set7 (u.o.below J.o) (.string ⟨#[]⟩) (.slice none 0 0) (.string ⟨#[]⟩) (.bool false) (.int .i64 0) (.slice none 0 0) (.slice none 0 0);have aS:=Hd T;have ag:=Hd (p.o.trans (N.below p.o.size (fun k (ct:k=aj)=>by have:=U.o;omega)));clear T N u r q M I;go_wp2;have l:=ZaS (P:=prog) (ty:=26) aS.o underlying26 rfl Zbg;refine bodyPost_ret (v:=.tuple #[.string ⟨#[]⟩,mthZ,.bool false]) ?_ rfl ⟨ag.o,.inl ⟨cj.o,rfl⟩⟩;simp only[results,results98];simp[asAddr,l,mthZ]
    |some i=>
     have ai:=M.o i rfl;obtain⟨en,j⟩:∃en,(newT cs)[i]?=some en:=⟨_,Yaa ai⟩
     have bj:(allR cs)[i]?=some en.cls:=by rw[ZdR,j];rfl
     obtain⟨cy,ab,_,f⟩:=Src.elem2 (ClsR.st.below aI.o p.o) i en.cls bj;have bf:=Hd ab;obtain⟨_,_,_,rfl,ah,ae,K⟩:=ab;obtain⟨a6,bi,rfl⟩:=ah.shape;obtain⟨bc,a5,rfl⟩:=ae.shape;obtain⟨av,a1,rfl⟩:=K.shape;have bH:=Hd K;have af:Hid (∀V,Below wr.heap.size wr V->V.cell? ⟨g,h+i*8,none⟩=some (.string (S en.cls.name))/\V.cell? ⟨g,h+i*8+1,none⟩=some (.string (S en.cls.sup))/\V.cell? ⟨g,h+i*8+2,none⟩=some (.slice a6 en.cls.like.length bi)/\V.cell? ⟨g,h+i*8+3,none⟩=some (.bool en.cls.itf)/\V.cell? ⟨g,h+i*8+4,none⟩=some (.bool en.cls.abs)/\V.cell? ⟨g,h+i*8+5,none⟩=some (.bool en.cls.fin)/\V.cell? ⟨g,h+i*8+6,none⟩=some (.slice bc en.cls.flds.length a5)/\V.cell? ⟨g,h+i*8+7,none⟩=some (.slice av en.cls.mths.length a1)):=Hd (fun V ac=>
      have s:=Yae (S:=fun _=>False) ac
      ⟨s.cell (a:=⟨g,h+i*8,none⟩) (f 0 _ rfl) id,s.cell (a:=⟨g,h+i*8+1,none⟩) (f 1 _ rfl) id,s.cell (a:=⟨g,h+i*8+2,none⟩) (f 2 _ rfl) id,s.cell (a:=⟨g,h+i*8+3,none⟩) (f 3 _ rfl) id,s.cell (a:=⟨g,h+i*8+4,none⟩) (f 4 _ rfl) id,s.cell (a:=⟨g,h+i*8+5,none⟩) (f 5 _ rfl) id,s.cell (a:=⟨g,h+i*8+6,none⟩) (f 6 _ rfl) id,s.cell (a:=⟨g,h+i*8+7,none⟩) (f 7 _ rfl) id⟩)
     have I:idxV (some i)=(i:Int):=rfl;have cw:(0:Int)<=(i:Int):=by omega
     have cv:(i:Int)<(m:Int):=by have:=bI.o;omega
     have aW:Hid (nmE (newT cs) i=en.cls.name):=Hd (Zgi j);have aB:Hid (Zad (newT cs) en.cls.sup=en.up):=Hd (bP.o.sup j);have aT:Hid (∀bp,en.up=some bp->bp<(newT cs).length):=Hd (fun bp b9=>bt.o.upj i en bp j b9);have G:Hid (Zan (newT cs) (some i)=i::Zan (newT cs) en.up):=Hd (bt.o.line j);have aq:=Hd j;rw[I];clear f ah ae K bj ai j I M;have bW:=Hd (aO.o i en _ wr aq.o p.o bf.o);obtain⟨cd,b1,bX,ca,ce,b8,bY,b0⟩:=af.o wr (Yab _ _);go_wp2_with fail;with_reducible refine bW.o.mono ?_
     rintro e O⟨au,br⟩;have az:=Hd (J.o.trans (au.mono J.o.size));have aa:=Hd (p.o.trans (au.mono p.o.size));have aP:=Hd au;clear cd b1 bX ca ce b8 bY b0 au bW;rcases br with⟨bK,rfl⟩|⟨x,b,cL,bN,rfl,aM⟩
     ·have aY:Hid ((C++[i]).findSome? (fun d=>ZbY (newT cs) (ownG (newT cs) n) (newT cs).length (lkOf (newT cs) d))=none):=Hd (by
       rw[Ybd,q.o,YbA];simp[bK])
      have ao:Hid (Zan (newT cs) (Zad (newT cs) c)=(C++[i])++Zan (newT cs) en.up):=Hd (by rw[r.o,G.o];simp);have a8:Hid ((Zan (newT cs) en.up).length<(Zan (newT cs) (some i)).length):=Hd (by rw[G.o,YaI];omega);have A:=Zaa (Yab O.heap.size O) (.cells #[.string ⟨#[]⟩,.slice none 0 0,.string ⟨#[]⟩,.bool false,.int .i64 0,.slice none 0 0,.slice none 0 0] 26);have b6:=Hd (az.o.trans (A.mono az.o.size));have bS:=Hd (aa.o.trans (A.mono aa.o.size));obtain⟨aL,aC,a7,bk,bg,ba,aN,aF⟩:=af.o _ (aP.o.trans (A.mono aP.o.size));have aD:=Hd (a3.o en.cls.sup _ bS.o);clear bK q r G A;unfold mthZ;go_upto_region 11 with fail;generalize O.alloc (.cells #[.string ⟨#[]⟩,.slice none 0 0,.string ⟨#[]⟩,.bool false,.int .i64 0,.slice none 0 0,.slice none 0 0] 26)=cA at b6 bS aL aC a7 bk bg ba aN aF aD⊢;go_wp2_with fail;with_reducible refine aD.o.mono ?_
      rintro e cu⟨rfl,am⟩;have cf:=Hd (b6.o.trans (am.mono b6.o.size));rw[aB.o];clear am aL aC a7 bk bg ba aN aF aD;go_wp2;go_roundw
      case rel=>exact⟨en.up,C++[i],rfl,aT.o,ao.o,aY.o,cf.o⟩
      case measure=>rw[Zgk,Zi3];exact a8.o
     ·have a0:Hid (cr=some (x,b)):=Hd (by
       rw[aR.o,r.o,Ybd,q.o,YbA,G.o,YbG,bN])
      have bO:=Hd aM;obtain⟨_,_,_,rfl,⟨y,E,rfl⟩,⟨D,B,rfl⟩,⟨z,F,rfl⟩⟩:=Zaj aM;have A:Below O.heap.size O (O.alloc (.cells #[.string (S b.name),.slice y b.params.length E,.string (S b.res),.bool b.abs,.int .i64 b.loc,.slice D b.code.length B,.slice z b.cats.length F] 26)):=Zaa (Yab _ _) _;have aw:=Hd (Box.new O #[.string (S b.name),.slice y b.params.length E,.string (S b.res),.bool b.abs,.int .i64 b.loc,.slice D b.code.length B,.slice z b.cats.length F] 26);have aE:=Hd (MthR.st.keep bO.o (Yae (S:=fun _=>False) A) (fun _ _=>id));have bx:=Hd (az.o.trans (A.mono az.o.size));have aH:=Hd (aa.o.trans (A.mono aa.o.size));clear bN aM A bO;go_upto_region 11 with fail;generalize ck:O.alloc (.cells #[.string (S b.name),.slice y b.params.length E,.string (S b.res),.bool b.abs,.int .i64 b.loc,.slice D b.code.length B,.slice z b.cats.length F] 26)=cA at aw bx aH aE⊢;obtain⟨b4,bM⟩:∃b4,b4=O.heap.size:=⟨_,rfl⟩
      have cC:Hid (b4≠aj):=Hd (by have:=u.o.lt;have:=az.o.size;omega);rw[←bM]at aw⊢;clear ck bM az aa;obtain⟨ch,b3,bZ,b7,b2,cb,cc⟩:=Zdl aw.o;obtain⟨bs,bB,bu,bv,bn,bE,bA⟩:=ZfZ (u.o.below bx.o);obtain⟨bw,bl,bq,bo,bz,bC,bG⟩:=Zdl (u.o.below bx.o);obtain⟨T,N⟩:=set7 (u.o.below bx.o) (.string (S b.name)) (.slice y b.params.length E) (.string (S b.res)) (.bool b.abs) (.int .i64 b.loc) (.slice D b.code.length B) (.slice z b.cats.length F);go_upto_region 12 with fail;go_region
      all_goals
       have aS:=Hd (T.below (Zab (Yab _ _)));have ag:=Hd (aH.o.trans (N.drew.below aH.o.size (fun k (ct:k=aj)=>by have:=U.o;omega)));have a2:=Hd (MthR.st.keep aE.o N.drew (fun k (cD:k<Y) (ct:k=aj)=>by have:=U.o;have:=bJ.o;omega));clear T N ch b3 bZ b7 b2 cb cc aw bs bB bu bv bn bE bA bw bl bq bo bz bC bG u;go_wp2;have l:=ZaS (P:=prog) (ty:=26) aS.o underlying26 rfl Zbg;refine bodyPost_ret (v:=.tuple #[.string (S (nmE (newT cs) x)),.agg #[.string (S b.name),.slice y b.params.length E,.string (S b.res),.bool b.abs,.int .i64 b.loc,.slice D b.code.length B,.slice z b.cats.length F],.bool true]) ?_ rfl ⟨ag.o,.inr ⟨x,b,_,a0.o,rfl,a2.o⟩⟩;simp only[results,results98];simp[asAddr,l]
abbrev ZgF (lo:Nat)(w:World)(v:Value)(l:List Nat):Prop:=TRow 1 3 (Flat natV) lo w v l (l.map natV)
def PutT (lo:Nat)(l:List Nat)(w:World)(v:Value)(e:Ending)(w':World):Prop:=∃a,e=.returned a/\ZgF lo w' a l/\Grew w v w' a
theorem Zpr {es:List Ent}(d:Acyc es)(g:Zdi es)(f:Nat){a:List Nat}{o:Option Nat}(j:∀i,o=some i->i<es.length)(c:a.Nodup)(b:∀x∈a,x<es.length):(putO es f a o).Nodup/\∀x∈putO es f a o,x<es.length:=by
 cases o with
 |none=>exact⟨c,b⟩
 |some i=>
  have k:=ZhO d g f a i (j i rfl) c b;exact⟨k.1,fun x h=>(k.2 x h).1⟩
theorem Zrj {A:Nat->Prop}(cs:List Cls)(ai:Lined cs)(W:Wise (newT cs))(sv:Value)(q:World)(I:Src 8 ClsR A q sv (allR cs)) :
  ∀(f:Nat) (o:Option Nat) (c:List Nat) (v:Value) (w:World),(∀i,o=some i->Zhe (newT cs) f i/\i<(newT cs).length)->c.Nodup->(∀x∈c,x<(newT cs).length)->Below q.heap.size q w->ZgF q.heap.size w v c->
   Calls prog 35 #[sv,v,.int .i64 8,.int .i64 (idxV o)] w (PutT q.heap.size (putO (newT cs) f c o) w v):=by
 intro f;induction f with
 |zero=>
  intro o c v w E F H ah n;cases o with
  |some i=>exact(E i rfl).1.elim
  |none=>
   have J:=Hd n;obtain⟨bc,a2,rfl⟩:=I.shape;obtain⟨y,L,rfl⟩:=n.shape;have Y:idxV none=(-1:Int):=rfl;rw[Y];unfold PutT;have D:Hid (putO (newT cs) 0 c none=c):=Hd rfl;generalize putO (newT cs) 0 c none=bh at D⊢;clear I E F H ah n;go_enter func35,ntmps35;go_wp2;go_ret;exact⟨_,rfl,by rw[D.o];exact J.o,Grew.refl _ _⟩
 |succ f aI=>
  intro o c v w E F H ah n;have J:=Hd n;have bm:=Hd I;have a7:=Hd ah;have bv:=Hd F;have bE:=Hd H;cases o with
  |none=>
   obtain⟨bc,a2,rfl⟩:=I.shape;obtain⟨y,L,rfl⟩:=n.shape;have Y:idxV none=(-1:Int):=rfl;rw[Y];unfold PutT;have D:Hid (putO (newT cs) (f+1) c none=c):=Hd rfl;generalize putO (newT cs) (f+1) c none=bh at D⊢;clear I E F H ah n aI;go_enter func35,ntmps35;go_wp2;go_ret;exact⟨_,rfl,by rw[D.o];exact J.o,Grew.refl _ _⟩
  |some i=>
   obtain⟨au,aA⟩:=E i rfl;have ax:Hid (∀d∈parE (newT cs) i,Zhe (newT cs) f d):=Hd au;have Y:idxV (some i)=(i:Int):=rfl;rw[Y];have D:Hid (putO (newT cs) (f+1) c (some i)=if i<8\/i∈c then c else(parE (newT cs) i).foldl (putE (newT cs) f) c++[i]):=Hd rfl;unfold PutT;generalize putO (newT cs) (f+1) c (some i)=bh at D⊢;by_cases a3:i<8
   ·obtain⟨bc,a2,rfl⟩:=I.shape;obtain⟨y,L,rfl⟩:=n.shape;have U:Hid (bh=c):=Hd (by rw[D.o,Yay (.inl a3)]);have bF:(i:Int)<8:=by omega
    clear I E F H ah n aI au aA Y D ax a3;go_enter func35,ntmps35;go_wp2;go_ret;exact⟨_,rfl,by rw[U.o];exact J.o,Grew.refl _ _⟩
   ·have bF:¬(i:Int)<8:=by omega
    obtain⟨en,T⟩:∃en,(newT cs)[i]?=some en:=⟨_,Yaa aA⟩
    have r:(allR cs)[i]?=some en.cls:=by rw[ZdR,T];rfl
    have bn:=Hd r;have a0:i<(allR cs).length:=(Yag.1 r).1;have aZ:Hid (en.cls.like.length<=1000):=Hd (ai.like_len en.cls (Yaf r));have Z:Hid ((en.cls.sup::en.cls.like).map (Zad (newT cs))=en.up::en.lk.map some):=Hd (ai.upsMap T);have aE:=Z;have aW:Hid ((en.up::en.lk.map some).foldl (putO (newT cs) f) c=(parE (newT cs) i).foldl (putE (newT cs) f) c):=Hd (Zry T f c);have aV:Hid (∀o∈en.up::en.lk.map some,∀d,o=some d->Zhe (newT cs) f d/\d<(newT cs).length):=Hd (fun o aj d E=>by
     have bj:d∈parE (newT cs) i:=by
      rw[ZcY T];unfold Ent.par;subst E;rcases Yai.1 aj with e|e
      ·rw[←e];simp
      ·obtain⟨cp,aw,aC⟩:=Ya2.1 e;obtain rfl:=Yac aC;exact Ya3 _ aw
     exact⟨ax.o d bj,W.par i d bj⟩)
    have bQ:Hid (∀x V,Below q.heap.size q V->Calls prog 32 #[sv,.string (S x)] V (fun e w'=>e=.returned (.int .i64 (idxV (Zad (newT cs) x)))/\Below V.heap.size V w')):=Hd (fun x V P=>ZcL cs ai.len sv x V (ClsR.st.below I P));have ba:Hid (∀(o:Option Nat) (l:List Nat) (u:Value) (V:World),(∀i,o=some i->Zhe (newT cs) f i/\i<(newT cs).length)->l.Nodup->(∀x∈l,x<(newT cs).length)->Below q.heap.size q V->ZgF q.heap.size V u l->
      Calls prog 35 #[sv,u,.int .i64 8,.int .i64 (idxV o)] V (PutT q.heap.size (putO (newT cs) f l o) V u)):=Hd (fun o l u V aw aC b6 cg b7=>aI o l u V aw aC b6 cg b7)
    have aG:Hid (∀(o:Option Nat) (l:List Nat),o∈en.up::en.lk.map some->l.Nodup->(∀x∈l,x<(newT cs).length)->(putO (newT cs) f l o).Nodup/\∀x∈putO (newT cs) f l o,x<(newT cs).length):=Hd (fun o l aj aw aC=>Zpr W.ac W.par f (fun d E=>(aV.o o aj d E).2) aw aC);have bt:=ZcW (newT cs).length c F H;have bB:c.length<=1008:=by have:=ZaX cs;have:=ai.len;omega
    have b0:Hid ((newT cs).length<=1008):=Hd (by rw[ZaX];have:=ai.len;omega);obtain⟨bc,a2,rfl⟩:=I.shape;obtain⟨y,L,rfl⟩:=n.shape;obtain⟨p,a8⟩:∃p,p=c.length:=⟨_,rfl⟩
    have aN:=Hd a8;rw[←a8]at J bB⊢;obtain⟨m,aT⟩:∃m,m=(allR cs).length:=⟨_,rfl⟩
    rw[←aT]at bQ ba bm a0⊢;have aU:=Hd (J.o.src (Flat.stays _));have cq:(0:Int)<=(i:Int):=by omega
    have co:(i:Int)<(m:Int):=by omega
    unfold PutT at ba;clear I E F H ah n aI au aA Y ax T r a0 a8 aT W ai bt;go_enter func35,ntmps35;go_wp2
    go_loopw [9] (fun bg wr=>∃k:Nat,k<=p/\bg=.int .i64 k/\i ∉ c.take k/\wr=w) (fun bg _=>p-(intOf bg).toNat)
    case atStart=>exact⟨0,Yao _,rfl,by simp,rfl⟩
    case round=>
     obtain⟨k,cA,rfl,X,b1⟩:=hrel;subst b1;obtain⟨h,rfl⟩:∃h,h=wr:=⟨_,rfl⟩
     by_cases bq:k<p
     ·obtain⟨x,r⟩:∃x,c[k]?=some x:=⟨_,Yaa (by rw[←aN.o];exact bq)⟩
      obtain⟨a4,cc,u,rfl,bb,_,z⟩:=Src.elem aU.o k x r;obtain rfl:=bb;have cn:h.cell? ⟨a4,cc+k,none⟩=some (.int .i64 (x:Nat)):=by have N:=z 0 _ rfl;rw[YaH]at N;exact N
      have bU:(0:Int)<=(k:Int):=by omega
      have cm:(k:Int)<(p:Int):=by omega
      have bO:=Hd r;have bM:=Hd X;clear z r X;by_cases ab:x=i
      ·have bl:(x:Int)=(i:Int):=by omega
       have U:Hid (bh=c):=Hd (by rw[D.o,Yay (.inr (ab▸Yaf bO.o))]);clear ab D;go_wp2;go_ret;exact⟨_,rfl,by rw[U.o];exact J.o,Grew.refl _ _⟩
      ·have bl:¬(x:Int)=(i:Int):=by omega
       have bJ:Hid (i ∉ c.take (k+1)):=Hd (by
        rw[YaK,bO.o];simp only[Option.toList_some,Yaq,Yax,not_or];exact⟨bM.o,fun e=>ab e.symm⟩)
       clear ab;go_wp2;go_roundw
       case rel=>exact⟨k+1,by omega,by go_num,bJ.o,trivial⟩
       case measure=>simp[intOf];omega
     ·obtain rfl:k=p:=by omega
      have bD:Hid (i ∉ c):=Hd (by rw[aN.o,YaE]at X;exact X);have U:Hid (bh=((en.cls.sup::en.cls.like).map (Zad (newT cs))).foldl (putO (newT cs) f) c++[i]):=Hd (by
       rw[D.o,Yar (fun N=>N.elim (fun N=>a3 N) bD.o),Z.o,aW.o])
      have aR:=ClsR.st.below bm.o a7.o;obtain⟨ag,ak,a5,rfl,b4,_,z⟩:=Src.elem aR i en.cls bn.o;obtain⟨cv,cz,ct,rfl,az,_,_⟩:=b4;obtain⟨lo,bd,rfl⟩:=az.shape;have ay:Hid (∀V,Below h.heap.size h V->V.cell? ⟨ag,ak+i*8+1,none⟩=some (.string (S en.cls.sup))/\V.cell? ⟨ag,ak+i*8+2,none⟩=some (.slice lo en.cls.like.length bd)):=Hd (fun V P=>
       have aj:=Yae (S:=fun _=>False) P
       ⟨aj.cell (a:=⟨ag,ak+i*8+1,none⟩) (z 1 _ rfl) id,aj.cell (a:=⟨ag,ak+i*8+2,none⟩) (z 2 _ rfl) id⟩)
      have aO:=Hd az;have aP:Hid (∀V aF ty,TRow 1 9 StrR h.heap.size V aF [en.cls.sup] [.string (S en.cls.sup)]->Below h.heap.size h V->∃af w',(Builtin.append_ #[22,22] ty #[aF,.slice lo en.cls.like.length bd]).run prog V=.ok af w'/\TRow 1 9 StrR h.heap.size w' af (en.cls.sup::en.cls.like) ((en.cls.sup::en.cls.like).map strV)/\Below h.heap.size h w'):=Hd (fun V aF ty t P=>by
       obtain⟨af,w',al,cj,ce⟩:=Zc1 h.heap.size V aF _ ty [en.cls.sup] en.cls.like t P.size (StrR.st.below aO.o P) (by have:=aZ.o;simp;omega);exact⟨af,w',al,cj,P.trans (ce.only.below P.size (fun g a6=>t.own g a6))⟩)
      have bP:=Yab h.heap.size h;obtain⟨ci,cf⟩:=ay.o h bP;have bK:=(ZhY h.heap.size h (Yad _) en.cls.sup).below StrR.st (Zab (Yab _ _));have bo:Below h.heap.size h (h.alloc (.cells #[.string (S en.cls.sup)] 9)).drew:=Zab (Zaa (Yab _ _) _);have bI:=Hd bK;have bZ:=Hd bo;clear bK bo z az aR X D Z aW;go_upto_region 8 with fail;go_cut [10] (fun bX bV=>∃bS,TRow 1 9 StrR h.heap.size bV bX (en.cls.sup::en.cls.like) bS/\Below h.heap.size h bV)
      case first=>
       first
       |(go_region_held3 (fun V=>V.cell? ⟨ag,ak+i*8+1,none⟩=some (.string (S en.cls.sup))/\V.cell? ⟨ag,ak+i*8+2,none⟩=some (.slice lo en.cls.like.length bd)) ((refine ay.o _ ?_;(with_reducible repeat (first|exact Yab _ _|assumption|refine Zab ?_|refine Zaa ?_ _))))
         ((obtain⟨b8,w2,al,b3,a4⟩:=aP.o _ _ 22 bI.o bZ.o;refine ZaK (by rfl) _ _ 22 (by rfl) _ _ b8 w2 (by rfl) (by rfl) al ?_)))
       |fail
       all_goals
        go_wp2_with fail;go_meet
        exact⟨_,b3,a4⟩
      case rest=>
       obtain⟨bS,n,Q⟩:=hcut;have cx:=Hd Q;have am:=Hd (n.src StrR.st);obtain⟨cu,cr,rfl⟩:=n.shape;obtain⟨j,G⟩:∃j,j=en.cls.sup::en.cls.like:=⟨_,rfl⟩
       rw[←G]at am⊢;have bp:=Hd G;obtain⟨N,aH⟩:∃N,N=j.length:=⟨_,rfl⟩
       rw[←aH]at am⊢;have bY:=Hd aH;have ck:N<=1001:=by have:=aZ.o;rw[aH,G,YaI];omega
       have a9:Hid (∀x∈j,Zad (newT cs) x∈en.up::en.lk.map some):=Hd (fun x r=>by rw[←aE.o,←G];exact Ya2.2 ⟨x,r,rfl⟩);have aL:=Hd (J.o.below (Flat.stays _) Q);have aX:=Hd (a7.o.trans (Q.mono a7.o.size));have bG:Hid (∀g,(Value.slice y k L).ownBlock=some g->g<h.heap.size):=Hd (fun g a6=>J.o.lt g a6);have bH:Hid (Grew h (.slice y k L) wc (.slice y k L)):=Hd ⟨Yae Q,.inl rfl⟩;clear G aH n Q ci cf bP aP ay bI bZ aO J aU;go_wp2;go_loopw [1,11] (fun a5 av bA=>∃M:Nat,M<=N/\av=.int .i64 M/\ZgF q.heap.size bA a5 (((j.take M).map (Zad (newT cs))).foldl (putO (newT cs) f) c)/\(((j.take M).map (Zad (newT cs))).foldl (putO (newT cs) f) c).Nodup/\(∀x∈((j.take M).map (Zad (newT cs))).foldl (putO (newT cs) f) c,x<(newT cs).length)/\Grew wc (.slice y k L) bA a5) (fun _ av _=>N-(intOf av).toNat)
       case atStart=>exact⟨0,Yao _,rfl,aL.o,bv.o,bE.o,Grew.refl _ _⟩
       case round=>
        obtain⟨M,cB,rfl,aD,ar,ao,ap⟩:=hrel;have O:=Hd aD;have C:=Hd ar;have B:=Hd ao;have K:=Hd ap;have R:Hid (Below q.heap.size q wr):=Hd (aX.o.trans (ap.only.below aX.o.size (fun b b2=>aL.o.own b b2)));obtain⟨bx,bu,rfl⟩:=aD.shape;clear aD ar ao ap;by_cases bf:M<N
        ·obtain⟨x,r⟩:∃x,j[M]?=some x:=⟨_,Yaa (by rw[←bY.o];exact bf)⟩
         obtain⟨ch,cd,u,rfl,bb,_,z⟩:=Src.elem (StrR.st.src am.o K.o.only (fun cb (cy:h.heap.size<=cb) (e:_=some cb)=>by have:=bG.o cb e;omega)) M x r;obtain rfl:=bb;have ca:wr.cell? ⟨ch,cd+M,none⟩=some (.string (S x)):=by have N:=z 0 _ rfl;rw[YaH]at N;exact N
         have aK:=Hd (bQ.o x wr R.o);have aJ:=Hd (a9.o x (Yaf r));have ae:Hid (((j.take (M+1)).map (Zad (newT cs))).foldl (putO (newT cs) f) c=putO (newT cs) f (((j.take M).map (Zad (newT cs))).foldl (putO (newT cs) f) c) (Zad (newT cs) x)):=Hd (by
          rw[YaK,r];simp)
         generalize ((j.take M).map (Zad (newT cs))).foldl (putO (newT cs) f) c=s at O C B ae K⊢;have bU:(0:Int)<=(M:Int):=by omega
         have cl:(M:Int)<(N:Int):=by omega
         clear z r;go_wp2_with fail;with_reducible refine aK.o.mono ?_
         rintro e bW⟨rfl,ad⟩;have br:=Hd (R.o.trans (ad.mono R.o.size));have bC:=Hd (O.o.below (Flat.stays _) ad);have bT:Hid (Grew wc (.slice y k L) bW (.slice bx s.length bu)):=Hd (K.o.trans ⟨Yae ad,.inl rfl⟩);have a1:=Hd (ba.o (Zad (newT cs) x) s _ bW (aV.o _ aJ.o) C.o B.o br.o bC.o);have aQ:=Hd (aG.o (Zad (newT cs) x) s aJ.o C.o B.o);clear ad ca aK;go_wp2_with fail;with_reducible refine a1.o.mono ?_
         rintro e cw⟨af,rfl,aB,aS⟩;have bw:=Hd aB;have bs:=Hd (bT.o.trans aS);obtain⟨b5,b9,rfl⟩:=aB.shape;clear aB aS a1;go_wp2;go_roundw
         case rel=>exact⟨M+1,by omega,by go_num,by rw[ae.o];exact bw.o,by rw[ae.o];exact aQ.o.1,by rw[ae.o];exact aQ.o.2,bs.o⟩
         case measure=>simp[intOf];omega
        ·obtain rfl:M=N:=by omega
         have bN:Hid (((j.take M).map (Zad (newT cs))).foldl (putO (newT cs) f) c=(j.map (Zad (newT cs))).foldl (putO (newT cs) f) c):=Hd (by rw[bY.o,YaE]);rw[bN.o]at O C B K⊢;have aY:Hid (bh=(j.map (Zad (newT cs))).foldl (putO (newT cs) f) c++[i]):=Hd (by rw[U.o,←bp.o]);generalize (j.map (Zad (newT cs))).foldl (putO (newT cs) f) c=s at O C B aY K⊢;have aa:Below wr.heap.size wr (wr.alloc (.cells #[.int .i64 (i:Nat)] 3)):=Zaa (Yab _ _) _;have bi:=ZcW (newT cs).length s C.o B.o;obtain⟨af,w',al,aq,bz⟩:=Zj1 q.heap.size (wr.alloc (.cells #[.int .i64 (i:Nat)] 3)) (.slice bx s.length bu) (.slice (some ⟨wr.heap.size,0,none⟩) 1 1) 87 s [i] (O.o.below (Flat.stays _) aa) (R.o.trans (aa.mono R.o.size)).size (Zkw (f:=natV) (fun _=>rfl) wr i 3) (by have:=b0.o;simp;omega);have bL:=Hd al;obtain⟨b5,b9,aM⟩:=aq.shape;rw[show(s++[i]).length=s.length+1 by simp]at aM;subst aM;have bk:=Hd aq;have bR:Hid (Grew h (.slice y k L) w' _):=Hd ((bH.o.trans K.o).trans (Grew.trans ⟨Yae aa,.inl rfl⟩ bz));clear aa al aq bz bi;go_wp2_with (at_builtin;refine Zak rfl _ _ 87 rfl _ _ _ w' rfl rfl bL.o ?_)
         go_wp2;go_ret;exact⟨_,rfl,by rw[aY.o];exact bk.o,bR.o⟩
