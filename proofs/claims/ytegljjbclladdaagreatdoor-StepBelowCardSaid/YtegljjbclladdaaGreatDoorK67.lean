/- laws -/
import Derived.Test.YtegljjbclladdaaGreatDoorK65
import Derived.Test.YtegljjbclladdaaGreatDoorK66
set_option maxRecDepth 100000
set_option maxHeartbeats 16000000
namespace Go.Proofs.YtegljjbclladdaaGreatDoor
open Go.RowKit Proofs.Tryz
theorem Zjc {A:Nat->Prop}(cs:List Cls)(am:Lined cs)(W:Wise (newT cs))(sv:Value)(i:Nat)(w:World)(cT:i<(newT cs).length)(aR:Src 8 ClsR A w sv (allR cs))(ct:∀d∈Zan (newT cs) (upAt (newT cs) i),chkT (newT cs) d=0) :
  Calls prog 36 #[sv,.int .i64 (i:Nat)] w (fun e w'=>e=.returned (.int .i64 ((chkT (newT cs) i:Nat):Int))/\Below w.heap.size w w'):=by
 obtain⟨en,ak⟩:∃en,(newT cs)[i]?=some en:=⟨_,Yaa cT⟩
 have O:(allR cs)[i]?=some en.cls:=by rw[ZdR,ak];rfl
 have dq:=am.chkD W ak ct;have bZ:=Hd dq.a;have b0:=Hd dq.b;have bz:=Hd dq.c;have eh:Zad (newT cs) en.cls.name=some i:=W.uq i en ak;have cx:Hid (∀x V,Below w.heap.size w V->Calls prog 95 #[sv,.string (S en.cls.sup),.string (S x)] V (fun e w'=>e=.returned (.int .i64 (idxV (Zbc (newT cs) en.cls.sup x)))/\Below V.heap.size V w')):=Hd (fun x V D=>ZmX cs am W sv en.cls.sup x V (ClsR.st.below aR D));have dJ:Hid (∀x V,x.length<=281474976710656->Below w.heap.size w V->Calls prog 96 #[sv,.string (S x)] V (fun e w'=>e=.returned (.bool (Zb6 (newT cs) x))/\Below V.heap.size V w')):=Hd (fun x V O D=>ZmY cs am.len W sv x V (ClsR.st.below aR D) (by omega));have ck:Hid (∀V,Below w.heap.size w V->Calls prog 34 #[sv] V (Zh5 (allR cs) V)):=Hd (fun V D=>Zg5 (allR cs) sv V (ClsR.st.below aR D) (by rw[Zc5];have:=am.len;omega) am.like_len);have dP:Hid (∀x V,Below w.heap.size w V->Calls prog 98 #[sv,.string (S en.cls.name),.string (S x)] V (Zh8 w.heap.size (newT cs) (Zbt (newT cs) (some i) x) V)):=Hd (fun x V D=>by
  have Z:=Zkn w.heap.size cs am W sv en.cls.name x V D.size (ClsR.st.below (ClsR.st.srcMono (A':=fun k=>k<w.heap.size) aR (fun k cb _=>cb)) D);rw[eh]at Z;exact Z)
 have gi:Hid (∀k,∀m∈Zal (newT cs) k,m.Good):=Hd (fun k m aq=>W.good k m aq);have a7:Hid (∀k,(Zal (newT cs) k).length<=32):=Hd am.few;have ed:Hid (∀s∈Zc9 en.cls,s.length<=281474976710656):=Hd (ZoF (am.clsSmall i en ak));have c1:Hid ((Zc9 en.cls).length<=2000):=Hd (ZqM (am.small i en ak).2.1 (am.small i en ak).2.2.1 (fun m aq=>(W.good i m (by rw[Zcr ak];exact aq)).nums.1));have bM:Hid (∀dd:Nat->Nat->Bool,(∀a b,a<(allR cs).length->b<(allR cs).length->(dd a b=true↔Plus (StepR (allR cs)) a b))->∀k,k<(newT cs).length->(dd i k=true↔Over (newT cs) i k)):=Hd (fun dd dp k cb=>by
  have aZ:(allR cs).length=(newT cs).length:=by rw[Zc5,ZaX]
  rw[dp i k (by rw[aZ];exact cT) (by rw[aZ];exact cb),Zi5 (fun i eX=>am.step i eX)])
 have bD:Hid (∀R:Nat->Bool,(∀k,k<(newT cs).length->(R k=true↔Over (newT cs) i k))->∀m∈Zcn (newT cs) i R (newT cs).length,∃fG,Zbt (newT cs) (some i) m.name=some fG):=Hd (fun R fl m aq=>W.all_has cT fl aq);have cc:Hid (∀R:Nat->Bool,(∀k,k<(newT cs).length->(R k=true↔Over (newT cs) i k))->∀m∈Zcn (newT cs) i R (newT cs).length,m.Good):=Hd (fun R fl m aq=>by
  obtain⟨k,_,_,bp⟩:=(Zgd m _).1 aq;exact W.good k m bp)
 have fx:Hid (∀k,(allR cs)[k]?=((newT cs)[k]?).map Ent.cls):=Hd (ZdR cs);have eP:Hid (∀x fG,Zbt (newT cs) (some i) x=some fG->absM (newT cs) i x=fG.2.abs):=Hd (fun x fG Z=>by unfold absM;rw[Z]);have dK:=Hd aR;have eY:(newT cs).length<=1008:=by rw[ZaX];have:=am.len;omega
 generalize chkT (newT cs) i=z at bZ b0 bz⊢;obtain⟨f7,em,rfl⟩:=aR.shape;obtain⟨ar,aA,v,ev,eI,_,q⟩:=Src.elem aR i en.cls O;obtain rfl:f7=some ⟨ar,aA,none⟩:=ev;obtain⟨g8,gU,fW,rfl,fy,dn,aq⟩:=eI;obtain⟨lo,dl,rfl⟩:=fy.shape;obtain⟨bc,fc,rfl⟩:=dn.shape;obtain⟨b4,ca,rfl⟩:=aq.shape;obtain⟨n,au⟩:∃n,n=(newT cs).length:=⟨_,rfl⟩
 have aZ:(allR cs).length=n:=by rw[au,Zc5,ZaX]
 have fD:=Hd aZ;rw[aZ]at cx dJ ck dP dK bM⊢;rw[←au]at bz bM bD cc cT eY;have fn:=Hd au;have eJ:en.cls.flds.length<=32:=(am.small i en ak).2.1;have eL:en.cls.mths.length<=32:=(am.small i en ak).2.2.1;obtain⟨ap,dh⟩:∃ap,ap=en.cls.flds.length:=⟨_,rfl⟩
 obtain⟨aB,ab⟩:∃aB,aB=en.cls.mths.length:=⟨_,rfl⟩
 rw[←dh]at dn q eJ;rw[←ab]at aq q eL;have fQ:w.cell? ⟨ar,aA+i*8,none⟩=some (.string (S en.cls.name)):=q 0 _ rfl;have fX:w.cell? ⟨ar,aA+i*8+1,none⟩=some (.string (S en.cls.sup)):=q 1 _ rfl;have f1:w.cell? ⟨ar,aA+i*8+2,none⟩=some (.slice lo en.cls.like.length dl):=q 2 _ rfl;have gc:w.cell? ⟨ar,aA+i*8+3,none⟩=some (.bool en.cls.itf):=q 3 _ rfl;have fR:w.cell? ⟨ar,aA+i*8+4,none⟩=some (.bool en.cls.abs):=q 4 _ rfl;have fZ:w.cell? ⟨ar,aA+i*8+5,none⟩=some (.bool en.cls.fin):=q 5 _ rfl;have fT:w.cell? ⟨ar,aA+i*8+6,none⟩=some (.slice bc ap fc):=q 6 _ rfl;have f4:w.cell? ⟨ar,aA+i*8+7,none⟩=some (.slice b4 aB ca):=q 7 _ rfl;have aw:Below w.heap.size w (w.alloc (.cells #[.string (S en.cls.name),.string (S en.cls.sup),.slice lo en.cls.like.length dl,.bool en.cls.itf,.bool en.cls.abs,.bool en.cls.fin,.slice bc ap fc,.slice b4 aB ca] 70)):=Zaa (Yab _ _) _;have b8:=Hd (Box.new w #[.string (S en.cls.name),.string (S en.cls.sup),.slice lo en.cls.like.length dl,.bool en.cls.itf,.bool en.cls.abs,.bool en.cls.fin,.slice bc ap fc,.slice b4 aB ca] 70);have bP:=Hd aw;have bo:=Hd (FldR.st.below dn aw);have bQ:=Hd (MthR.st.below aq aw);have br:=Hd dh;have cC:=Hd ab;have g5:(0:Int)<=(i:Int):=by omega
 have gy:(i:Int)<(n:Int):=by omega
 obtain⟨T,cq⟩:∃T,T=en.cls.flds:=⟨_,rfl⟩
 obtain⟨ax,cJ⟩:∃ax,ax=en.cls.mths:=⟨_,rfl⟩
 have cn:Hid (Zc9 en.cls=T.map Fld.kind++ax.flatMap ZbJ):=Hd (by rw[cq,cJ];rfl);rw[←cq]at bZ b0 bz bo br;rw[←cJ]at bQ cC;clear aR q fy dn aq O dq eh am W ak ct aw dh ab cq cJ aZ au;go_enter func36,ntmps36
 go_upto_region 2 with fail;obtain⟨ag,ee⟩:∃ag,ag=w.heap.size:=⟨_,rfl⟩
 generalize ge:w.alloc (.cells #[.string (S en.cls.name),.string (S en.cls.sup),.slice lo en.cls.like.length dl,.bool en.cls.itf,.bool en.cls.abs,.bool en.cls.fin,.slice bc ap fc,.slice b4 aB ca] 70)=fm at b8 bP bo bQ⊢;rw[←ee]at b8⊢;clear ge ee fQ fX f1 gc fR fZ fT f4;go_wp2;go_loopw [6] (fun eu wr=>∃k:Nat,k<=ap/\eu=.int .i64 k/\(T.take k).any (fun f=>(Zbc (newT cs) en.cls.sup f.name).isSome)=false/\Below fm.heap.size fm wr) (fun eu _=>ap-(intOf eu).toNat)
 case atStart=>exact⟨0,Yao _,rfl,by simp,Yab _ _⟩
 case round=>
  obtain⟨k,cb,rfl,bB,t⟩:=hrel;have a2:=Hd bB;have l:=Hd t;have B:=Hd (bP.o.trans (t.mono bP.o.size));have c6:wr.cell? ⟨ag,6,none⟩=some (.slice bc ap fc):=(b8.o.below t).cell 6 rfl;clear bB t;by_cases fb:k<ap
  ·obtain⟨x,O⟩:∃x,T[k]?=some x:=⟨_,Yaa (by rw[←br.o];exact fb)⟩
   obtain⟨h,j,u,cy,a9,_,q⟩:=Src.elem (FldR.st.below bo.o l.o) k x O;obtain rfl:bc=some ⟨h,j,none⟩:=cy;obtain rfl:=a9;have N:=Yab wr.heap.size wr;have bk:Hid (∀V,Below wr.heap.size wr V->V.cell? ⟨ag,1,none⟩=some (.string (S en.cls.sup))/\V.cell? ⟨ag,6,none⟩=some (.slice (some ⟨h,j,none⟩) ap fc)/\V.cell? ⟨h,j+k*3,none⟩=some (.string (S x.name))):=Hd (fun V D=>by
    have aI:=b8.o.below (l.o.trans (D.mono l.o.size));exact⟨aI.cell 1 rfl,aI.cell 6 rfl,(Yae (S:=fun _=>False) D).cell (a:=⟨h,j+k*3,none⟩) (q 0 _ rfl) id⟩)
   have bm:(0:Int)<=(k:Int):=by omega
   have ek:(k:Int)<(ap:Int):=by omega
   have bS:=Hd (Zap (fun f:Fld=>(Zbc (newT cs) en.cls.sup f.name).isSome) T k x O);have bI:Hid ((Zbc (newT cs) en.cls.sup x.name).isSome=true->z=64):=Hd (fun Z=>bZ.o (YaU.2 ⟨x,Yaf O,Z⟩));have aH:Hid (∀V,Below wr.heap.size wr V->Calls prog 95 #[.slice (some ⟨ar,aA,none⟩) n em,.string (S en.cls.sup),.string (S x.name)] V (fun e w'=>e=.returned (.int .i64 (idxV (Zbc (newT cs) en.cls.sup x.name)))/\Below V.heap.size V w')):=Hd (fun V D=>cx.o x.name V (B.o.trans (D.mono B.o.size)));obtain⟨fe,gM,fB⟩:=bk.o wr N;cases bg:Zbc (newT cs) en.cls.sup x.name with
   |some eX=>
    have aJ:Hid (z=64):=Hd (bI.o (by rw[bg];rfl));rw[bg]at aH;have cN:idxV (some eX)=(eX:Int):=rfl;rw[cN]at aH;have g3:(0:Int)<=(eX:Int):=by omega
    generalize x.name=b7 at bk aH fB;clear bg q O bS bI cN c6;go_upto_region 5 with fail;first
    |(go_region_held3 (fun V=>V.cell? ⟨ag,1,none⟩=some (.string (S en.cls.sup))/\V.cell? ⟨ag,6,none⟩=some (.slice (some ⟨h,j,none⟩) ap fc)/\V.cell? ⟨h,j+k*3,none⟩=some (.string (S b7))) ((refine bk.o _ ?_;(with_reducible repeat (first|exact N|assumption|(apply Zae;rotate_left;assumption)|refine Zab ?_|refine Zaa ?_ _))))
      ((go_at_call 95;(with_reducible refine(aH.o _ ?_).mono ?_);(focus ((with_reducible repeat (first|exact N|assumption|(apply Zae;rotate_left;assumption)|refine Zab ?_|refine Zaa ?_ _));done));rintro e dr⟨rfl,f5⟩)))
    |fail
    all_goals
     go_wp2;go_ret;exact⟨by rw[aJ.o];rfl,B.o.trans (YbP (by first|exact ZaD _ _|(with_reducible repeat (first|exact N|assumption|(apply Zae;rotate_left;assumption)|refine Zab ?_|refine Zaa ?_ _))) B.o.size)⟩
   |none=>
    rw[bg]at aH bS;have cN:idxV none=(-1:Int):=rfl;rw[cN]at aH;have ai:Hid ((T.take (k+1)).any (fun f=>(Zbc (newT cs) en.cls.sup f.name).isSome)=false):=Hd (by rw[bS.o,a2.o];rfl);generalize x.name=b7 at bk aH fB;clear bg q O bS bI cN c6;go_upto_region 5 with fail;first
    |(go_region_held3 (fun V=>V.cell? ⟨ag,1,none⟩=some (.string (S en.cls.sup))/\V.cell? ⟨ag,6,none⟩=some (.slice (some ⟨h,j,none⟩) ap fc)/\V.cell? ⟨h,j+k*3,none⟩=some (.string (S b7))) ((refine bk.o _ ?_;(with_reducible repeat (first|exact N|assumption|(apply Zae;rotate_left;assumption)|refine Zab ?_|refine Zaa ?_ _))))
      ((go_at_call 95;(with_reducible refine(aH.o _ ?_).mono ?_);(focus ((with_reducible repeat (first|exact N|assumption|(apply Zae;rotate_left;assumption)|refine Zab ?_|refine Zaa ?_ _));done));rintro e dr⟨rfl,f5⟩)))
    |fail
    all_goals
     go_wp2;go_roundw
     case rel=>exact⟨k+1,by omega,by go_num,ai.o,l.o.trans (YbP (by first|exact ZaD _ _|(with_reducible repeat (first|exact N|assumption|(apply Zae;rotate_left;assumption)|refine Zab ?_|refine Zaa ?_ _))) l.o.size)⟩
     case measure=>simp[intOf];omega
  ·obtain rfl:k=ap:=by omega
   have dH:Hid (T.any (fun f=>(Zbc (newT cs) en.cls.sup f.name).isSome)=false):=Hd (by have Z:=a2.o;rw[br.o,YaE]at Z;exact Z);obtain⟨M,rfl⟩:∃M,M=wr:=⟨_,rfl⟩
   have bh:=Hd (b8.o.below l.o);have ch:=Hd (FldR.st.below bo.o l.o);have cD:=Hd (MthR.st.below bQ.o l.o);have cW:=Hd (b0.o dH.o);have c7:=Hd (bz.o dH.o);have ea:=Hd (ZeV (n:=1) (R:=StrR) 9 M.heap.size M (Yad _));have bA:=Hd (Zaa (Yab M.heap.size M) (.cells #[] 9));clear a2 l cx bZ b0 bz b8 bo bQ bP;rename Hid (Below w.heap.size w M)=>BA1
   go_wp2;clear c6;go_loopw [7,8] (fun eO eG wr=>∃ah:Nat,ah<=k/\eG=.int .i64 ah/\TRow 1 9 StrR M.heap.size wr eO ((T.take ah).map Fld.kind) (((T.take ah).map Fld.kind).map strV)/\Below M.heap.size M wr) (fun _ eG _=>k-(intOf eG).toNat)
   case atStart=>exact⟨0,Yao _,rfl,ea.o,bA.o⟩
   case round=>
    obtain⟨ah,gl,rfl,ae,t⟩:=hrel;have c6:wr.cell? ⟨ag,6,none⟩=some (.slice bc k fc):=(bh.o.below t).cell 6 rfl;have K:=Hd ae;have l:=Hd t;obtain⟨cR,dm,rfl⟩:=ae.shape;obtain⟨bf,cw⟩:∃bf,bf=(T.take ah).map Fld.kind:=⟨_,rfl⟩
    rw[←cw]at K⊢;have cz:=Hd cw;clear ae t cw;by_cases eT:ah<k
    ·obtain⟨x,O⟩:∃x,T[ah]?=some x:=⟨_,Yaa (by rw[←br.o];exact eT)⟩
     obtain⟨h,j,u,cy,a9,_,q⟩:=Src.elem (FldR.st.below ch.o l.o) ah x O;obtain rfl:bc=some ⟨h,j,none⟩:=cy;obtain rfl:=a9;have b2:wr.cell? ⟨h,j+ah*3+1,none⟩=some (.string (S x.kind)):=q 1 _ rfl;have c4:bf.length<=2000:=by rw[cz.o,YaB,YaA];omega
     have aa:Below wr.heap.size wr (wr.alloc (.cells #[.string (S x.kind)] 9)):=Zaa (Yab _ _) _;obtain⟨eH,w',bv,U,bx⟩:=Zc1 M.heap.size (wr.alloc (.cells #[.string (S x.kind)] 9)) (.slice cR bf.length dm) (.slice (some ⟨wr.heap.size,0,none⟩) 1 1) 22 bf [x.kind] (K.o.below StrR.st aa) (l.o.trans (aa.mono l.o.size)).size ((ZhY wr.heap.size wr (Yad _) x.kind).src StrR.st) (by simp only[Ycb];omega);obtain⟨eR,db⟩:∃eR,eR=bf++[x.kind]:=⟨_,rfl⟩
     rw[←db]at U;have av:Hid ((T.take (ah+1)).map Fld.kind=eR):=Hd (by rw[db,cz.o,YaK,O];simp);have aG:=Hd bv;have ai:=Hd U;have Y:Hid (Below M.heap.size M w'):=Hd ((l.o.trans (aa.mono l.o.size)).trans (bx.only.below (l.o.trans (aa.mono l.o.size)).size (fun g ci=>(K.o.below StrR.st aa).own g ci)));have bm:(0:Int)<=(ah:Int):=by omega
     have ek:(ah:Int)<(k:Int):=by omega
     obtain⟨eo,ep,rfl⟩:=U.shape;generalize x.kind=ha at b2 aG;clear q O c4 aa bv U bx db;go_wp2_with (at_builtin;refine Zak rfl _ _ 22 rfl _ _ _ w' rfl rfl aG.o ?_)
     go_wp2;go_roundw
     case rel=>exact⟨ah+1,by omega,by go_num,by rw[av.o];exact ai.o,Y.o⟩
     case measure=>simp[intOf];omega
    ·obtain rfl:ah=k:=by omega
     have d6:Hid (TRow 1 9 StrR M.heap.size wr (.slice cR bf.length dm) (T.map Fld.kind++(ax.take 0).flatMap ZbJ) ((T.map Fld.kind++(ax.take 0).flatMap ZbJ).map strV)):=Hd (by
      have e:T.map Fld.kind++(ax.take 0).flatMap ZbJ=bf:=by rw[cz.o,br.o,YaE];simp
      rw[e];exact K.o)
     clear K ea bA;go_wp2;clear c6;go_loopw [7,9] (fun eO ex wr=>∃P:Nat,P<=aB/\ex=.int .i64 P/\TRow 1 9 StrR M.heap.size wr eO (T.map Fld.kind++(ax.take P).flatMap ZbJ) ((T.map Fld.kind++(ax.take P).flatMap ZbJ).map strV)/\Below M.heap.size M wr) (fun _ ex _=>aB-(intOf ex).toNat)
     case atStart=>exact⟨0,Yao _,rfl,d6.o,l.o⟩
     case round=>
      obtain⟨P,gp,rfl,ae,t⟩:=hrel;have K:=Hd ae;have BX:=Hd t;have e6:wr.cell? ⟨ag,7,none⟩=some (.slice b4 aB ca):=(bh.o.below t).cell 7 rfl;obtain⟨cR,dm,rfl⟩:=ae.shape;obtain⟨a6,cm⟩:∃a6,a6=T.map Fld.kind++(ax.take P).flatMap ZbJ:=⟨_,rfl⟩
      rw[←cm]at K⊢;have eg:=Hd cm;clear ae t d6 cm;by_cases eC:P<aB
      ·obtain⟨x,O⟩:∃x,ax[P]?=some x:=⟨_,Yaa (by rw[←cC.o];exact eC)⟩
       obtain⟨h,j,u,fd,a9,_,q⟩:=Src.elem cD.o P x O;obtain rfl:b4=some ⟨h,j,none⟩:=fd;obtain⟨gS,gH,hc,rfl,eM,eW,fJ⟩:=a9;obtain⟨bi,bq,rfl⟩:=eM.shape;have dA:Hid (∀V,Below M.heap.size M V->V.cell? ⟨ag,7,none⟩=some (.slice (some ⟨h,j,none⟩) aB ca)/\V.cell? ⟨h,j+P*7+1,none⟩=some (.slice bi x.params.length bq)/\V.cell? ⟨h,j+P*7+2,none⟩=some (.string (S x.res))):=Hd (fun V D=>by
        have Q:=Yae (S:=fun _=>False) D;exact⟨(bh.o.below D).cell 7 rfl,Q.cell (a:=⟨h,j+P*7+1,none⟩) (q 1 _ rfl) id,Q.cell (a:=⟨h,j+P*7+2,none⟩) (q 2 _ rfl) id⟩)
       have bu:T.map Fld.kind++(ax.take (P+1)).flatMap ZbJ=a6++ZbJ x:=by rw[eg.o,YaK,O];simp
       have ec:a6.length+(ZbJ x).length<=2000:=by
        have Z:=c1.o;rw[cn.o,←Ya5 (P+1) ax,Yci,←YaY,bu]at Z;simp only[Yal]at Z;omega
       have bj:ZbJ x=x.params++(if x.res=[]then[]else[x.res]):=rfl;have cB:a6.length+x.params.length<=2000:=by rw[bj,Yal]at ec;omega
       obtain⟨eH,w',bv,U,bx⟩:=Zc1 M.heap.size wr (.slice cR a6.length dm) (.slice bi x.params.length bq) 22 a6 x.params K.o BX.o.size (StrR.st.below eM BX.o) (by omega);obtain⟨bC,a5⟩:∃bC,bC=a6++x.params:=⟨_,rfl⟩
       rw[←a5]at U;have aG:=Hd bv;have Y:Hid (Below M.heap.size M w'):=Hd (BX.o.trans (bx.only.below BX.o.size (fun g ci=>K.o.own g ci)));have ai:=Hd U;have bm:(0:Int)<=(P:Int):=by omega
       have ek:(P:Int)<(aB:Int):=by omega
       obtain⟨eo,ep,rfl⟩:=U.shape;obtain⟨f2,gG,e7⟩:=dA.o wr BX.o;obtain⟨gK,g2,e5⟩:=dA.o w' Y.o;have b2:=Zaf x.res;have dE:bC.length<=2000:=by rw[a5,Yal];exact cB
       clear q O ec cB bv U bx eM eW fJ e6;by_cases X:x.res=[]
       ·have av:Hid (T.map Fld.kind++(ax.take (P+1)).flatMap ZbJ=bC):=Hd (by rw[bu,bj,Yay X,YaN,a5]);have aI:(x.res==[])=true:=by rw[X];rfl
        have aN:(x.res != [])=false:=by rw[X];rfl
        have bp:decide (x.res=[])=true:=Yas X;generalize x.res=f0 at e7 e5 b2 aI aN bp;clear X bu bj a5 dE;go_wp2_with (at_builtin;refine Zak rfl _ _ 22 rfl _ _ _ w' rfl rfl aG.o ?_)
        go_wp2;go_roundw
        case rel=>exact⟨P+1,by omega,by go_num,by rw[av.o];exact ai.o,Y.o⟩
        case measure=>simp[intOf];omega
       ·have aI:(x.res==[])=false:=Yah.2 X;have aN:(x.res != [])=true:=by rw[bne_iff_ne];exact X
        have bp:decide (x.res=[])=false:=Yan X;have aa:Below w'.heap.size w' (w'.alloc (.cells #[.string (S x.res)] 9)):=Zaa (Yab _ _) _;obtain⟨g7,w2,dN,bT,d2⟩:=Zc1 M.heap.size (w'.alloc (.cells #[.string (S x.res)] 9)) (.slice eo bC.length ep) (.slice (some ⟨w'.heap.size,0,none⟩) 1 1) 22 bC [x.res] (ai.o.below StrR.st aa) (Y.o.trans (aa.mono Y.o.size)).size ((ZhY w'.heap.size w' (Yad _) x.res).src StrR.st) (by simp only[Ycb];omega);obtain⟨eA,cZ⟩:∃eA,eA=bC++[x.res]:=⟨_,rfl⟩
        rw[←cZ]at bT;have av:Hid (T.map Fld.kind++(ax.take (P+1)).flatMap ZbJ=eA):=Hd (by rw[bu,bj,Yar X,cZ,a5,YaY]);have cL:=Hd dN;have fw:=Hd bT;have fK:Hid (Below M.heap.size M w2):=Hd ((Y.o.trans (aa.mono Y.o.size)).trans (d2.only.below (Y.o.trans (aa.mono Y.o.size)).size (fun g ci=>(ai.o.below StrR.st aa).own g ci)));obtain⟨gY,gZ,rfl⟩:=bT.shape;generalize x.res=f0 at e7 e5 b2 aI aN bp cL;clear X aa dN bT d2 bu bj a5 cZ dE;go_wp2_with (first|(at_builtin;refine Zak rfl _ _ 22 rfl _ _ _ w' rfl rfl aG.o ?_)|(at_builtin;refine Zak rfl _ _ 22 rfl _ _ _ w2 rfl rfl cL.o ?_))
        go_wp2;go_roundw
        case rel=>exact⟨P+1,by omega,by go_num,by rw[av.o];exact fw.o,fK.o⟩
        case measure=>simp[intOf];omega
      ·obtain rfl:P=aB:=by omega
       have dQ:a6=Zc9 en.cls:=by rw[eg.o,cC.o,YaE,cn.o]
       rw[dQ]at K⊢;obtain⟨dt,rfl⟩:∃dt,dt=wr:=⟨_,rfl⟩
       have d0:=Hd (bh.o.below BX.o);have fM:=Hd (BA1.o.trans (BX.o.mono BA1.o.size));have bW:=Hd (K.o.src StrR.st);obtain⟨eN,eV⟩:∃eN,eN=Zc9 en.cls:=⟨_,rfl⟩
       rw[←eV]at bW ed cW c7 c1⊢;obtain⟨bl,bK⟩:∃bl,bl=eN.length:=⟨_,rfl⟩
       rw[←bK]at bW⊢;have dw:=Hd bK;have f3:bl<=2000:=by rw[bK];exact c1.o
       clear dQ K l BX bh ch cD cn eV bK BA1;go_wp2;clear e6;go_loopw [10] (fun cU wr=>∃az:Nat,az<=bl/\cU=.int .i64 az/\(eN.take az).all (Zb6 (newT cs))=true/\Below dt.heap.size dt wr) (fun cU _=>bl-(intOf cU).toNat)
       case atStart=>exact⟨0,Yao _,rfl,by simp,Yab _ _⟩
       case round=>
        obtain⟨az,gj,rfl,cG,t⟩:=hrel;have bG:=Hd cG;have l:=Hd t;have B:=Hd (fM.o.trans (t.mono fM.o.size));clear cG t;by_cases ey:az<bl
        ·obtain⟨x,O⟩:∃x,eN[az]?=some x:=⟨_,Yaa (by rw[←dw.o];exact ey)⟩
         obtain⟨fL,e3,u,fC,a9,_,q⟩:=Src.elem (StrR.st.below bW.o l.o) az x O;obtain rfl:cR=some ⟨fL,e3,none⟩:=fC;obtain rfl:=a9;have fO:wr.cell? ⟨fL,e3+az,none⟩=some (.string (S x)):=by have a0:=q 0 _ rfl;rw[YaH]at a0;exact a0
         have dU:=Hd (dJ.o x wr (ed.o x (Yaf O)) B.o);have av:Hid ((eN.take (az+1)).all (Zb6 (newT cs))=Zb6 (newT cs) x):=Hd (by rw[YaK,O];simp[bG.o]);have cf:Hid (Zb6 (newT cs) x=false->z=65):=Hd (fun Z=>cW.o (Zck (fun aN=>by rw[YaF.1 aN x (Yaf O)]at Z;cases Z)));have bm:(0:Int)<=(az:Int):=by omega
         have gs:(az:Int)<(bl:Int):=by omega
         clear q O;go_wp2_with fail;with_reducible refine dU.o.mono ?_
         rintro e gR⟨rfl,c8⟩;have fP:=Hd (l.o.trans (c8.mono l.o.size));have ff:=Hd (B.o.trans (c8.mono B.o.size));clear c8 fO dU;cases bR:Zb6 (newT cs) x with
         |false=>
          have aJ:=Hd (cf.o bR);clear bR av cf;go_wp2;go_ret;exact⟨by rw[aJ.o];rfl,ff.o⟩
         |true=>
          rw[bR]at av;clear bR cf;go_wp2;go_roundw
          case rel=>exact⟨az+1,by omega,by go_num,av.o,fP.o⟩
          case measure=>simp[intOf];omega
        ·obtain rfl:az=bl:=by omega
         have e9:Hid (eN.all (Zb6 (newT cs))=true):=Hd (by have Z:=bG.o;rw[dw.o,YaE]at Z;exact Z);have d5:=Hd (c7.o e9.o);have du:=Hd (d0.o.below l.o);have bX:=Hd (ck.o wr B.o);unfold Zh5 at bX;rw[fD.o]at bX;clear bG cW c7 d0 bW l;go_wp2_with fail;with_reducible refine bX.o.mono ?_
         rintro e aS⟨ga,v,dd,rfl,cY,cK,a8,dp,cX⟩;have es:=Hd (B.o.trans (cX.mono B.o.size));have dI:=Hd (du.o.below cX);obtain⟨b6,cu⟩:∃b6,ga[i]?=some b6:=⟨_,Yaa (by rw[cK];exact cT)⟩
         obtain⟨f9,g4,rfl⟩:=a8.shape;rw[cK]at a8⊢;obtain⟨eU,eB,u,fu,a9,_,cF⟩:=Src.elem a8 i b6 cu;obtain rfl:f9=some ⟨eU,eB,none⟩:=fu;obtain rfl:=a9;have bO:=Hd (bM.o dd dp);have de:Hid (∀V,Below aS.heap.size aS V->V.cell? ⟨eU,eB+i,none⟩=some (.slice (some ⟨b6,0,none⟩) n n)/\∀k,k<n->V.cell? ⟨b6,0+k,none⟩=some (.bool (dd i k))/\V.cell? ⟨b6,k,none⟩=some (.bool (dd i k))):=Hd (fun V D=>by
          have Q:=Yae (S:=fun _=>False) D;refine⟨Q.cell (a:=⟨eU,eB+i,none⟩) (by have a0:=cF 0 _ rfl;rw[YaH]at a0;exact a0) id,fun k cb=>?_⟩;have a0:=Q.cell (cY.cell cu cb) id;exact⟨by rw[Ya6];exact a0,a0⟩)
         have aU:=Hd (d5.o (dd i) bO.o);have c3:=Hd (bD.o (dd i) bO.o);have bL:=Hd (cc.o (dd i) bO.o);generalize dd i=R at de aU c3 bL;have dv:=Hd (ZeV (n:=7) (R:=MVR) 26 aS.heap.size aS (Yad _));have bA:=Hd (Zaa (Yab aS.heap.size aS) (.cells #[] 26));clear cY cK a8 dp cX cu cF bX d5 du bM bD cc ck bO B;go_wp2;go_loopw [12,13] (fun fh cl wr=>∃(y:Nat) (bd:List MV),y<=n/\cl=.int .i64 y/\MVals A w (Zcn (newT cs) i R y) bd/\ZrS aS.heap.size wr fh bd/\Below aS.heap.size aS wr) (fun _ cl _=>n-(intOf cl).toNat)
         case atStart=>exact⟨0,[],Yao _,rfl,MVals.nil,dv.o,bA.o⟩
         case round=>
          obtain⟨y,bd,gr,rfl,bV,ae,t⟩:=hrel;have aX:=Hd bV;have K:=Hd ae;have l:=Hd t;have B:=Hd (es.o.trans (t.mono es.o.size));obtain⟨cO,e4,rfl⟩:=ae.shape;clear bV ae t;by_cases cP:y<n
          ·obtain⟨bH,ce⟩:∃bH,(newT cs)[y]?=some bH:=⟨_,Yaa (by rw[←fn.o];exact cP)⟩
           have dC:(allR cs)[y]?=some bH.cls:=by rw[fx.o,ce];rfl
           have eb:=dK.o;obtain⟨gI,gQ,u,fv,eI,_,q⟩:=Src.elem eb y bH.cls dC;simp only[Ya1,Ybz,and_true]at fv;obtain⟨eE,cj⟩:=fv;subst eE cj;obtain⟨_,_,fW,rfl,_,_,cr⟩:=eI;obtain⟨ei,dz,rfl⟩:=cr.shape;obtain⟨c2,bE,da⟩:=ZoS cr;have f2:wr.cell? ⟨ar,aA+y*8+7,none⟩=some (.slice ei bH.cls.mths.length dz):=(Yae (S:=fun _=>False) B.o).cell (a:=⟨ar,aA+y*8+7,none⟩) (q 7 _ rfl) id;have dg:Zal (newT cs) y=bH.cls.mths:=Zcr ce;have c4:bd.length<=40000:=by
            rw[aX.o.len];have:=Zhj (i:=i) (R:=R) a7.o y;omega
           have eS:c2.length<=32:=by rw[bE.len,←dg];exact a7.o y
           obtain⟨eH,w',bv,U,bx⟩:=Zj7 aS.heap.size wr (.slice cO bd.length e4) (.slice ei bH.cls.mths.length dz) 68 bd c2 K.o l.o.size (MVRst.below da B.o) (by omega);obtain⟨co,bF⟩:∃co,co=bd++c2:=⟨_,rfl⟩
           rw[←bF]at U;have aG:=Hd bv;have ai:=Hd U;have Y:=Hd (l.o.trans bx);have ao:Hid ((y==i || R y)=true->MVals A w (Zcn (newT cs) i R (y+1)) co):=Hd (fun Z=>by
            show MVals A w (Zcn (newT cs) i R y++(if(y==i || R y)=true then Zal (newT cs) y else[])) _;rw[Yay Z,dg,bF];exact aX.o.app bE)
           have aC:Hid ((y==i || R y)=false->MVals A w (Zcn (newT cs) i R (y+1)) bd):=Hd (fun Z=>by
            show MVals A w (Zcn (newT cs) i R y++(if(y==i || R y)=true then Zal (newT cs) y else[])) _;rw[Yar (by rw[Z];decide),YaN];exact aX.o)
           obtain⟨eo,ep,rfl⟩:=U.shape;obtain⟨gA,fa⟩:=de.o wr l.o;obtain⟨gb,gf⟩:=fa y cP;have bm:(0:Int)<=(y:Int):=by omega
           have gh:(y:Int)<(n:Int):=by omega
           generalize R y=f8 at gb gf ao aC;clear ce dC eb q cr bE da dg c4 eS bv U bx fa bF;by_cases ba:y=i
           ·have aL:=Hd (ao.o (by rw[ba];simp));clear ao aC;subst ba;go_wp2_with (at_builtin;refine Zak rfl _ _ 68 rfl _ _ _ w' rfl rfl aG.o ?_)
            go_wp2;go_roundw
            case rel=>exact⟨y+1,_,by omega,by go_num,aL.o,ai.o,Y.o⟩
            case measure=>simp[intOf];omega
           ·have fF:¬(y:Int)=(i:Int):=by omega
            have gu:decide ((y:Int)=(i:Int))=false:=Yan fF;have cH:(y==i)=false:=Yah.2 ba;rw[cH,YaV]at ao aC;cases f8 with
            |true=>
             have aL:=Hd (ao.o rfl);clear ao aC ba cH;go_wp2_with (at_builtin;refine Zak rfl _ _ 68 rfl _ _ _ w' rfl rfl aG.o ?_)
             go_wp2;go_roundw
             case rel=>exact⟨y+1,_,by omega,by go_num,aL.o,ai.o,Y.o⟩
             case measure=>simp[intOf];omega
            |false=>
             have aL:=Hd (aC.o rfl);clear ao aC ba cH;go_wp2;go_roundw
             case rel=>exact⟨y+1,_,by omega,by go_num,aL.o,K.o,l.o⟩
             case measure=>simp[intOf];omega
          ·obtain rfl:n=y:=by omega
           obtain⟨b1,rfl⟩:∃b1,b1=wr:=⟨_,rfl⟩
           have bw:=ZoU aX.o (K.o.src MVRst) B.o;have dR:=aX.o.len;rw[dR]at bw⊢;have dW:=Hd (dI.o.below l.o);have cd:=Hd B.o;obtain⟨af,dc⟩:∃af,af=Zcn (newT cs) i R n:=⟨_,rfl⟩
           rw[←dc]at bw aU c3 bL⊢;obtain⟨a0,bJ⟩:∃a0,a0=af.length:=⟨_,rfl⟩
           rw[←bJ]at bw⊢;have bN:=Hd bw;have di:=Hd bJ;have gv:a0<=40000:=by
            have:=Zhj (i:=i) (R:=R) a7.o n;rw[bJ,dc];omega
           clear bw dR dc bJ aX K l B dI de dv bA es a7;go_wp2;go_loopw [14] (fun df wr=>∃x:Nat,x<=a0/\df=.int .i64 x/\(∀a b r C,a<x->b<a->af[a]?=some r->af[b]?=some C->r.name=C.name->ZaJ r=ZaJ C)/\Below b1.heap.size b1 wr) (fun df _=>a0-(intOf df).toNat)
           case atStart=>exact⟨0,Yao _,rfl,fun a b r C Z=>by omega,Yab _ _⟩
           case round=>
            obtain⟨x,O,rfl,d4,t⟩:=hrel;have cM:=Hd d4;have l:=Hd t;clear d4 t;by_cases ez:x<a0
            ·obtain⟨r,aK⟩:∃r,af[x]?=some r:=⟨_,Yaa (by rw[←di.o];exact ez)⟩
             have a1:=Hd aK;obtain⟨h,j,fV,aY,aV,_,aM⟩:=Src.elem bN.o x r aK;obtain rfl:cO=some ⟨h,j,none⟩:=aY;have fk:=Hd aV;obtain⟨_,_,_,rfl,⟨bi,bq,rfl⟩,⟨cV,cS,rfl⟩,⟨c5,cp,rfl⟩⟩:=Zaj aV;have aO:=Hd aM;have hb:(0:Int)<=(x:Int):=by omega
             have gL:(x:Int)<(a0:Int):=by omega
             clear aK aV aM;go_wp2;go_loopw [15] (fun cQ wr=>∃L:Nat,L<=x/\cQ=.int .i64 L/\(∀b C,b<L->af[b]?=some C->r.name=C.name->ZaJ r=ZaJ C)/\Below b1.heap.size b1 wr) (fun cQ _=>x-(intOf cQ).toNat)
             case atStart=>exact⟨0,Yao _,rfl,fun b C Z=>by omega,l.o⟩
             case round=>
              obtain⟨L,gT,rfl,ef,cg⟩:=hrel;have c0:=Hd ef;have aQ:=Hd cg;have d9:=Hd (cd.o.trans (cg.mono cd.o.size));clear ef cg;by_cases eF:L<x
              ·obtain⟨C,cA⟩:∃C,af[L]?=some C:=⟨_,Yaa (by rw[←di.o];omega)⟩
               have bU:=Hd cA;obtain⟨b3,gC,g6,aY,cv,_,ac⟩:=Src.elem bN.o L C cA;simp only[Ya1,Ybz,and_true]at aY;obtain⟨eE,cj⟩:=aY;subst eE cj;have ft:=Hd cv;obtain⟨_,_,_,rfl,⟨I,H,rfl⟩,⟨E,G,rfl⟩,⟨F,J,rfl⟩⟩:=Zaj cv;have aF:Hid (∀V,Below wr.heap.size wr V->(V.cell? ⟨h,j+x*7,none⟩=some (.string (S r.name))/\V.cell? ⟨h,j+x*7+1,none⟩=some (.slice bi r.params.length bq)/\V.cell? ⟨h,j+x*7+2,none⟩=some (.string (S r.res))/\V.cell? ⟨h,j+x*7+3,none⟩=some (.bool r.abs)/\V.cell? ⟨h,j+x*7+4,none⟩=some (.int .i64 r.loc)/\V.cell? ⟨h,j+x*7+5,none⟩=some (.slice cV r.code.length cS)/\V.cell? ⟨h,j+x*7+6,none⟩=some (.slice c5 r.cats.length cp))/\(V.cell? ⟨h,j+L*7,none⟩=some (.string (S C.name))/\V.cell? ⟨h,j+L*7+1,none⟩=some (.slice I C.params.length H)/\V.cell? ⟨h,j+L*7+2,none⟩=some (.string (S C.res))/\V.cell? ⟨h,j+L*7+3,none⟩=some (.bool C.abs)/\V.cell? ⟨h,j+L*7+4,none⟩=some (.int .i64 C.loc)/\V.cell? ⟨h,j+L*7+5,none⟩=some (.slice E C.code.length G)/\V.cell? ⟨h,j+L*7+6,none⟩=some (.slice F C.cats.length J))):=Hd (fun V D=>by
                have Q:=Yae (S:=fun _=>False) (aQ.o.trans (D.mono aQ.o.size));exact⟨⟨Q.cell (a:=⟨h,j+x*7,none⟩) (aO.o 0 _ rfl) id,Q.cell (a:=⟨h,j+x*7+1,none⟩) (aO.o 1 _ rfl) id,Q.cell (a:=⟨h,j+x*7+2,none⟩) (aO.o 2 _ rfl) id,Q.cell (a:=⟨h,j+x*7+3,none⟩) (aO.o 3 _ rfl) id,Q.cell (a:=⟨h,j+x*7+4,none⟩) (aO.o 4 _ rfl) id,Q.cell (a:=⟨h,j+x*7+5,none⟩) (aO.o 5 _ rfl) id,Q.cell (a:=⟨h,j+x*7+6,none⟩) (aO.o 6 _ rfl) id⟩,⟨Q.cell (a:=⟨h,j+L*7,none⟩) (ac 0 _ rfl) id,Q.cell (a:=⟨h,j+L*7+1,none⟩) (ac 1 _ rfl) id,Q.cell (a:=⟨h,j+L*7+2,none⟩) (ac 2 _ rfl) id,Q.cell (a:=⟨h,j+L*7+3,none⟩) (ac 3 _ rfl) id,Q.cell (a:=⟨h,j+L*7+4,none⟩) (ac 4 _ rfl) id,Q.cell (a:=⟨h,j+L*7+5,none⟩) (ac 5 _ rfl) id,Q.cell (a:=⟨h,j+L*7+6,none⟩) (ac 6 _ rfl) id⟩⟩)
               have g0:(0:Int)<=(L:Int):=by omega
               have g1:(L:Int)<(a0:Int):=by omega
               have gE:(L:Int)<(x:Int):=by omega
               have N:=Yab wr.heap.size wr;have g:=aF.o wr N;clear cA cv ac;by_cases ab:r.name=C.name
               ·have bt:Hid (∀V,Below wr.heap.size wr V->Calls prog 97 #[.agg #[.string (S r.name),.slice bi r.params.length bq,.string (S r.res),.bool r.abs,.int .i64 r.loc,.slice cV r.code.length cS,.slice c5 r.cats.length cp]] V (Zcc (ZaJ r) V)):=Hd (fun V D=>Zgp r _ V (MthR.st.keep fk.o (Yae (S:=fun _=>False) (aQ.o.trans (D.mono aQ.o.size))) (fun _ _=>id)) (bL.o r (Yaf a1.o)).brief);have a3:Hid (∀V,Below wr.heap.size wr V->Calls prog 97 #[.agg #[.string (S C.name),.slice I C.params.length H,.string (S C.res),.bool C.abs,.int .i64 C.loc,.slice E C.code.length G,.slice F C.cats.length J]] V (Zcc (ZaJ C) V)):=Hd (fun V D=>Zgp C _ V (MthR.st.keep ft.o (Yae (S:=fun _=>False) (aQ.o.trans (D.mono aQ.o.size))) (fun _ _=>id)) (bL.o C (Yaf bU.o)).brief);unfold Zcc at bt a3;have b2:=Zaf r.name;have f6:=Zaf C.name;have fU:(r.name==C.name)=true:=by rw[ab];exact Ybi _
                have fY:decide (r.name=C.name)=true:=Yas ab;have eK:=Hd ab;clear ab;by_cases aD:ZaJ r=ZaJ C
                ·have aW:Hid (∀b ay,b<L+1->af[b]?=some ay->r.name=ay.name->ZaJ r=ZaJ ay):=Hd (fun b ay b9 aj au=>by
                  rcases YaC b L with Z|Z
                  ·exact c0.o b ay Z aj au
                  ·rw[show b=L by omega,bU.o]at aj;obtain rfl:=Yac aj;exact aD)
                 rw[←aD]at a3;clear aD;have eQ:=Zaf (ZaJ r);generalize ZaJ r=gJ at bt a3 aW eQ;obtain⟨⟨dM,dB,dF,dO,ej,d1,dL⟩,⟨d8,dS,dZ,d7,dx,dy,dX⟩⟩:=g;go_upto_region 36 with fail;first
                 |(go_region_held3 (fun V=>(V.cell? ⟨h,j+x*7,none⟩=some (.string (S r.name))/\V.cell? ⟨h,j+x*7+1,none⟩=some (.slice bi r.params.length bq)/\V.cell? ⟨h,j+x*7+2,none⟩=some (.string (S r.res))/\V.cell? ⟨h,j+x*7+3,none⟩=some (.bool r.abs)/\V.cell? ⟨h,j+x*7+4,none⟩=some (.int .i64 r.loc)/\V.cell? ⟨h,j+x*7+5,none⟩=some (.slice cV r.code.length cS)/\V.cell? ⟨h,j+x*7+6,none⟩=some (.slice c5 r.cats.length cp))/\(V.cell? ⟨h,j+L*7,none⟩=some (.string (S C.name))/\V.cell? ⟨h,j+L*7+1,none⟩=some (.slice I C.params.length H)/\V.cell? ⟨h,j+L*7+2,none⟩=some (.string (S C.res))/\V.cell? ⟨h,j+L*7+3,none⟩=some (.bool C.abs)/\V.cell? ⟨h,j+L*7+4,none⟩=some (.int .i64 C.loc)/\V.cell? ⟨h,j+L*7+5,none⟩=some (.slice E C.code.length G)/\V.cell? ⟨h,j+L*7+6,none⟩=some (.slice F C.cats.length J))) ((refine aF.o _ ?_;(with_reducible repeat (first|exact N|assumption|(apply Zae;rotate_left;assumption)|refine Zab ?_|refine Zaa ?_ _))))
                   (first
                    |((go_at_call 97;(with_reducible refine(bt.o _ ?_).mono ?_);(focus ((with_reducible repeat (first|exact N|assumption|(apply Zae;rotate_left;assumption)|refine Zab ?_|refine Zaa ?_ _));done));rintro e fz⟨rfl,fI⟩))
                    |((go_at_call 97;(with_reducible refine(a3.o _ ?_).mono ?_);(focus ((with_reducible repeat (first|exact N|assumption|(apply Zae;rotate_left;assumption)|refine Zab ?_|refine Zaa ?_ _));done));rintro e fr⟨rfl,fq⟩))))
                 |fail
                 all_goals
                  go_wp2;go_roundw
                  case rel=>exact⟨L+1,by omega,by go_num,aW.o,aQ.o.trans (YbP (by first|exact ZaD _ _|(with_reducible repeat (first|exact N|assumption|(apply Zae;rotate_left;assumption)|refine Zab ?_|refine Zaa ?_ _))) aQ.o.size)⟩
                  case measure=>simp[intOf];omega
                ·have aJ:Hid (z=66):=Hd (aU.o.1 ⟨x,L,r,C,eF,a1.o,bU.o,eK.o,aD⟩);have eQ:=Zaf (ZaJ r);have gd:=Zaf (ZaJ C);have aI:(ZaJ r==ZaJ C)=false:=Yah.2 aD;have aN:(ZaJ r != ZaJ C)=true:=by rw[bne_iff_ne];exact aD
                 have bp:decide (ZaJ r=ZaJ C)=false:=Yan aD;clear aD;generalize ZaJ r=gn at bt aI aN bp eQ;generalize ZaJ C=gw at a3 aI aN bp gd;obtain⟨⟨dM,dB,dF,dO,ej,d1,dL⟩,⟨d8,dS,dZ,d7,dx,dy,dX⟩⟩:=g;go_upto_region 36 with fail;first
                 |(go_region_held3 (fun V=>(V.cell? ⟨h,j+x*7,none⟩=some (.string (S r.name))/\V.cell? ⟨h,j+x*7+1,none⟩=some (.slice bi r.params.length bq)/\V.cell? ⟨h,j+x*7+2,none⟩=some (.string (S r.res))/\V.cell? ⟨h,j+x*7+3,none⟩=some (.bool r.abs)/\V.cell? ⟨h,j+x*7+4,none⟩=some (.int .i64 r.loc)/\V.cell? ⟨h,j+x*7+5,none⟩=some (.slice cV r.code.length cS)/\V.cell? ⟨h,j+x*7+6,none⟩=some (.slice c5 r.cats.length cp))/\(V.cell? ⟨h,j+L*7,none⟩=some (.string (S C.name))/\V.cell? ⟨h,j+L*7+1,none⟩=some (.slice I C.params.length H)/\V.cell? ⟨h,j+L*7+2,none⟩=some (.string (S C.res))/\V.cell? ⟨h,j+L*7+3,none⟩=some (.bool C.abs)/\V.cell? ⟨h,j+L*7+4,none⟩=some (.int .i64 C.loc)/\V.cell? ⟨h,j+L*7+5,none⟩=some (.slice E C.code.length G)/\V.cell? ⟨h,j+L*7+6,none⟩=some (.slice F C.cats.length J))) ((refine aF.o _ ?_;(with_reducible repeat (first|exact N|assumption|(apply Zae;rotate_left;assumption)|refine Zab ?_|refine Zaa ?_ _))))
                   (first
                    |((go_at_call 97;(with_reducible refine(bt.o _ ?_).mono ?_);(focus ((with_reducible repeat (first|exact N|assumption|(apply Zae;rotate_left;assumption)|refine Zab ?_|refine Zaa ?_ _));done));rintro e fz⟨rfl,fI⟩))
                    |((go_at_call 97;(with_reducible refine(a3.o _ ?_).mono ?_);(focus ((with_reducible repeat (first|exact N|assumption|(apply Zae;rotate_left;assumption)|refine Zab ?_|refine Zaa ?_ _));done));rintro e fr⟨rfl,fq⟩))))
                 |fail
                 all_goals
                  go_wp2;go_ret;exact⟨by rw[aJ.o];rfl,d9.o.trans (YbP (by first|exact ZaD _ _|(with_reducible repeat (first|exact N|assumption|(apply Zae;rotate_left;assumption)|refine Zab ?_|refine Zaa ?_ _))) d9.o.size)⟩
               ·have b2:=Zaf r.name;have f6:=Zaf C.name;have fU:(r.name==C.name)=false:=Yah.2 ab;have fY:decide (r.name=C.name)=false:=Yan ab;have aW:Hid (∀b ay,b<L+1->af[b]?=some ay->r.name=ay.name->ZaJ r=ZaJ ay):=Hd (fun b ay b9 aj au=>by
                 rcases YaC b L with Z|Z
                 ·exact c0.o b ay Z aj au
                 ·rw[show b=L by omega,bU.o]at aj;obtain rfl:=Yac aj;exact absurd au ab)
                clear ab;obtain⟨⟨dM,dB,dF,dO,ej,d1,dL⟩,⟨d8,dS,dZ,d7,dx,dy,dX⟩⟩:=g;go_upto_region 36 with fail;go_quiet (fail)
                all_goals
                 go_wp2;go_roundw
                 case rel=>exact⟨L+1,by omega,by go_num,aW.o,aQ.o.trans (YbP (by first|exact ZaD _ _|(with_reducible repeat (first|exact N|assumption|(apply Zae;rotate_left;assumption)|refine Zab ?_|refine Zaa ?_ _))) aQ.o.size)⟩
                 case measure=>simp[intOf];omega
              ·obtain rfl:L=x:=by omega
               have aW:Hid (∀a b r C,a<L+1->b<a->af[a]?=some r->af[b]?=some C->r.name=C.name->ZaJ r=ZaJ C):=Hd (fun a b el ay ds b9 aP aj au=>by
                rcases YaC a L with Z|Z
                ·exact cM.o a b el ay Z b9 aP aj au
                ·have:a=L:=by omega
                 subst this;rw[a1.o]at aP;obtain rfl:=Yac aP;exact c0.o b ay b9 aj au)
               go_wp2;go_roundw
               case rel=>exact⟨L+1,by omega,by go_num,aW.o,aQ.o⟩
               case measure=>simp[intOf];omega
            ·obtain rfl:x=a0:=by omega
             have cE:Hid (¬Ze2 af):=Hd (by
              rintro⟨a,b,r,C,aE,aK,cA,au,aR⟩;exact aR (cM.o a b r C (by rw[di.o];exact(Yag.1 aK).1) aE aK cA au))
             have dD:=Hd (aU.o.2.1 cE.o);have dj:=Hd (aU.o.2.2 cE.o);have aT:=Hd (dW.o.below l.o);have eZ:=Hd (MthR.st.below bN.o l.o);have dk:=Hd (cd.o.trans (l.o.mono cd.o.size));clear cM cE aU dW bN cd l;obtain⟨b5,rfl⟩:∃b5,b5=wr:=⟨_,rfl⟩
             cases aE:en.cls.abs with
             |true=>
              rw[aE]at aT;have aJ:Hid (z=0):=Hd (dj.o (.inl aE));have fj:b5.cell? ⟨ag,4,none⟩=some (.bool true):=aT.o.cell 4 rfl;clear aE dD dj aT;go_wp2;go_loopw [16] (fun bn wr=>bn=.int .i64 0/\wr=b5) (fun _ _=>0)
              case atStart=>exact⟨rfl,rfl⟩
              case round=>
               obtain⟨rfl,rfl⟩:=hrel;by_cases fN:x=0
               ·subst fN;go_wp2;go_ret;exact⟨by rw[aJ.o];rfl,dk.o⟩
               ·have aI:(0:Int)<(x:Int):=by omega
                go_wp2;go_ret;exact⟨by rw[aJ.o];rfl,dk.o⟩
             |false=>
              rw[aE]at aT;have et:=Hd aE;clear aE;go_wp2;go_loopw [16] (fun bn wr=>∃ad:Nat,ad<=x/\bn=.int .i64 ad/\(∀a r,a<ad->af[a]?=some r->absM (newT cs) i r.name=false)/\Below b5.heap.size b5 wr) (fun bn _=>x-(intOf bn).toNat)
              case atStart=>exact⟨0,Yao _,rfl,fun a r Z=>by omega,Yab _ _⟩
              case round=>
               obtain⟨ad,gg,rfl,bB,t⟩:=hrel;have a2:=Hd bB;have l:=Hd t;have B:=Hd (dk.o.trans (t.mono dk.o.size));clear bB t;by_cases eD:ad<x
               ·obtain⟨r,aK⟩:∃r,af[ad]?=some r:=⟨_,Yaa (by rw[←di.o];exact eD)⟩
                obtain⟨h,j,fV,aY,aV,_,aM⟩:=Src.elem (MthR.st.below eZ.o l.o) ad r aK;obtain rfl:cO=some ⟨h,j,none⟩:=aY;obtain⟨_,_,_,rfl,⟨bi,bq,rfl⟩,⟨cV,cS,rfl⟩,⟨c5,cp,rfl⟩⟩:=Zaj aV;have bm:(0:Int)<=(ad:Int):=by omega
                have gq:(ad:Int)<(x:Int):=by omega
                have N:=Yab wr.heap.size wr;have aF:Hid (∀V,Below wr.heap.size wr V->V.cell? ⟨ag,0,none⟩=some (.string (S en.cls.name))/\V.cell? ⟨h,j+ad*7,none⟩=some (.string (S r.name))):=Hd (fun V D=>by
                 have Q:=Yae (S:=fun _=>False) D;exact⟨(aT.o.below (l.o.trans (D.mono l.o.size))).cell 0 rfl,Q.cell (a:=⟨h,j+ad*7,none⟩) (aM 0 _ rfl) id⟩)
                have fj:wr.cell? ⟨ag,4,none⟩=some (.bool false):=(aT.o.below l.o).cell 4 rfl;obtain⟨⟨ew,p⟩,c9⟩:=c3.o r (Yaf aK);have bs:=Hd (eP.o r.name (ew,p) c9);have a1:=Hd aK;have bb:Hid (∀V,Below wr.heap.size wr V->Calls prog 98 #[.slice (some ⟨ar,aA,none⟩) n em,.string (S en.cls.name),.string (S r.name)] V (fun e w'=>∃I H E G F J,e=.returned (.tuple #[.string (S (nmE (newT cs) ew)),.agg #[.string (S p.name),.slice I p.params.length H,.string (S p.res),.bool p.abs,.int .i64 p.loc,.slice E p.code.length G,.slice F p.cats.length J],.bool true])/\Below V.heap.size V w')):=Hd (fun V D=>by
                 refine(dP.o r.name V (B.o.trans (D.mono B.o.size))).mono ?_;rintro e w'⟨b9,bJ⟩;rw[c9]at bJ;rcases bJ with⟨Z,_⟩|⟨gB,gx,eH,Z,rfl,bV⟩
                 ·cases Z
                 ·obtain⟨rfl,rfl⟩:=Prod.mk.inj (Yac Z);obtain⟨_,_,_,rfl,⟨I,H,rfl⟩,⟨E,G,rfl⟩,⟨F,J,rfl⟩⟩:=Zaj bV;exact⟨I,H,E,G,F,J,rfl,b9⟩)
                generalize nmE (newT cs) ew=dV at bb;obtain⟨fe,e0⟩:=aF.o wr N;generalize dY:r.name=b7 at aF bb e0 bs;have d3:=Hd dY;clear dY;clear aK aV aM c9;have aw:Below wr.heap.size wr (wr.alloc (.cells #[.string ⟨#[]⟩,.slice none 0 0,.string ⟨#[]⟩,.bool false,.int .i64 0,.slice none 0 0,.slice none 0 0] 26)).drew:=Zab (Zaa (Yab _ _) _);have dG:=(Box.new wr #[.string ⟨#[]⟩,.slice none 0 0,.string ⟨#[]⟩,.bool false,.int .i64 0,.slice none 0 0,.slice none 0 0] 26).below (Zab (Yab _ _));have dT:Hid (Calls prog 98 #[.slice (some ⟨ar,aA,none⟩) n em,.string (S en.cls.name),.string (S b7)] (wr.alloc (.cells #[.string ⟨#[]⟩,.slice none 0 0,.string ⟨#[]⟩,.bool false,.int .i64 0,.slice none 0 0,.slice none 0 0] 26)).drew (fun e w'=>∃I H E G F J,e=.returned (.tuple #[.string (S dV),.agg #[.string (S p.name),.slice I p.params.length H,.string (S p.res),.bool p.abs,.int .i64 p.loc,.slice E p.code.length G,.slice F p.cats.length J],.bool true])/\Box w' wr.heap.size #[.string ⟨#[]⟩,.slice none 0 0,.string ⟨#[]⟩,.bool false,.int .i64 0,.slice none 0 0,.slice none 0 0] 26/\Below wr.heap.size wr w')):=Hd (by
                 refine(bb.o _ aw).mono ?_;rintro e w'⟨I,H,E,G,F,J,aI,aN⟩;exact⟨I,H,E,G,F,J,aI,dG.below aN,aw.trans (aN.mono aw.size)⟩)
                clear aw dG;go_upto_region 41 with fail;clear fj;go_cut [17,18,19] (fun fp fA fE e8=>∃fS:Nat,fp=.string (S dV)/\fA=.pointer (some ⟨fS,0,none⟩)/\fE=.bool true/\e8.cell? ⟨fS,3,none⟩=some (.bool p.abs)/\Below wr.heap.size wr e8)
                case first=>
                 first
                 |(go_region_held3 (fun V=>V.cell? ⟨ag,0,none⟩=some (.string (S en.cls.name))/\V.cell? ⟨h,j+ad*7,none⟩=some (.string (S b7))) ((refine aF.o _ ?_;(repeat (first|(with_reducible exact N)|(with_reducible assumption)|(with_reducible (apply Zae;rotate_left;assumption))|(with_reducible refine Zab ?_)|(with_reducible refine Zaa ?_ _)|((with_reducible refine Below.setCell ?_ ?_ _);rotate_left;(focus ((first|exact Yad _|omega|(simp;omega));done)))))))
                   (first
                    |((go_at_call 98;(with_reducible refine dT.o.mono ?_);rintro e dr⟨I,H,E,G,F,J,rfl,al,bY⟩;obtain⟨gP,gX,g9,gD,gO,gN,gW⟩:=ZfZ al;obtain⟨gV,gz,ah,P,az,y,gF⟩:=Zdl al))
                    |((go_at_call 98;(with_reducible refine(bb.o _ ?_).mono ?_);(focus ((with_reducible repeat (first|exact N|assumption|(apply Zae;rotate_left;assumption)|refine Zab ?_|refine Zaa ?_ _));done));rintro e dr⟨I,H,E,G,F,J,rfl,e1⟩;have gm:=e1.size))))
                 |fail
                 all_goals
                  go_wp2_with fail;go_meet
                  first
                  |(revert al;intro al;exact⟨wr.heap.size,rfl,rfl,rfl,((set7 al (.string (S p.name)) (.slice I p.params.length H) (.string (S p.res)) (.bool p.abs) (.int .i64 p.loc) (.slice E p.code.length G) (.slice F p.cats.length J)).1.below (by first|exact Yab _ _|exact Zab (Yab _ _))).cell 3 rfl,by first|exact bY.trans ((set7 al (.string (S p.name)) (.slice I p.params.length H) (.string (S p.res)) (.bool p.abs) (.int .i64 p.loc) (.slice E p.code.length G) (.slice F p.cats.length J)).2.below bY.size (fun k (a0:k=wr.heap.size)=>by omega))|exact bY.trans ((set7 al (.string (S p.name)) (.slice I p.params.length H) (.string (S p.res)) (.bool p.abs) (.int .i64 p.loc) (.slice E p.code.length G) (.slice F p.cats.length J)).2.drew.below bY.size (fun k (a0:k=wr.heap.size)=>by omega))⟩)
                  |exact⟨_,rfl,rfl,rfl,((Box.new dr #[.string (S p.name),.slice I p.params.length H,.string (S p.res),.bool p.abs,.int .i64 p.loc,.slice E p.code.length G,.slice F p.cats.length J] 26).below (by first|exact Yab _ _|exact Zab (Yab _ _))).cell 3 rfl,by first|exact Zaa (by repeat (first|(with_reducible exact N)|(with_reducible assumption)|(with_reducible (apply Zae;rotate_left;assumption))|(with_reducible refine Zab ?_)|(with_reducible refine Zaa ?_ _))) _|exact Zab (Zaa (by repeat (first|(with_reducible exact N)|(with_reducible assumption)|(with_reducible (apply Zae;rotate_left;assumption))|(with_reducible refine Zab ?_)|(with_reducible refine Zaa ?_ _))) _)⟩
                case rest=>
                 obtain⟨fS,rfl,rfl,rfl,e2,cI⟩:=hcut;have fo:=Hd (l.o.trans (cI.mono l.o.size));have fg:=Hd (B.o.trans (cI.mono B.o.size));clear cI dT bb aF fe e0 N;cases a4:p.abs with
                 |true=>
                  rw[a4]at e2;have aJ:Hid (z=67):=Hd (dD.o ⟨et.o,r,Yaf a1.o,by rw[d3.o,bs.o];exact a4⟩);clear a4 bs;go_wp2;go_ret;exact⟨by rw[aJ.o];rfl,fg.o⟩
                 |false=>
                  rw[a4]at e2;have fH:Hid (∀a r,a<ad+1->af[a]?=some r->absM (newT cs) i r.name=false):=Hd (fun a el ds aP=>by
                   rcases YaC a ad with Z|Z
                   ·exact a2.o a el Z aP
                   ·rw[show a=ad by omega,a1.o]at aP;rw[←Yac aP,d3.o,bs.o];exact a4)
                  clear a4 bs;go_wp2;go_roundw
                  case rel=>exact⟨ad+1,by omega,by go_num,fH.o,fo.o⟩
                  case measure=>simp[intOf];omega
               ·obtain rfl:ad=x:=by omega
                have aJ:Hid (z=0):=Hd (dj.o (.inr (fun m aq=>by
                 obtain⟨a,ds⟩:=Ya4.1 aq;exact a2.o a m (by rw[di.o];exact(Yag.1 ds).1) ds)))
                go_wp2;go_ret;exact⟨by rw[aJ.o];rfl,B.o⟩
