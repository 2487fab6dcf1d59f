/- laws -/
import Derived.Test.YtegljjbclladdaaGreatDoorK31
set_option maxRecDepth 100000
set_option maxHeartbeats 16000000
namespace Go.Proofs.YtegljjbclladdaaGreatDoor
open Go.RowKit Tryz
theorem Zd6 {P:Program}{j:Region.Mode}{f:Array Oper}{k:Exit->Act->World->Prop}{S:World->Prop}{i:Nat}{h:Oper}{v:Value}{g:Nat}{b:Array Bool}{a:Act}{w:World}(d:Nat)(s:f[i]?=some h)(m:h.dst=some d)
  (p:Region.noSelect f=true)(q:Region.free j f b i=true)(r:(Region.ready j f b).contains i=true)
  (n:∀c a w,k (.panic c) (a.put h.dst v) w->k (.panic c) a w)(t:YieldsIf P f S h v a)(l:S w)
  (u:wpAnyH P j f k S g (b.setIfInBounds i true) (a.put (some d) v) w):wpAnyH P j f k S (g+1) b a w:=
 wpAnyH_take s p q r n t l (by rw[m];exact u)
theorem Zdh {P:Program}{w:World}{f:Array Oper}{o:Oper}{a:Act}{m:Act->World->Prop}{p:Exit->Act->World->Prop}{q:Prop}(g:o.guard=none)(s x:Operand)(t:TypeId)
  (k:o.op=.call { callee:=.builtin .append,args:=#[s,x],argTypes:=#[t,t] })(sv c:Value)(j:a.eval s=sv)(i:a.eval x=c){n:Value->World->Prop}
  (d:∃b w',(Builtin.append_ #[t,t] o.type #[sv,c]).run P w=.ok b w'/\n b w')(r:∀b w',n b w'->m (a.put o.dst b) w') :
  if Region.wanted o (yielded f a.tmps)=true then Oper.wp P o a w m p else q:=by
 obtain⟨b,w',l,h⟩:=d;exact ZaK g s x t k sv c b w' j i l (r b w' h)
theorem Zse {α:Type}{f:α->Value}{n:Nat}{t:TypeId}{lo:Nat}{w:World}{v:Value}{m:List α}{b:List Value}(g:TRow n t (Flat f) lo w v m b):b=m.map f:=by
 apply Yb5;intro k;rw[Yav];cases a:m[k]? with
 |some x=>
  obtain⟨u,c,d⟩:=g.each k x a;rw[c];exact Ya8 some d
 |none=>
  rw[List.getElem?_eq_none_iff]at a;have:=g.len;exact YaS (by omega)
structure Mo (B:Nat->Nat) (w0:World) (gb gm gl lo n b2:Nat) (s:Grp) (c:Nat) (ov0:Value) (W0:World) (ov:Value) (us:List Value) (W:World):Prop where
 gr:Gr B w0 gb gm gl lo n ⟨s.met,s.cnt,s.opn++[c],s.loop⟩ ov us W
 box2:Box W b2 #[.pointer (some ⟨gb,0,none⟩)] 101
 own2:ov.ownBlock≠some b2
 fr:GrF gb gm gl ov0 W0 ov W
structure Me (B:Nat->Nat) (w0:World) (gb gm gl lo n b2 b7:Nat) (s:Grp) (c:Nat) (ov0:Value) (W0:World) (ov:Value) (us:List Value) (W:World):Prop where
 gr:Gr B w0 gb gm gl lo n ⟨s.met,s.cnt+1,s.opn++[c],s.loop⟩ ov us W
 box2:Box W b2 #[.pointer (some ⟨gb,0,none⟩)] 101
 box7:Box W b7 #[.int .i64 ((s.cnt+1:Nat):Int)] 3
 own2:ov.ownBlock≠some b2
 own7:ov.ownBlock≠some b7
 fr:GrF gb gm gl ov0 W0 ov W
 r:MtS lo b2 b7 W0
theorem ZoO {A:Nat->Prop}{B:Nat->Nat}{dd c2:Nat}{es:List Ent}{M:World}(cd:Tab A M dd c2 B es){gb gm gl lo:Nat}(z:GrS M.heap.size gb gm gl lo)(aD:es.length<=1048576)(f c:Nat)(e:Ent)(b1:es[c]?=some e)(bM:e.lk.length<=9223372036854775807)
  (a9:∀c,∀d∈parE es c,d<es.length)
  (cI:∀(s:Grp) (l:Value) (b6:List Value) (d:Nat) (W:World),d<es.length->s.met.getD d 0=0->GI es.length s->Za7 s.met<=f->Gr B M gb gm gl lo es.length s l b6 W->Calls prog 84 #[.pointer (some ⟨gb,0,none⟩),entV B d] W (Zp3 B M gb gm gl lo es.length l W (ZaW es f s d)))
  (s:Grp)(l:Value)(b6:List Value)(W:World)(b5:s.met.getD c 0=0)(bY:GI es.length s)(aM:Za7 s.met<=f+1)(av:Gr B M gb gm gl lo es.length s l b6 W) :
  Calls prog 84 #[.pointer (some ⟨gb,0,none⟩),entV B c] W (Zp3 B M gb gm gl lo es.length l W (ZaW es (f+1) s c)):=by
 have bf:=(Yag.1 b1).1;obtain⟨cM,bL,bv,bQ,bJ⟩:=info_parts ZeJ;obtain⟨n,cn⟩:∃n,n=es.length:=⟨_,rfl⟩
 obtain⟨aR,aS,rfl⟩:=av.opn.shape;obtain⟨m,aq⟩:∃m,m=s.opn.length:=⟨_,rfl⟩
 have aV:Below W.heap.size W (W.alloc (.cells #[.pointer (some ⟨gb,0,none⟩)] 101)):=(Yab _ W).alloc (Yad _) _;have F:=Hd (av.keep aV);have aQ:=Hd (Box.new W #[.pointer (some ⟨gb,0,none⟩)] 101);have a7:=Hd aV;have a6:=Hd av.low;have cv:=Hd av.low;have bV:Hid (∀g,(Value.slice aR m aS).ownBlock=some g->g<W.heap.size):=Hd (by rw[aq];exact av.opn.lt);have aj:Hid (∀g,(Value.slice aR m aS).ownBlock=some g->lo<=g):=Hd (by rw[aq];exact av.opn.own);have a0:(W.alloc (.cells #[.pointer (some ⟨gb,0,none⟩)] 101)).heap.size=W.heap.size+1:=by simp
 have cx:(W.alloc (.cells #[.pointer (some ⟨gb,0,none⟩)] 101)).cell? ⟨gb,2,none⟩=some (.slice aR m aS):=by rw[aq];exact F.o.box.cell 2 rfl
 have b8:(W.alloc (.cells #[.pointer (some ⟨gb,0,none⟩)] 101)).cell? ⟨gb,1,none⟩=some (.int .i64 s.cnt):=F.o.box.cell 1 rfl;have aE:=(bY.enter aD bf b5);have c4:m+1<=1048576:=by have:=aE.1.olen;have ch:=aE.2.2;rw[←aq]at ch;omega
 have b7:=Hd b1;have ay:=Hd z;have bp:=Hd cd;have di:=Hd bY;have aO:=Hd aE;have cK:=Hd cI;have ba:=Hd a9;have bi:=Hd aM;have ah:=Hd aD;have cm:=Hd bM;have aC:=Hd aq;have cb:=Hd cn;have a8:=Hd bf;have c9:=Hd b5;have dc:=Hd av.bel.size;clear av aV bY z cd b1 cI a9 aM aD bM cn bf b5 aq aE;go_enter func84,ntmps84
 go_upto_region 1 with fail;obtain⟨G,a5⟩:∃G,G=W.heap.size:=⟨_,rfl⟩
 rw[←a5]at aQ⊢;have aL:=Hd a5;generalize W.alloc (.cells #[.pointer (some ⟨gb,0,none⟩)] 101)=I at F aQ a7 a0 cx b8⊢;have b2:I.cell? ⟨G,0,none⟩=some (.pointer (some ⟨gb,0,none⟩)):=aQ.o.cell 0 rfl;clear a5;go_upto_region 2 with fail;obtain⟨l,ax⟩:∃l,l=Value.slice aR m aS:=⟨_,rfl⟩
 have aN:=F.o.opn;rw[←aC.o,←ax]at aN;have aW:=Hd aN;rw[←ax]at bV aj⊢;have bZ:¬l.ownBlock=some G:=fun ag=>by
  have ak:=bV.o G ag;have ao:=aL.o;omega
 have bg:¬l.ownBlock=some gb:=fun ag=>by
  have ak:=aj.o gb ag;have ao:=ay.o.ub;omega
 have b9:¬G=gb:=by
  have ak:=ay.o.ub;have ao:=aL.o;have bk:=a6.o;omega
 have E:Hid (∀N,Only (fun k=>l.ownBlock=some k\/k=gb) I N->N.cell? ⟨G,0,none⟩=some (.pointer (some ⟨gb,0,none⟩))):=Hd (fun N T=>(aQ.o.keep T (fun ag=>ag.elim bZ b9)).cell 0 rfl);have aH:Hid (∀N,Only (fun k=>l.ownBlock=some k) I N->N.cell? ⟨gb,2,none⟩=some l/\N.frozen? ⟨gb,2,none⟩=false):=Hd (fun N T=>
  ⟨by rw[ax,aC.o];exact(F.o.box.keep T bg).cell 2 rfl,(F.o.box.keep T bg).free 2⟩)
 have aJ:Hid (∀N L ty,Below I.heap.size I N->I.heap.size<=L->Box N L #[entV B c] 77->∃bW w',(Builtin.append_ #[71,71] ty #[l,.slice (some ⟨L,0,none⟩) 1 1]).run prog N=.ok bW w'/\
   (∃y q,bW=.slice y (m+1:Nat) q/\w'.cell? ⟨gb,2,none⟩=some l/\w'.frozen? ⟨gb,2,none⟩=false/\Only (fun k=>l.ownBlock=some k\/k=gb) I w'/\Only (fun k=>l.ownBlock=some k) I w'/\TRow 1 77 (EntP B) lo w' (.slice y (m+1:Nat) q) (s.opn++[c]) ((s.opn++[c]).map (entV B))/\((Value.slice y (m+1:Nat) q).ownBlock=l.ownBlock\/∀g,(Value.slice y (m+1:Nat) q).ownBlock=some g->I.heap.size<=g))):=Hd (fun N L ty bB dj bI=>by
  have T:Only (fun k=>l.ownBlock=some k) I N:=Yae bB;have ck:=Zse aW.o;have bc:s.opn.length=m:=aC.o.symm;have ce:TRow 1 77 (Flat (entV B)) lo I l s.opn (s.opn.map (entV B)):=by
   have ag:=aW.o;rw[ck]at ag;exact ag
  have cG:TRow 1 77 (Flat (entV B)) lo N l s.opn (s.opn.map (entV B)):=ce.below (EntP.st B) bB;obtain⟨bW,w',bt,aK,X⟩:=Zbu (P:=prog) (w:=N) (f:=entV B) (n:=1) (by decide) (fun _=>rfl) (fun x u cH=>by simp[Value.cells]at cH;subst cH;rfl) 71 ty 77 cM (.pointer none) 8 underlying71 bL bv bQ bJ rfl cG (Yaj F.o.low T.size)
   (l2:=[c]) (A:=fun _=>True) (sv:=.slice (some ⟨L,0,none⟩) 1 1) (.inr ⟨L,0,1,rfl,⟨trivial,bI.lt,Yad 1,by simp⟩,fun j dg hj=>by
    match j,hj with
    |0,hj=>
     obtain rfl:c=dg:=Yac hj;exact⟨_,rfl,rfl,fun i u cS=>by rw[Ycc,Ya6];exact bI.cell i cS⟩
    |j+1,hj=>exact absurd hj (by simp)⟩) (by rw[bc];simp;omega) (by rw[bc];simp;omega)
  obtain⟨y,q,bO⟩:=aK.shape;have cp:(s.opn++[c]).length=m+1:=by rw[Yal,bc];rfl
  rw[cp]at bO;subst bO;obtain⟨bh,br⟩:=aH.o w' (T.trans X.only);refine⟨_,w',bt,y,q,rfl,bh,br,(T.trans X.only).mono (fun i _ Y=>.inl Y),T.trans X.only,aK,?_⟩;rcases X.came with b4|b4
  ·exact .inl b4
  ·exact .inr (fun g U=>Yaj T.size (b4 g U)))
 have aZ:Only (fun k=>l.ownBlock=some k\/k=gb) I I:=Yak _ _;have bo:=E.o I aZ;obtain⟨bn,cY⟩:=aH.o I (Yak _ _);have cW:=(aH.o (I.alloc (.cells #[entV B c] 77)) ((Yak _ _).alloc _)).1;have bE:=Hd ax;have bz:=Hd a0;have a3:=Hd bZ;have bK:=Hd bg;have bP:=Hd b9;clear a0 b2 cx ax bL bv bQ bJ bZ bg b9;have am:Hid (∀y q w2,Only (fun k=>l.ownBlock=some k\/k=gb) I w2->Only (fun k=>l.ownBlock=some k) I w2->TRow 1 77 (EntP B) lo w2 (.slice y (m+1:Nat) q) (s.opn++[c]) ((s.opn++[c]).map (entV B))->((Value.slice y (m+1:Nat) q).ownBlock=l.ownBlock\/∀g,(Value.slice y (m+1:Nat) q).ownBlock=some g->I.heap.size<=g)->
   ∃Q R,Mo B M gb gm gl lo es.length G s c l W (.slice Q (m+1:Nat) R) ((s.opn++[c]).map (entV B)) (w2.setCell ⟨gb,2,none⟩ (.slice y (m+1:Nat) q))):=Hd (fun y q w2 aT V aB au=>by
  have ca:=aL.o;have cz:=bz.o;have z:=ay.o;have K:Only (fun k=>k=gb) w2 (w2.setCell ⟨gb,2,none⟩ (.slice y (m+1:Nat) q)):=(Yak (fun k=>k=gb) w2).setCell (p:=⟨gb,2,none⟩) rfl _;have aX:∀k,k<lo->¬l.ownBlock=some k:=fun k bq ag=>by have:=aj.o k ag;omega
  have bH:Below M.heap.size M w2:=F.o.bel.trans (V.below F.o.bel.size (fun k bq=>by have ak:=aj.o k bq;have ao:=z.lb;have bk:=z.ub;omega));refine⟨y,q,⟨⟨(F.o.box.keep V bK.o).set 2 _,(F.o.met.keep V (aX gm z.um)).keep K (fun e=>z.bm e.symm),(F.o.loop.keep V (aX gl z.ul)).keep K (fun e=>z.bl e.symm),aB.past (EntP.st B) K (fun k bq (e:k=gb)=>by have:=z.ub;omega),bH.trans (K.below bH.size (fun k (e:k=gb)=>by have:=z.lb;omega)),Yaj (Yaj F.o.low V.size) K.size⟩,(aQ.o.keep V a3.o).keep K bP.o,fun ag=>?_,⟨?_,?_⟩⟩⟩
  ·rcases au with e|e
   ·exact a3.o (e▸ag)
   ·have:=e G ag;omega
  ·exact(((Yae a7.o).trans (V.mono (fun i _ Y=>.inr (.inr (.inr Y))))).setCell (p:=⟨gb,2,none⟩) (.inl rfl) _)
  ·rcases au with e|e
   ·exact .inl e
   ·exact .inr (fun g U=>by have:=e g U;omega))
 go_cut [] (fun c1=>∃Q R,Mo B M gb gm gl lo es.length G s c l W (.slice Q (m+1:Nat) R) ((s.opn++[c]).map (entV B)) c1)
 case first=>
  -- BEGIN REGION
  refine wp_region_held_drew (S:=fun N=>N.cell? ⟨G,0,none⟩=some (.pointer (some ⟨gb,0,none⟩))) (by kernel_rfl) (by exact bo) (fun h=>?_);refine Zd6 (i:=0) 13 (v:=?_) rfl rfl (by kernel_rfl) (by kernel_rfl) (by kernel_rfl) (fun _ _ _ Y=>Y) (Or.inl ⟨by rfl,?_⟩) (by assumption) ?_;rotate_left
  ·(intro W ac;(try dsimp only at ac);go_simp;try with_reducible rfl)
  simp only[Act.put,YbX,Ybu,YbC];refine Zd6 (i:=1) 14 (v:=?_) rfl rfl (by kernel_rfl) (by kernel_rfl) (by kernel_rfl) (fun _ _ _ Y=>Y) (Or.inl ⟨by rfl,?_⟩) (by assumption) ?_;rotate_left
  ·(intro W ac;(try dsimp only at ac);go_simp;try with_reducible rfl)
  simp only[Act.put,YbX,Ybu,YbC];refine Zd6 (i:=2) 15 (v:=?_) rfl rfl (by kernel_rfl) (by kernel_rfl) (by kernel_rfl) (fun _ _ _ Y=>Y) (Or.inl ⟨by rfl,?_⟩) (by assumption) ?_;rotate_left
  ·(intro W ac;(try dsimp only at ac);go_simp;try with_reducible rfl)
  simp only[Act.put,YbX,Ybu,YbC];refine Zd6 (i:=3) 16 (v:=?_) rfl rfl (by kernel_rfl) (by kernel_rfl) (by kernel_rfl) (fun _ _ _ Y=>Y) (Or.inl ⟨by rfl,?_⟩) (by assumption) ?_;rotate_left
  ·(intro W ac;(try dsimp only at ac);go_simp;try with_reducible rfl)
  simp only[Act.put,YbX,Ybu,YbC];refine wpAnyH_ready (rs:=[4,5]) (by kernel_rfl) (by simp) ?_;refine AllReadyH.cons rfl (fun H a=>?_) ?_
  ·go_simp
   refine a.out _ _ (by(refine E.o _ ?_;(with_reducible repeat (first|exact Yak _ _|assumption|refine Ybs ?_|refine Ybp ?_ _|refine Ybf ?_ (Or.inr rfl) _)))) (fun h=>?_);clear a H;refine wpAnyH_ready (rs:=[5]) (by kernel_rfl) (by simp) ?_;refine AllReadyH.cons rfl (fun H a=>?_) ?_
   ·go_simp
    refine a.out _ _ (by(refine E.o _ ?_;(with_reducible repeat (first|exact Yak _ _|assumption|refine Ybs ?_|refine Ybp ?_ _|refine Ybf ?_ (Or.inr rfl) _)))) (fun h=>?_);clear a H;refine wpAnyH_ready (rs:=[6]) (by kernel_rfl) (by simp) ?_;refine AllReadyH.cons rfl (fun H a=>?_) ?_
    ·go_simp
     refine a.out _ _ (by(refine E.o _ ?_;(with_reducible repeat (first|exact Yak _ _|assumption|refine Ybs ?_|refine Ybp ?_ _|refine Ybf ?_ (Or.inr rfl) _)))) (fun h=>?_);clear a H;refine wpAnyH_ready (rs:=[7]) (by kernel_rfl) (by simp) ?_;refine AllReadyH.cons rfl (fun H a=>?_) ?_
     ·refine Zdh (by rfl) _ _ 71 (by rfl) _ _ (by rfl) (by rfl) (aJ.o _ _ _ ?_ ?_ ?_) ?_
      ·(with_reducible repeat (first|exact Yab _ _|assumption|refine Zab ?_|refine Zaa ?_ _))
      ·exact Yad _
      ·first|exact Box.new _ _ _|exact(Box.new _ _ _).below (Zab (Yab _ _))
      rintro cl w2⟨y,q,rfl,bh,br,aT,V,aB,au⟩;refine a.out _ _ (by(refine E.o _ ?_;(with_reducible repeat (first|exact Yak _ _|assumption|refine Ybs ?_|refine Ybp ?_ _|refine Ybf ?_ (Or.inr rfl) _)))) (fun h=>?_);clear a H;refine wpAnyH_ready (rs:=[8]) (by kernel_rfl) (by simp) ?_;refine AllReadyH.cons rfl (fun H a=>?_) ?_
      ·go_simp
       refine a.out _ _ (by(refine E.o _ ?_;(with_reducible repeat (first|exact Yak _ _|assumption|refine Ybs ?_|refine Ybp ?_ _|refine Ybf ?_ (Or.inr rfl) _)))) (fun h=>?_);clear a H;refine wpAnyH_ready (rs:=[9]) (by kernel_rfl) (by simp) ?_;refine AllReadyH.cons rfl (fun H a=>?_) ?_
       ·go_simp
        refine a.out _ _ (by(refine E.o _ ?_;(with_reducible repeat (first|exact Yak _ _|assumption|refine Ybs ?_|refine Ybp ?_ _|refine Ybf ?_ (Or.inr rfl) _)))) (fun h=>?_);clear a H;refine wpAnyH_ready (rs:=[10]) (by kernel_rfl) (by simp) ?_;refine AllReadyH.cons rfl (fun H a=>?_) ?_
        ·go_simp
         refine a.out _ _ (by(refine E.o _ ?_;(with_reducible repeat (first|exact Yak _ _|assumption|refine Ybs ?_|refine Ybp ?_ _|refine Ybf ?_ (Or.inr rfl) _)))) (fun h=>?_);clear a H;refine wpAnyH_done (by kernel_rfl) ?_ _;go_wp2_with fail;go_meet
         exact am.o _ _ _ aT V aB au
        exact AllReadyH.nil
       exact AllReadyH.nil
      exact AllReadyH.nil
     exact AllReadyH.nil
    exact AllReadyH.nil
   exact AllReadyH.nil
  refine AllReadyH.cons rfl (fun H a=>?_) ?_
  ·go_simp
   refine a.out _ _ (by(refine E.o _ ?_;(with_reducible repeat (first|exact Yak _ _|assumption|refine Ybs ?_|refine Ybp ?_ _|refine Ybf ?_ (Or.inr rfl) _)))) (fun h=>?_);clear a H;refine wpAnyH_ready (rs:=[4,6]) (by kernel_rfl) (by simp) ?_;refine AllReadyH.cons rfl (fun H a=>?_) ?_
   ·go_simp
    refine a.out _ _ (by(refine E.o _ ?_;(with_reducible repeat (first|exact Yak _ _|assumption|refine Ybs ?_|refine Ybp ?_ _|refine Ybf ?_ (Or.inr rfl) _)))) (fun h=>?_);clear a H;refine wpAnyH_ready (rs:=[6]) (by kernel_rfl) (by simp) ?_;refine AllReadyH.cons rfl (fun H a=>?_) ?_
    ·go_simp
     refine a.out _ _ (by(refine E.o _ ?_;(with_reducible repeat (first|exact Yak _ _|assumption|refine Ybs ?_|refine Ybp ?_ _|refine Ybf ?_ (Or.inr rfl) _)))) (fun h=>?_);clear a H;refine wpAnyH_ready (rs:=[7]) (by kernel_rfl) (by simp) ?_;refine AllReadyH.cons rfl (fun H a=>?_) ?_
     ·refine Zdh (by rfl) _ _ 71 (by rfl) _ _ (by rfl) (by rfl) (aJ.o _ _ _ ?_ ?_ ?_) ?_
      ·(with_reducible repeat (first|exact Yab _ _|assumption|refine Zab ?_|refine Zaa ?_ _))
      ·exact Yad _
      ·first|exact Box.new _ _ _|exact(Box.new _ _ _).below (Zab (Yab _ _))
      rintro cl w2⟨y,q,rfl,bh,br,aT,V,aB,au⟩;refine a.out _ _ (by(refine E.o _ ?_;(with_reducible repeat (first|exact Yak _ _|assumption|refine Ybs ?_|refine Ybp ?_ _|refine Ybf ?_ (Or.inr rfl) _)))) (fun h=>?_);clear a H;refine wpAnyH_ready (rs:=[8]) (by kernel_rfl) (by simp) ?_;refine AllReadyH.cons rfl (fun H a=>?_) ?_
      ·go_simp
       refine a.out _ _ (by(refine E.o _ ?_;(with_reducible repeat (first|exact Yak _ _|assumption|refine Ybs ?_|refine Ybp ?_ _|refine Ybf ?_ (Or.inr rfl) _)))) (fun h=>?_);clear a H;refine wpAnyH_ready (rs:=[9]) (by kernel_rfl) (by simp) ?_;refine AllReadyH.cons rfl (fun H a=>?_) ?_
       ·go_simp
        refine a.out _ _ (by(refine E.o _ ?_;(with_reducible repeat (first|exact Yak _ _|assumption|refine Ybs ?_|refine Ybp ?_ _|refine Ybf ?_ (Or.inr rfl) _)))) (fun h=>?_);clear a H;refine wpAnyH_ready (rs:=[10]) (by kernel_rfl) (by simp) ?_;refine AllReadyH.cons rfl (fun H a=>?_) ?_
        ·go_simp
         refine a.out _ _ (by(refine E.o _ ?_;(with_reducible repeat (first|exact Yak _ _|assumption|refine Ybs ?_|refine Ybp ?_ _|refine Ybf ?_ (Or.inr rfl) _)))) (fun h=>?_);clear a H;refine wpAnyH_done (by kernel_rfl) ?_ _;go_wp2_with fail;go_meet
         exact am.o _ _ _ aT V aB au
        exact AllReadyH.nil
       exact AllReadyH.nil
      exact AllReadyH.nil
     exact AllReadyH.nil
    exact AllReadyH.nil
   refine AllReadyH.cons rfl (fun H a=>?_) ?_
   ·go_simp
    refine a.out _ _ (by(refine E.o _ ?_;(with_reducible repeat (first|exact Yak _ _|assumption|refine Ybs ?_|refine Ybp ?_ _|refine Ybf ?_ (Or.inr rfl) _)))) (fun h=>?_);clear a H;refine wpAnyH_ready (rs:=[4]) (by kernel_rfl) (by simp) ?_;refine AllReadyH.cons rfl (fun H a=>?_) ?_
    ·go_simp
     refine a.out _ _ (by(refine E.o _ ?_;(with_reducible repeat (first|exact Yak _ _|assumption|refine Ybs ?_|refine Ybp ?_ _|refine Ybf ?_ (Or.inr rfl) _)))) (fun h=>?_);clear a H;refine wpAnyH_ready (rs:=[7]) (by kernel_rfl) (by simp) ?_;refine AllReadyH.cons rfl (fun H a=>?_) ?_
     ·refine Zdh (by rfl) _ _ 71 (by rfl) _ _ (by rfl) (by rfl) (aJ.o _ _ _ ?_ ?_ ?_) ?_
      ·(with_reducible repeat (first|exact Yab _ _|assumption|refine Zab ?_|refine Zaa ?_ _))
      ·exact Yad _
      ·first|exact Box.new _ _ _|exact(Box.new _ _ _).below (Zab (Yab _ _))
      rintro cl w2⟨y,q,rfl,bh,br,aT,V,aB,au⟩;refine a.out _ _ (by(refine E.o _ ?_;(with_reducible repeat (first|exact Yak _ _|assumption|refine Ybs ?_|refine Ybp ?_ _|refine Ybf ?_ (Or.inr rfl) _)))) (fun h=>?_);clear a H;refine wpAnyH_ready (rs:=[8]) (by kernel_rfl) (by simp) ?_;refine AllReadyH.cons rfl (fun H a=>?_) ?_
      ·go_simp
       refine a.out _ _ (by(refine E.o _ ?_;(with_reducible repeat (first|exact Yak _ _|assumption|refine Ybs ?_|refine Ybp ?_ _|refine Ybf ?_ (Or.inr rfl) _)))) (fun h=>?_);clear a H;refine wpAnyH_ready (rs:=[9]) (by kernel_rfl) (by simp) ?_;refine AllReadyH.cons rfl (fun H a=>?_) ?_
       ·go_simp
        refine a.out _ _ (by(refine E.o _ ?_;(with_reducible repeat (first|exact Yak _ _|assumption|refine Ybs ?_|refine Ybp ?_ _|refine Ybf ?_ (Or.inr rfl) _)))) (fun h=>?_);clear a H;refine wpAnyH_ready (rs:=[10]) (by kernel_rfl) (by simp) ?_;refine AllReadyH.cons rfl (fun H a=>?_) ?_
        ·go_simp
         refine a.out _ _ (by(refine E.o _ ?_;(with_reducible repeat (first|exact Yak _ _|assumption|refine Ybs ?_|refine Ybp ?_ _|refine Ybf ?_ (Or.inr rfl) _)))) (fun h=>?_);clear a H;refine wpAnyH_done (by kernel_rfl) ?_ _;go_wp2_with fail;go_meet
         exact am.o _ _ _ aT V aB au
        exact AllReadyH.nil
       exact AllReadyH.nil
      exact AllReadyH.nil
     exact AllReadyH.nil
    exact AllReadyH.nil
   exact AllReadyH.nil
  exact AllReadyH.nil

 case rest=>
  obtain⟨Q,R,aw⟩:=hcut;have af:=Hd aw;have b2:=aw.box2.cell 0 rfl;have b8:=aw.gr.box.cell 1 rfl;have c0:=aw.gr.box.free 1;clear aw am aJ E aH bo bn cY cW aZ aW aQ F a7 bz a3 bK a6;have bD:s.cnt+1<=1048576:=by have ak:=aO.o.1.cnt;have ao:(Za0 s c).cnt=s.cnt+1:=rfl;have:=ah.o;omega
  have c7:(0:Int)<=(s.cnt:Int):=by omega
  have c6:(s.cnt:Int)<=1048576:=by omega
  have cg:Hid ((s.cnt:Int)+1=((s.cnt+1:Nat):Int)):=Hd (by omega);have cE:=Hd bD;clear bD;go_upto_region 4 with fail;have bx:(fun N=>Mo B M gb gm gl lo es.length G ⟨s.met,s.cnt+1,s.opn,s.loop⟩ c l W (.slice Q (m+1:Nat) R) ((s.opn++[c]).map (entV B)) N) (wc.setCell ⟨gb,1,none⟩ (.int .i64 ((s.cnt:Int)+1))):=by
   have z:=ay.o;have K:Only (fun k=>k=gb) wc (wc.setCell ⟨gb,1,none⟩ (.int .i64 ((s.cnt:Int)+1))):=(Yak (fun k=>k=gb) wc).setCell (p:=⟨gb,1,none⟩) rfl _;have U:=af.o.gr;refine⟨⟨?_,U.met.keep K (fun e=>z.bm e.symm),U.loop.keep K (fun e=>z.bl e.symm),U.opn.past (EntP.st B) K (fun k bq (e:k=gb)=>by have:=z.ub;omega),U.bel.trans (K.below U.bel.size (fun k (e:k=gb)=>by have:=z.lb;omega)),Yaj U.low K.size⟩,af.o.box2.keep K bP.o,af.o.own2,⟨af.o.fr.only.setCell (p:=⟨gb,1,none⟩) (.inl rfl) _,af.o.fr.came⟩⟩;have ag:=U.box.set 1 (.int .i64 ((s.cnt:Int)+1));rw[cg.o]at ag⊢;exact ag
  refine Zau _ bx ?_;intro Z bR;have J:=Hd bR;have aP:Hid (∀N,Below Z.heap.size Z N->N.cell? ⟨G,0,none⟩=some (.pointer (some ⟨gb,0,none⟩))/\N.cell? ⟨gb,1,none⟩=some (.int .i64 ((s.cnt+1:Nat):Int))):=Hd (fun N T=>⟨(J.o.box2.below T).cell 0 rfl,(J.o.gr.box.below T).cell 1 rfl⟩);have aZ:Below Z.heap.size Z Z:=Yab _ _;obtain⟨bo,bn⟩:=aP.o Z aZ;clear bx bR af b2 b8 c0;generalize aG:((s.cnt+1:Nat):Int)=aa at aP bn;have ar:=Hd aG;clear aG;go_upto_region 4 with fail
  (go_region_held3 (fun N=>N.cell? ⟨G,0,none⟩=some (.pointer (some ⟨gb,0,none⟩))/\N.cell? ⟨gb,1,none⟩=some (.int .i64 aa)) ((refine aP.o _ ?_;(repeat (first|(with_reducible exact Yab _ _)|(with_reducible assumption)|(with_reducible refine Zab ?_)|(with_reducible refine Zaa ?_ _)|((with_reducible refine Below.setCell ?_ ?_ _);rotate_left;(focus (first|omega|(simp;done)|(simp;omega)))))))) (fail))
  all_goals
   go_upto_region 5 with fail;obtain⟨O,a2⟩:∃O,O=Z.heap.size:=⟨_,rfl⟩
   rw[←a2];have bG:Me B M gb gm gl lo es.length G O s c l W (.slice Q (m+1:Nat) R) ((s.opn++[c]).map (entV B)) ((Z.alloc (.cells #[.int .i64 aa] 3)).drew):=by
    have ae:Below Z.heap.size Z ((Z.alloc (.cells #[.int .i64 aa] 3)).drew):=Zab (Zaa (Yab _ _) _);have aU:=(Box.new Z #[.int .i64 aa] 3).below (Zab (Yab _ _));rw[←a2,←ar.o]at aU;have ao:=J.o.box2.lt;have bk:=J.o.gr.low;have cB:=J.o.fr.only.size;have ch:=aL.o;have cO:=J.o.gr.opn.lt;have dl:=cv.o;exact⟨J.o.gr.keep ae,J.o.box2.below ae,by rw[←ar.o];exact aU,J.o.own2,fun ag=>by(have:=cO O ag;omega),⟨J.o.fr.only.trans (Yae ae),J.o.fr.came⟩,⟨by omega,by omega,by omega,by omega,by omega⟩⟩
   refine Zau (Me B M gb gm gl lo es.length G O s c l W (.slice Q (m+1:Nat) R) ((s.opn++[c]).map (entV B))) bG ?_;intro ad D;have C:=Hd D;have bs:=D.box2.cell 0 rfl;have cU:ad.cell? ⟨gb,0,none⟩=some (.slice (some ⟨gm,0,none⟩) n n):=by rw[cb.o];exact D.gr.box.cell 0 rfl
   have cP:ad.cell? ⟨B c,0,none⟩=some (.int .i64 c):=by
    obtain⟨_,_,_,_,ca,_,_,_,_⟩:=(bp.o.below D.gr.bel).ent c e b7.o;exact ca.cell 0 rfl
   have aG:c<n:=by rw[cb.o];exact a8.o
   obtain⟨cj,cZ⟩:∃cj,ad.cell? ⟨gm,c,none⟩=some cj:=by
    have ag:=D.gr.met.at_ c a8.o;have cV:=D.gr.met.len;exact⟨_,ag.trans (Yaa (by rw[cV];exact a8.o))⟩
   have c3:=D.gr.met.free c;have da:(0:Int)<=(c:Int):=by omega
   have c8:(c:Int)<(n:Int):=by omega
   clear bG D bo bn aP aZ J a2 aG;go_region
   all_goals
    have bN:Mt B M gb gm gl lo es.length G O l W (Za0 s c,s.cnt+1) (.slice Q (m+1:Nat) R) ((s.opn++[c]).map (entV B)) ((ad.setCell ⟨gm,c,none⟩ (.int .i64 aa)).drew):=by
     have z:=ay.o;have bt:=C.o.r;have ak:=bt.l2;have ao:=bt.l7;have K:Only (fun k=>k=gm) ad (ad.setCell ⟨gm,c,none⟩ (.int .i64 aa)):=(Yak (fun k=>k=gm) ad).setCell (p:=⟨gm,c,none⟩) rfl _;have ae:Below (ad.setCell ⟨gm,c,none⟩ (.int .i64 aa)).heap.size (ad.setCell ⟨gm,c,none⟩ (.int .i64 aa)) ((ad.setCell ⟨gm,c,none⟩ (.int .i64 aa)).drew):=Zab (Yab _ _);have X:=(C.o.gr.note z c (s.cnt+1)).drew;unfold intV at X;rw[ar.o]at X;exact⟨X,(C.o.box2.keep K (fun e=>by have:=z.um;omega)).below ae,(C.o.box7.keep K (fun e=>by have:=z.um;omega)).below ae,C.o.own2,C.o.own7,⟨(C.o.fr.only.setCell (p:=⟨gm,c,none⟩) (.inr (.inl rfl)) _).drew,C.o.fr.came⟩⟩
    have cD:=Hd C.o.r;clear bs cU cP cZ c3 C;go_upto_region 6 with fail;refine Zau (Mt B M gb gm gl lo es.length G O l W (Za0 s c,s.cnt+1) (.slice Q (m+1:Nat) R) ((s.opn++[c]).map (entV B))) bN ?_;intro cN bA;clear bN;have ap:=ZcY b7.o;have ai:∀d∈e.par,d<es.length:=fun d cR=>ba.o c d (by rw[ap];exact cR);have bd:∀k,GI es.length ((e.par.take k).foldl (ZbL (ZaW es f)) (Za0 s c,s.cnt+1)).1/\Za7 ((e.par.take k).foldl (ZbL (ZaW es f)) (Za0 s c,s.cnt+1)).1.met<=f/\m<((e.par.take k).foldl (ZbL (ZaW es f)) (Za0 s c,s.cnt+1)).1.opn.length:=fun k=>by
     obtain⟨bj,bX,cQ,_⟩:=Zn9 ah.o ba.o f (e.par.take k) (Za0 s c,s.cnt+1) aO.o.1 (by have:=cE.o;show s.cnt+1<=9223372036854775807;omega) (Zk2 ai);have ak:=aO.o.2.1;have ao:=aO.o.2.2;have bk:=bi.o;have cB:=aC.o;dsimp only at bX cQ;exact⟨bj,by omega,by omega⟩
    have a1:=Hd bd;have az:Zjy B 139 #[.pointer (some ⟨G,0,none⟩),.pointer (some ⟨O,0,none⟩)] e.par (fun k N=>∃aF aI,Mt B M gb gm gl lo es.length G O l W ((e.par.take k).foldl (ZbL (ZaW es f)) (Za0 s c,s.cnt+1)) aF aI N) (fun _ _=>False):=by
     rintro k d N aU⟨aF,aI,aq⟩;obtain⟨bj,bX,_⟩:=a1.o k;refine(ZmN bp.o ay.o cD.o (ZaW es f) d (ai d (Yaf aU)) _ aF aI N bj (fun cz dm U=>cK.o _ aF aI d dm (ai d (Yaf aU)) cz bj bX U) aq).mono ?_;rintro de df⟨rfl,cJ,cu,cL⟩;refine⟨false,rfl,(fun Y=>by cases Y),fun _=>⟨cJ,cu,?_⟩⟩;rw[Zds (ZbL (ZaW es f)) aU];exact cL
    have db:=Ymf;have bT:=Hd (Zgm bp.o 139 #[.pointer (some ⟨G,0,none⟩),.pointer (some ⟨O,0,none⟩)] c e b7.o _ _ cN (Zac func139 (by kernel_rfl) rfl) (fun k w' ⟨_,_,Y⟩=>Y.gr.bel) ⟨_,_,bA⟩ az cm.o);have al:=a1.o e.par.length;rw[YaE]at al;have ab:=Hd al;have cf:=Hd ap;clear az ap ai bd al bA;go_wp2_with fail;refine bT.o.mono ?_;rintro dh cr⟨b,rfl,ct,bU⟩;cases b with
    |true=>obtain⟨_,_,Y⟩:=ct rfl;exact Y.elim
    |false=>
     obtain⟨bu,bF,D⟩:=bU rfl;rw[YaE]at D;have cy:ZaW es (f+1) s c=Zem s (e.par.foldl (ZbL (ZaW es f)) (Za0 s c,s.cnt+1)):=by
      rw[ZaW,cf.o]
     have bb:=Hd cy;clear ct bU cy bT;generalize e.par.foldl (ZbL (ZaW es f)) (Za0 s c,s.cnt+1)=t at D ab bb;obtain⟨t,v⟩:=t;have bs:=D.box2.cell 0 rfl;have b3:cr.cell? ⟨O,0,none⟩=some (.int .i64 (v:Nat)):=D.box7.cell 0 rfl;have C:=Hd D;clear D;by_cases aY:v=s.cnt+1
     ·have a4:(v:Int)=aa:=by rw[aY];exact ar.o
      have bC:∀d∈t.opn,d<es.length:=ab.o.1.opn;have cw:=Hd (ZlN bp.o ay.o ah.o t bu bF cr m C.o.gr ab.o.2.2 bC (by have ak:=ab.o.1.olen;have ao:=ah.o;dsimp only at ak;omega));rw[a4]at b3;have cF:=Hd a4;have cT:=Hd aY;clear bC a4 aY;go_wp2_with fail;refine cw.o.mono ?_;rintro dn cX⟨rfl,ci,co,bw,bS,aA⟩;have cA:¬(O=gb\/O=gm\/O=gl):=by
       have z:=ay.o;have ak:=cD.o.l7;have ao:=z.ub;have bk:=z.um;have cB:=z.ul;omega
      have dk:cX.cell? ⟨O,0,none⟩=some (.int .i64 aa):=aA.cell b3 cA;have cs:=Hd bw;have cc:=Hd bS;have cC:=Hd aA;clear bs b3 bw bS aA cw cA;go_wp2;go_ret;rw[bb.o];have b0:Zem s (t,v)=(Zb0 t m,v):=by unfold Zem;rw[Yay cT.o,aC.o]
      rw[b0,show Value.slice aR s.opn.length aS=l by rw[bE.o,aC.o]];refine⟨by rw[←cF.o];rfl,ci,co,cs.o,(C.o.fr).trans ⟨cC.o.mono (fun i _ Y=>?_),.inl cc.o⟩⟩;rcases Y with Y|Y|Y
      ·exact .inl Y
      ·exact .inr (.inl Y)
      ·exact .inr (.inr (.inl Y))
     ·have c5:((v:Int)==aa)=false:=by
       rw[Yah,←ar.o];omega
      have cq:=Hd aY;clear bs aY;go_wp2;go_ret;rw[bb.o];have b0:Zem s (t,v)=(t,v):=by unfold Zem;rw[Yar cq.o]
      rw[b0,show Value.slice aR s.opn.length aS=l by rw[bE.o,aC.o]];exact⟨rfl,bu,bF,C.o.gr,C.o.fr⟩
theorem Zk1 {A:Nat->Prop}{B:Nat->Nat}{v u:Nat}{es:List Ent}{h:World}(t:Tab A h v u B es){gb gm gl lo:Nat}(p:GrS h.heap.size gb gm gl lo)(b:es.length<=1048576)(l:∀(i:Nat) (e:Ent),es[i]?=some e->e.lk.length<=9223372036854775807)
  (a:∀c,∀d∈parE es c,d<es.length):∀(f:Nat) (s:Grp) (g:Value) (k:List Value) (d:Nat) (W:World),d<es.length->s.met.getD d 0=0->GI es.length s->Za7 s.met<=f->Gr B h gb gm gl lo es.length s g k W->
   Calls prog 84 #[.pointer (some ⟨gb,0,none⟩),entV B d] W (Zp3 B h gb gm gl lo es.length g W (ZaW es f s d))
 |0,s,g,k,d,W,j,m,n,r,q=>absurd m (ZgX (by rw[n.mlen];exact j) (by omega))
 |f+1,s,g,k,d,W,j,m,n,r,q=>ZoO t p b f d es[d] (Yaa j) (l d _ (Yaa j)) a (Zk1 t p b l a f) s g k W m n r q
