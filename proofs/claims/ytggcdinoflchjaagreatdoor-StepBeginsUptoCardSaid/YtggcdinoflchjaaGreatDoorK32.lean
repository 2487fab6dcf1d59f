/- laws -/
import Derived.Test.YtggcdinoflchjaaGreatDoorK31
set_option maxRecDepth 100000
set_option maxHeartbeats 16000000
namespace Go.Proofs.YtggcdinoflchjaaGreatDoor
open Go.RowKit
theorem ZdM {P:Program} {md:Region.Mode} {ops:Array Oper} {Q:Exit->Act->World->Prop} {S:World->Prop} {i:Nat} {oi:Oper} {v:Value} {fuel:Nat} {listed:Array Bool} {a:Act} {w:World} (d:Nat) (hi:ops[i]? = some oi) (hd:oi.dst=some d)
  (hs:Region.noSelect ops=true) (hf:Region.free md ops listed i=true) (hr:(Region.ready md ops listed).contains i=true)
  (hQ:∀ c a w,Q (.panic c) (a.put oi.dst v) w->Q (.panic c) a w) (hy:YieldsIf P ops S oi v a) (hS:S w)
  (h:wpAnyH P md ops Q S fuel (listed.setIfInBounds i true) (a.put (some d) v) w):wpAnyH P md ops Q S (fuel+1) listed a w:=
 wpAnyH_take hi hs hf hr hQ hy hS (by rw [hd];exact h)
theorem Zc2 {P:Program} {w:World} {ops:Array Oper} {o:Oper} {a:Act} {K:Act->World->Prop} {Q:Exit->Act->World->Prop} {E:Prop} (hgd:o.guard=none) (s x:Operand) (t:TypeId)
  (ho:o.op=.call { callee:=.builtin .append,args:=#[s,x],argTypes:=#[t,t] }) (sv xv:Value) (hs:a.eval s=sv) (hx:a.eval x=xv) {G:Value->World->Prop}
  (hrun:∃ v' w',(Builtin.append_ #[t,t] o.type #[sv,xv]).run P w=.ok v' w'/\G v' w') (h:∀ v' w',G v' w'->K (a.put o.dst v') w') :
  if Region.wanted o (yielded ops a.tmps)=true then Oper.wp P o a w K Q else E:=by
 obtain ⟨v',w',hr,hg⟩:=hrun;exact ZaY hgd s x t ho sv xv v' w' hs hx hr (h v' w' hg)
theorem ZpO {α:Type} {f:α->Value} {n:Nat} {t:TypeId} {lo:Nat} {w:World} {v:Value} {m:List α} {us:List Value} (h:TRow n t (Flat f) lo w v m us):us=m.map f:=by
 apply Yb3
 intro k;rw [Yau];cases hx:m[k]? with
 | some x=>
  obtain ⟨u,h1,h2⟩:=h.each k x hx;rw [h1];exact Ya5 some h2
 | none=>
  rw [List.getElem?_eq_none_iff] at hx;have:=h.len;exact YaN (by omega)
structure Mo (B:Nat->Nat) (w0:World) (gb gm gl lo n b2:Nat) (s:Grp) (c:Nat) (ov0:Value) (W0:World) (ov:Value) (us:List Value) (W:World):Prop where
 gr:Gr B w0 gb gm gl lo n ⟨s.met,s.cnt,s.opn++[c],s.loop⟩ ov us W
 box2:Box W b2 #[.pointer (some ⟨gb,0,none⟩)] 117
 own2:ov.ownBlock ≠ some b2
 fr:GrF gb gm gl ov0 W0 ov W
structure Me (B:Nat->Nat) (w0:World) (gb gm gl lo n b2 b7:Nat) (s:Grp) (c:Nat) (ov0:Value) (W0:World) (ov:Value) (us:List Value) (W:World):Prop where
 gr:Gr B w0 gb gm gl lo n ⟨s.met,s.cnt+1,s.opn++[c],s.loop⟩ ov us W
 box2:Box W b2 #[.pointer (some ⟨gb,0,none⟩)] 117
 box7:Box W b7 #[.int .i64 ((s.cnt+1:Nat):Int)] 3
 own2:ov.ownBlock ≠ some b2
 own7:ov.ownBlock ≠ some b7
 fr:GrF gb gm gl ov0 W0 ov W
 r:MtS lo b2 b7 W0
theorem ZmQ {A:Nat->Prop} {B:Nat->Nat} {T mb:Nat} {es:List Ent} {w0:World} (hT:Tab A w0 T mb B es) {gb gm gl lo:Nat} (hq:GrS w0.heap.size gb gm gl lo) (hlen:es.length<=1048576) (f c:Nat) (e:Ent) (he:es[c]? = some e) (hlk:e.lk.length<=9223372036854775807)
  (hpar:∀ c,∀ d ∈ parE es c,d<es.length)
  (ih:∀ (s:Grp) (ov:Value) (us:List Value) (d:Nat) (W:World),d<es.length->s.met.getD d 0=0->GI es.length s->ZaZ s.met<=f->Gr B w0 gb gm gl lo es.length s ov us W->Calls Tryz.prog 108 #[.pointer (some ⟨gb,0,none⟩),entV B d] W (ZnZ B w0 gb gm gl lo es.length ov W (ZaQ es f s d)))
  (s:Grp) (ov:Value) (us:List Value) (W:World) (hw:s.met.getD c 0=0) (hG:GI es.length s) (hleft:ZaZ s.met<=f+1) (hs:Gr B w0 gb gm gl lo es.length s ov us W) :
  Calls Tryz.prog 108 #[.pointer (some ⟨gb,0,none⟩),entV B c] W (ZnZ B w0 gb gm gl lo es.length ov W (ZaQ es (f+1) s c)):=by
 have hcl:=(Yag.1 he).1;obtain ⟨j0,hji,hz0,hz1,hz2⟩:=info_parts Zea;obtain ⟨n,hn⟩:∃ n,n=es.length:=⟨_,rfl⟩
 obtain ⟨ao,cp,rfl⟩:=hs.opn.shape;obtain ⟨m,hm⟩:∃ m,m=s.opn.length:=⟨_,rfl⟩
 have hb0:Below W.heap.size W (W.alloc (.cells #[.pointer (some ⟨gb,0,none⟩)] 117)):=(Yab _ W).alloc (Yac _) _;have HS1:=Hd (hs.keep hb0);have X2:=Hd (Box.new W #[.pointer (some ⟨gb,0,none⟩)] 117);have HW0:=Hd hb0;have HLOW:=Hd hs.low;have HLW:=Hd hs.low;have HLT:Hid (∀ g,(Value.slice ao m cp).ownBlock=some g->g<W.heap.size):=Hd (by rw [hm];exact hs.opn.lt);have HOWN:Hid (∀ g,(Value.slice ao m cp).ownBlock=some g->lo<=g):=Hd (by rw [hm];exact hs.opn.own);have hs1:(W.alloc (.cells #[.pointer (some ⟨gb,0,none⟩)] 117)).heap.size=W.heap.size+1:=by simp
 have c2:(W.alloc (.cells #[.pointer (some ⟨gb,0,none⟩)] 117)).cell? ⟨gb,2,none⟩=some (.slice ao m cp):=by rw [hm];exact HS1.o.box.cell 2 rfl
 have c1:(W.alloc (.cells #[.pointer (some ⟨gb,0,none⟩)] 117)).cell? ⟨gb,1,none⟩=some (.int .i64 s.cnt):=HS1.o.box.cell 1 rfl;have hG2:=(hG.enter hlen hcl hw);have hml:m+1<=1048576:=by have:=hG2.1.olen;have h5:=hG2.2.2;rw [←hm] at h5;omega
 have HE:=Hd he;have HQ:=Hd hq;have HT:=Hd hT;have HG:=Hd hG;have HG2:=Hd hG2;have HIH:=Hd ih;have HPAR:=Hd hpar;have HLEFT:=Hd hleft;have HLEN:=Hd hlen;have HLK:=Hd hlk;have HM:=Hd hm;have HN:=Hd hn;have HCL:=Hd hcl;have HWH:=Hd hw;have HB:=Hd hs.bel.size;clear hs hb0 hG hq hT he ih hpar hleft hlen hlk hn hcl hw hm hG2;go_enter Tryz.func108,Tryz.ntmps108
 go_upto_region 1 with fail
 obtain ⟨b2,hb2⟩:∃ b2,b2=W.heap.size:=⟨_,rfl⟩
 rw [←hb2] at X2 ⊢;have HB2:=Hd hb2;generalize W.alloc (.cells #[.pointer (some ⟨gb,0,none⟩)] 117)=W1 at HS1 X2 HW0 hs1 c2 c1 ⊢;have c0:W1.cell? ⟨b2,0,none⟩=some (.pointer (some ⟨gb,0,none⟩)):=X2.o.cell 0 rfl;clear hb2
 go_upto_region 2 with fail
 obtain ⟨ov,hov⟩:∃ ov,ov=Value.slice ao m cp:=⟨_,rfl⟩
 have hrow0:=HS1.o.opn;rw [←HM.o,←hov] at hrow0;have HR0:=Hd hrow0;rw [←hov] at HLT HOWN ⊢;have n2:¬ ov.ownBlock=some b2:=fun q=>by
  have h1:=HLT.o b2 q;have h2:=HB2.o;omega
 have n0:¬ ov.ownBlock=some gb:=fun q=>by
  have h1:=HOWN.o gb q;have h2:=HQ.o.ub;omega
 have nb:¬ b2=gb:=by
  have h1:=HQ.o.ub;have h2:=HB2.o;have h3:=HLOW.o;omega
 have HS:Hid (∀ X,Only (fun k=>ov.ownBlock=some k\/k=gb) W1 X->X.cell? ⟨b2,0,none⟩=some (.pointer (some ⟨gb,0,none⟩))):=Hd (fun X hX=>(X2.o.keep hX (fun q=>q.elim n2 nb)).cell 0 rfl);have HS2:Hid (∀ X,Only (fun k=>ov.ownBlock=some k) W1 X->X.cell? ⟨gb,2,none⟩=some ov/\X.frozen? ⟨gb,2,none⟩=false):=Hd (fun X hX=>
  ⟨by rw [hov,HM.o];exact (HS1.o.box.keep hX n0).cell 2 rfl,(HS1.o.box.keep hX n0).free 2⟩)
 have HAP:Hid (∀ X L ty,Below W1.heap.size W1 X->W1.heap.size<=L->Box X L #[entV B c] 94->∃ v' w',(Builtin.append_ #[88,88] ty #[ov,.slice (some ⟨L,0,none⟩) 1 1]).run Tryz.prog X=.ok v' w'/\
   (∃ ao2 cp2,v'=.slice ao2 (m+1:Nat) cp2/\w'.cell? ⟨gb,2,none⟩=some ov/\w'.frozen? ⟨gb,2,none⟩=false/\Only (fun k=>ov.ownBlock=some k\/k=gb) W1 w'/\Only (fun k=>ov.ownBlock=some k) W1 w'/\TRow 1 94 (EntP B) lo w' (.slice ao2 (m+1:Nat) cp2) (s.opn++[c]) ((s.opn++[c]).map (entV B))/\((Value.slice ao2 (m+1:Nat) cp2).ownBlock=ov.ownBlock\/∀ g,(Value.slice ao2 (m+1:Nat) cp2).ownBlock=some g->W1.heap.size<=g))):=Hd (fun X L ty hXb hL hbx=>by
  have hX:Only (fun k=>ov.ownBlock=some k) W1 X:=Yad hXb;have hus:=ZpO HR0.o;have hlr:s.opn.length=m:=HM.o.symm;have hT1:TRow 1 94 (Flat (entV B)) lo W1 ov s.opn (s.opn.map (entV B)):=by
   have q:=HR0.o;rw [hus] at q;exact q
  have hT2:TRow 1 94 (Flat (entV B)) lo X ov s.opn (s.opn.map (entV B)):=hT1.below (EntP.st B) hXb;obtain ⟨v',w',hr,hrow2,hgr⟩:=ZbC (P:=Tryz.prog) (w:=X) (f:=entV B) (n:=1) (by decide) (fun _=>rfl) (fun x u hu=>by simp [Value.cells] at hu;subst hu;rfl) 88 ty 94 j0 (.pointer none) 8 Tryz.underlying88 hji hz0 hz1 hz2 rfl hT2 (Yaq HS1.o.low hX.size)
   (l2:=[c]) (A:=fun _=>True) (sv:=.slice (some ⟨L,0,none⟩) 1 1) (.inr ⟨L,0,1,rfl,⟨trivial,hbx.lt,Yac 1,by simp⟩,fun j y hj=>by
    match j,hj with
    | 0,hj=>
     obtain rfl:c=y:=Yae hj;exact ⟨_,rfl,rfl,fun i u hi=>by rw [Nat.zero_mul,Ybc];exact hbx.cell i hi⟩
    | j+1,hj=>exact absurd hj (by simp)⟩) (by rw [hlr];simp;omega) (by rw [hlr];simp;omega)
  obtain ⟨ao2,cp2,hv2⟩:=hrow2.shape;have hl2:(s.opn++[c]).length=m+1:=by rw [Yak,hlr];rfl
  rw [hl2] at hv2;subst hv2;obtain ⟨y1,y2⟩:=HS2.o w' (hX.trans hgr.only);refine ⟨_,w',hr,ao2,cp2,rfl,y1,y2,(hX.trans hgr.only).mono (fun i _ h=>.inl h),hX.trans hgr.only,hrow2,?_⟩;rcases hgr.came with e1|e1
  ·exact .inl e1
  ·exact .inr (fun g hg=>Yaq hX.size (e1 g hg)))
 have h0:Only (fun k=>ov.ownBlock=some k\/k=gb) W1 W1:=Yan _ _;have g1:=HS.o W1 h0;obtain ⟨g2,g3⟩:=HS2.o W1 (Yan _ _);have g4:=(HS2.o (W1.alloc (.cells #[entV B c] 94)) ((Yan _ _).alloc _)).1;have HOV:=Hd hov;have HSZ:=Hd hs1;have HN2:=Hd n2;have HN0:=Hd n0;have HNB:=Hd nb;clear hs1 c0 c2 hov hji hz0 hz1 hz2 n2 n0 nb;have HEND:Hid (∀ ao2 cp2 w2,Only (fun k=>ov.ownBlock=some k\/k=gb) W1 w2->Only (fun k=>ov.ownBlock=some k) W1 w2->TRow 1 94 (EntP B) lo w2 (.slice ao2 (m+1:Nat) cp2) (s.opn++[c]) ((s.opn++[c]).map (entV B))->((Value.slice ao2 (m+1:Nat) cp2).ownBlock=ov.ownBlock\/∀ g,(Value.slice ao2 (m+1:Nat) cp2).ownBlock=some g->W1.heap.size<=g)->
   ∃ ao3 cp3,Mo B w0 gb gm gl lo es.length b2 s c ov W (.slice ao3 (m+1:Nat) cp3) ((s.opn++[c]).map (entV B)) (w2.setCell ⟨gb,2,none⟩ (.slice ao2 (m+1:Nat) cp2))):=Hd (fun ao2 cp2 w2 o1 o2 t2 k2=>by
  have hb:=HB2.o;have hz:=HSZ.o;have hq:=HQ.o;have ho:Only (fun k=>k=gb) w2 (w2.setCell ⟨gb,2,none⟩ (.slice ao2 (m+1:Nat) cp2)):=(Yan (fun k=>k=gb) w2).setCell (p:=⟨gb,2,none⟩) rfl _;have hoff:∀ k,k<lo->¬ ov.ownBlock=some k:=fun k hk q=>by have:=HOWN.o k q;omega
  have hbw:Below w0.heap.size w0 w2:=HS1.o.bel.trans (o2.below HS1.o.bel.size (fun k hk=>by have h1:=HOWN.o k hk;have h2:=hq.lb;have h3:=hq.ub;omega));refine ⟨ao2,cp2,⟨⟨(HS1.o.box.keep o2 HN0.o).set 2 _,(HS1.o.met.keep o2 (hoff gm hq.um)).keep ho (fun e=>hq.bm e.symm),(HS1.o.loop.keep o2 (hoff gl hq.ul)).keep ho (fun e=>hq.bl e.symm),t2.past (EntP.st B) ho (fun k hk (e:k=gb)=>by have:=hq.ub;omega),hbw.trans (ho.below hbw.size (fun k (e:k=gb)=>by have:=hq.lb;omega)),Yaq (Yaq HS1.o.low o2.size) ho.size⟩,(X2.o.keep o2 HN2.o).keep ho HNB.o,fun q=>?_,⟨?_,?_⟩⟩⟩
  ·rcases k2 with e|e
   ·exact HN2.o (e ▸ q)
   ·have:=e b2 q;omega
  ·exact (((Yad HW0.o).trans (o2.mono (fun i _ h=>.inr (.inr (.inr h))))).setCell (p:=⟨gb,2,none⟩) (.inl rfl) _)
  ·rcases k2 with e|e
   ·exact .inl e
   ·exact .inr (fun g hg=>by have:=e g hg;omega))
 go_cut [] (fun wx=>∃ ao3 cp3,Mo B w0 gb gm gl lo es.length b2 s c ov W (.slice ao3 (m+1:Nat) cp3) ((s.opn++[c]).map (entV B)) wx)
 case first=>
  -- BEGIN REGION
  refine wp_region_held_drew (S:=fun X=>X.cell? ⟨b2,0,none⟩=some (.pointer (some ⟨gb,0,none⟩))) (by kernel_rfl) (by exact g1) (fun hHeld=>?_);refine ZdM (i:=0) 13 (v:=?_) rfl rfl (by kernel_rfl) (by kernel_rfl) (by kernel_rfl) (fun _ _ _ h=>h) (Or.inl ⟨by rfl,?_⟩) (by assumption) ?_
  rotate_left
  ·(intro W hSw;(try dsimp only at hSw);go_simp;try with_reducible rfl)
  simp only [Act.put,YbT,Ybq,YbA];refine ZdM (i:=1) 14 (v:=?_) rfl rfl (by kernel_rfl) (by kernel_rfl) (by kernel_rfl) (fun _ _ _ h=>h) (Or.inl ⟨by rfl,?_⟩) (by assumption) ?_
  rotate_left
  ·(intro W hSw;(try dsimp only at hSw);go_simp;try with_reducible rfl)
  simp only [Act.put,YbT,Ybq,YbA];refine ZdM (i:=2) 15 (v:=?_) rfl rfl (by kernel_rfl) (by kernel_rfl) (by kernel_rfl) (fun _ _ _ h=>h) (Or.inl ⟨by rfl,?_⟩) (by assumption) ?_
  rotate_left
  ·(intro W hSw;(try dsimp only at hSw);go_simp;try with_reducible rfl)
  simp only [Act.put,YbT,Ybq,YbA];refine ZdM (i:=3) 16 (v:=?_) rfl rfl (by kernel_rfl) (by kernel_rfl) (by kernel_rfl) (fun _ _ _ h=>h) (Or.inl ⟨by rfl,?_⟩) (by assumption) ?_
  rotate_left
  ·(intro W hSw;(try dsimp only at hSw);go_simp;try with_reducible rfl)
  simp only [Act.put,YbT,Ybq,YbA];refine wpAnyH_ready (rs:=[4,5]) (by kernel_rfl) (by simp) ?_;refine AllReadyH.cons rfl (fun K hK=>?_) ?_
  ·go_simp
   refine hK.out _ _ (by (refine HS.o _ ?_;(repeat (first|(with_reducible exact Yan _ _)|(with_reducible assumption)|(with_reducible refine Ybr ?_)|(with_reducible refine Ybp ?_ _)|(with_reducible refine Ybd ?_ (Or.inr rfl) _))))) (fun hHeld=>?_);clear hK K;refine wpAnyH_ready (rs:=[5]) (by kernel_rfl) (by simp) ?_;refine AllReadyH.cons rfl (fun K hK=>?_) ?_
   ·go_simp
    refine hK.out _ _ (by (refine HS.o _ ?_;(repeat (first|(with_reducible exact Yan _ _)|(with_reducible assumption)|(with_reducible refine Ybr ?_)|(with_reducible refine Ybp ?_ _)|(with_reducible refine Ybd ?_ (Or.inr rfl) _))))) (fun hHeld=>?_);clear hK K;refine wpAnyH_ready (rs:=[6]) (by kernel_rfl) (by simp) ?_;refine AllReadyH.cons rfl (fun K hK=>?_) ?_
    ·go_simp
     refine hK.out _ _ (by (refine HS.o _ ?_;(repeat (first|(with_reducible exact Yan _ _)|(with_reducible assumption)|(with_reducible refine Ybr ?_)|(with_reducible refine Ybp ?_ _)|(with_reducible refine Ybd ?_ (Or.inr rfl) _))))) (fun hHeld=>?_);clear hK K;refine wpAnyH_ready (rs:=[7]) (by kernel_rfl) (by simp) ?_;refine AllReadyH.cons rfl (fun K hK=>?_) ?_
     ·refine Zc2 (by rfl) _ _ 88 (by rfl) _ _ (by rfl) (by rfl) (HAP.o _ _ _ ?_ ?_ ?_) ?_
      ·(repeat (first|(with_reducible exact Yab _ _)|(with_reducible assumption)|(with_reducible refine Zab ?_)|(with_reducible refine Zaa ?_ _)))
      ·exact Yac _
      ·first|exact Box.new _ _ _|exact (Box.new _ _ _).below (Zab (Yab _ _))
      rintro v2 w2 ⟨ao2,cp2,rfl,y1,y2,o1,o2,t2,k2⟩;refine hK.out _ _ (by (refine HS.o _ ?_;(repeat (first|(with_reducible exact Yan _ _)|(with_reducible assumption)|(with_reducible refine Ybr ?_)|(with_reducible refine Ybp ?_ _)|(with_reducible refine Ybd ?_ (Or.inr rfl) _))))) (fun hHeld=>?_);clear hK K;refine wpAnyH_ready (rs:=[8]) (by kernel_rfl) (by simp) ?_;refine AllReadyH.cons rfl (fun K hK=>?_) ?_
      ·go_simp
       refine hK.out _ _ (by (refine HS.o _ ?_;(repeat (first|(with_reducible exact Yan _ _)|(with_reducible assumption)|(with_reducible refine Ybr ?_)|(with_reducible refine Ybp ?_ _)|(with_reducible refine Ybd ?_ (Or.inr rfl) _))))) (fun hHeld=>?_);clear hK K;refine wpAnyH_ready (rs:=[9]) (by kernel_rfl) (by simp) ?_;refine AllReadyH.cons rfl (fun K hK=>?_) ?_
       ·go_simp
        refine hK.out _ _ (by (refine HS.o _ ?_;(repeat (first|(with_reducible exact Yan _ _)|(with_reducible assumption)|(with_reducible refine Ybr ?_)|(with_reducible refine Ybp ?_ _)|(with_reducible refine Ybd ?_ (Or.inr rfl) _))))) (fun hHeld=>?_);clear hK K;refine wpAnyH_ready (rs:=[10]) (by kernel_rfl) (by simp) ?_;refine AllReadyH.cons rfl (fun K hK=>?_) ?_
        ·go_simp
         refine hK.out _ _ (by (refine HS.o _ ?_;(repeat (first|(with_reducible exact Yan _ _)|(with_reducible assumption)|(with_reducible refine Ybr ?_)|(with_reducible refine Ybp ?_ _)|(with_reducible refine Ybd ?_ (Or.inr rfl) _))))) (fun hHeld=>?_);clear hK K;refine wpAnyH_done (by kernel_rfl) ?_ _
         go_wp2_with fail
         go_meet
         exact HEND.o _ _ _ o1 o2 t2 k2
        exact AllReadyH.nil
       exact AllReadyH.nil
      exact AllReadyH.nil
     exact AllReadyH.nil
    exact AllReadyH.nil
   exact AllReadyH.nil
  refine AllReadyH.cons rfl (fun K hK=>?_) ?_
  ·go_simp
   refine hK.out _ _ (by (refine HS.o _ ?_;(repeat (first|(with_reducible exact Yan _ _)|(with_reducible assumption)|(with_reducible refine Ybr ?_)|(with_reducible refine Ybp ?_ _)|(with_reducible refine Ybd ?_ (Or.inr rfl) _))))) (fun hHeld=>?_);clear hK K;refine wpAnyH_ready (rs:=[4,6]) (by kernel_rfl) (by simp) ?_;refine AllReadyH.cons rfl (fun K hK=>?_) ?_
   ·go_simp
    refine hK.out _ _ (by (refine HS.o _ ?_;(repeat (first|(with_reducible exact Yan _ _)|(with_reducible assumption)|(with_reducible refine Ybr ?_)|(with_reducible refine Ybp ?_ _)|(with_reducible refine Ybd ?_ (Or.inr rfl) _))))) (fun hHeld=>?_);clear hK K;refine wpAnyH_ready (rs:=[6]) (by kernel_rfl) (by simp) ?_;refine AllReadyH.cons rfl (fun K hK=>?_) ?_
    ·go_simp
     refine hK.out _ _ (by (refine HS.o _ ?_;(repeat (first|(with_reducible exact Yan _ _)|(with_reducible assumption)|(with_reducible refine Ybr ?_)|(with_reducible refine Ybp ?_ _)|(with_reducible refine Ybd ?_ (Or.inr rfl) _))))) (fun hHeld=>?_);clear hK K;refine wpAnyH_ready (rs:=[7]) (by kernel_rfl) (by simp) ?_;refine AllReadyH.cons rfl (fun K hK=>?_) ?_
     ·refine Zc2 (by rfl) _ _ 88 (by rfl) _ _ (by rfl) (by rfl) (HAP.o _ _ _ ?_ ?_ ?_) ?_
      ·(repeat (first|(with_reducible exact Yab _ _)|(with_reducible assumption)|(with_reducible refine Zab ?_)|(with_reducible refine Zaa ?_ _)))
      ·exact Yac _
      ·first|exact Box.new _ _ _|exact (Box.new _ _ _).below (Zab (Yab _ _))
      rintro v2 w2 ⟨ao2,cp2,rfl,y1,y2,o1,o2,t2,k2⟩;refine hK.out _ _ (by (refine HS.o _ ?_;(repeat (first|(with_reducible exact Yan _ _)|(with_reducible assumption)|(with_reducible refine Ybr ?_)|(with_reducible refine Ybp ?_ _)|(with_reducible refine Ybd ?_ (Or.inr rfl) _))))) (fun hHeld=>?_);clear hK K;refine wpAnyH_ready (rs:=[8]) (by kernel_rfl) (by simp) ?_;refine AllReadyH.cons rfl (fun K hK=>?_) ?_
      ·go_simp
       refine hK.out _ _ (by (refine HS.o _ ?_;(repeat (first|(with_reducible exact Yan _ _)|(with_reducible assumption)|(with_reducible refine Ybr ?_)|(with_reducible refine Ybp ?_ _)|(with_reducible refine Ybd ?_ (Or.inr rfl) _))))) (fun hHeld=>?_);clear hK K;refine wpAnyH_ready (rs:=[9]) (by kernel_rfl) (by simp) ?_;refine AllReadyH.cons rfl (fun K hK=>?_) ?_
       ·go_simp
        refine hK.out _ _ (by (refine HS.o _ ?_;(repeat (first|(with_reducible exact Yan _ _)|(with_reducible assumption)|(with_reducible refine Ybr ?_)|(with_reducible refine Ybp ?_ _)|(with_reducible refine Ybd ?_ (Or.inr rfl) _))))) (fun hHeld=>?_);clear hK K;refine wpAnyH_ready (rs:=[10]) (by kernel_rfl) (by simp) ?_;refine AllReadyH.cons rfl (fun K hK=>?_) ?_
        ·go_simp
         refine hK.out _ _ (by (refine HS.o _ ?_;(repeat (first|(with_reducible exact Yan _ _)|(with_reducible assumption)|(with_reducible refine Ybr ?_)|(with_reducible refine Ybp ?_ _)|(with_reducible refine Ybd ?_ (Or.inr rfl) _))))) (fun hHeld=>?_);clear hK K;refine wpAnyH_done (by kernel_rfl) ?_ _
         go_wp2_with fail
         go_meet
         exact HEND.o _ _ _ o1 o2 t2 k2
        exact AllReadyH.nil
       exact AllReadyH.nil
      exact AllReadyH.nil
     exact AllReadyH.nil
    exact AllReadyH.nil
   refine AllReadyH.cons rfl (fun K hK=>?_) ?_
   ·go_simp
    refine hK.out _ _ (by (refine HS.o _ ?_;(repeat (first|(with_reducible exact Yan _ _)|(with_reducible assumption)|(with_reducible refine Ybr ?_)|(with_reducible refine Ybp ?_ _)|(with_reducible refine Ybd ?_ (Or.inr rfl) _))))) (fun hHeld=>?_);clear hK K;refine wpAnyH_ready (rs:=[4]) (by kernel_rfl) (by simp) ?_;refine AllReadyH.cons rfl (fun K hK=>?_) ?_
    ·go_simp
     refine hK.out _ _ (by (refine HS.o _ ?_;(repeat (first|(with_reducible exact Yan _ _)|(with_reducible assumption)|(with_reducible refine Ybr ?_)|(with_reducible refine Ybp ?_ _)|(with_reducible refine Ybd ?_ (Or.inr rfl) _))))) (fun hHeld=>?_);clear hK K;refine wpAnyH_ready (rs:=[7]) (by kernel_rfl) (by simp) ?_;refine AllReadyH.cons rfl (fun K hK=>?_) ?_
     ·refine Zc2 (by rfl) _ _ 88 (by rfl) _ _ (by rfl) (by rfl) (HAP.o _ _ _ ?_ ?_ ?_) ?_
      ·(repeat (first|(with_reducible exact Yab _ _)|(with_reducible assumption)|(with_reducible refine Zab ?_)|(with_reducible refine Zaa ?_ _)))
      ·exact Yac _
      ·first|exact Box.new _ _ _|exact (Box.new _ _ _).below (Zab (Yab _ _))
      rintro v2 w2 ⟨ao2,cp2,rfl,y1,y2,o1,o2,t2,k2⟩;refine hK.out _ _ (by (refine HS.o _ ?_;(repeat (first|(with_reducible exact Yan _ _)|(with_reducible assumption)|(with_reducible refine Ybr ?_)|(with_reducible refine Ybp ?_ _)|(with_reducible refine Ybd ?_ (Or.inr rfl) _))))) (fun hHeld=>?_);clear hK K;refine wpAnyH_ready (rs:=[8]) (by kernel_rfl) (by simp) ?_;refine AllReadyH.cons rfl (fun K hK=>?_) ?_
      ·go_simp
       refine hK.out _ _ (by (refine HS.o _ ?_;(repeat (first|(with_reducible exact Yan _ _)|(with_reducible assumption)|(with_reducible refine Ybr ?_)|(with_reducible refine Ybp ?_ _)|(with_reducible refine Ybd ?_ (Or.inr rfl) _))))) (fun hHeld=>?_);clear hK K;refine wpAnyH_ready (rs:=[9]) (by kernel_rfl) (by simp) ?_;refine AllReadyH.cons rfl (fun K hK=>?_) ?_
       ·go_simp
        refine hK.out _ _ (by (refine HS.o _ ?_;(repeat (first|(with_reducible exact Yan _ _)|(with_reducible assumption)|(with_reducible refine Ybr ?_)|(with_reducible refine Ybp ?_ _)|(with_reducible refine Ybd ?_ (Or.inr rfl) _))))) (fun hHeld=>?_);clear hK K;refine wpAnyH_ready (rs:=[10]) (by kernel_rfl) (by simp) ?_;refine AllReadyH.cons rfl (fun K hK=>?_) ?_
        ·go_simp
         refine hK.out _ _ (by (refine HS.o _ ?_;(repeat (first|(with_reducible exact Yan _ _)|(with_reducible assumption)|(with_reducible refine Ybr ?_)|(with_reducible refine Ybp ?_ _)|(with_reducible refine Ybd ?_ (Or.inr rfl) _))))) (fun hHeld=>?_);clear hK K;refine wpAnyH_done (by kernel_rfl) ?_ _
         go_wp2_with fail
         go_meet
         exact HEND.o _ _ _ o1 o2 t2 k2
        exact AllReadyH.nil
       exact AllReadyH.nil
      exact AllReadyH.nil
     exact AllReadyH.nil
    exact AllReadyH.nil
   exact AllReadyH.nil
  exact AllReadyH.nil

 case rest=>
  obtain ⟨ao3,cp3,hmo⟩:=hcut;have HMO:=Hd hmo;have c0:=hmo.box2.cell 0 rfl;have c1:=hmo.gr.box.cell 1 rfl;have f1:=hmo.gr.box.free 1;clear hmo HEND HAP HS HS2 g1 g2 g3 g4 h0 HR0 X2 HS1 HW0 HSZ HN2 HN0 HLOW;have hcb:s.cnt+1<=1048576:=by have h1:=HG2.o.1.cnt;have h2:(ZaT s c).cnt=s.cnt+1:=rfl;have:=HLEN.o;omega
  have hc0:(0:Int)<=(s.cnt:Int):=by omega
  have hc1:(s.cnt:Int)<=1048576:=by omega
  have ECN:Hid ((s.cnt:Int)+1=((s.cnt+1:Nat):Int)):=Hd (by omega);have HCB:=Hd hcb;clear hcb
  go_upto_region 4 with fail
  have hmc:(fun X=>Mo B w0 gb gm gl lo es.length b2 ⟨s.met,s.cnt+1,s.opn,s.loop⟩ c ov W (.slice ao3 (m+1:Nat) cp3) ((s.opn++[c]).map (entV B)) X) (wc.setCell ⟨gb,1,none⟩ (.int .i64 ((s.cnt:Int)+1))):=by
   have hq:=HQ.o;have ho:Only (fun k=>k=gb) wc (wc.setCell ⟨gb,1,none⟩ (.int .i64 ((s.cnt:Int)+1))):=(Yan (fun k=>k=gb) wc).setCell (p:=⟨gb,1,none⟩) rfl _;have hg:=HMO.o.gr;refine ⟨⟨?_,hg.met.keep ho (fun e=>hq.bm e.symm),hg.loop.keep ho (fun e=>hq.bl e.symm),hg.opn.past (EntP.st B) ho (fun k hk (e:k=gb)=>by have:=hq.ub;omega),hg.bel.trans (ho.below hg.bel.size (fun k (e:k=gb)=>by have:=hq.lb;omega)),Yaq hg.low ho.size⟩,HMO.o.box2.keep ho HNB.o,HMO.o.own2,⟨HMO.o.fr.only.setCell (p:=⟨gb,1,none⟩) (.inl rfl) _,HMO.o.fr.came⟩⟩;have q:=hg.box.set 1 (.int .i64 ((s.cnt:Int)+1));rw [ECN.o] at q ⊢;exact q
  refine Zav _ hmc ?_;intro W4 hm4;have HM4:=Hd hm4;have HS4:Hid (∀ X,Below W4.heap.size W4 X->X.cell? ⟨b2,0,none⟩=some (.pointer (some ⟨gb,0,none⟩))/\X.cell? ⟨gb,1,none⟩=some (.int .i64 ((s.cnt+1:Nat):Int))):=Hd (fun X hX=>⟨(HM4.o.box2.below hX).cell 0 rfl,(HM4.o.gr.box.below hX).cell 1 rfl⟩);have h0:Below W4.heap.size W4 W4:=Yab _ _;obtain ⟨g1,g2⟩:=HS4.o W4 h0;clear hmc hm4 HMO c0 c1 f1;generalize hcn:((s.cnt+1:Nat):Int)=cn at HS4 g2;have HCN:=Hd hcn;clear hcn
  go_upto_region 4 with fail
  (go_region_held3 (fun X=>X.cell? ⟨b2,0,none⟩=some (.pointer (some ⟨gb,0,none⟩))/\X.cell? ⟨gb,1,none⟩=some (.int .i64 cn)) ((refine HS4.o _ ?_;(repeat (first|(with_reducible exact Yab _ _)|(with_reducible assumption)|(with_reducible refine Zab ?_)|(with_reducible refine Zaa ?_ _)|((with_reducible refine Below.setCell ?_ ?_ _);rotate_left;(focus (first|omega|(simp;done)|(simp;omega)))))))) (fail))
  all_goals
   go_upto_region 5 with fail
   obtain ⟨b7,hb7⟩:∃ b7,b7=W4.heap.size:=⟨_,rfl⟩
   rw [←hb7];have hme:Me B w0 gb gm gl lo es.length b2 b7 s c ov W (.slice ao3 (m+1:Nat) cp3) ((s.opn++[c]).map (entV B)) ((W4.alloc (.cells #[.int .i64 cn] 3)).drew):=by
    have hbe:Below W4.heap.size W4 ((W4.alloc (.cells #[.int .i64 cn] 3)).drew):=Zab (Zaa (Yab _ _) _);have hx:=(Box.new W4 #[.int .i64 cn] 3).below (Zab (Yab _ _));rw [←hb7,←HCN.o] at hx;have h2:=HM4.o.box2.lt;have h3:=HM4.o.gr.low;have h4:=HM4.o.fr.only.size;have h5:=HB2.o;have h6:=HM4.o.gr.opn.lt;have h7:=HLW.o;exact ⟨HM4.o.gr.keep hbe,HM4.o.box2.below hbe,by rw [←HCN.o];exact hx,HM4.o.own2,fun q=>by (have:=h6 b7 q;omega),⟨HM4.o.fr.only.trans (Yad hbe),HM4.o.fr.came⟩,⟨by omega,by omega,by omega,by omega,by omega⟩⟩
   refine Zav (Me B w0 gb gm gl lo es.length b2 b7 s c ov W (.slice ao3 (m+1:Nat) cp3) ((s.opn++[c]).map (entV B))) hme ?_;intro W5 hm5;have HM5:=Hd hm5;have d0:=hm5.box2.cell 0 rfl;have d1:W5.cell? ⟨gb,0,none⟩=some (.slice (some ⟨gm,0,none⟩) n n):=by rw [HN.o];exact hm5.gr.box.cell 0 rfl
   have d2:W5.cell? ⟨B c,0,none⟩=some (.int .i64 c):=by
    obtain ⟨_,_,_,_,hb,_,_,_,_⟩:=(HT.o.below hm5.gr.bel).ent c e HE.o;exact hb.cell 0 rfl
   have hcn:c<n:=by rw [HN.o];exact HCL.o
   obtain ⟨z0,d3⟩:∃ z0,W5.cell? ⟨gm,c,none⟩=some z0:=by
    have q:=hm5.gr.met.at_ c HCL.o;have hl:=hm5.gr.met.len;exact ⟨_,q.trans (Yaa (by rw [hl];exact HCL.o))⟩
   have d4:=hm5.gr.met.free c;have hk0:(0:Int)<=(c:Int):=by omega
   have hkn:(c:Int)<(n:Int):=by omega
   clear hme hm5 g1 g2 HS4 h0 HM4 hb7 hcn
   go_region
   all_goals
    have hmt:Mt B w0 gb gm gl lo es.length b2 b7 ov W (ZaT s c,s.cnt+1) (.slice ao3 (m+1:Nat) cp3) ((s.opn++[c]).map (entV B)) ((W5.setCell ⟨gm,c,none⟩ (.int .i64 cn)).drew):=by
     have hq:=HQ.o;have hr:=HM5.o.r;have h1:=hr.l2;have h2:=hr.l7;have ho:Only (fun k=>k=gm) W5 (W5.setCell ⟨gm,c,none⟩ (.int .i64 cn)):=(Yan (fun k=>k=gm) W5).setCell (p:=⟨gm,c,none⟩) rfl _;have hbe:Below (W5.setCell ⟨gm,c,none⟩ (.int .i64 cn)).heap.size (W5.setCell ⟨gm,c,none⟩ (.int .i64 cn)) ((W5.setCell ⟨gm,c,none⟩ (.int .i64 cn)).drew):=Zab (Yab _ _);have hgr:=(HM5.o.gr.note hq c (s.cnt+1)).drew;unfold intV at hgr;rw [HCN.o] at hgr;exact ⟨hgr,(HM5.o.box2.keep ho (fun e=>by have:=hq.um;omega)).below hbe,(HM5.o.box7.keep ho (fun e=>by have:=hq.um;omega)).below hbe,HM5.o.own2,HM5.o.own7,⟨(HM5.o.fr.only.setCell (p:=⟨gm,c,none⟩) (.inr (.inl rfl)) _).drew,HM5.o.fr.came⟩⟩
    have HR:=Hd HM5.o.r;clear d0 d1 d2 d3 d4 HM5
    go_upto_region 6 with fail
    refine Zav (Mt B w0 gb gm gl lo es.length b2 b7 ov W (ZaT s c,s.cnt+1) (.slice ao3 (m+1:Nat) cp3) ((s.opn++[c]).map (entV B))) hmt ?_;intro W6 hm6;clear hmt;have hparE:=ZcK HE.o;have hmem:∀ d ∈ e.par,d<es.length:=fun d hd=>HPAR.o c d (by rw [hparE];exact hd)
    have hinv:∀ k,GI es.length ((e.par.take k).foldl (ZbA (ZaQ es f)) (ZaT s c,s.cnt+1)).1/\ZaZ ((e.par.take k).foldl (ZbA (ZaQ es f)) (ZaT s c,s.cnt+1)).1.met<=f/\m<((e.par.take k).foldl (ZbA (ZaQ es f)) (ZaT s c,s.cnt+1)).1.opn.length:=fun k=>by
     obtain ⟨i1,i2,i3,_⟩:=Zmc HLEN.o HPAR.o f (e.par.take k) (ZaT s c,s.cnt+1) HG2.o.1 (by have:=HCB.o;show s.cnt+1<=9223372036854775807;omega) (Zjt hmem);have h1:=HG2.o.2.1;have h2:=HG2.o.2.2;have h3:=HLEFT.o;have h4:=HM.o;dsimp only at i2 i3;exact ⟨i1,by omega,by omega⟩
    have HINV:=Hd hinv;have hsteps:Zic B 168 #[.pointer (some ⟨b2,0,none⟩),.pointer (some ⟨b7,0,none⟩)] e.par (fun k X=>∃ ov2 us2,Mt B w0 gb gm gl lo es.length b2 b7 ov W ((e.par.take k).foldl (ZbA (ZaQ es f)) (ZaT s c,s.cnt+1)) ov2 us2 X) (fun _ _=>False):=by
     rintro k d X hx ⟨ov2,us2,hm⟩;obtain ⟨i1,i2,_⟩:=HINV.o k;refine (Zk8 HT.o HQ.o HR.o (ZaQ es f) d (hmem d (Yaf hx)) _ ov2 us2 X i1 (fun hz Y hg=>HIH.o _ ov2 us2 d Y (hmem d (Yaf hx)) hz i1 i2 hg) hm).mono ?_;rintro e4 w4 ⟨rfl,ov4,us4,hP4⟩;refine ⟨false,rfl,(fun h=>by cases h),fun _=>⟨ov4,us4,?_⟩⟩;rw [Zdd (ZbA (ZaQ es f)) hx];exact hP4
    have hmf:∀ (fn:Fn) (first cap:Array Value) (w:World),(Instr.makeFunc fn first cap).run Tryz.prog w=.ok (.func fn first cap) w:=fun _ _ _ _=>rfl
    have HPC:=Hd (Zfq HT.o 168 #[.pointer (some ⟨b2,0,none⟩),.pointer (some ⟨b7,0,none⟩)] c e HE.o _ _ W6 (Zai Tryz.func168 (by kernel_rfl) rfl) (fun k w' ⟨_,_,h⟩=>h.gr.bel) ⟨_,_,hm6⟩ hsteps HLK.o);have hfull:=HINV.o e.par.length;rw [YaJ] at hfull;have HFULL:=Hd hfull;have HPE:=Hd hparE;clear hsteps hparE hmem hinv hfull hm6
    go_wp2_with fail
    refine HPC.o.mono ?_;rintro e5 w5 ⟨b,rfl,hy,hno⟩;cases b with
    | true=>obtain ⟨_,_,h⟩:=hy rfl;exact h.elim
    | false=>
     obtain ⟨ov5,us5,hm5⟩:=hno rfl;rw [YaJ] at hm5;have e6:ZaQ es (f+1) s c=ZdS s (e.par.foldl (ZbA (ZaQ es f)) (ZaT s c,s.cnt+1)):=by
      rw [ZaQ,HPE.o]
     have HE6:=Hd e6;clear hy hno e6 HPC;generalize e.par.foldl (ZbA (ZaQ es f)) (ZaT s c,s.cnt+1)=t at hm5 HFULL HE6;obtain ⟨t,v⟩:=t;have d0:=hm5.box2.cell 0 rfl;have d7:w5.cell? ⟨b7,0,none⟩=some (.int .i64 (v:Nat)):=hm5.box7.cell 0 rfl;have HM5:=Hd hm5;clear hm5;by_cases hv:v=s.cnt+1
     ·have hvn:(v:Int)=cn:=by rw [hv];exact HCN.o
      have hop:∀ d ∈ t.opn,d<es.length:=HFULL.o.1.opn
      have HF:=Hd (Zka HT.o HQ.o HLEN.o t ov5 us5 w5 m HM5.o.gr HFULL.o.2.2 hop (by have h1:=HFULL.o.1.olen;have h2:=HLEN.o;dsimp only at h1;omega));rw [hvn] at d7;have HVN:=Hd hvn;have HV:=Hd hv;clear hop hvn hv
      go_wp2_with fail
      refine HF.o.mono ?_;rintro e7 w7 ⟨rfl,ov7,us7,hg7,ho7,hon7⟩;have n7:¬ (b7=gb\/b7=gm\/b7=gl):=by
       have hq:=HQ.o;have h1:=HR.o.l7;have h2:=hq.ub;have h3:=hq.um;have h4:=hq.ul;omega
      have d8:w7.cell? ⟨b7,0,none⟩=some (.int .i64 cn):=hon7.cell d7 n7;have HG7:=Hd hg7;have HO7:=Hd ho7;have HN7:=Hd hon7;clear d0 d7 hg7 ho7 hon7 HF n7;go_wp2;go_ret;rw [HE6.o];have e8:ZdS s (t,v)=(ZbS t m,v):=by unfold ZdS;rw [YaC HV.o,HM.o]
      rw [e8,show Value.slice ao s.opn.length cp=ov by rw [HOV.o,HM.o]];refine ⟨by rw [←HVN.o];rfl,ov7,us7,HG7.o,(HM5.o.fr).trans ⟨HN7.o.mono (fun i _ h=>?_),.inl HO7.o⟩⟩;rcases h with h|h|h
      ·exact .inl h
      ·exact .inr (.inl h)
      ·exact .inr (.inr (.inl h))
     ·have hne:((v:Int) == cn)=false:=by
       rw [Yah,←HCN.o];omega
      have HNE:=Hd hv;clear d0 hv;go_wp2;go_ret;rw [HE6.o];have e8:ZdS s (t,v)=(t,v):=by unfold ZdS;rw [Yas HNE.o]
      rw [e8,show Value.slice ao s.opn.length cp=ov by rw [HOV.o,HM.o]];exact ⟨rfl,ov5,us5,HM5.o.gr,HM5.o.fr⟩
theorem Zjs {A:Nat->Prop} {B:Nat->Nat} {T mb:Nat} {es:List Ent} {w0:World} (hT:Tab A w0 T mb B es) {gb gm gl lo:Nat} (hq:GrS w0.heap.size gb gm gl lo) (hlen:es.length<=1048576) (hlk:∀ (i:Nat) (e:Ent),es[i]? = some e->e.lk.length<=9223372036854775807)
  (hpar:∀ c,∀ d ∈ parE es c,d<es.length):∀ (f:Nat) (s:Grp) (ov:Value) (us:List Value) (d:Nat) (W:World),d<es.length->s.met.getD d 0=0->GI es.length s->ZaZ s.met<=f->Gr B w0 gb gm gl lo es.length s ov us W->
   Calls Tryz.prog 108 #[.pointer (some ⟨gb,0,none⟩),entV B d] W (ZnZ B w0 gb gm gl lo es.length ov W (ZaQ es f s d))
 | 0,s,ov,us,d,W,hd,hz,hG,hl,hs=>absurd hz (ZfU (by rw [hG.mlen];exact hd) (by omega))
 | f+1,s,ov,us,d,W,hd,hz,hG,hl,hs=>ZmQ hT hq hlen f d es[d] (Yaa hd) (hlk d _ (Yaa hd)) hpar (Zjs hT hq hlen hlk hpar f) s ov us W hz hG hl hs
