/- laws -/
import Derived.Test.YtggcdinoflchjaaGreatDoorK67
import Derived.Test.YtggcdinoflchjaaGreatDoorK62
set_option maxRecDepth 100000
set_option maxHeartbeats 16000000
namespace Go.Proofs.YtggcdinoflchjaaGreatDoor
open Go.RowKit
theorem Vals.snoc {A:Nat->Prop} {w:World} {l:List Cls} {vs:List CV} (h:Vals A w l vs) {c:Cls} {u:CV} (hu:ClsR A w c (cvV u)):Vals A w (l++[c]) (vs++[u]):=by
 refine ⟨by simp [h.len],fun k x hx=>?_⟩;rcases YaB k l.length with hk|hk
 ·rw [YaP hk] at hx;rw [YaP (by rw [h.len];exact hk)];exact h.each k x hx
 ·rw [YaH hk] at hx;rw [YaH (by rw [h.len];exact hk),h.len];rcases YbP (k - l.length) with h0|h0
  ·rw [h0] at hx ⊢;obtain rfl:=Yae (show some c=some x from hx);exact ⟨u,rfl,hu⟩
  ·rw [YaN (by simp;omega)] at hx;cases hx
theorem Vals.frame {A:Nat->Prop} {S:Nat->Prop} {w w':World} {cs:List Cls} {vs:List CV} (hv:Vals A w cs vs) (ho:Only S w w') (hs:∀ k,A k->¬ S k):Vals A w' cs vs:=
 ⟨hv.len,fun k c hc=>by obtain ⟨u,q1,q2⟩:=hv.each k c hc;exact ⟨u,q1,ClsR.st.keep q2 ho hs⟩⟩
theorem Vals.mono {A A':Nat->Prop} {w:World} {cs:List Cls} {vs:List CV} (hv:Vals A w cs vs) (h:∀ k,A k->A' k):Vals A' w cs vs:=
 ⟨hv.len,fun k c hc=>by obtain ⟨u,q1,q2⟩:=hv.each k c hc;exact ⟨u,q1,ClsR.st.mono q2 (fun k _ hk=>h k hk)⟩⟩
theorem Zqf {lo:Nat} {w:World} {v:Value} {l:List Cls} {us:List Value} (h:TRow 8 87 ClsR lo w v l us):∃ cvs,Vals (fun i=>v.ownBlock ≠ some i) w l cvs/\Zn2 lo w v cvs:=by
 have hu:∀ u ∈ us,u.cells.size=8/\∀ x ∈ u.cells.toList,x.oneCell'=true:=fun u hu=>by
  obtain ⟨k,hk⟩:=Ya0.1 hu;have hkl:k<l.length:=by rw [←h.len];exact (Yag.1 hk).1
  obtain ⟨u',h1,h2⟩:=h.each k _ (Yaa hkl);rw [hk] at h1;obtain rfl:=Yae h1;exact Zim h2
 have key:∀ us:List Value,(∀ u ∈ us,u.cells.size=8/\∀ x ∈ u.cells.toList,x.oneCell'=true)->∃ cvs:List CV,cvs.map cvV=us:=by
  intro us;induction us with
  | nil=>intro _;exact ⟨[],rfl⟩
  | cons u us ih=>
   intro hq;obtain ⟨cvs,hc⟩:=ih (fun x hx=>hq x (Yap _ hx));exact ⟨⟨u,(hq u Yal).1,(hq u Yal).2⟩ :: cvs,by rw [YbJ,hc]⟩
 obtain ⟨cvs,rfl⟩:=key us hu;have hl:cvs.length=l.length:=by have:=h.len;rwa [Yaz] at this
 refine ⟨cvs,⟨hl,fun k c hc=>?_⟩,⟨by rw [hl];exact h.row,h.own,by rw [Yaz],h.size,fun k x hx=>⟨cvV x,by rw [Yau,hx];rfl,rfl⟩⟩⟩;obtain ⟨u,h1,h2⟩:=h.each k c hc;rw [Yau] at h1;obtain ⟨x,h3,rfl⟩:=YaU.1 h1;exact ⟨x,h3,ClsR.st.mono h2 (fun i _ hi=>hi.2)⟩
theorem Zj0 {A:Nat->Prop} (lo:Nat) (W:World) (v sv:Value) (ty:TypeId) (l1 l2:List CV) (h1:Zn2 lo W v l1) (hlo:lo<=W.heap.size) (h2:Src 8 CVR A W sv l2) (hl:l1.length+l2.length<=1048576) :
  ∃ v' w',(Builtin.append_ #[26,26] ty #[v,sv]).run Tryz.prog W=.ok v' w'/\Zn2 lo w' v' (l1++l2)/\Grew W v w' v':=by
 obtain ⟨j0,hji,hz0,hz1,hz2⟩:=info_parts Zgs;exact ZbC (f:=cvV) (n:=8) (by decide) (fun x=>x.sz) (fun x=>x.one) 26 ty 87 j0 _ 112 Tryz.underlying26 hji hz0 hz1 hz2 rfl h1 hlo h2 (by omega) (by omega)
theorem ZpQ {o:Option Nat} {m:Nat} (h:o ≠ some m):¬ idxV o=(m:Int):=by
 intro e;cases o with
 | none=>have:(-1:Int)=(m:Int):=e;omega
 | some k=>have:(k:Int)=(m:Int):=e;exact h (by rw [show k=m by omega])
def Zpw (cs:List Cls) (w:World) (e:Ending) (w':World):Prop:=
 (∃ i z,NewBad cs i z/\e=.returned (.tuple #[.slice none 0 0,.int .i64 i,.int .i64 (z:Nat)])/\Below w.heap.size w w')\/
 (NewOk cs/\∃ v,e=.returned (.tuple #[v,.int .i64 0,.int .i64 0])/\Src 8 ClsR Anyw w' v (allR cs)/\Below w.heap.size w w')
theorem Zo1 {A:Nat->Prop} (cs:List Cls) (sv:Value) (w:World) (hs:Src 8 ClsR A w sv cs) (hfit:∀ c ∈ cs,c.Fit) (hheld:∀ c ∈ cs,c.held) (hlen:cs.length<=1000) :
  Calls Tryz.prog 27 #[sv] w (Zpw cs w):=by
 have hs1:=ClsR.st.srcMono (A':=fun k=>k<w.heap.size) hs (fun k hk _=>hk);have HS:=Hd hs1;have HG:=Hd (Zld w);have HFIT:=Hd hfit;have HHELD:=Hd hheld;obtain ⟨so,sc,rfl⟩:=hs.shape;obtain ⟨n,hn⟩:∃ n,n=cs.length:=⟨_,rfl⟩
 rw [←hn] at HS hlen ⊢;have HN:=Hd hn;unfold Zlr at HG;unfold Zpw;clear hs hs1 hfit hheld hn;go_enter Tryz.func27,Tryz.ntmps27
 go_wp2_with fail
 with_reducible refine HG.o.mono ?_
 rintro e w1 ⟨v1,us,rfl,ht1,hb1⟩;obtain ⟨cvs,hv1,ht2⟩:=Zqf ht1;have HV1:=Hd hv1;have HT1:=Hd ht2;have HB1:=Hd hb1;have hcl:cvs.length=8:=hv1.len;obtain ⟨go,gc,rfl⟩:=ht2.shape;have HOWN:Hid (∀ g,(Value.slice go cvs.length gc).ownBlock=some g->w.heap.size<=g):=Hd ht2.own;rw [hcl] at HV1 HT1 HOWN ⊢;have HCL:=Hd hcl;clear ht1 hv1 ht2 hb1 HG hcl;go_wp2
 go_loopw [5,7] (fun v5 v7 wr=>∃ (k:Nat) (vs:List CV),k<=n/\v7=.int .i64 k/\Vals (fun i=>(Value.slice go 8 gc).ownBlock ≠ some i) w1 (givenL++cs.take k) vs/\Zn2 w.heap.size wr v5 vs/\Grew w1 (.slice go 8 gc) wr v5/\∀ j d,j<k->cs[j]? = some d->d.e=0) (fun _ v7 _=>n - (intOf v7).toNat)
 case atStart=>exact ⟨0,cvs,Yai _,rfl,by simpa using HV1.o,HT1.o,Grew.refl _ _,fun j d h=>by omega⟩
 case round=>
  obtain ⟨k,vs,hk,rfl,hv,ht,hg,hok⟩:=hrel;have HV:=Hd hv;have HT:=Hd ht;have HGR:=Hd hg;have HOK:=Hd hok;have BW:Hid (Below w.heap.size w wr):=Hd (HB1.o.trans (hg.only.below HB1.o.size (fun g hg=>HOWN.o g hg)));obtain ⟨ao,ac,rfl⟩:=ht.shape;clear hv ht hg hok;by_cases hlt:k<n
  ·obtain ⟨x,hx⟩:∃ x,cs[k]? = some x:=⟨_,Yaa (by rw [←HN.o];exact hlt)⟩
   obtain ⟨b1,o1,v,rfl,hv,_,hcl⟩:=Src.elem HS.o k x hx;have HVX:=Hd hv;obtain ⟨_,_,_,rfl,⟨lo,lc,rfl⟩,⟨fo,fc,rfl⟩,⟨mo,mc,rfl⟩⟩:=ZbO hv;have HCC:Hid (∀ V,Below w.heap.size w V->V.cell? ⟨b1,o1+k * 8,none⟩=some (.string (S x.name))/\V.cell? ⟨b1,o1+k * 8+1,none⟩=some (.string (S x.sup))/\V.cell? ⟨b1,o1+k * 8+2,none⟩=some (.slice lo x.like.length lc)/\V.cell? ⟨b1,o1+k * 8+3,none⟩=some (.bool x.itf)/\V.cell? ⟨b1,o1+k * 8+4,none⟩=some (.bool x.abs)/\V.cell? ⟨b1,o1+k * 8+5,none⟩=some (.bool x.fin)/\V.cell? ⟨b1,o1+k * 8+6,none⟩=some (.slice fo x.flds.length fc)/\V.cell? ⟨b1,o1+k * 8+7,none⟩=some (.slice mo x.mths.length mc)):=Hd (fun V hV=>by
    have ho:=Yad (S:=fun _=>False) hV;exact ⟨ho.cell (a:=⟨b1,o1+k * 8,none⟩) (hcl 0 _ rfl) id,ho.cell (a:=⟨b1,o1+k * 8+1,none⟩) (hcl 1 _ rfl) id,ho.cell (a:=⟨b1,o1+k * 8+2,none⟩) (hcl 2 _ rfl) id,ho.cell (a:=⟨b1,o1+k * 8+3,none⟩) (hcl 3 _ rfl) id,ho.cell (a:=⟨b1,o1+k * 8+4,none⟩) (hcl 4 _ rfl) id,ho.cell (a:=⟨b1,o1+k * 8+5,none⟩) (hcl 5 _ rfl) id,ho.cell (a:=⟨b1,o1+k * 8+6,none⟩) (hcl 6 _ rfl) id,ho.cell (a:=⟨b1,o1+k * 8+7,none⟩) (hcl 7 _ rfl) id⟩)
   have HCK:=Hd (ZgE x _ wr (ClsR.st.keep HVX.o (Yad (S:=fun _=>False) BW.o) (fun _ _=>id)) (HFIT.o x (Yaf hx)));have HX:=Hd hx;have hk0:(0:Int)<=(k:Int):=by omega
   have hkn:(k:Int)<(n:Int):=by omega
   obtain ⟨g0,g1,g2,g3,g4,g5,g6,g7⟩:=HCC.o wr BW.o;clear hcl hx hv
   go_wp2_with fail
   with_reducible refine HCK.o.mono ?_
   rintro e w2 ⟨rfl,hb2⟩;have B2:=Hd hb2;have BW2:=Hd (BW.o.trans (hb2.mono BW.o.size));clear hb2 g0 g1 g2 g3 g4 g5 g6 g7 HCK;by_cases he0:x.e=0
   ·have hez:((x.e:Nat):Int)=0:=by rw [he0];rfl
    rw [hez];have hta:=HT.o.below Zpr B2.o;obtain ⟨ux,hux⟩:∃ ux:CV,cvV ux=.agg #[.string (S x.name),.string (S x.sup),.slice lo x.like.length lc,.bool x.itf,.bool x.abs,.bool x.fin,.slice fo x.flds.length fc,.slice mo x.mths.length mc]:=⟨⟨_,(Zim HVX.o).1,(Zim HVX.o).2⟩,rfl⟩
    have hbA:Below w2.heap.size w2 (w2.alloc (.cells #[.string (S x.name),.string (S x.sup),.slice lo x.like.length lc,.bool x.itf,.bool x.abs,.bool x.fin,.slice fo x.flds.length fc,.slice mo x.mths.length mc] 87)):=Zaa (Yab _ _) _;have hsx:Src 8 CVR Anyw (w2.alloc (.cells #[.string (S x.name),.string (S x.sup),.slice lo x.like.length lc,.bool x.itf,.bool x.abs,.bool x.fin,.slice fo x.flds.length fc,.slice mo x.mths.length mc] 87)) (.slice (some ⟨w2.heap.size,0,none⟩) 1 1) [ux]:=by
     have h:=Zi6 (f:=cvV) (n:=8) (fun x=>x.sz) w2 ux 87;rw [hux] at h;exact h
    have hvl:vs.length<=1008:=by
     rw [HV.o.len,Yak,Zhm,Yay];omega
    obtain ⟨v',w',hr,ht',hG⟩:=Zj0 w.heap.size (w2.alloc (.cells #[.string (S x.name),.string (S x.sup),.slice lo x.like.length lc,.bool x.itf,.bool x.abs,.bool x.fin,.slice fo x.flds.length fc,.slice mo x.mths.length mc] 87)) (.slice ao vs.length ac) (.slice (some ⟨w2.heap.size,0,none⟩) 1 1) 26 vs [ux] (hta.below Zpr hbA) (BW2.o.trans (hbA.mono BW2.o.size)).size hsx (by simp;omega);have hVX2:ClsR (fun i=>(Value.slice go 8 gc).ownBlock ≠ some i) w1 x (cvV ux):=by
     rw [hux];exact ClsR.st.mono (ClsR.st.keep HVX.o (Yad (S:=fun _=>False) HB1.o) (fun _ _=>id)) (fun i _ (hi:i<w.heap.size) e=>by have:=HOWN.o i e;omega)
    obtain ⟨vs2,hvs2⟩:∃ vs2,vs2=vs++[ux]:=⟨_,rfl⟩
    rw [←hvs2] at ht';have HVN:Hid (Vals (fun i=>(Value.slice go 8 gc).ownBlock ≠ some i) w1 (givenL++cs.take (k+1)) vs2):=Hd (by
     rw [YaL,HX.o,←YaW,hvs2];exact HV.o.snoc hVX2)
    have HGN:Hid (Grew w1 (.slice go 8 gc) w' v'):=Hd (HGR.o.trans (Grew.trans ⟨Yad (B2.o.trans (hbA.mono B2.o.size)),.inl rfl⟩ hG));have HRR:=Hd hr;have HT2:=Hd ht';have HOK2:Hid (∀ j d,j<k+1->cs[j]? = some d->d.e=0):=Hd (fun j d hj hd=>by
     rcases YaB j k with h|h
     ·exact HOK.o j d h hd
     ·rw [show j=k by omega,HX.o] at hd;rw [←Yae hd];exact he0)
    obtain ⟨xo,xc,rfl⟩:=ht'.shape;obtain ⟨g0,g1,g2,g3,g4,g5,g6,g7⟩:=HCC.o w2 BW2.o;clear he0 hez hta hux hbA hsx hvl hr ht' hG hVX2 HCC HVX hvs2
    go_wp2_with (at_builtin;refine Zak rfl _ _ 26 rfl _ _ _ w' rfl rfl HRR.o ?_)
    go_wp2
    go_roundw
    case rel=>exact ⟨k+1,_,by omega,by go_num,HVN.o,HT2.o,HGN.o,HOK2.o⟩
    case measure=>simp [intOf];omega
   ·have HBAD:Hid (NewBad cs (k:Nat) x.e):=Hd (.inl ⟨k,x,rfl,HX.o,rfl,he0,HOK.o⟩);have hez:¬ ((x.e:Nat):Int)=0:=by omega
    have he1:(((x.e:Nat):Int) != 0)=true:=by rw [bne_iff_ne];exact hez
    generalize x.e=xe at HBAD hez he1 ⊢;clear he0 HCC HVX;go_wp2
    go_ret3;exact .inl ⟨_,_,HBAD.o,rfl,BW2.o⟩
  ·obtain rfl:k=n:=by omega
   have hvt:Vals (fun i=>(Value.slice go 8 gc).ownBlock ≠ some i) wr (allR cs) vs:=by
    have h:=HV.o;rw [HN.o,YaJ] at h;exact h.frame HGR.o.only (fun i hi e=>hi e)
   have hsa:=Zpd (hvt.mono (A':=fun _=>True) (fun _ _=>trivial)) (HT.o.src Zpr);obtain ⟨m,hm⟩:∃ m,m=vs.length:=⟨_,rfl⟩
   rw [←hm] at hsa ⊢;have hal:(allR cs).length=m:=by rw [hm,hvt.len]
   have HM8:Hid (m=8+k):=Hd (by rw [←hal,ZcP,HN.o]);have hm9:m<=1008:=by have:=HM8.o;omega
   obtain ⟨w2,rfl⟩:∃ w2,w2=wr:=⟨_,rfl⟩
   have HSA:=Hd hsa;have B2:=Hd BW.o;have HOK0:Hid (∀ c ∈ cs,c.e=0):=Hd (fun c hc=>by
    obtain ⟨j,hj⟩:=Ya0.1 hc;exact HOK.o j c (by rw [HN.o];exact (Yag.1 hj).1) hj)
   have HAL:=Hd hal;clear hvt hsa BW HOK HV HT HGR HV1 HT1 HCL HOWN HB1 hal hm;go_wp2
   go_loopw [9] (fun v9 wr=>∃ k2:Nat,k2<=k/\v9=.int .i64 k2/\(∀ j d,j<k2->cs[j]? = some d->Zad (Zaw cs j) d.name=none)/\Below w2.heap.size w2 wr) (fun v9 _=>k - (intOf v9).toNat)
   case atStart=>exact ⟨0,Yai _,rfl,fun j d h=>by omega,Yab _ _⟩
   case round=>
    obtain ⟨k2,hk2,rfl,hno,hbw⟩:=hrel;have HNO:=Hd hno;have BW:=Hd hbw;have BWW:=Hd (B2.o.trans (hbw.mono B2.o.size));clear hno hbw;by_cases hlt2:k2<k
    ·obtain ⟨x,hx⟩:∃ x,cs[k2]? = some x:=⟨_,Yaa (by rw [←HN.o];exact hlt2)⟩
     obtain ⟨b1,o1,v,hso,hv,_,hcl⟩:=Src.elem (ClsR.st.below HS.o BWW.o) k2 x hx;obtain rfl:so=some ⟨b1,o1,none⟩:=hso;obtain ⟨_,_,_,rfl,_⟩:=hv;have d0:wr.cell? ⟨b1,o1+k2 * 8,none⟩=some (.string (S x.name)):=hcl 0 _ rfl;have HFC:=Hd (Zei (allR cs) _ x.name wr (ClsR.st.below HSA.o BW.o) (by rw [HAL.o];omega));unfold Zfx at HFC;have HNW:=Hd (ZoG hx);have HX:=Hd hx;have hk0:(0:Int)<=(k2:Int):=by omega
     have hkn:(k2:Int)<(k:Int):=by omega
     clear hcl hx
     go_wp2_with fail
     with_reducible refine HFC.o.mono ?_
     rintro e w3 ⟨rfl,hb3⟩;have B3:=Hd (BW.o.trans (hb3.mono BW.o.size));have BW3:=Hd (BWW.o.trans (hb3.mono BWW.o.size));clear hb3 d0 HFC;by_cases hf:Za2 (allR cs) x.name=some (8+k2)
     ·have hfi:idxV (Za2 (allR cs) x.name)=8+(k2:Int):=by rw [hf];show ((8+k2:Nat):Int)=_;omega
      have HN2:Hid (∀ j d,j<k2+1->cs[j]? = some d->Zad (Zaw cs j) d.name=none):=Hd (fun j d hj hd=>by
       rcases YaB j k2 with h|h
       ·exact HNO.o j d h hd
       ·have:j=k2:=by omega
        subst this;rw [HX.o] at hd;rw [←Yae hd];exact HNW.o.1 hf)
      rw [hfi];clear hf hfi;go_wp2
      go_roundw
      case rel=>exact ⟨k2+1,by omega,by go_num,HN2.o,B3.o⟩
      case measure=>simp [intOf];omega
     ·have hfi:=ZpQ hf;have hfj:¬ idxV (Za2 (allR cs) x.name)=8+(k2:Int):=by
       intro e;apply hfi
       rw [e];show _=((8+k2:Nat):Int)
       omega
      have hfk:(idxV (Za2 (allR cs) x.name) != 8+(k2:Int))=true:=by rw [bne_iff_ne];exact hfj
      have HBAD:Hid (NewBad cs (k2:Nat) 60):=Hd (.inr ⟨HOK0.o,.inl ⟨k2,x,rfl,HX.o,rfl,by
       cases h:Zad (Zaw cs k2) x.name with
       | none=>exact absurd (HNW.o.2 h) hf
       | some j=>rfl,HNO.o⟩⟩)
      generalize idxV (Za2 (allR cs) x.name)=z0 at hfi hfj hfk ⊢;clear hf;go_wp2
      go_ret3;exact .inl ⟨_,_,HBAD.o,rfl,BW3.o⟩
    ·obtain rfl:k2=k:=by omega
     have HNM:Hid (∀ j d,cs[j]? = some d->Zad (Zaw cs j) d.name=none):=Hd (fun j d hd=>HNO.o j d (by rw [HN.o];exact (Yag.1 hd).1) hd);obtain ⟨w3,rfl⟩:∃ w3,w3=wr:=⟨_,rfl⟩
     have HSA3:=Hd (ClsR.st.below HSA.o BW.o);have B3:=Hd BWW.o;clear HNO BW BWW HSA B2;go_wp2
     go_loopw [10] (fun v10 wr=>∃ k3:Nat,k3<=k2/\v10=.int .i64 k3/\(∀ j d,j<k3->cs[j]? = some d->(upE (Zat cs) d.sup).isSome=true/\ZaH (Zat cs) d.like=true)/\Below w3.heap.size w3 wr) (fun v10 _=>k2 - (intOf v10).toNat)
     case atStart=>exact ⟨0,Yai _,rfl,fun j d h=>by omega,Yab _ _⟩
     case round=>
      obtain ⟨k3,hk3,rfl,hno,hbw⟩:=hrel;have HNO:=Hd hno;have BW:=Hd hbw;have BWW:=Hd (B3.o.trans (hbw.mono B3.o.size));clear hno hbw;by_cases hlt3:k3<k2
      ·obtain ⟨x,hx⟩:∃ x,cs[k3]? = some x:=⟨_,Yaa (by rw [←HN.o];exact hlt3)⟩
       obtain ⟨b1,o1,v,hso,hv,_,hcl⟩:=Src.elem (ClsR.st.below HS.o BWW.o) k3 x hx;obtain rfl:so=some ⟨b1,o1,none⟩:=hso;have HVX:=Hd hv;obtain ⟨_,_,_,rfl,⟨lo,lc,rfl⟩,⟨fo,fc,rfl⟩,⟨mo,mc,rfl⟩⟩:=ZbO hv;have g0:wr.cell? ⟨b1,o1+k3 * 8,none⟩=some (.string (S x.name)):=hcl 0 _ rfl;have g1:wr.cell? ⟨b1,o1+k3 * 8+1,none⟩=some (.string (S x.sup)):=hcl 1 _ rfl;have g2:wr.cell? ⟨b1,o1+k3 * 8+2,none⟩=some (.slice lo x.like.length lc):=hcl 2 _ rfl;have g3:wr.cell? ⟨b1,o1+k3 * 8+3,none⟩=some (.bool x.itf):=hcl 3 _ rfl;have g4:wr.cell? ⟨b1,o1+k3 * 8+4,none⟩=some (.bool x.abs):=hcl 4 _ rfl;have g5:wr.cell? ⟨b1,o1+k3 * 8+5,none⟩=some (.bool x.fin):=hcl 5 _ rfl;have g6:wr.cell? ⟨b1,o1+k3 * 8+6,none⟩=some (.slice fo x.flds.length fc):=hcl 6 _ rfl;have g7:wr.cell? ⟨b1,o1+k3 * 8+7,none⟩=some (.slice mo x.mths.length mc):=hcl 7 _ rfl;have hgood:x.Good:=⟨HOK0.o x (Yaf hx),HHELD.o x (Yaf hx)⟩;have HUC:=Hd (ZiZ cs (by rw [←HN.o];exact hlen) _ _ x wr (ClsR.st.below HSA3.o BW.o) HVX.o (by have:=hgood.nums.1;omega));have HX:=Hd hx;have hk0:(0:Int)<=(k3:Int):=by omega
       have hkn:(k3:Int)<(k2:Int):=by omega
       clear hcl hx hv hgood HVX
       go_wp2_with fail
       with_reducible refine HUC.o.mono ?_
       rintro e w4 ⟨rfl,hb4⟩;have B4:=Hd (BW.o.trans (hb4.mono BW.o.size));have BW4:=Hd (BWW.o.trans (hb4.mono BWW.o.size));clear hb4 g0 g1 g2 g3 g4 g5 g6 g7 HUC;by_cases hu0:upC cs x=0
       ·have huz:((upC cs x:Nat):Int)=0:=by rw [hu0];rfl
        have HN2:Hid (∀ j d,j<k3+1->cs[j]? = some d->(upE (Zat cs) d.sup).isSome=true/\ZaH (Zat cs) d.like=true):=Hd (fun j d hj hd=>by
         rcases YaB j k3 with h|h
         ·exact HNO.o j d h hd
         ·rw [show j=k3 by omega,HX.o] at hd;rw [←Yae hd];exact Zpb hu0)
        rw [huz];clear hu0 huz;go_wp2
        go_roundw
        case rel=>exact ⟨k3+1,by omega,by go_num,HN2.o,B4.o⟩
        case measure=>simp [intOf];omega
       ·have HBAD:Hid (NewBad cs (k3:Nat) (upC cs x)):=Hd (.inr ⟨HOK0.o,.inr ⟨HNM.o,.inl ⟨k3,x,rfl,HX.o,Zqg hu0,HNO.o⟩⟩⟩);have huz:¬ ((upC cs x:Nat):Int)=0:=by omega
        have hu1:(((upC cs x:Nat):Int) != 0)=true:=by rw [bne_iff_ne];exact huz
        generalize upC cs x=z0 at HBAD huz hu1 ⊢;clear hu0;go_wp2
        go_ret3;exact .inl ⟨_,_,HBAD.o,rfl,BW4.o⟩
      ·obtain rfl:k3=k2:=by omega
       have hlined:Lined cs:=⟨by rw [←HN.o];exact hlen,fun c hc=>⟨HOK0.o c hc,HHELD.o c hc⟩,HNM.o,fun c hc=>by
        obtain ⟨j,hj⟩:=Ya0.1 hc;exact (HNO.o j c (by rw [HN.o];exact (Yag.1 hj).1) hj).1,fun c hc=>by
        obtain ⟨j,hj⟩:=Ya0.1 hc;exact (HNO.o j c (by rw [HN.o];exact (Yag.1 hj).1) hj).2⟩
       have HL:=Hd hlined;have HBC:=Hd (Zf1 (allR cs) _ wr (ClsR.st.below HSA3.o BW.o) (by rw [HAL.o];omega) hlined.like_len);unfold ZgT at HBC;rw [HAL.o] at HBC;have HSA4:=Hd (ClsR.st.below HSA3.o BW.o);clear hlined HNO HNM BW HSA3 B3
       go_wp2_with fail
       with_reducible refine HBC.o.mono ?_
       rintro e w5 ⟨RB,v,M,rfl,hmat,hrl,hsrc,hM,hb5⟩;have B5:=Hd (BWW.o.trans (hb5.mono BWW.o.size));have HSA5:=Hd (ClsR.st.below HSA4.o hb5);have HSRC:=Hd hsrc;have HMAT:=Hd hmat;have HRL:=Hd hrl;have HOV:Hid (∀ j,j<k3->(M (8+j) (8+j)=true↔Over (newT cs) (8+j) (8+j))):=Hd (fun j hj=>by
        rw [hM (8+j) (8+j) (by have:=HM8.o;omega) (by have:=HM8.o;omega),ZhP (fun i j=>HL.o.step i j)])
       obtain ⟨vo,vc,rfl⟩:=hsrc.shape;rw [hrl] at HSRC ⊢;clear hmat hrl hsrc hM hb5 HBC HSA4 BWW;go_wp2
       go_loopw [13] (fun v13 wr=>∃ k4:Nat,k4<=k3/\v13=.int .i64 k4/\(∀ j,j<k4->¬ Over (newT cs) (8+j) (8+j))/\wr=w5) (fun v13 _=>k3 - (intOf v13).toNat)
       case atStart=>exact ⟨0,Yai _,rfl,fun j h=>by omega,rfl⟩
       case round=>
        obtain ⟨k4,hk4,rfl,hno,hww⟩:=hrel;subst hww;have HNO:=Hd hno;clear hno;by_cases hlt4:k4<k3
        ·have hkm:8+k4<m:=by have:=HM8.o;omega
         obtain ⟨ri,hri⟩:∃ ri,RB[8+k4]? = some ri:=⟨_,Yaa (by rw [HRL.o];exact hkm)⟩
         obtain ⟨ob,oo,u,hvo,hu,_,hcl⟩:=Src.elem HSRC.o (8+k4) ri hri;obtain rfl:vo=some ⟨ob,oo,none⟩:=hvo;obtain rfl:=hu;have c0:wr.cell? ⟨ob,oo+(8+k4),none⟩=some (.slice (some ⟨ri,0,none⟩) m m):=by have q:=hcl 0 _ rfl;rw [YaG] at q;exact q
         have c1:=HMAT.o.cell hri hkm;have c2:wr.cell? ⟨ri,0+(8+k4),none⟩=some (.bool (M (8+k4) (8+k4))):=by rw [Ybc];exact c1
         have HOJ:=Hd (HOV.o k4 hlt4);have hk0:(0:Int)<=(k4:Int):=by omega
         have hkn:(k4:Int)<(k3:Int):=by omega
         have hki:(8:Int)+(k4:Int)<(m:Int):=by omega
         have hkj:(0:Int)<=8+(k4:Int):=by omega
         have hkt:(8+(k4:Int)).toNat=8+k4:=by omega
         generalize M (8+k4) (8+k4)=x at c1 c2 HOJ;clear hri hcl;cases x with
         | true=>
          have hbd:=HL.o.loop_bad (k:=k4) (by rw [←HN.o];exact hlt4) (HOJ.o.1 rfl) HNO.o;have HBAD:Hid (NewBad cs (k4:Nat) 63):=Hd (.inr ⟨HOK0.o,.inr ⟨HL.o.names,.inr ⟨HL.o,.inl ⟨hbd.1,hbd.2,rfl⟩⟩⟩⟩);clear hbd;go_wp2
          go_ret3;exact .inl ⟨_,_,HBAD.o,rfl,B5.o⟩
         | false=>
          have HN2:Hid (∀ j,j<k4+1->¬ Over (newT cs) (8+j) (8+j)):=Hd (fun j hj ho=>by
           rcases YaB j k4 with h|h
           ·exact HNO.o j h ho
           ·rw [show j=k4 by omega] at ho;have:=HOJ.o.2 ho;cases this)
          go_wp2
          go_roundw
          case rel=>exact ⟨k4+1,by omega,by go_num,HN2.o,trivial⟩
          case measure=>simp [intOf];omega
        ·obtain rfl:k4=k3:=by omega
         have HF0:Hid (firstT (ZaI (newT cs) (newT cs).length).loop<0):=Hd (HL.o.loop_none (fun j hj=>HNO.o j (by rw [HN.o];exact hj)));have HW:=Hd (HL.o.wise0 HF0.o);have HLE:Hid ((newT cs).length=m):=Hd (by rw [ZaR,←HN.o,HM8.o]);have HI0:=Hd (Zej (n:=1) (R:=Flat natV) 3 wr.heap.size wr (Yac _));have HBI:=Hd (Zaa (Yab wr.heap.size wr) (.cells #[] 3));obtain ⟨w5,rfl⟩:∃ w5,w5=wr:=⟨_,rfl⟩
         have HP:Hid (∀ (i:Nat) (l:List Nat) (u:Value) (V:World),i<(newT cs).length->l.Nodup->(∀ x ∈ l,x<(newT cs).length)->Below w5.heap.size w5 V->ZfF w5.heap.size V u l->
           Calls Tryz.prog 56 #[.slice ao m ac,u,.int .i64 8,.int .i64 (idxV (some i))] V (PutT w5.heap.size (putE (newT cs) (newT cs).length l i) V u)):=Hd (fun i l u V h1 h2 h3 h4 h5=>Zo3 cs HL.o HW.o _ w5 HSA5.o (newT cs).length (some i) l u V (fun j hj=>by obtain rfl:=Yae hj;exact ⟨HW.o.deepU h1,h1⟩) h2 h3 h4 h5)
         have HFINE:Hid (∀ (i:Nat) (l:List Nat),i<(newT cs).length->l.Nodup->(∀ x ∈ l,x<(newT cs).length)->(putE (newT cs) (newT cs).length l i).Nodup/\∀ x ∈ putE (newT cs) (newT cs).length l i,x<(newT cs).length):=Hd (fun i l h1 h2 h3=>by
          have h:=ZgD HW.o.ac HW.o.par (newT cs).length l i h1 h2 h3;exact ⟨h.1,fun x hx=>(h.2 x hx).1⟩)
         unfold PutT at HP;clear HNO HOV HSRC HMAT HRL;go_wp2
         go_loopw [14,15] (fun v14 v15 wr=>∃ k5:Nat,k5<=k4/\v15=.int .i64 k5/\ZfF w5.heap.size wr v14 (((List.range k5).map (8 + ·)).foldl (putE (newT cs) (newT cs).length) [])/\(((List.range k5).map (8 + ·)).foldl (putE (newT cs) (newT cs).length) []).Nodup/\(∀ x ∈ ((List.range k5).map (8 + ·)).foldl (putE (newT cs) (newT cs).length) [],x<(newT cs).length)/\Below w5.heap.size w5 wr) (fun _ v15 _=>k4 - (intOf v15).toNat)
         case atStart=>exact ⟨0,Yai _,rfl,HI0.o,Yb7,fun x hx=>(by cases hx),HBI.o⟩
         case round=>
          obtain ⟨k5,hk5,rfl,hir,hnd,hbd,hbw⟩:=hrel;have HIR:=Hd hir;have HND:=Hd hnd;have HBD:=Hd hbd;have BW:=Hd hbw;obtain ⟨ro,rc,rfl⟩:=hir.shape;have HCU:Hid (((List.range (k5+1)).map (8 + ·)).foldl (putE (newT cs) (newT cs).length) []=putE (newT cs) (newT cs).length (((List.range k5).map (8 + ·)).foldl (putE (newT cs) (newT cs).length) []) (8+k5)):=Hd (by rw [YbR,Ya4,Ya8];rfl);obtain ⟨cur,hcur⟩:∃ cur,cur=((List.range k5).map (8 + ·)).foldl (putE (newT cs) (newT cs).length) []:=⟨_,rfl⟩
          rw [←hcur] at HIR HND HBD HCU ⊢;have HCR:=Hd hcur;clear hir hnd hbd hbw hcur;by_cases hlt5:k5<k4
          ·have hkl:8+k5<(newT cs).length:=by rw [HLE.o];have:=HM8.o;omega
           have HPC:=Hd (HP.o (8+k5) cur _ wr hkl HND.o HBD.o BW.o HIR.o);rw [show idxV (some (8+k5))=8+(k5:Int) by show ((8+k5:Nat):Int)=_;omega] at HPC;have HFN:=Hd (HFINE.o (8+k5) cur hkl HND.o HBD.o);have hk0:(0:Int)<=(k5:Int):=by omega
           have hkn:(k5:Int)<(k4:Int):=by omega
           clear hkl
           go_wp2_with fail
           with_reducible refine HPC.o.mono ?_
           rintro e w6 ⟨v',rfl,ht6,hg6⟩;have HT6:=Hd ht6;have B6:=Hd (BW.o.trans (hg6.only.below BW.o.size (fun g hg=>HIR.o.own g hg)));obtain ⟨xo,xc,rfl⟩:=ht6.shape;clear ht6 hg6 HPC;go_wp2
           go_roundw
           case rel=>exact ⟨k5+1,by omega,by go_num,by rw [HCU.o];exact HT6.o,by rw [HCU.o];exact HFN.o.1,by rw [HCU.o];exact HFN.o.2,B6.o⟩
           case measure=>simp [intOf];omega
          ·obtain rfl:k5=k4:=by omega
           obtain ⟨w6,rfl⟩:∃ w6,w6=wr:=⟨_,rfl⟩
           have hor:cur=Zcj (newT cs):=by
            rw [HCR.o];unfold Zcj;rw [HLE.o,show m - 8=k5 by have:=HM8.o;omega,←HLE.o]
           have HSO:=Hd (HIR.o.src (Flat.stays _));have HSA6:=Hd (ClsR.st.below HSA5.o BW.o);have B6:=Hd (B5.o.trans (BW.o.mono B5.o.size));rw [hor] at HSO HBD ⊢;obtain ⟨p,hp⟩:∃ p,p=(Zcj (newT cs)).length:=⟨_,rfl⟩
           have HPN:=Hd hp;rw [hor] at HND;have hp9:p<=1008:=by
            have:=ZcI (newT cs).length (Zcj (newT cs)) HND.o HBD.o;rw [HLE.o] at this;omega
           rw [←hp] at HSO ⊢;clear hor HIR HCU HCR HP HFINE BW HSA5 B5 hp HI0 HBI;go_wp2
           go_loopw [16] (fun v16 wr=>∃ k6:Nat,k6<=p/\v16=.int .i64 k6/\(∀ j y,j<k6->(Zcj (newT cs))[j]? = some y->chkT (newT cs) y=0)/\Below w6.heap.size w6 wr) (fun v16 _=>p - (intOf v16).toNat)
           case atStart=>exact ⟨0,Yai _,rfl,fun j y h=>by omega,Yab _ _⟩
           case round=>
            obtain ⟨k6,hk6,rfl,hno,hbw⟩:=hrel;have HNO:=Hd hno;have BW:=Hd hbw;have BWW:=Hd (B6.o.trans (hbw.mono B6.o.size));clear hno hbw;by_cases hlt6:k6<p
            ·obtain ⟨y,hy⟩:∃ y,(Zcj (newT cs))[k6]? = some y:=⟨_,Yaa (by rw [←HPN.o];exact hlt6)⟩
             obtain ⟨b2,o2,u,hro,hu,_,hcl⟩:=Src.elem HSO.o k6 y hy;obtain rfl:ro=some ⟨b2,o2,none⟩:=hro;obtain rfl:=hu;have HC0:Hid (∀ V,Below w6.heap.size w6 V->V.cell? ⟨b2,o2+k6,none⟩=some (.int .i64 (y:Nat))):=Hd (fun V hV=>(Yad (S:=fun _=>False) hV).cell (a:=⟨b2,o2+k6,none⟩) (by have q:=hcl 0 _ rfl;rw [YaG] at q;exact q) id);have hyl:y<(newT cs).length:=HBD.o y (Yaf hy);have hym:y<m:=by rw [←HLE.o];exact hyl
             have HMC:=Hd (ZhV cs HL.o HW.o (.slice ao m ac) y wr hyl (ClsR.st.below HSA6.o BW.o) (HL.o.anc HF0.o hy hyl HNO.o));have HBADC:Hid (chkT (newT cs) y ≠ 0->NewBad cs ((y:Nat) - 8) (chkT (newT cs) y)):=Hd (fun h=>.inr ⟨HOK0.o,.inr ⟨HL.o.names,.inr ⟨HL.o,.inr ⟨HF0.o,HL.o.chk_bad HF0.o hy h HNO.o⟩⟩⟩⟩);have HNX:Hid (chkT (newT cs) y=0->∀ j z,j<k6+1->(Zcj (newT cs))[j]? = some z->chkT (newT cs) z=0):=Hd (fun h j z hj hz=>by
              rcases YaB j k6 with q|q
              ·exact HNO.o j z q hz
              ·rw [show j=k6 by omega,hy] at hz;rw [←Yae hz];exact h)
             have hk0:(0:Int)<=(k6:Int):=by omega
             have hkn:(k6:Int)<(p:Int):=by omega
             have e0:=HC0.o wr BW.o;generalize chkT (newT cs) y=z0 at HMC HBADC HNX;clear hcl hy hyl
             go_wp2_with fail
             with_reducible refine HMC.o.mono ?_
             rintro e w7 ⟨rfl,hb7⟩;have B7:=Hd (BW.o.trans (hb7.mono BW.o.size));have BW7:=Hd (BWW.o.trans (hb7.mono BWW.o.size));have e1:=HC0.o w7 B7.o;clear hb7 e0 HMC;by_cases hz0:z0=0
             ·have hzz:((z0:Nat):Int)=0:=by rw [hz0];rfl
              have HN2:=Hd (HNX.o hz0);rw [hzz];clear hz0 hzz HBADC HNX e1;go_wp2
              go_roundw
              case rel=>exact ⟨k6+1,by omega,by go_num,HN2.o,B7.o⟩
              case measure=>simp [intOf];omega
             ·have HBAD:=Hd (HBADC.o hz0);have hzz:¬ ((z0:Nat):Int)=0:=by omega
              have hz1:(((z0:Nat):Int) != 0)=true:=by rw [bne_iff_ne];exact hzz
              have BD:=Hd (Zab BW7.o);clear hz0 HBADC HNX
              go_upto_region 37 with fail
              go_quiet (fail)
              go_wp2
              go_ret3;exact .inl ⟨_,_,HBAD.o,rfl,by first|exact BW7.o|exact BD.o|exact BW7.o.trans (YbN (Zaz _ _) BW7.o.size)⟩
            ·obtain rfl:k6=p:=by omega
             have HOK9:Hid (NewOk cs):=Hd (HL.o.ok HF0.o (fun y hy=>by
              obtain ⟨j,hj⟩:=Ya0.1 hy;exact HNO.o j y (by rw [HPN.o];exact (Yag.1 hj).1) hj))
             have HSF:=Hd (ClsR.st.below HSA6.o BW.o);go_wp2
             go_ret3;exact .inr ⟨HOK9.o,_,rfl,HSF.o,BWW.o⟩
