/- laws -/
import Derived.Test.YtggcdinoflchjaaGreatDoorK65
import Derived.Test.YtggcdinoflchjaaGreatDoorK66
set_option maxRecDepth 100000
set_option maxHeartbeats 16000000
namespace Go.Proofs.YtggcdinoflchjaaGreatDoor
open Go.RowKit
theorem ZhU {A:Nat->Prop} (cs:List Cls) (hL:Lined cs) (W:Wise (newT cs)) (sv:Value) (i:Nat) (w:World) (hi:i<(newT cs).length) (hs:Src 8 ClsR A w sv (allR cs)) (hanc:∀ d ∈ Zap (newT cs) (upAt (newT cs) i),chkT (newT cs) d=0) :
  Calls Tryz.prog 57 #[sv,.int .i64 (i:Nat)] w (fun e w'=>e=.returned (.int .i64 ((chkT (newT cs) i:Nat):Int))/\Below w.heap.size w w'):=by
 obtain ⟨en,hen⟩:∃ en,(newT cs)[i]? = some en:=⟨_,List.getElem?_eq_getElem hi⟩
 have hx:(allR cs)[i]? = some en.cls:=by rw [Zdt,hen];rfl
 have hD:=hL.chkD W hen hanc;have HDA:=Hd hD.a;have HDB:=Hd hD.b;have HDC:=Hd hD.c;have hpn:Zad (newT cs) en.cls.name=some i:=W.uq i en hen;have HPL:Hid (∀ x V,Below w.heap.size w V->Calls Tryz.prog 119 #[sv,.string (S en.cls.sup),.string (S x)] V (fun e w'=>e=.returned (.int .i64 (idxV (ZcI (newT cs) en.cls.sup x)))/\Below V.heap.size V w')):=Hd (fun x V hV=>Zlc cs hL W sv en.cls.sup x V (ClsR.st.below hs hV));have HTH:Hid (∀ x V,x.length<=281474976710656->Below w.heap.size w V->Calls Tryz.prog 120 #[sv,.string (S x)] V (fun e w'=>e=.returned (.bool (ZbY (newT cs) x))/\Below V.heap.size V w')):=Hd (fun x V hx hV=>Zld cs hL.len W sv x V (ClsR.st.below hs hV) (by omega));have HBL:Hid (∀ V,Below w.heap.size w V->Calls Tryz.prog 55 #[sv] V (ZgQ (allR cs) V)):=Hd (fun V hV=>ZfY (allR cs) sv V (ClsR.st.below hs hV) (by rw [ZcM];have:=hL.len;omega) hL.like_len);have HME:Hid (∀ x V,Below w.heap.size w V->Calls Tryz.prog 122 #[sv,.string (S en.cls.name),.string (S x)] V (ZgT w.heap.size (newT cs) (ZbG (newT cs) (some i) x) V)):=Hd (fun x V hV=>by
  have h:=ZiW w.heap.size cs hL W sv en.cls.name x V hV.size (ClsR.st.below (ClsR.st.srcMono (A':=fun k=>k<w.heap.size) hs (fun k hk _=>hk)) hV);rw [hpn] at h;exact h)
 have HGD:Hid (∀ k,∀ m ∈ Zaq (newT cs) k,m.Good):=Hd (fun k m hm=>W.good k m hm);have HFEW:Hid (∀ k,(Zaq (newT cs) k).length<=32):=Hd hL.few;have HKS:Hid (∀ s ∈ ZcQ en.cls,s.length<=281474976710656):=Hd (ZmG (hL.clsSmall i en hen));have HKN:Hid ((ZcQ en.cls).length<=2000):=Hd (Zox (hL.small i en hen).2.1 (hL.small i en hen).2.2.1 (fun m hm=>(W.good i m (by rw [Zce hen];exact hm)).nums.1));have HOV:Hid (∀ M:Nat->Nat->Bool,(∀ a b,a<(allR cs).length->b<(allR cs).length->(M a b=true↔Plus (StepR (allR cs)) a b))->∀ k,k<(newT cs).length->(M i k=true↔Over (newT cs) i k)):=Hd (fun M hM k hk=>by
  have hel:(allR cs).length=(newT cs).length:=by rw [ZcM,ZaR]
  rw [hM i k (by rw [hel];exact hi) (by rw [hel];exact hk),ZhO (fun i j=>hL.step i j)])
 have HHAS:Hid (∀ R:Nat->Bool,(∀ k,k<(newT cs).length->(R k=true↔Over (newT cs) i k))->∀ m ∈ Zcb (newT cs) i R (newT cs).length,∃ r,ZbG (newT cs) (some i) m.name=some r):=Hd (fun R hR m hm=>W.all_has hi hR hm);have HGA:Hid (∀ R:Nat->Bool,(∀ k,k<(newT cs).length->(R k=true↔Over (newT cs) i k))->∀ m ∈ Zcb (newT cs) i R (newT cs).length,m.Good):=Hd (fun R hR m hm=>by
  obtain ⟨k,_,_,h3⟩:=(Zff m _).1 hm;exact W.good k m h3)
 have HAT:Hid (∀ k,(allR cs)[k]? = ((newT cs)[k]?).map Ent.cls):=Hd (Zdt cs);have HABS:Hid (∀ x r,ZbG (newT cs) (some i) x=some r->absM (newT cs) i x=r.2.abs):=Hd (fun x r h=>by unfold absM;rw [h]);have HSX:=Hd hs;have hcn:(newT cs).length<=1008:=by rw [ZaR];have:=hL.len;omega
 generalize chkT (newT cs) i=z at HDA HDB HDC ⊢;obtain ⟨so,sc,rfl⟩:=hs.shape;obtain ⟨b1,o1,v,hsv1,hv,_,hcl⟩:=Src.elem hs i en.cls hx;obtain rfl:so=some ⟨b1,o1,none⟩:=hsv1;obtain ⟨lv,fv,mv,rfl,hl,hf,hm⟩:=hv;obtain ⟨lo,lc,rfl⟩:=hl.shape;obtain ⟨fo,fc,rfl⟩:=hf.shape;obtain ⟨mo,mc,rfl⟩:=hm.shape;obtain ⟨n,hn⟩:∃ n,n=(newT cs).length:=⟨_,rfl⟩
 have hel:(allR cs).length=n:=by rw [hn,ZcM,ZaR]
 have HEL:=Hd hel;rw [hel] at HPL HTH HBL HME HSX HOV ⊢;rw [←hn] at HDC HOV HHAS HGA hi hcn;have HNN:=Hd hn;have hnf9:en.cls.flds.length<=32:=(hL.small i en hen).2.1;have hnm9:en.cls.mths.length<=32:=(hL.small i en hen).2.2.1;obtain ⟨nf,hnf⟩:∃ nf,nf=en.cls.flds.length:=⟨_,rfl⟩
 obtain ⟨nm,hnm⟩:∃ nm,nm=en.cls.mths.length:=⟨_,rfl⟩
 rw [←hnf] at hf hcl hnf9;rw [←hnm] at hm hcl hnm9;have d0:w.cell? ⟨b1,o1+i * 8,none⟩=some (.string (S en.cls.name)):=hcl 0 _ rfl;have d1:w.cell? ⟨b1,o1+i * 8+1,none⟩=some (.string (S en.cls.sup)):=hcl 1 _ rfl;have d2:w.cell? ⟨b1,o1+i * 8+2,none⟩=some (.slice lo en.cls.like.length lc):=hcl 2 _ rfl;have d3:w.cell? ⟨b1,o1+i * 8+3,none⟩=some (.bool en.cls.itf):=hcl 3 _ rfl;have d4:w.cell? ⟨b1,o1+i * 8+4,none⟩=some (.bool en.cls.abs):=hcl 4 _ rfl;have d5:w.cell? ⟨b1,o1+i * 8+5,none⟩=some (.bool en.cls.fin):=hcl 5 _ rfl;have d6:w.cell? ⟨b1,o1+i * 8+6,none⟩=some (.slice fo nf fc):=hcl 6 _ rfl;have d7:w.cell? ⟨b1,o1+i * 8+7,none⟩=some (.slice mo nm mc):=hcl 7 _ rfl;have hba:Below w.heap.size w (w.alloc (.cells #[.string (S en.cls.name),.string (S en.cls.sup),.slice lo en.cls.like.length lc,.bool en.cls.itf,.bool en.cls.abs,.bool en.cls.fin,.slice fo nf fc,.slice mo nm mc] 87)):=Zaa (Below.refl _ _) _;have HX:=Hd (Box.new w #[.string (S en.cls.name),.string (S en.cls.sup),.slice lo en.cls.like.length lc,.bool en.cls.itf,.bool en.cls.abs,.bool en.cls.fin,.slice fo nf fc,.slice mo nm mc] 87);have HBA:=Hd hba;have HFL:=Hd (FldR.st.below hf hba);have HMS:=Hd (MthR.st.below hm hba);have HNF:=Hd hnf;have HNM:=Hd hnm;have i1:(0:Int)<=(i:Int):=by omega
 have i2:(i:Int)<(n:Int):=by omega
 obtain ⟨fl,hfl⟩:∃ fl,fl=en.cls.flds:=⟨_,rfl⟩
 obtain ⟨ms,hms⟩:∃ ms,ms=en.cls.mths:=⟨_,rfl⟩
 have HKD:Hid (ZcQ en.cls=fl.map Fld.kind++ms.flatMap Zbs):=Hd (by rw [hfl,hms];rfl);rw [←hfl] at HDA HDB HDC HFL HNF;rw [←hms] at HMS HNM;clear hs hcl hl hf hm hx hD hpn hL W hen hanc hba hnf hnm hfl hms hel hn;go_enter Tryz.func57,Tryz.ntmps57
 go_upto_region 2 with fail
 obtain ⟨bx,hbx⟩:∃ bx,bx=w.heap.size:=⟨_,rfl⟩
 generalize hW:w.alloc (.cells #[.string (S en.cls.name),.string (S en.cls.sup),.slice lo en.cls.like.length lc,.bool en.cls.itf,.bool en.cls.abs,.bool en.cls.fin,.slice fo nf fc,.slice mo nm mc] 87)=W0 at HX HBA HFL HMS ⊢;rw [←hbx] at HX ⊢;clear hW hbx d0 d1 d2 d3 d4 d5 d6 d7;go_wp2
 go_loopw [6] (fun v6 wr=>∃ k:Nat,k<=nf/\v6=.int .i64 k/\(fl.take k).any (fun f=>(ZcI (newT cs) en.cls.sup f.name).isSome)=false/\Below W0.heap.size W0 wr) (fun v6 _=>nf - (intOf v6).toNat)
 case atStart=>exact ⟨0,Nat.zero_le _,rfl,by simp,Below.refl _ _⟩
 case round=>
  obtain ⟨k,hk,rfl,hno,hbw⟩:=hrel;have HNO:=Hd hno;have BW:=Hd hbw;have BWW:=Hd (HBA.out.trans (hbw.mono HBA.out.size));have c6:wr.cell? ⟨bx,6,none⟩=some (.slice fo nf fc):=(HX.out.below hbw).cell 6 rfl;clear hno hbw;by_cases hlt:k<nf
  ·obtain ⟨x,hx⟩:∃ x,fl[k]? = some x:=⟨_,List.getElem?_eq_getElem (by rw [←HNF.out];exact hlt)⟩
   obtain ⟨b2,o2,u,hfo,hu,_,hcl⟩:=Src.elem (FldR.st.below HFL.out BW.out) k x hx;obtain rfl:fo=some ⟨b2,o2,none⟩:=hfo;obtain rfl:=hu;have hB:=Below.refl wr.heap.size wr;have HS2:Hid (∀ V,Below wr.heap.size wr V->V.cell? ⟨bx,1,none⟩=some (.string (S en.cls.sup))/\V.cell? ⟨bx,6,none⟩=some (.slice (some ⟨b2,o2,none⟩) nf fc)/\V.cell? ⟨b2,o2+k * 3,none⟩=some (.string (S x.name))):=Hd (fun V hV=>by
    have h1:=HX.out.below (BW.out.trans (hV.mono BW.out.size));exact ⟨h1.cell 1 rfl,h1.cell 6 rfl,(Only.ofBelow (S:=fun _=>False) hV).cell (a:=⟨b2,o2+k * 3,none⟩) (hcl 0 _ rfl) id⟩)
   have hk0:(0:Int)<=(k:Int):=by omega
   have hkm:(k:Int)<(nf:Int):=by omega
   have HTS:=Hd (Zah (fun f:Fld=>(ZcI (newT cs) en.cls.sup f.name).isSome) fl k x hx);have HYES:Hid ((ZcI (newT cs) en.cls.sup x.name).isSome=true->z=64):=Hd (fun h=>HDA.out (List.any_eq_true.2 ⟨x,List.mem_of_getElem? hx,h⟩));have HPC:Hid (∀ V,Below wr.heap.size wr V->Calls Tryz.prog 119 #[.slice (some ⟨b1,o1,none⟩) n sc,.string (S en.cls.sup),.string (S x.name)] V (fun e w'=>e=.returned (.int .i64 (idxV (ZcI (newT cs) en.cls.sup x.name)))/\Below V.heap.size V w')):=Hd (fun V hV=>HPL.out x.name V (BWW.out.trans (hV.mono BWW.out.size)));obtain ⟨g1,g6,g7⟩:=HS2.out wr hB;cases hpf:ZcI (newT cs) en.cls.sup x.name with
   | some j=>
    have HZ:Hid (z=64):=Hd (HYES.out (by rw [hpf];rfl));rw [hpf] at HPC;have e0:idxV (some j)=(j:Int):=rfl;rw [e0] at HPC;have j0:(0:Int)<=(j:Int):=by omega
    generalize x.name=xn at HS2 HPC g7;clear hpf hcl hx HTS HYES e0 c6
    go_upto_region 5 with fail
    first
    | (go_region_held3 (fun V=>V.cell? ⟨bx,1,none⟩=some (.string (S en.cls.sup))/\V.cell? ⟨bx,6,none⟩=some (.slice (some ⟨b2,o2,none⟩) nf fc)/\V.cell? ⟨b2,o2+k * 3,none⟩=some (.string (S xn))) ((refine HS2.out _ ?_;(repeat (first|(with_reducible exact hB)|(with_reducible assumption)|(with_reducible (apply Zac;rotate_left;assumption))|(with_reducible refine Zab ?_)|(with_reducible refine Zaa ?_ _)))))
      ((go_at_call 119;(with_reducible refine (HPC.out _ ?_).mono ?_);(focus ((repeat (first|(with_reducible exact hB)|(with_reducible assumption)|(with_reducible (apply Zac;rotate_left;assumption))|(with_reducible refine Zab ?_)|(with_reducible refine Zaa ?_ _)));done));rintro e wp ⟨rfl,bp⟩)))
    | fail
    all_goals
     go_wp2;go_ret;exact ⟨by rw [HZ.out];rfl,BWW.out.trans (Below.mono (by first|exact Zay _ _|(repeat (first|(with_reducible exact hB)|(with_reducible assumption)|(with_reducible (apply Zac;rotate_left;assumption))|(with_reducible refine Zab ?_)|(with_reducible refine Zaa ?_ _)))) BWW.out.size)⟩
   | none=>
    rw [hpf] at HPC HTS;have e0:idxV none=(-1:Int):=rfl;rw [e0] at HPC;have HT2:Hid ((fl.take (k+1)).any (fun f=>(ZcI (newT cs) en.cls.sup f.name).isSome)=false):=Hd (by rw [HTS.out,HNO.out];rfl);generalize x.name=xn at HS2 HPC g7;clear hpf hcl hx HTS HYES e0 c6
    go_upto_region 5 with fail
    first
    | (go_region_held3 (fun V=>V.cell? ⟨bx,1,none⟩=some (.string (S en.cls.sup))/\V.cell? ⟨bx,6,none⟩=some (.slice (some ⟨b2,o2,none⟩) nf fc)/\V.cell? ⟨b2,o2+k * 3,none⟩=some (.string (S xn))) ((refine HS2.out _ ?_;(repeat (first|(with_reducible exact hB)|(with_reducible assumption)|(with_reducible (apply Zac;rotate_left;assumption))|(with_reducible refine Zab ?_)|(with_reducible refine Zaa ?_ _)))))
      ((go_at_call 119;(with_reducible refine (HPC.out _ ?_).mono ?_);(focus ((repeat (first|(with_reducible exact hB)|(with_reducible assumption)|(with_reducible (apply Zac;rotate_left;assumption))|(with_reducible refine Zab ?_)|(with_reducible refine Zaa ?_ _)));done));rintro e wp ⟨rfl,bp⟩)))
    | fail
    all_goals
     go_wp2
     go_roundw
     case rel=>exact ⟨k+1,by omega,by go_num,HT2.out,BW.out.trans (Below.mono (by first|exact Zay _ _|(repeat (first|(with_reducible exact hB)|(with_reducible assumption)|(with_reducible (apply Zac;rotate_left;assumption))|(with_reducible refine Zab ?_)|(with_reducible refine Zaa ?_ _)))) BW.out.size)⟩
     case measure=>simp [intOf];omega
  ·obtain rfl:k=nf:=by omega
   have HFA:Hid (fl.any (fun f=>(ZcI (newT cs) en.cls.sup f.name).isSome)=false):=Hd (by have h:=HNO.out;rw [HNF.out,List.take_length] at h;exact h);obtain ⟨w1,rfl⟩:∃ w1,w1=wr:=⟨_,rfl⟩
   have HX1:=Hd (HX.out.below BW.out);have HFL1:=Hd (FldR.st.below HFL.out BW.out);have HMS1:=Hd (MthR.st.below HMS.out BW.out);have HD2:=Hd (HDB.out HFA.out);have HD3:=Hd (HDC.out HFA.out);have HIR:=Hd (Zeh (n:=1) (R:=StrR) 9 w1.heap.size w1 (Nat.le_refl _));have HBI:=Hd (Zaa (Below.refl w1.heap.size w1) (.cells #[] 9));clear HNO BW HPL HDA HDB HDC HX HFL HMS HBA;rename Hid (Below w.heap.size w w1)=>BA1
   go_wp2;clear c6
   go_loopw [7,8] (fun v7 v8 wr=>∃ k2:Nat,k2<=k/\v8=.int .i64 k2/\TRow 1 9 StrR w1.heap.size wr v7 ((fl.take k2).map Fld.kind) (((fl.take k2).map Fld.kind).map strV)/\Below w1.heap.size w1 wr) (fun _ v8 _=>k - (intOf v8).toNat)
   case atStart=>exact ⟨0,Nat.zero_le _,rfl,HIR.out,HBI.out⟩
   case round=>
    obtain ⟨k2,hk2,rfl,hir,hbw⟩:=hrel;have c6:wr.cell? ⟨bx,6,none⟩=some (.slice fo k fc):=(HX1.out.below hbw).cell 6 rfl;have HR0:=Hd hir;have BW:=Hd hbw;obtain ⟨ro,rc,rfl⟩:=hir.shape;obtain ⟨L1,hL1⟩:∃ L1,L1=(fl.take k2).map Fld.kind:=⟨_,rfl⟩
    rw [←hL1] at HR0 ⊢;have HL1:=Hd hL1;clear hir hbw hL1;by_cases hlt2:k2<k
    ·obtain ⟨x,hx⟩:∃ x,fl[k2]? = some x:=⟨_,List.getElem?_eq_getElem (by rw [←HNF.out];exact hlt2)⟩
     obtain ⟨b2,o2,u,hfo,hu,_,hcl⟩:=Src.elem (FldR.st.below HFL1.out BW.out) k2 x hx;obtain rfl:fo=some ⟨b2,o2,none⟩:=hfo;obtain rfl:=hu;have e1:wr.cell? ⟨b2,o2+k2 * 3+1,none⟩=some (.string (S x.kind)):=hcl 1 _ rfl;have hln:L1.length<=2000:=by rw [HL1.out,List.length_map,List.length_take];omega
     have hbA:Below wr.heap.size wr (wr.alloc (.cells #[.string (S x.kind)] 9)):=Zaa (Below.refl _ _) _;obtain ⟨v',w',hr,ht',hG⟩:=ZcK w1.heap.size (wr.alloc (.cells #[.string (S x.kind)] 9)) (.slice ro L1.length rc) (.slice (some ⟨wr.heap.size,0,none⟩) 1 1) 22 L1 [x.kind] (HR0.out.below StrR.st hbA) (BW.out.trans (hbA.mono BW.out.size)).size ((ZgJ wr.heap.size wr (Nat.le_refl _) x.kind).src StrR.st) (by simp only [List.length_singleton];omega);obtain ⟨L2,hL2⟩:∃ L2,L2=L1++[x.kind]:=⟨_,rfl⟩
     rw [←hL2] at ht';have HTK:Hid ((fl.take (k2+1)).map Fld.kind=L2):=Hd (by rw [hL2,HL1.out,List.take_add_one,hx];simp);have HRR:=Hd hr;have HT2:=Hd ht';have HB2:Hid (Below w1.heap.size w1 w'):=Hd ((BW.out.trans (hbA.mono BW.out.size)).trans (hG.only.below (BW.out.trans (hbA.mono BW.out.size)).size (fun g hg=>(HR0.out.below StrR.st hbA).own g hg)));have hk0:(0:Int)<=(k2:Int):=by omega
     have hkm:(k2:Int)<(k:Int):=by omega
     obtain ⟨xo,xc,rfl⟩:=ht'.shape;generalize x.kind=xk at e1 HRR;clear hcl hx hln hbA hr ht' hG hL2
     go_wp2_with (at_builtin;refine Zaj rfl _ _ 22 rfl _ _ _ w' rfl rfl HRR.out ?_)
     go_wp2
     go_roundw
     case rel=>exact ⟨k2+1,by omega,by go_num,by rw [HTK.out];exact HT2.out,HB2.out⟩
     case measure=>simp [intOf];omega
    ·obtain rfl:k2=k:=by omega
     have HR1:Hid (TRow 1 9 StrR w1.heap.size wr (.slice ro L1.length rc) (fl.map Fld.kind++(ms.take 0).flatMap Zbs) ((fl.map Fld.kind++(ms.take 0).flatMap Zbs).map strV)):=Hd (by
      have e:fl.map Fld.kind++(ms.take 0).flatMap Zbs=L1:=by rw [HL1.out,HNF.out,List.take_length];simp
      rw [e];exact HR0.out)
     clear HR0 HIR HBI;go_wp2;clear c6
     go_loopw [7,9] (fun v7 v9 wr=>∃ k3:Nat,k3<=nm/\v9=.int .i64 k3/\TRow 1 9 StrR w1.heap.size wr v7 (fl.map Fld.kind++(ms.take k3).flatMap Zbs) ((fl.map Fld.kind++(ms.take k3).flatMap Zbs).map strV)/\Below w1.heap.size w1 wr) (fun _ v9 _=>nm - (intOf v9).toNat)
     case atStart=>exact ⟨0,Nat.zero_le _,rfl,HR1.out,BW.out⟩
     case round=>
      obtain ⟨k3,hk3,rfl,hir,hbw⟩:=hrel;have HR0:=Hd hir;have BX:=Hd hbw;have c7:wr.cell? ⟨bx,7,none⟩=some (.slice mo nm mc):=(HX1.out.below hbw).cell 7 rfl;obtain ⟨ro,rc,rfl⟩:=hir.shape;obtain ⟨L3,hL3⟩:∃ L3,L3=fl.map Fld.kind++(ms.take k3).flatMap Zbs:=⟨_,rfl⟩
      rw [←hL3] at HR0 ⊢;have HL3:=Hd hL3;clear hir hbw HR1 hL3;by_cases hlt3:k3<nm
      ·obtain ⟨x,hx⟩:∃ x,ms[k3]? = some x:=⟨_,List.getElem?_eq_getElem (by rw [←HNM.out];exact hlt3)⟩
       obtain ⟨b2,o2,u,hmo,hu,_,hcl⟩:=Src.elem HMS1.out k3 x hx;obtain rfl:mo=some ⟨b2,o2,none⟩:=hmo;obtain ⟨pv,cv,kv,rfl,hp,hcd,hkt⟩:=hu;obtain ⟨po,pc,rfl⟩:=hp.shape;have HC3:Hid (∀ V,Below w1.heap.size w1 V->V.cell? ⟨bx,7,none⟩=some (.slice (some ⟨b2,o2,none⟩) nm mc)/\V.cell? ⟨b2,o2+k3 * 7+1,none⟩=some (.slice po x.params.length pc)/\V.cell? ⟨b2,o2+k3 * 7+2,none⟩=some (.string (S x.res))):=Hd (fun V hV=>by
        have ho:=Only.ofBelow (S:=fun _=>False) hV;exact ⟨(HX1.out.below hV).cell 7 rfl,ho.cell (a:=⟨b2,o2+k3 * 7+1,none⟩) (hcl 1 _ rfl) id,ho.cell (a:=⟨b2,o2+k3 * 7+2,none⟩) (hcl 2 _ rfl) id⟩)
       have hTK:fl.map Fld.kind++(ms.take (k3+1)).flatMap Zbs=L3++Zbs x:=by rw [HL3.out,List.take_add_one,hx];simp
       have hle:L3.length+(Zbs x).length<=2000:=by
        have h:=HKN.out;rw [HKD.out,←List.take_append_drop (k3+1) ms,List.flatMap_append,←List.append_assoc,hTK] at h;simp only [List.length_append] at h;omega
       have hmk:Zbs x=x.params++(if x.res=[] then [] else [x.res]):=rfl;have hle2:L3.length+x.params.length<=2000:=by rw [hmk,List.length_append] at hle;omega
       obtain ⟨v',w',hr,ht',hG⟩:=ZcK w1.heap.size wr (.slice ro L3.length rc) (.slice po x.params.length pc) 22 L3 x.params HR0.out BX.out.size (StrR.st.below hp BX.out) (by omega);obtain ⟨L4,hL4⟩:∃ L4,L4=L3++x.params:=⟨_,rfl⟩
       rw [←hL4] at ht';have HRR:=Hd hr;have HB2:Hid (Below w1.heap.size w1 w'):=Hd (BX.out.trans (hG.only.below BX.out.size (fun g hg=>HR0.out.own g hg)));have HT2:=Hd ht';have hk0:(0:Int)<=(k3:Int):=by omega
       have hkm:(k3:Int)<(nm:Int):=by omega
       obtain ⟨xo,xc,rfl⟩:=ht'.shape;obtain ⟨a7,a1,a2⟩:=HC3.out wr BX.out;obtain ⟨q7,q1,q2⟩:=HC3.out w' HB2.out;have e1:=Zae x.res;have hl4:L4.length<=2000:=by rw [hL4,List.length_append];exact hle2
       clear hcl hx hle hle2 hr ht' hG hp hcd hkt c7;by_cases hres:x.res=[]
       ·have HTK:Hid (fl.map Fld.kind++(ms.take (k3+1)).flatMap Zbs=L4):=Hd (by rw [hTK,hmk,if_pos hres,List.append_nil,hL4]);have h1:(x.res == [])=true:=by rw [hres];rfl
        have h2:(x.res != [])=false:=by rw [hres];rfl
        have h3:decide (x.res=[])=true:=decide_eq_true hres;generalize x.res=xr at a2 q2 e1 h1 h2 h3;clear hres hTK hmk hL4 hl4
        go_wp2_with (at_builtin;refine Zaj rfl _ _ 22 rfl _ _ _ w' rfl rfl HRR.out ?_)
        go_wp2
        go_roundw
        case rel=>exact ⟨k3+1,by omega,by go_num,by rw [HTK.out];exact HT2.out,HB2.out⟩
        case measure=>simp [intOf];omega
       ·have h1:(x.res == [])=false:=beq_eq_false_iff_ne.2 hres;have h2:(x.res != [])=true:=by rw [bne_iff_ne];exact hres
        have h3:decide (x.res=[])=false:=decide_eq_false hres;have hbA:Below w'.heap.size w' (w'.alloc (.cells #[.string (S x.res)] 9)):=Zaa (Below.refl _ _) _;obtain ⟨v2,w2,hr2,ht2,hG2⟩:=ZcK w1.heap.size (w'.alloc (.cells #[.string (S x.res)] 9)) (.slice xo L4.length xc) (.slice (some ⟨w'.heap.size,0,none⟩) 1 1) 22 L4 [x.res] (HT2.out.below StrR.st hbA) (HB2.out.trans (hbA.mono HB2.out.size)).size ((ZgJ w'.heap.size w' (Nat.le_refl _) x.res).src StrR.st) (by simp only [List.length_singleton];omega);obtain ⟨L5,hL5⟩:∃ L5,L5=L4++[x.res]:=⟨_,rfl⟩
        rw [←hL5] at ht2;have HTK:Hid (fl.map Fld.kind++(ms.take (k3+1)).flatMap Zbs=L5):=Hd (by rw [hTK,hmk,if_neg hres,hL5,hL4,List.append_assoc]);have HRR2:=Hd hr2;have HT3:=Hd ht2;have HB3:Hid (Below w1.heap.size w1 w2):=Hd ((HB2.out.trans (hbA.mono HB2.out.size)).trans (hG2.only.below (HB2.out.trans (hbA.mono HB2.out.size)).size (fun g hg=>(HT2.out.below StrR.st hbA).own g hg)));obtain ⟨yo,yc,rfl⟩:=ht2.shape;generalize x.res=xr at a2 q2 e1 h1 h2 h3 HRR2;clear hres hbA hr2 ht2 hG2 hTK hmk hL4 hL5 hl4
        go_wp2_with (first|(at_builtin;refine Zaj rfl _ _ 22 rfl _ _ _ w' rfl rfl HRR.out ?_)|(at_builtin;refine Zaj rfl _ _ 22 rfl _ _ _ w2 rfl rfl HRR2.out ?_))
        go_wp2
        go_roundw
        case rel=>exact ⟨k3+1,by omega,by go_num,by rw [HTK.out];exact HT3.out,HB3.out⟩
        case measure=>simp [intOf];omega
      ·obtain rfl:k3=nm:=by omega
       have hKL:L3=ZcQ en.cls:=by rw [HL3.out,HNM.out,List.take_length,HKD.out]
       rw [hKL] at HR0 ⊢;obtain ⟨w3,rfl⟩:∃ w3,w3=wr:=⟨_,rfl⟩
       have HX3:=Hd (HX1.out.below BX.out);have B3:=Hd (BA1.out.trans (BX.out.mono BA1.out.size));have HKR:=Hd (HR0.out.src StrR.st);obtain ⟨K,hK⟩:∃ K,K=ZcQ en.cls:=⟨_,rfl⟩
       rw [←hK] at HKR HKS HD2 HD3 HKN ⊢;obtain ⟨nk,hnk⟩:∃ nk,nk=K.length:=⟨_,rfl⟩
       rw [←hnk] at HKR ⊢;have HNK:=Hd hnk;have hnk9:nk<=2000:=by rw [hnk];exact HKN.out
       clear hKL HR0 BW BX HX1 HFL1 HMS1 HKD hK hnk BA1;go_wp2;clear c7
       go_loopw [10] (fun v10 wr=>∃ k4:Nat,k4<=nk/\v10=.int .i64 k4/\(K.take k4).all (ZbY (newT cs))=true/\Below w3.heap.size w3 wr) (fun v10 _=>nk - (intOf v10).toNat)
       case atStart=>exact ⟨0,Nat.zero_le _,rfl,by simp,Below.refl _ _⟩
       case round=>
        obtain ⟨k4,hk4,rfl,hall,hbw⟩:=hrel;have HALL:=Hd hall;have BW:=Hd hbw;have BWW:=Hd (B3.out.trans (hbw.mono B3.out.size));clear hall hbw;by_cases hlt4:k4<nk
        ·obtain ⟨x,hx⟩:∃ x,K[k4]? = some x:=⟨_,List.getElem?_eq_getElem (by rw [←HNK.out];exact hlt4)⟩
         obtain ⟨b6,o6,u,hko,hu,_,hcl⟩:=Src.elem (StrR.st.below HKR.out BW.out) k4 x hx;obtain rfl:ro=some ⟨b6,o6,none⟩:=hko;obtain rfl:=hu;have c0:wr.cell? ⟨b6,o6+k4,none⟩=some (.string (S x)):=by have q:=hcl 0 _ rfl;rw [Nat.mul_one] at q;exact q
         have HCF:=Hd (HTH.out x wr (HKS.out x (List.mem_of_getElem? hx)) BWW.out);have HTK:Hid ((K.take (k4+1)).all (ZbY (newT cs))=ZbY (newT cs) x):=Hd (by rw [List.take_add_one,hx];simp [HALL.out]);have HNA:Hid (ZbY (newT cs) x=false->z=65):=Hd (fun h=>HD2.out (Zb9 (fun h2=>by rw [List.all_eq_true.1 h2 x (List.mem_of_getElem? hx)] at h;cases h)));have hk0:(0:Int)<=(k4:Int):=by omega
         have hkq:(k4:Int)<(nk:Int):=by omega
         clear hcl hx
         go_wp2_with fail
         with_reducible refine HCF.out.mono ?_
         rintro e w4 ⟨rfl,hb4⟩;have B4:=Hd (BW.out.trans (hb4.mono BW.out.size));have BW4:=Hd (BWW.out.trans (hb4.mono BWW.out.size));clear hb4 c0 HCF;cases hde:ZbY (newT cs) x with
         | false=>
          have HZ:=Hd (HNA.out hde);clear hde HTK HNA;go_wp2;go_ret;exact ⟨by rw [HZ.out];rfl,BW4.out⟩
         | true=>
          rw [hde] at HTK;clear hde HNA;go_wp2
          go_roundw
          case rel=>exact ⟨k4+1,by omega,by go_num,HTK.out,B4.out⟩
          case measure=>simp [intOf];omega
        ·obtain rfl:k4=nk:=by omega
         have HKA:Hid (K.all (ZbY (newT cs))=true):=Hd (by have h:=HALL.out;rw [HNK.out,List.take_length] at h;exact h);have HD4:=Hd (HD3.out HKA.out);have HX4:=Hd (HX3.out.below BW.out);have HBC:=Hd (HBL.out wr BWW.out);unfold ZgQ at HBC;rw [HEL.out] at HBC;clear HALL HD2 HD3 HX3 HKR BW
         go_wp2_with fail
         with_reducible refine HBC.out.mono ?_
         rintro e w5 ⟨RB,v,M,rfl,hmat,hrl,hsrc,hM,hb5⟩;have B5:=Hd (BWW.out.trans (hb5.mono BWW.out.size));have HX5:=Hd (HX4.out.below hb5);obtain ⟨ri,hri⟩:∃ ri,RB[i]? = some ri:=⟨_,List.getElem?_eq_getElem (by rw [hrl];exact hi)⟩
         obtain ⟨vo,vc,rfl⟩:=hsrc.shape;rw [hrl] at hsrc ⊢;obtain ⟨ob,oo,u,hvo,hu,_,hclr⟩:=Src.elem hsrc i ri hri;obtain rfl:vo=some ⟨ob,oo,none⟩:=hvo;obtain rfl:=hu;have HMR:=Hd (HOV.out M hM);have HRD:Hid (∀ V,Below w5.heap.size w5 V->V.cell? ⟨ob,oo+i,none⟩=some (.slice (some ⟨ri,0,none⟩) n n)/\∀ k,k<n->V.cell? ⟨ri,0+k,none⟩=some (.bool (M i k))/\V.cell? ⟨ri,k,none⟩=some (.bool (M i k))):=Hd (fun V hV=>by
          have ho:=Only.ofBelow (S:=fun _=>False) hV;refine ⟨ho.cell (a:=⟨ob,oo+i,none⟩) (by have q:=hclr 0 _ rfl;rw [Nat.mul_one] at q;exact q) id,fun k hk=>?_⟩;have q:=ho.cell (hmat.cell hri hk) id;exact ⟨by rw [Nat.zero_add];exact q,q⟩)
         have HD5:=Hd (HD4.out (M i) HMR.out);have HAS:=Hd (HHAS.out (M i) HMR.out);have HAG:=Hd (HGA.out (M i) HMR.out);generalize M i=R at HRD HD5 HAS HAG;have HMI:=Hd (Zeh (n:=7) (R:=MVR) 44 w5.heap.size w5 (Nat.le_refl _));have HBI:=Hd (Zaa (Below.refl w5.heap.size w5) (.cells #[] 44));clear hmat hrl hsrc hM hb5 hri hclr HBC HD4 HX4 HOV HHAS HGA HBL HMR BWW;go_wp2
         go_loopw [12,13] (fun v12 v13 wr=>∃ (k5:Nat) (vs:List MV),k5<=n/\v13=.int .i64 k5/\MVals A w (Zcb (newT cs) i R k5) vs/\Zps w5.heap.size wr v12 vs/\Below w5.heap.size w5 wr) (fun _ v13 _=>n - (intOf v13).toNat)
         case atStart=>exact ⟨0,[],Nat.zero_le _,rfl,MVals.nil,HMI.out,HBI.out⟩
         case round=>
          obtain ⟨k5,vs,hk5,rfl,hmv,hir,hbw⟩:=hrel;have HMV:=Hd hmv;have HR0:=Hd hir;have BW:=Hd hbw;have BWW:=Hd (B5.out.trans (hbw.mono B5.out.size));obtain ⟨ro5,rc5,rfl⟩:=hir.shape;clear hmv hir hbw;by_cases hlt5:k5<n
          ·obtain ⟨ek,hek⟩:∃ ek,(newT cs)[k5]? = some ek:=⟨_,List.getElem?_eq_getElem (by rw [←HNN.out];exact hlt5)⟩
           have hxk:(allR cs)[k5]? = some ek.cls:=by rw [HAT.out,hek];rfl
           have hsk:=HSX.out;obtain ⟨b8,o8,u,h8,hv,_,hcl⟩:=Src.elem hsk k5 ek.cls hxk;simp only [Option.some.injEq,Addr.mk.injEq,and_true] at h8;obtain ⟨h9,h10⟩:=h8;subst h9 h10;obtain ⟨_,_,mv,rfl,_,_,hm8⟩:=hv;obtain ⟨mo8,mc8,rfl⟩:=hm8.shape;obtain ⟨vs2,hvs2,hsv2⟩:=ZmT hm8;have a7:wr.cell? ⟨b1,o1+k5 * 8+7,none⟩=some (.slice mo8 ek.cls.mths.length mc8):=(Only.ofBelow (S:=fun _=>False) BWW.out).cell (a:=⟨b1,o1+k5 * 8+7,none⟩) (hcl 7 _ rfl) id;have hmt:Zaq (newT cs) k5=ek.cls.mths:=Zce hek;have hln:vs.length<=40000:=by
            rw [HMV.out.len];have:=Zgd (i:=i) (R:=R) HFEW.out k5;omega
           have hln2:vs2.length<=32:=by rw [hvs2.len,←hmt];exact HFEW.out k5
           obtain ⟨v',w',hr,ht',hG⟩:=ZiL w5.heap.size wr (.slice ro5 vs.length rc5) (.slice mo8 ek.cls.mths.length mc8) 85 vs vs2 HR0.out BW.out.size (MVRst.below hsv2 BWW.out) (by omega);obtain ⟨vs3,hvs3⟩:∃ vs3,vs3=vs++vs2:=⟨_,rfl⟩
           rw [←hvs3] at ht';have HRR:=Hd hr;have HT2:=Hd ht';have HB2:=Hd (BW.out.trans hG);have HMV2:Hid ((k5 == i || R k5)=true->MVals A w (Zcb (newT cs) i R (k5+1)) vs3):=Hd (fun h=>by
            show MVals A w (Zcb (newT cs) i R k5++(if (k5 == i || R k5)=true then Zaq (newT cs) k5 else [])) _
            rw [if_pos h,hmt,hvs3];exact HMV.out.app hvs2)
           have HMV3:Hid ((k5 == i || R k5)=false->MVals A w (Zcb (newT cs) i R (k5+1)) vs):=Hd (fun h=>by
            show MVals A w (Zcb (newT cs) i R k5++(if (k5 == i || R k5)=true then Zaq (newT cs) k5 else [])) _
            rw [if_neg (by rw [h];decide),List.append_nil];exact HMV.out)
           obtain ⟨xo,xc,rfl⟩:=ht'.shape;obtain ⟨r0,rk⟩:=HRD.out wr BW.out;obtain ⟨r1,r2⟩:=rk k5 hlt5;have hk0:(0:Int)<=(k5:Int):=by omega
           have hkn:(k5:Int)<(n:Int):=by omega
           generalize R k5=rb at r1 r2 HMV2 HMV3;clear hek hxk hsk hcl hm8 hvs2 hsv2 hmt hln hln2 hr ht' hG rk hvs3;by_cases hki:k5=i
           ·have HMV4:=Hd (HMV2.out (by rw [hki];simp));clear HMV2 HMV3;subst hki
            go_wp2_with (at_builtin;refine Zaj rfl _ _ 85 rfl _ _ _ w' rfl rfl HRR.out ?_)
            go_wp2
            go_roundw
            case rel=>exact ⟨k5+1,_,by omega,by go_num,HMV4.out,HT2.out,HB2.out⟩
            case measure=>simp [intOf];omega
           ·have hkj:¬ (k5:Int)=(i:Int):=by omega
            have hkd:decide ((k5:Int)=(i:Int))=false:=decide_eq_false hkj;have hkb:(k5 == i)=false:=beq_eq_false_iff_ne.2 hki;rw [hkb,Bool.false_or] at HMV2 HMV3;cases rb with
            | true=>
             have HMV4:=Hd (HMV2.out rfl);clear HMV2 HMV3 hki hkb
             go_wp2_with (at_builtin;refine Zaj rfl _ _ 85 rfl _ _ _ w' rfl rfl HRR.out ?_)
             go_wp2
             go_roundw
             case rel=>exact ⟨k5+1,_,by omega,by go_num,HMV4.out,HT2.out,HB2.out⟩
             case measure=>simp [intOf];omega
            | false=>
             have HMV4:=Hd (HMV3.out rfl);clear HMV2 HMV3 hki hkb;go_wp2
             go_roundw
             case rel=>exact ⟨k5+1,_,by omega,by go_num,HMV4.out,HR0.out,BW.out⟩
             case measure=>simp [intOf];omega
          ·obtain rfl:n=k5:=by omega
           obtain ⟨w6,rfl⟩:∃ w6,w6=wr:=⟨_,rfl⟩
           have hMS:=ZmV HMV.out (HR0.out.src MVRst) BWW.out;have hvl:=HMV.out.len;rw [hvl] at hMS ⊢;have HX6:=Hd (HX5.out.below BW.out);have B6:=Hd BWW.out;obtain ⟨al,hal⟩:∃ al,al=Zcb (newT cs) i R n:=⟨_,rfl⟩
           rw [←hal] at hMS HD5 HAS HAG ⊢;obtain ⟨q,hq⟩:∃ q,q=al.length:=⟨_,rfl⟩
           rw [←hq] at hMS ⊢;have HAL:=Hd hMS;have HQ:=Hd hq;have hq9:q<=40000:=by
            have:=Zgd (i:=i) (R:=R) HFEW.out n;rw [hq,hal];omega
           clear hMS hvl hal hq HMV HR0 BW BWW HX5 HRD HMI HBI B5 HFEW;go_wp2
           go_loopw [14] (fun v14 wr=>∃ x:Nat,x<=q/\v14=.int .i64 x/\(∀ a b X Y,a<x->b<a->al[a]? = some X->al[b]? = some Y->X.name=Y.name->ZaH X=ZaH Y)/\Below w6.heap.size w6 wr) (fun v14 _=>q - (intOf v14).toNat)
           case atStart=>exact ⟨0,Nat.zero_le _,rfl,fun a b X Y h=>by omega,Below.refl _ _⟩
           case round=>
            obtain ⟨x,hx,rfl,hpr,hbw⟩:=hrel;have HPR:=Hd hpr;have BW:=Hd hbw;clear hpr hbw;by_cases hlt6:x<q
            ·obtain ⟨X,hX⟩:∃ X,al[x]? = some X:=⟨_,List.getElem?_eq_getElem (by rw [←HQ.out];exact hlt6)⟩
             have HXX:=Hd hX;obtain ⟨b2,o2,vx,hro,hvx,_,hclx⟩:=Src.elem HAL.out x X hX;obtain rfl:ro5=some ⟨b2,o2,none⟩:=hro;have HVX:=Hd hvx;obtain ⟨_,_,_,rfl,⟨po,pc,rfl⟩,⟨co,cc,rfl⟩,⟨ko,kc,rfl⟩⟩:=Zam hvx;have HCX:=Hd hclx;have x0:(0:Int)<=(x:Int):=by omega
             have xq:(x:Int)<(q:Int):=by omega
             clear hX hvx hclx;go_wp2
             go_loopw [15] (fun v15 wr=>∃ y:Nat,y<=x/\v15=.int .i64 y/\(∀ b Y,b<y->al[b]? = some Y->X.name=Y.name->ZaH X=ZaH Y)/\Below w6.heap.size w6 wr) (fun v15 _=>x - (intOf v15).toNat)
             case atStart=>exact ⟨0,Nat.zero_le _,rfl,fun b Y h=>by omega,BW.out⟩
             case round=>
              obtain ⟨y,hy,rfl,hpy,hby⟩:=hrel;have HPY:=Hd hpy;have BY:=Hd hby
              have BYY:=Hd (B6.out.trans (hby.mono B6.out.size));clear hpy hby
              by_cases hlt7:y<x
              ·obtain ⟨Y,hY⟩:∃ Y,al[y]? = some Y:=⟨_,List.getElem?_eq_getElem (by rw [←HQ.out];omega)⟩
               have HYY:=Hd hY;obtain ⟨b3,o3,vy,hro,hvy,_,hcly⟩:=Src.elem HAL.out y Y hY;simp only [Option.some.injEq,Addr.mk.injEq,and_true] at hro;obtain ⟨h9,h10⟩:=hro;subst h9 h10;have HVY:=Hd hvy;obtain ⟨_,_,_,rfl,⟨po2,pc2,rfl⟩,⟨co2,cc2,rfl⟩,⟨ko2,kc2,rfl⟩⟩:=Zam hvy;have HSS:Hid (∀ V,Below wr.heap.size wr V->(V.cell? ⟨b2,o2+x * 7,none⟩=some (.string (S X.name))/\V.cell? ⟨b2,o2+x * 7+1,none⟩=some (.slice po X.params.length pc)/\V.cell? ⟨b2,o2+x * 7+2,none⟩=some (.string (S X.res))/\V.cell? ⟨b2,o2+x * 7+3,none⟩=some (.bool X.abs)/\V.cell? ⟨b2,o2+x * 7+4,none⟩=some (.int .i64 X.loc)/\V.cell? ⟨b2,o2+x * 7+5,none⟩=some (.slice co X.code.length cc)/\V.cell? ⟨b2,o2+x * 7+6,none⟩=some (.slice ko X.cats.length kc))/\(V.cell? ⟨b2,o2+y * 7,none⟩=some (.string (S Y.name))/\V.cell? ⟨b2,o2+y * 7+1,none⟩=some (.slice po2 Y.params.length pc2)/\V.cell? ⟨b2,o2+y * 7+2,none⟩=some (.string (S Y.res))/\V.cell? ⟨b2,o2+y * 7+3,none⟩=some (.bool Y.abs)/\V.cell? ⟨b2,o2+y * 7+4,none⟩=some (.int .i64 Y.loc)/\V.cell? ⟨b2,o2+y * 7+5,none⟩=some (.slice co2 Y.code.length cc2)/\V.cell? ⟨b2,o2+y * 7+6,none⟩=some (.slice ko2 Y.cats.length kc2))):=Hd (fun V hV=>by
                have ho:=Only.ofBelow (S:=fun _=>False) (BY.out.trans (hV.mono BY.out.size));exact ⟨⟨ho.cell (a:=⟨b2,o2+x * 7,none⟩) (HCX.out 0 _ rfl) id,ho.cell (a:=⟨b2,o2+x * 7+1,none⟩) (HCX.out 1 _ rfl) id,ho.cell (a:=⟨b2,o2+x * 7+2,none⟩) (HCX.out 2 _ rfl) id,ho.cell (a:=⟨b2,o2+x * 7+3,none⟩) (HCX.out 3 _ rfl) id,ho.cell (a:=⟨b2,o2+x * 7+4,none⟩) (HCX.out 4 _ rfl) id,ho.cell (a:=⟨b2,o2+x * 7+5,none⟩) (HCX.out 5 _ rfl) id,ho.cell (a:=⟨b2,o2+x * 7+6,none⟩) (HCX.out 6 _ rfl) id⟩,⟨ho.cell (a:=⟨b2,o2+y * 7,none⟩) (hcly 0 _ rfl) id,ho.cell (a:=⟨b2,o2+y * 7+1,none⟩) (hcly 1 _ rfl) id,ho.cell (a:=⟨b2,o2+y * 7+2,none⟩) (hcly 2 _ rfl) id,ho.cell (a:=⟨b2,o2+y * 7+3,none⟩) (hcly 3 _ rfl) id,ho.cell (a:=⟨b2,o2+y * 7+4,none⟩) (hcly 4 _ rfl) id,ho.cell (a:=⟨b2,o2+y * 7+5,none⟩) (hcly 5 _ rfl) id,ho.cell (a:=⟨b2,o2+y * 7+6,none⟩) (hcly 6 _ rfl) id⟩⟩)
               have y0:(0:Int)<=(y:Int):=by omega
               have yq:(y:Int)<(q:Int):=by omega
               have yx:(y:Int)<(x:Int):=by omega
               have hB:=Below.refl wr.heap.size wr;have g:=HSS.out wr hB;clear hY hvy hcly;by_cases hnm:X.name=Y.name
               ·have HGX:Hid (∀ V,Below wr.heap.size wr V->Calls Tryz.prog 121 #[.agg #[.string (S X.name),.slice po X.params.length pc,.string (S X.res),.bool X.abs,.int .i64 X.loc,.slice co X.code.length cc,.slice ko X.cats.length kc]] V (Zca (ZaH X) V)):=Hd (fun V hV=>Zfr X _ V (MthR.st.keep HVX.out (Only.ofBelow (S:=fun _=>False) (BY.out.trans (hV.mono BY.out.size))) (fun _ _=>id)) (HAG.out X (List.mem_of_getElem? HXX.out)).brief);have HGY:Hid (∀ V,Below wr.heap.size wr V->Calls Tryz.prog 121 #[.agg #[.string (S Y.name),.slice po2 Y.params.length pc2,.string (S Y.res),.bool Y.abs,.int .i64 Y.loc,.slice co2 Y.code.length cc2,.slice ko2 Y.cats.length kc2]] V (Zca (ZaH Y) V)):=Hd (fun V hV=>Zfr Y _ V (MthR.st.keep HVY.out (Only.ofBelow (S:=fun _=>False) (BY.out.trans (hV.mono BY.out.size))) (fun _ _=>id)) (HAG.out Y (List.mem_of_getElem? HYY.out)).brief);unfold Zca at HGX HGY;have e1:=Zae X.name;have e2:=Zae Y.name;have e4:(X.name == Y.name)=true:=by rw [hnm];exact beq_self_eq_true _
                have e5:decide (X.name=Y.name)=true:=decide_eq_true hnm;have HNMQ:=Hd hnm;clear hnm;by_cases hsg:ZaH X=ZaH Y
                ·have HP2:Hid (∀ b Y',b<y+1->al[b]? = some Y'->X.name=Y'.name->ZaH X=ZaH Y'):=Hd (fun b Y' hb hY' hn=>by
                  rcases Nat.lt_or_ge b y with h|h
                  ·exact HPY.out b Y' h hY' hn
                  ·rw [show b=y by omega,HYY.out] at hY';obtain rfl:=Option.some.inj hY';exact hsg)
                 rw [←hsg] at HGY;clear hsg;have e3:=Zae (ZaH X);generalize ZaH X=sg at HGX HGY HP2 e3;obtain ⟨⟨x00,x01,x02,x03,x04,x05,x06⟩,⟨y00,y01,y02,y03,y04,y05,y06⟩⟩:=g
                 go_upto_region 36 with fail
                 first
                 | (go_region_held3 (fun V=>(V.cell? ⟨b2,o2+x * 7,none⟩=some (.string (S X.name))/\V.cell? ⟨b2,o2+x * 7+1,none⟩=some (.slice po X.params.length pc)/\V.cell? ⟨b2,o2+x * 7+2,none⟩=some (.string (S X.res))/\V.cell? ⟨b2,o2+x * 7+3,none⟩=some (.bool X.abs)/\V.cell? ⟨b2,o2+x * 7+4,none⟩=some (.int .i64 X.loc)/\V.cell? ⟨b2,o2+x * 7+5,none⟩=some (.slice co X.code.length cc)/\V.cell? ⟨b2,o2+x * 7+6,none⟩=some (.slice ko X.cats.length kc))/\(V.cell? ⟨b2,o2+y * 7,none⟩=some (.string (S Y.name))/\V.cell? ⟨b2,o2+y * 7+1,none⟩=some (.slice po2 Y.params.length pc2)/\V.cell? ⟨b2,o2+y * 7+2,none⟩=some (.string (S Y.res))/\V.cell? ⟨b2,o2+y * 7+3,none⟩=some (.bool Y.abs)/\V.cell? ⟨b2,o2+y * 7+4,none⟩=some (.int .i64 Y.loc)/\V.cell? ⟨b2,o2+y * 7+5,none⟩=some (.slice co2 Y.code.length cc2)/\V.cell? ⟨b2,o2+y * 7+6,none⟩=some (.slice ko2 Y.cats.length kc2))) ((refine HSS.out _ ?_;(repeat (first|(with_reducible exact hB)|(with_reducible assumption)|(with_reducible (apply Zac;rotate_left;assumption))|(with_reducible refine Zab ?_)|(with_reducible refine Zaa ?_ _)))))
                   (first
                    | ((go_at_call 121;(with_reducible refine (HGX.out _ ?_).mono ?_);(focus ((repeat (first|(with_reducible exact hB)|(with_reducible assumption)|(with_reducible (apply Zac;rotate_left;assumption))|(with_reducible refine Zab ?_)|(with_reducible refine Zaa ?_ _)));done));rintro e ws1 ⟨rfl,bs1⟩))
                    | ((go_at_call 121;(with_reducible refine (HGY.out _ ?_).mono ?_);(focus ((repeat (first|(with_reducible exact hB)|(with_reducible assumption)|(with_reducible (apply Zac;rotate_left;assumption))|(with_reducible refine Zab ?_)|(with_reducible refine Zaa ?_ _)));done));rintro e ws2 ⟨rfl,bs2⟩))))
                 | fail
                 all_goals
                  go_wp2
                  go_roundw
                  case rel=>exact ⟨y+1,by omega,by go_num,HP2.out,BY.out.trans (Below.mono (by first|exact Zay _ _|(repeat (first|(with_reducible exact hB)|(with_reducible assumption)|(with_reducible (apply Zac;rotate_left;assumption))|(with_reducible refine Zab ?_)|(with_reducible refine Zaa ?_ _)))) BY.out.size)⟩
                  case measure=>simp [intOf];omega
                ·have HZ:Hid (z=66):=Hd (HD5.out.1 ⟨x,y,X,Y,hlt7,HXX.out,HYY.out,HNMQ.out,hsg⟩);have e3:=Zae (ZaH X);have e6:=Zae (ZaH Y);have h1:(ZaH X == ZaH Y)=false:=beq_eq_false_iff_ne.2 hsg;have h2:(ZaH X != ZaH Y)=true:=by rw [bne_iff_ne];exact hsg
                 have h3:decide (ZaH X=ZaH Y)=false:=decide_eq_false hsg;clear hsg;generalize ZaH X=sgx at HGX h1 h2 h3 e3;generalize ZaH Y=sgy at HGY h1 h2 h3 e6;obtain ⟨⟨x00,x01,x02,x03,x04,x05,x06⟩,⟨y00,y01,y02,y03,y04,y05,y06⟩⟩:=g
                 go_upto_region 36 with fail
                 first
                 | (go_region_held3 (fun V=>(V.cell? ⟨b2,o2+x * 7,none⟩=some (.string (S X.name))/\V.cell? ⟨b2,o2+x * 7+1,none⟩=some (.slice po X.params.length pc)/\V.cell? ⟨b2,o2+x * 7+2,none⟩=some (.string (S X.res))/\V.cell? ⟨b2,o2+x * 7+3,none⟩=some (.bool X.abs)/\V.cell? ⟨b2,o2+x * 7+4,none⟩=some (.int .i64 X.loc)/\V.cell? ⟨b2,o2+x * 7+5,none⟩=some (.slice co X.code.length cc)/\V.cell? ⟨b2,o2+x * 7+6,none⟩=some (.slice ko X.cats.length kc))/\(V.cell? ⟨b2,o2+y * 7,none⟩=some (.string (S Y.name))/\V.cell? ⟨b2,o2+y * 7+1,none⟩=some (.slice po2 Y.params.length pc2)/\V.cell? ⟨b2,o2+y * 7+2,none⟩=some (.string (S Y.res))/\V.cell? ⟨b2,o2+y * 7+3,none⟩=some (.bool Y.abs)/\V.cell? ⟨b2,o2+y * 7+4,none⟩=some (.int .i64 Y.loc)/\V.cell? ⟨b2,o2+y * 7+5,none⟩=some (.slice co2 Y.code.length cc2)/\V.cell? ⟨b2,o2+y * 7+6,none⟩=some (.slice ko2 Y.cats.length kc2))) ((refine HSS.out _ ?_;(repeat (first|(with_reducible exact hB)|(with_reducible assumption)|(with_reducible (apply Zac;rotate_left;assumption))|(with_reducible refine Zab ?_)|(with_reducible refine Zaa ?_ _)))))
                   (first
                    | ((go_at_call 121;(with_reducible refine (HGX.out _ ?_).mono ?_);(focus ((repeat (first|(with_reducible exact hB)|(with_reducible assumption)|(with_reducible (apply Zac;rotate_left;assumption))|(with_reducible refine Zab ?_)|(with_reducible refine Zaa ?_ _)));done));rintro e ws1 ⟨rfl,bs1⟩))
                    | ((go_at_call 121;(with_reducible refine (HGY.out _ ?_).mono ?_);(focus ((repeat (first|(with_reducible exact hB)|(with_reducible assumption)|(with_reducible (apply Zac;rotate_left;assumption))|(with_reducible refine Zab ?_)|(with_reducible refine Zaa ?_ _)));done));rintro e ws2 ⟨rfl,bs2⟩))))
                 | fail
                 all_goals
                  go_wp2;go_ret;exact ⟨by rw [HZ.out];rfl,BYY.out.trans (Below.mono (by first|exact Zay _ _|(repeat (first|(with_reducible exact hB)|(with_reducible assumption)|(with_reducible (apply Zac;rotate_left;assumption))|(with_reducible refine Zab ?_)|(with_reducible refine Zaa ?_ _)))) BYY.out.size)⟩
               ·have e1:=Zae X.name;have e2:=Zae Y.name;have e4:(X.name == Y.name)=false:=beq_eq_false_iff_ne.2 hnm;have e5:decide (X.name=Y.name)=false:=decide_eq_false hnm;have HP2:Hid (∀ b Y',b<y+1->al[b]? = some Y'->X.name=Y'.name->ZaH X=ZaH Y'):=Hd (fun b Y' hb hY' hn=>by
                 rcases Nat.lt_or_ge b y with h|h
                 ·exact HPY.out b Y' h hY' hn
                 ·rw [show b=y by omega,HYY.out] at hY';obtain rfl:=Option.some.inj hY';exact absurd hn hnm)
                clear hnm;obtain ⟨⟨x00,x01,x02,x03,x04,x05,x06⟩,⟨y00,y01,y02,y03,y04,y05,y06⟩⟩:=g
                go_upto_region 36 with fail
                go_quiet (fail)
                all_goals
                 go_wp2
                 go_roundw
                 case rel=>exact ⟨y+1,by omega,by go_num,HP2.out,BY.out.trans (Below.mono (by first|exact Zay _ _|(repeat (first|(with_reducible exact hB)|(with_reducible assumption)|(with_reducible (apply Zac;rotate_left;assumption))|(with_reducible refine Zab ?_)|(with_reducible refine Zaa ?_ _)))) BY.out.size)⟩
                 case measure=>simp [intOf];omega
              ·obtain rfl:y=x:=by omega
               have HP2:Hid (∀ a b X Y,a<y+1->b<a->al[a]? = some X->al[b]? = some Y->X.name=Y.name->ZaH X=ZaH Y):=Hd (fun a b X' Y' ha hb hX' hY' hn=>by
                rcases Nat.lt_or_ge a y with h|h
                ·exact HPR.out a b X' Y' h hb hX' hY' hn
                ·have:a=y:=by omega
                 subst this;rw [HXX.out] at hX';obtain rfl:=Option.some.inj hX';exact HPY.out b Y' hb hY' hn)
               go_wp2
               go_roundw
               case rel=>exact ⟨y+1,by omega,by go_num,HP2.out,BY.out⟩
               case measure=>simp [intOf];omega
            ·obtain rfl:x=q:=by omega
             have HNP:Hid (¬ Zel al):=Hd (by
              rintro ⟨a,b,X,Y,hab,hX,hY,hn,hs⟩;exact hs (HPR.out a b X Y (by rw [HQ.out];exact (List.getElem?_eq_some_iff.1 hX).1) hab hX hY hn))
             have HD6:=Hd (HD5.out.2.1 HNP.out);have HD7:=Hd (HD5.out.2.2 HNP.out);have HX7:=Hd (HX6.out.below BW.out);have HA7:=Hd (MthR.st.below HAL.out BW.out);have B7:=Hd (B6.out.trans (BW.out.mono B6.out.size));clear HPR HNP HD5 HX6 HAL B6 BW;obtain ⟨w7,rfl⟩:∃ w7,w7=wr:=⟨_,rfl⟩
             cases hab:en.cls.abs with
             | true=>
              rw [hab] at HX7;have HZ:Hid (z=0):=Hd (HD7.out (.inl hab));have c4:w7.cell? ⟨bx,4,none⟩=some (.bool true):=HX7.out.cell 4 rfl;clear hab HD6 HD7 HX7;go_wp2
              go_loopw [16] (fun v16 wr=>v16=.int .i64 0/\wr=w7) (fun _ _=>0)
              case atStart=>exact ⟨rfl,rfl⟩
              case round=>
               obtain ⟨rfl,rfl⟩:=hrel;by_cases h0:x=0
               ·subst h0;go_wp2;go_ret;exact ⟨by rw [HZ.out];rfl,B7.out⟩
               ·have h1:(0:Int)<(x:Int):=by omega
                go_wp2;go_ret;exact ⟨by rw [HZ.out];rfl,B7.out⟩
             | false=>
              rw [hab] at HX7;have HABF:=Hd hab;clear hab;go_wp2
              go_loopw [16] (fun v16 wr=>∃ k8:Nat,k8<=x/\v16=.int .i64 k8/\(∀ a X,a<k8->al[a]? = some X->absM (newT cs) i X.name=false)/\Below w7.heap.size w7 wr) (fun v16 _=>x - (intOf v16).toNat)
              case atStart=>exact ⟨0,Nat.zero_le _,rfl,fun a X h=>by omega,Below.refl _ _⟩
              case round=>
               obtain ⟨k8,hk8,rfl,hno,hbw⟩:=hrel;have HNO:=Hd hno;have BW:=Hd hbw;have BWW:=Hd (B7.out.trans (hbw.mono B7.out.size));clear hno hbw;by_cases hlt8:k8<x
               ·obtain ⟨X,hX⟩:∃ X,al[k8]? = some X:=⟨_,List.getElem?_eq_getElem (by rw [←HQ.out];exact hlt8)⟩
                obtain ⟨b2,o2,vx,hro,hvx,_,hclx⟩:=Src.elem (MthR.st.below HA7.out BW.out) k8 X hX;obtain rfl:ro5=some ⟨b2,o2,none⟩:=hro;obtain ⟨_,_,_,rfl,⟨po,pc,rfl⟩,⟨co,cc,rfl⟩,⟨ko,kc,rfl⟩⟩:=Zam hvx;have hk0:(0:Int)<=(k8:Int):=by omega
                have hkx:(k8:Int)<(x:Int):=by omega
                have hB:=Below.refl wr.heap.size wr;have HSS:Hid (∀ V,Below wr.heap.size wr V->V.cell? ⟨bx,0,none⟩=some (.string (S en.cls.name))/\V.cell? ⟨b2,o2+k8 * 7,none⟩=some (.string (S X.name))):=Hd (fun V hV=>by
                 have ho:=Only.ofBelow (S:=fun _=>False) hV;exact ⟨(HX7.out.below (BW.out.trans (hV.mono BW.out.size))).cell 0 rfl,ho.cell (a:=⟨b2,o2+k8 * 7,none⟩) (hclx 0 _ rfl) id⟩)
                have c4:wr.cell? ⟨bx,4,none⟩=some (.bool false):=(HX7.out.below BW.out).cell 4 rfl;obtain ⟨⟨rx,rm⟩,hrf⟩:=HAS.out X (List.mem_of_getElem? hX);have HAB:=Hd (HABS.out X.name (rx,rm) hrf);have HXX:=Hd hX;have HMC:Hid (∀ V,Below wr.heap.size wr V->Calls Tryz.prog 122 #[.slice (some ⟨b1,o1,none⟩) n sc,.string (S en.cls.name),.string (S X.name)] V (fun e w'=>∃ po2 pc2 co2 cc2 ko2 kc2,e=.returned (.tuple #[.string (S (nmE (newT cs) rx)),.agg #[.string (S rm.name),.slice po2 rm.params.length pc2,.string (S rm.res),.bool rm.abs,.int .i64 rm.loc,.slice co2 rm.code.length cc2,.slice ko2 rm.cats.length kc2],.bool true])/\Below V.heap.size V w')):=Hd (fun V hV=>by
                 refine (HME.out X.name V (BWW.out.trans (hV.mono BWW.out.size))).mono ?_;rintro e w' ⟨hb,hq⟩;rw [hrf] at hq;rcases hq with ⟨h,_⟩|⟨x',m',v',h,rfl,hmv⟩
                 ·cases h
                 ·obtain ⟨rfl,rfl⟩:=Prod.mk.inj (Option.some.inj h);obtain ⟨_,_,_,rfl,⟨po2,pc2,rfl⟩,⟨co2,cc2,rfl⟩,⟨ko2,kc2,rfl⟩⟩:=Zam hmv;exact ⟨po2,pc2,co2,cc2,ko2,kc2,rfl,hb⟩)
                generalize nmE (newT cs) rx=rnx at HMC;obtain ⟨g1,g2⟩:=HSS.out wr hB;generalize hxe:X.name=xn at HSS HMC g2 HAB;have hxn:=Hd hxe;clear hxe;clear hX hvx hclx hrf;have hba:Below wr.heap.size wr (wr.alloc (.cells #[.string ⟨#[]⟩,.slice none 0 0,.string ⟨#[]⟩,.bool false,.int .i64 0,.slice none 0 0,.slice none 0 0] 44)).drew:=Zab (Zaa (Below.refl _ _) _);have hz0:=(Box.new wr #[.string ⟨#[]⟩,.slice none 0 0,.string ⟨#[]⟩,.bool false,.int .i64 0,.slice none 0 0,.slice none 0 0] 44).below (Zab (Below.refl _ _));have HMA:Hid (Calls Tryz.prog 122 #[.slice (some ⟨b1,o1,none⟩) n sc,.string (S en.cls.name),.string (S xn)] (wr.alloc (.cells #[.string ⟨#[]⟩,.slice none 0 0,.string ⟨#[]⟩,.bool false,.int .i64 0,.slice none 0 0,.slice none 0 0] 44)).drew (fun e w'=>∃ po2 pc2 co2 cc2 ko2 kc2,e=.returned (.tuple #[.string (S rnx),.agg #[.string (S rm.name),.slice po2 rm.params.length pc2,.string (S rm.res),.bool rm.abs,.int .i64 rm.loc,.slice co2 rm.code.length cc2,.slice ko2 rm.cats.length kc2],.bool true])/\Box w' wr.heap.size #[.string ⟨#[]⟩,.slice none 0 0,.string ⟨#[]⟩,.bool false,.int .i64 0,.slice none 0 0,.slice none 0 0] 44/\Below wr.heap.size wr w')):=Hd (by
                 refine (HMC.out _ hba).mono ?_;rintro e w' ⟨po2,pc2,co2,cc2,ko2,kc2,h1,h2⟩;exact ⟨po2,pc2,co2,cc2,ko2,kc2,h1,hz0.below h2,hba.trans (h2.mono hba.size)⟩)
                clear hba hz0
                go_upto_region 41 with fail
                clear c4
                go_cut [17,18,19] (fun s17 s18 s19 wx=>∃ E:Nat,s17=.string (S rnx)/\s18=.pointer (some ⟨E,0,none⟩)/\s19=.bool true/\wx.cell? ⟨E,3,none⟩=some (.bool rm.abs)/\Below wr.heap.size wr wx)
                case first=>
                 first
                 | (go_region_held3 (fun V=>V.cell? ⟨bx,0,none⟩=some (.string (S en.cls.name))/\V.cell? ⟨b2,o2+k8 * 7,none⟩=some (.string (S xn))) ((refine HSS.out _ ?_;(repeat (first|(with_reducible exact hB)|(with_reducible assumption)|(with_reducible (apply Zac;rotate_left;assumption))|(with_reducible refine Zab ?_)|(with_reducible refine Zaa ?_ _)|((with_reducible refine Below.setCell ?_ ?_ _);rotate_left;(focus ((first|exact Nat.le_refl _|omega|(simp;omega));done)))))))
                   (first
                    | ((go_at_call 122;(with_reducible refine HMA.out.mono ?_);rintro e wp ⟨po2,pc2,co2,cc2,ko2,kc2,rfl,hbxa,bpa⟩;obtain ⟨f0,f1,f2,f3,f4,f5,f6⟩:=Zhi hbxa;obtain ⟨k0,k1,k2,k3,k4,k5,k6⟩:=ZdO hbxa))
                    | ((go_at_call 122;(with_reducible refine (HMC.out _ ?_).mono ?_);(focus ((repeat (first|(with_reducible exact hB)|(with_reducible assumption)|(with_reducible (apply Zac;rotate_left;assumption))|(with_reducible refine Zab ?_)|(with_reducible refine Zaa ?_ _)));done));rintro e wp ⟨po2,pc2,co2,cc2,ko2,kc2,rfl,bpb⟩;have hqs:=bpb.size))))
                 | fail
                 all_goals
                  go_wp2_with fail
                  go_meet
                  first
                  | (revert hbxa;intro hbxa;exact ⟨wr.heap.size,rfl,rfl,rfl,((set7 hbxa (.string (S rm.name)) (.slice po2 rm.params.length pc2) (.string (S rm.res)) (.bool rm.abs) (.int .i64 rm.loc) (.slice co2 rm.code.length cc2) (.slice ko2 rm.cats.length kc2)).1.below (by first|exact Below.refl _ _|exact Zab (Below.refl _ _))).cell 3 rfl,by first|exact bpa.trans ((set7 hbxa (.string (S rm.name)) (.slice po2 rm.params.length pc2) (.string (S rm.res)) (.bool rm.abs) (.int .i64 rm.loc) (.slice co2 rm.code.length cc2) (.slice ko2 rm.cats.length kc2)).2.below bpa.size (fun k (q:k=wr.heap.size)=>by omega))|exact bpa.trans ((set7 hbxa (.string (S rm.name)) (.slice po2 rm.params.length pc2) (.string (S rm.res)) (.bool rm.abs) (.int .i64 rm.loc) (.slice co2 rm.code.length cc2) (.slice ko2 rm.cats.length kc2)).2.drew.below bpa.size (fun k (q:k=wr.heap.size)=>by omega))⟩)
                  | exact ⟨_,rfl,rfl,rfl,((Box.new wp #[.string (S rm.name),.slice po2 rm.params.length pc2,.string (S rm.res),.bool rm.abs,.int .i64 rm.loc,.slice co2 rm.code.length cc2,.slice ko2 rm.cats.length kc2] 44).below (by first|exact Below.refl _ _|exact Zab (Below.refl _ _))).cell 3 rfl,by first|exact Zaa (by repeat (first|(with_reducible exact hB)|(with_reducible assumption)|(with_reducible (apply Zac;rotate_left;assumption))|(with_reducible refine Zab ?_)|(with_reducible refine Zaa ?_ _))) _|exact Zab (Zaa (by repeat (first|(with_reducible exact hB)|(with_reducible assumption)|(with_reducible (apply Zac;rotate_left;assumption))|(with_reducible refine Zab ?_)|(with_reducible refine Zaa ?_ _))) _)⟩
                case rest=>
                 obtain ⟨E,rfl,rfl,rfl,hE,hbE⟩:=hcut;have BE1:=Hd (BW.out.trans (hbE.mono BW.out.size));have BEW:=Hd (BWW.out.trans (hbE.mono BWW.out.size));clear hbE HMA HMC HSS g1 g2 hB;cases hra:rm.abs with
                 | true=>
                  rw [hra] at hE;have HZ:Hid (z=67):=Hd (HD6.out ⟨HABF.out,X,List.mem_of_getElem? HXX.out,by rw [hxn.out,HAB.out];exact hra⟩);clear hra HAB;go_wp2;go_ret;exact ⟨by rw [HZ.out];rfl,BEW.out⟩
                 | false=>
                  rw [hra] at hE;have HN2:Hid (∀ a X,a<k8+1->al[a]? = some X->absM (newT cs) i X.name=false):=Hd (fun a X' ha hX'=>by
                   rcases Nat.lt_or_ge a k8 with h|h
                   ·exact HNO.out a X' h hX'
                   ·rw [show a=k8 by omega,HXX.out] at hX';rw [←Option.some.inj hX',hxn.out,HAB.out];exact hra)
                  clear hra HAB;go_wp2
                  go_roundw
                  case rel=>exact ⟨k8+1,by omega,by go_num,HN2.out,BE1.out⟩
                  case measure=>simp [intOf];omega
               ·obtain rfl:k8=x:=by omega
                have HZ:Hid (z=0):=Hd (HD7.out (.inr (fun m hm=>by
                 obtain ⟨a,ha⟩:=List.mem_iff_getElem?.1 hm;exact HNO.out a m (by rw [HQ.out];exact (List.getElem?_eq_some_iff.1 ha).1) ha)))
                go_wp2;go_ret;exact ⟨by rw [HZ.out];rfl,BWW.out⟩
