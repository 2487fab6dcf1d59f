/- laws -/
import Derived.Test.YtggcdinoflchjaaGreatDoorK65
import Derived.Test.YtggcdinoflchjaaGreatDoorK66
set_option maxRecDepth 100000
set_option maxHeartbeats 16000000
namespace Go.Proofs.YtggcdinoflchjaaGreatDoor
open Go.RowKit
theorem ZhV {A:Nat->Prop} (cs:List Cls) (hL:Lined cs) (W:Wise (newT cs)) (sv:Value) (i:Nat) (w:World) (hi:i<(newT cs).length) (hs:Src 8 ClsR A w sv (allR cs)) (hanc:∀ d ∈ Zap (newT cs) (upAt (newT cs) i),chkT (newT cs) d=0) :
  Calls Tryz.prog 57 #[sv,.int .i64 (i:Nat)] w (fun e w'=>e=.returned (.int .i64 ((chkT (newT cs) i:Nat):Int))/\Below w.heap.size w w'):=by
 obtain ⟨en,hen⟩:∃ en,(newT cs)[i]? = some en:=⟨_,Yaa hi⟩
 have hx:(allR cs)[i]? = some en.cls:=by rw [Zdx,hen];rfl
 have hD:=hL.chkD W hen hanc;have HDA:=Hd hD.a;have HDB:=Hd hD.b;have HDC:=Hd hD.c;have hpn:Zad (newT cs) en.cls.name=some i:=W.uq i en hen;have HPL:Hid (∀ x V,Below w.heap.size w V->Calls Tryz.prog 119 #[sv,.string (S en.cls.sup),.string (S x)] V (fun e w'=>e=.returned (.int .i64 (idxV (ZcL (newT cs) en.cls.sup x)))/\Below V.heap.size V w')):=Hd (fun x V hV=>Zlf cs hL W sv en.cls.sup x V (ClsR.st.below hs hV));have HTH:Hid (∀ x V,x.length<=281474976710656->Below w.heap.size w V->Calls Tryz.prog 120 #[sv,.string (S x)] V (fun e w'=>e=.returned (.bool (ZbY (newT cs) x))/\Below V.heap.size V w')):=Hd (fun x V hx hV=>Zlg cs hL.len W sv x V (ClsR.st.below hs hV) (by omega));have HBL:Hid (∀ V,Below w.heap.size w V->Calls Tryz.prog 55 #[sv] V (ZgT (allR cs) V)):=Hd (fun V hV=>Zf1 (allR cs) sv V (ClsR.st.below hs hV) (by rw [ZcP];have:=hL.len;omega) hL.like_len);have HME:Hid (∀ x V,Below w.heap.size w V->Calls Tryz.prog 122 #[sv,.string (S en.cls.name),.string (S x)] V (ZgW w.heap.size (newT cs) (ZbI (newT cs) (some i) x) V)):=Hd (fun x V hV=>by
  have h:=ZiX w.heap.size cs hL W sv en.cls.name x V hV.size (ClsR.st.below (ClsR.st.srcMono (A':=fun k=>k<w.heap.size) hs (fun k hk _=>hk)) hV);rw [hpn] at h;exact h)
 have HGD:Hid (∀ k,∀ m ∈ Zar (newT cs) k,m.Good):=Hd (fun k m hm=>W.good k m hm);have HFEW:Hid (∀ k,(Zar (newT cs) k).length<=32):=Hd hL.few;have HKS:Hid (∀ s ∈ ZcT en.cls,s.length<=281474976710656):=Hd (ZmH (hL.clsSmall i en hen));have HKN:Hid ((ZcT en.cls).length<=2000):=Hd (Zoy (hL.small i en hen).2.1 (hL.small i en hen).2.2.1 (fun m hm=>(W.good i m (by rw [Zcg hen];exact hm)).nums.1));have HOV:Hid (∀ M:Nat->Nat->Bool,(∀ a b,a<(allR cs).length->b<(allR cs).length->(M a b=true↔Plus (StepR (allR cs)) a b))->∀ k,k<(newT cs).length->(M i k=true↔Over (newT cs) i k)):=Hd (fun M hM k hk=>by
  have hel:(allR cs).length=(newT cs).length:=by rw [ZcP,ZaR]
  rw [hM i k (by rw [hel];exact hi) (by rw [hel];exact hk),ZhP (fun i j=>hL.step i j)])
 have HHAS:Hid (∀ R:Nat->Bool,(∀ k,k<(newT cs).length->(R k=true↔Over (newT cs) i k))->∀ m ∈ Zcb (newT cs) i R (newT cs).length,∃ r,ZbI (newT cs) (some i) m.name=some r):=Hd (fun R hR m hm=>W.all_has hi hR hm);have HGA:Hid (∀ R:Nat->Bool,(∀ k,k<(newT cs).length->(R k=true↔Over (newT cs) i k))->∀ m ∈ Zcb (newT cs) i R (newT cs).length,m.Good):=Hd (fun R hR m hm=>by
  obtain ⟨k,_,_,h3⟩:=(Zfi m _).1 hm;exact W.good k m h3)
 have HAT:Hid (∀ k,(allR cs)[k]? = ((newT cs)[k]?).map Ent.cls):=Hd (Zdx cs);have HABS:Hid (∀ x r,ZbI (newT cs) (some i) x=some r->absM (newT cs) i x=r.2.abs):=Hd (fun x r h=>by unfold absM;rw [h]);have HSX:=Hd hs;have hcn:(newT cs).length<=1008:=by rw [ZaR];have:=hL.len;omega
 generalize chkT (newT cs) i=z at HDA HDB HDC ⊢;obtain ⟨so,sc,rfl⟩:=hs.shape;obtain ⟨b1,o1,v,hsv1,hv,_,hcl⟩:=Src.elem hs i en.cls hx;obtain rfl:so=some ⟨b1,o1,none⟩:=hsv1;obtain ⟨lv,fv,mv,rfl,hl,hf,hm⟩:=hv;obtain ⟨lo,lc,rfl⟩:=hl.shape;obtain ⟨fo,fc,rfl⟩:=hf.shape;obtain ⟨mo,mc,rfl⟩:=hm.shape;obtain ⟨n,hn⟩:∃ n,n=(newT cs).length:=⟨_,rfl⟩
 have hel:(allR cs).length=n:=by rw [hn,ZcP,ZaR]
 have HEL:=Hd hel;rw [hel] at HPL HTH HBL HME HSX HOV ⊢;rw [←hn] at HDC HOV HHAS HGA hi hcn;have HNN:=Hd hn;have hnf9:en.cls.flds.length<=32:=(hL.small i en hen).2.1;have hnm9:en.cls.mths.length<=32:=(hL.small i en hen).2.2.1;obtain ⟨nf,hnf⟩:∃ nf,nf=en.cls.flds.length:=⟨_,rfl⟩
 obtain ⟨nm,hnm⟩:∃ nm,nm=en.cls.mths.length:=⟨_,rfl⟩
 rw [←hnf] at hf hcl hnf9;rw [←hnm] at hm hcl hnm9;have d0:w.cell? ⟨b1,o1+i * 8,none⟩=some (.string (S en.cls.name)):=hcl 0 _ rfl;have d1:w.cell? ⟨b1,o1+i * 8+1,none⟩=some (.string (S en.cls.sup)):=hcl 1 _ rfl;have d2:w.cell? ⟨b1,o1+i * 8+2,none⟩=some (.slice lo en.cls.like.length lc):=hcl 2 _ rfl;have d3:w.cell? ⟨b1,o1+i * 8+3,none⟩=some (.bool en.cls.itf):=hcl 3 _ rfl;have d4:w.cell? ⟨b1,o1+i * 8+4,none⟩=some (.bool en.cls.abs):=hcl 4 _ rfl;have d5:w.cell? ⟨b1,o1+i * 8+5,none⟩=some (.bool en.cls.fin):=hcl 5 _ rfl;have d6:w.cell? ⟨b1,o1+i * 8+6,none⟩=some (.slice fo nf fc):=hcl 6 _ rfl;have d7:w.cell? ⟨b1,o1+i * 8+7,none⟩=some (.slice mo nm mc):=hcl 7 _ rfl;have hba:Below w.heap.size w (w.alloc (.cells #[.string (S en.cls.name),.string (S en.cls.sup),.slice lo en.cls.like.length lc,.bool en.cls.itf,.bool en.cls.abs,.bool en.cls.fin,.slice fo nf fc,.slice mo nm mc] 87)):=Zaa (Yab _ _) _;have HX:=Hd (Box.new w #[.string (S en.cls.name),.string (S en.cls.sup),.slice lo en.cls.like.length lc,.bool en.cls.itf,.bool en.cls.abs,.bool en.cls.fin,.slice fo nf fc,.slice mo nm mc] 87);have HBA:=Hd hba;have HFL:=Hd (FldR.st.below hf hba);have HMS:=Hd (MthR.st.below hm hba);have HNF:=Hd hnf;have HNM:=Hd hnm;have i1:(0:Int)<=(i:Int):=by omega
 have i2:(i:Int)<(n:Int):=by omega
 obtain ⟨fl,hfl⟩:∃ fl,fl=en.cls.flds:=⟨_,rfl⟩
 obtain ⟨ms,hms⟩:∃ ms,ms=en.cls.mths:=⟨_,rfl⟩
 have HKD:Hid (ZcT en.cls=fl.map Fld.kind++ms.flatMap Zbx):=Hd (by rw [hfl,hms];rfl);rw [←hfl] at HDA HDB HDC HFL HNF;rw [←hms] at HMS HNM;clear hs hcl hl hf hm hx hD hpn hL W hen hanc hba hnf hnm hfl hms hel hn;go_enter Tryz.func57,Tryz.ntmps57
 go_upto_region 2 with fail
 obtain ⟨bx,hbx⟩:∃ bx,bx=w.heap.size:=⟨_,rfl⟩
 generalize hW:w.alloc (.cells #[.string (S en.cls.name),.string (S en.cls.sup),.slice lo en.cls.like.length lc,.bool en.cls.itf,.bool en.cls.abs,.bool en.cls.fin,.slice fo nf fc,.slice mo nm mc] 87)=W0 at HX HBA HFL HMS ⊢;rw [←hbx] at HX ⊢;clear hW hbx d0 d1 d2 d3 d4 d5 d6 d7;go_wp2
 go_loopw [6] (fun v6 wr=>∃ k:Nat,k<=nf/\v6=.int .i64 k/\(fl.take k).any (fun f=>(ZcL (newT cs) en.cls.sup f.name).isSome)=false/\Below W0.heap.size W0 wr) (fun v6 _=>nf - (intOf v6).toNat)
 case atStart=>exact ⟨0,Yai _,rfl,by simp,Yab _ _⟩
 case round=>
  obtain ⟨k,hk,rfl,hno,hbw⟩:=hrel;have HNO:=Hd hno;have BW:=Hd hbw;have BWW:=Hd (HBA.o.trans (hbw.mono HBA.o.size));have c6:wr.cell? ⟨bx,6,none⟩=some (.slice fo nf fc):=(HX.o.below hbw).cell 6 rfl;clear hno hbw;by_cases hlt:k<nf
  ·obtain ⟨x,hx⟩:∃ x,fl[k]? = some x:=⟨_,Yaa (by rw [←HNF.o];exact hlt)⟩
   obtain ⟨b2,o2,u,hfo,hu,_,hcl⟩:=Src.elem (FldR.st.below HFL.o BW.o) k x hx;obtain rfl:fo=some ⟨b2,o2,none⟩:=hfo;obtain rfl:=hu;have hB:=Yab wr.heap.size wr;have HS2:Hid (∀ V,Below wr.heap.size wr V->V.cell? ⟨bx,1,none⟩=some (.string (S en.cls.sup))/\V.cell? ⟨bx,6,none⟩=some (.slice (some ⟨b2,o2,none⟩) nf fc)/\V.cell? ⟨b2,o2+k * 3,none⟩=some (.string (S x.name))):=Hd (fun V hV=>by
    have h1:=HX.o.below (BW.o.trans (hV.mono BW.o.size));exact ⟨h1.cell 1 rfl,h1.cell 6 rfl,(Yad (S:=fun _=>False) hV).cell (a:=⟨b2,o2+k * 3,none⟩) (hcl 0 _ rfl) id⟩)
   have hk0:(0:Int)<=(k:Int):=by omega
   have hkm:(k:Int)<(nf:Int):=by omega
   have HTS:=Hd (Zah (fun f:Fld=>(ZcL (newT cs) en.cls.sup f.name).isSome) fl k x hx);have HYES:Hid ((ZcL (newT cs) en.cls.sup x.name).isSome=true->z=64):=Hd (fun h=>HDA.o (YaQ.2 ⟨x,Yaf hx,h⟩));have HPC:Hid (∀ V,Below wr.heap.size wr V->Calls Tryz.prog 119 #[.slice (some ⟨b1,o1,none⟩) n sc,.string (S en.cls.sup),.string (S x.name)] V (fun e w'=>e=.returned (.int .i64 (idxV (ZcL (newT cs) en.cls.sup x.name)))/\Below V.heap.size V w')):=Hd (fun V hV=>HPL.o x.name V (BWW.o.trans (hV.mono BWW.o.size)));obtain ⟨g1,g6,g7⟩:=HS2.o wr hB;cases hpf:ZcL (newT cs) en.cls.sup x.name with
   | some j=>
    have HZ:Hid (z=64):=Hd (HYES.o (by rw [hpf];rfl));rw [hpf] at HPC;have e0:idxV (some j)=(j:Int):=rfl;rw [e0] at HPC;have j0:(0:Int)<=(j:Int):=by omega
    generalize x.name=xn at HS2 HPC g7;clear hpf hcl hx HTS HYES e0 c6
    go_upto_region 5 with fail
    first
    | (go_region_held3 (fun V=>V.cell? ⟨bx,1,none⟩=some (.string (S en.cls.sup))/\V.cell? ⟨bx,6,none⟩=some (.slice (some ⟨b2,o2,none⟩) nf fc)/\V.cell? ⟨b2,o2+k * 3,none⟩=some (.string (S xn))) ((refine HS2.o _ ?_;(repeat (first|(with_reducible exact hB)|(with_reducible assumption)|(with_reducible (apply Zac;rotate_left;assumption))|(with_reducible refine Zab ?_)|(with_reducible refine Zaa ?_ _)))))
      ((go_at_call 119;(with_reducible refine (HPC.o _ ?_).mono ?_);(focus ((repeat (first|(with_reducible exact hB)|(with_reducible assumption)|(with_reducible (apply Zac;rotate_left;assumption))|(with_reducible refine Zab ?_)|(with_reducible refine Zaa ?_ _)));done));rintro e wp ⟨rfl,bp⟩)))
    | fail
    all_goals
     go_wp2;go_ret;exact ⟨by rw [HZ.o];rfl,BWW.o.trans (YbN (by first|exact Zaz _ _|(repeat (first|(with_reducible exact hB)|(with_reducible assumption)|(with_reducible (apply Zac;rotate_left;assumption))|(with_reducible refine Zab ?_)|(with_reducible refine Zaa ?_ _)))) BWW.o.size)⟩
   | none=>
    rw [hpf] at HPC HTS;have e0:idxV none=(-1:Int):=rfl;rw [e0] at HPC;have HT2:Hid ((fl.take (k+1)).any (fun f=>(ZcL (newT cs) en.cls.sup f.name).isSome)=false):=Hd (by rw [HTS.o,HNO.o];rfl);generalize x.name=xn at HS2 HPC g7;clear hpf hcl hx HTS HYES e0 c6
    go_upto_region 5 with fail
    first
    | (go_region_held3 (fun V=>V.cell? ⟨bx,1,none⟩=some (.string (S en.cls.sup))/\V.cell? ⟨bx,6,none⟩=some (.slice (some ⟨b2,o2,none⟩) nf fc)/\V.cell? ⟨b2,o2+k * 3,none⟩=some (.string (S xn))) ((refine HS2.o _ ?_;(repeat (first|(with_reducible exact hB)|(with_reducible assumption)|(with_reducible (apply Zac;rotate_left;assumption))|(with_reducible refine Zab ?_)|(with_reducible refine Zaa ?_ _)))))
      ((go_at_call 119;(with_reducible refine (HPC.o _ ?_).mono ?_);(focus ((repeat (first|(with_reducible exact hB)|(with_reducible assumption)|(with_reducible (apply Zac;rotate_left;assumption))|(with_reducible refine Zab ?_)|(with_reducible refine Zaa ?_ _)));done));rintro e wp ⟨rfl,bp⟩)))
    | fail
    all_goals
     go_wp2
     go_roundw
     case rel=>exact ⟨k+1,by omega,by go_num,HT2.o,BW.o.trans (YbN (by first|exact Zaz _ _|(repeat (first|(with_reducible exact hB)|(with_reducible assumption)|(with_reducible (apply Zac;rotate_left;assumption))|(with_reducible refine Zab ?_)|(with_reducible refine Zaa ?_ _)))) BW.o.size)⟩
     case measure=>simp [intOf];omega
  ·obtain rfl:k=nf:=by omega
   have HFA:Hid (fl.any (fun f=>(ZcL (newT cs) en.cls.sup f.name).isSome)=false):=Hd (by have h:=HNO.o;rw [HNF.o,YaJ] at h;exact h);obtain ⟨w1,rfl⟩:∃ w1,w1=wr:=⟨_,rfl⟩
   have HX1:=Hd (HX.o.below BW.o);have HFL1:=Hd (FldR.st.below HFL.o BW.o);have HMS1:=Hd (MthR.st.below HMS.o BW.o);have HD2:=Hd (HDB.o HFA.o);have HD3:=Hd (HDC.o HFA.o);have HIR:=Hd (Zej (n:=1) (R:=StrR) 9 w1.heap.size w1 (Yac _));have HBI:=Hd (Zaa (Yab w1.heap.size w1) (.cells #[] 9));clear HNO BW HPL HDA HDB HDC HX HFL HMS HBA;rename Hid (Below w.heap.size w w1)=>BA1
   go_wp2;clear c6
   go_loopw [7,8] (fun v7 v8 wr=>∃ k2:Nat,k2<=k/\v8=.int .i64 k2/\TRow 1 9 StrR w1.heap.size wr v7 ((fl.take k2).map Fld.kind) (((fl.take k2).map Fld.kind).map strV)/\Below w1.heap.size w1 wr) (fun _ v8 _=>k - (intOf v8).toNat)
   case atStart=>exact ⟨0,Yai _,rfl,HIR.o,HBI.o⟩
   case round=>
    obtain ⟨k2,hk2,rfl,hir,hbw⟩:=hrel;have c6:wr.cell? ⟨bx,6,none⟩=some (.slice fo k fc):=(HX1.o.below hbw).cell 6 rfl;have HR0:=Hd hir;have BW:=Hd hbw;obtain ⟨ro,rc,rfl⟩:=hir.shape;obtain ⟨L1,hL1⟩:∃ L1,L1=(fl.take k2).map Fld.kind:=⟨_,rfl⟩
    rw [←hL1] at HR0 ⊢;have HL1:=Hd hL1;clear hir hbw hL1;by_cases hlt2:k2<k
    ·obtain ⟨x,hx⟩:∃ x,fl[k2]? = some x:=⟨_,Yaa (by rw [←HNF.o];exact hlt2)⟩
     obtain ⟨b2,o2,u,hfo,hu,_,hcl⟩:=Src.elem (FldR.st.below HFL1.o BW.o) k2 x hx;obtain rfl:fo=some ⟨b2,o2,none⟩:=hfo;obtain rfl:=hu;have e1:wr.cell? ⟨b2,o2+k2 * 3+1,none⟩=some (.string (S x.kind)):=hcl 1 _ rfl;have hln:L1.length<=2000:=by rw [HL1.o,Yaz,Yay];omega
     have hbA:Below wr.heap.size wr (wr.alloc (.cells #[.string (S x.kind)] 9)):=Zaa (Yab _ _) _;obtain ⟨v',w',hr,ht',hG⟩:=ZcN w1.heap.size (wr.alloc (.cells #[.string (S x.kind)] 9)) (.slice ro L1.length rc) (.slice (some ⟨wr.heap.size,0,none⟩) 1 1) 22 L1 [x.kind] (HR0.o.below StrR.st hbA) (BW.o.trans (hbA.mono BW.o.size)).size ((ZgM wr.heap.size wr (Yac _) x.kind).src StrR.st) (by simp only [Yb9];omega);obtain ⟨L2,hL2⟩:∃ L2,L2=L1++[x.kind]:=⟨_,rfl⟩
     rw [←hL2] at ht';have HTK:Hid ((fl.take (k2+1)).map Fld.kind=L2):=Hd (by rw [hL2,HL1.o,YaL,hx];simp);have HRR:=Hd hr;have HT2:=Hd ht';have HB2:Hid (Below w1.heap.size w1 w'):=Hd ((BW.o.trans (hbA.mono BW.o.size)).trans (hG.only.below (BW.o.trans (hbA.mono BW.o.size)).size (fun g hg=>(HR0.o.below StrR.st hbA).own g hg)));have hk0:(0:Int)<=(k2:Int):=by omega
     have hkm:(k2:Int)<(k:Int):=by omega
     obtain ⟨xo,xc,rfl⟩:=ht'.shape;generalize x.kind=xk at e1 HRR;clear hcl hx hln hbA hr ht' hG hL2
     go_wp2_with (at_builtin;refine Zak rfl _ _ 22 rfl _ _ _ w' rfl rfl HRR.o ?_)
     go_wp2
     go_roundw
     case rel=>exact ⟨k2+1,by omega,by go_num,by rw [HTK.o];exact HT2.o,HB2.o⟩
     case measure=>simp [intOf];omega
    ·obtain rfl:k2=k:=by omega
     have HR1:Hid (TRow 1 9 StrR w1.heap.size wr (.slice ro L1.length rc) (fl.map Fld.kind++(ms.take 0).flatMap Zbx) ((fl.map Fld.kind++(ms.take 0).flatMap Zbx).map strV)):=Hd (by
      have e:fl.map Fld.kind++(ms.take 0).flatMap Zbx=L1:=by rw [HL1.o,HNF.o,YaJ];simp
      rw [e];exact HR0.o)
     clear HR0 HIR HBI;go_wp2;clear c6
     go_loopw [7,9] (fun v7 v9 wr=>∃ k3:Nat,k3<=nm/\v9=.int .i64 k3/\TRow 1 9 StrR w1.heap.size wr v7 (fl.map Fld.kind++(ms.take k3).flatMap Zbx) ((fl.map Fld.kind++(ms.take k3).flatMap Zbx).map strV)/\Below w1.heap.size w1 wr) (fun _ v9 _=>nm - (intOf v9).toNat)
     case atStart=>exact ⟨0,Yai _,rfl,HR1.o,BW.o⟩
     case round=>
      obtain ⟨k3,hk3,rfl,hir,hbw⟩:=hrel;have HR0:=Hd hir;have BX:=Hd hbw;have c7:wr.cell? ⟨bx,7,none⟩=some (.slice mo nm mc):=(HX1.o.below hbw).cell 7 rfl;obtain ⟨ro,rc,rfl⟩:=hir.shape;obtain ⟨L3,hL3⟩:∃ L3,L3=fl.map Fld.kind++(ms.take k3).flatMap Zbx:=⟨_,rfl⟩
      rw [←hL3] at HR0 ⊢;have HL3:=Hd hL3;clear hir hbw HR1 hL3;by_cases hlt3:k3<nm
      ·obtain ⟨x,hx⟩:∃ x,ms[k3]? = some x:=⟨_,Yaa (by rw [←HNM.o];exact hlt3)⟩
       obtain ⟨b2,o2,u,hmo,hu,_,hcl⟩:=Src.elem HMS1.o k3 x hx;obtain rfl:mo=some ⟨b2,o2,none⟩:=hmo;obtain ⟨pv,cv,kv,rfl,hp,hcd,hkt⟩:=hu;obtain ⟨po,pc,rfl⟩:=hp.shape;have HC3:Hid (∀ V,Below w1.heap.size w1 V->V.cell? ⟨bx,7,none⟩=some (.slice (some ⟨b2,o2,none⟩) nm mc)/\V.cell? ⟨b2,o2+k3 * 7+1,none⟩=some (.slice po x.params.length pc)/\V.cell? ⟨b2,o2+k3 * 7+2,none⟩=some (.string (S x.res))):=Hd (fun V hV=>by
        have ho:=Yad (S:=fun _=>False) hV;exact ⟨(HX1.o.below hV).cell 7 rfl,ho.cell (a:=⟨b2,o2+k3 * 7+1,none⟩) (hcl 1 _ rfl) id,ho.cell (a:=⟨b2,o2+k3 * 7+2,none⟩) (hcl 2 _ rfl) id⟩)
       have hTK:fl.map Fld.kind++(ms.take (k3+1)).flatMap Zbx=L3++Zbx x:=by rw [HL3.o,YaL,hx];simp
       have hle:L3.length+(Zbx x).length<=2000:=by
        have h:=HKN.o;rw [HKD.o,←Ya1 (k3+1) ms,Yce,←YaW,hTK] at h;simp only [Yak] at h;omega
       have hmk:Zbx x=x.params++(if x.res=[] then [] else [x.res]):=rfl;have hle2:L3.length+x.params.length<=2000:=by rw [hmk,Yak] at hle;omega
       obtain ⟨v',w',hr,ht',hG⟩:=ZcN w1.heap.size wr (.slice ro L3.length rc) (.slice po x.params.length pc) 22 L3 x.params HR0.o BX.o.size (StrR.st.below hp BX.o) (by omega);obtain ⟨L4,hL4⟩:∃ L4,L4=L3++x.params:=⟨_,rfl⟩
       rw [←hL4] at ht';have HRR:=Hd hr;have HB2:Hid (Below w1.heap.size w1 w'):=Hd (BX.o.trans (hG.only.below BX.o.size (fun g hg=>HR0.o.own g hg)));have HT2:=Hd ht';have hk0:(0:Int)<=(k3:Int):=by omega
       have hkm:(k3:Int)<(nm:Int):=by omega
       obtain ⟨xo,xc,rfl⟩:=ht'.shape;obtain ⟨a7,a1,a2⟩:=HC3.o wr BX.o;obtain ⟨q7,q1,q2⟩:=HC3.o w' HB2.o;have e1:=Zae x.res;have hl4:L4.length<=2000:=by rw [hL4,Yak];exact hle2
       clear hcl hx hle hle2 hr ht' hG hp hcd hkt c7;by_cases hres:x.res=[]
       ·have HTK:Hid (fl.map Fld.kind++(ms.take (k3+1)).flatMap Zbx=L4):=Hd (by rw [hTK,hmk,YaC hres,Ya2,hL4]);have h1:(x.res == [])=true:=by rw [hres];rfl
        have h2:(x.res != [])=false:=by rw [hres];rfl
        have h3:decide (x.res=[])=true:=Yat hres;generalize x.res=xr at a2 q2 e1 h1 h2 h3;clear hres hTK hmk hL4 hl4
        go_wp2_with (at_builtin;refine Zak rfl _ _ 22 rfl _ _ _ w' rfl rfl HRR.o ?_)
        go_wp2
        go_roundw
        case rel=>exact ⟨k3+1,by omega,by go_num,by rw [HTK.o];exact HT2.o,HB2.o⟩
        case measure=>simp [intOf];omega
       ·have h1:(x.res == [])=false:=Yah.2 hres;have h2:(x.res != [])=true:=by rw [bne_iff_ne];exact hres
        have h3:decide (x.res=[])=false:=Yaj hres;have hbA:Below w'.heap.size w' (w'.alloc (.cells #[.string (S x.res)] 9)):=Zaa (Yab _ _) _;obtain ⟨v2,w2,hr2,ht2,hG2⟩:=ZcN w1.heap.size (w'.alloc (.cells #[.string (S x.res)] 9)) (.slice xo L4.length xc) (.slice (some ⟨w'.heap.size,0,none⟩) 1 1) 22 L4 [x.res] (HT2.o.below StrR.st hbA) (HB2.o.trans (hbA.mono HB2.o.size)).size ((ZgM w'.heap.size w' (Yac _) x.res).src StrR.st) (by simp only [Yb9];omega);obtain ⟨L5,hL5⟩:∃ L5,L5=L4++[x.res]:=⟨_,rfl⟩
        rw [←hL5] at ht2;have HTK:Hid (fl.map Fld.kind++(ms.take (k3+1)).flatMap Zbx=L5):=Hd (by rw [hTK,hmk,Yas hres,hL5,hL4,YaW]);have HRR2:=Hd hr2;have HT3:=Hd ht2;have HB3:Hid (Below w1.heap.size w1 w2):=Hd ((HB2.o.trans (hbA.mono HB2.o.size)).trans (hG2.only.below (HB2.o.trans (hbA.mono HB2.o.size)).size (fun g hg=>(HT2.o.below StrR.st hbA).own g hg)));obtain ⟨yo,yc,rfl⟩:=ht2.shape;generalize x.res=xr at a2 q2 e1 h1 h2 h3 HRR2;clear hres hbA hr2 ht2 hG2 hTK hmk hL4 hL5 hl4
        go_wp2_with (first|(at_builtin;refine Zak rfl _ _ 22 rfl _ _ _ w' rfl rfl HRR.o ?_)|(at_builtin;refine Zak rfl _ _ 22 rfl _ _ _ w2 rfl rfl HRR2.o ?_))
        go_wp2
        go_roundw
        case rel=>exact ⟨k3+1,by omega,by go_num,by rw [HTK.o];exact HT3.o,HB3.o⟩
        case measure=>simp [intOf];omega
      ·obtain rfl:k3=nm:=by omega
       have hKL:L3=ZcT en.cls:=by rw [HL3.o,HNM.o,YaJ,HKD.o]
       rw [hKL] at HR0 ⊢;obtain ⟨w3,rfl⟩:∃ w3,w3=wr:=⟨_,rfl⟩
       have HX3:=Hd (HX1.o.below BX.o);have B3:=Hd (BA1.o.trans (BX.o.mono BA1.o.size));have HKR:=Hd (HR0.o.src StrR.st);obtain ⟨K,hK⟩:∃ K,K=ZcT en.cls:=⟨_,rfl⟩
       rw [←hK] at HKR HKS HD2 HD3 HKN ⊢;obtain ⟨nk,hnk⟩:∃ nk,nk=K.length:=⟨_,rfl⟩
       rw [←hnk] at HKR ⊢;have HNK:=Hd hnk;have hnk9:nk<=2000:=by rw [hnk];exact HKN.o
       clear hKL HR0 BW BX HX1 HFL1 HMS1 HKD hK hnk BA1;go_wp2;clear c7
       go_loopw [10] (fun v10 wr=>∃ k4:Nat,k4<=nk/\v10=.int .i64 k4/\(K.take k4).all (ZbY (newT cs))=true/\Below w3.heap.size w3 wr) (fun v10 _=>nk - (intOf v10).toNat)
       case atStart=>exact ⟨0,Yai _,rfl,by simp,Yab _ _⟩
       case round=>
        obtain ⟨k4,hk4,rfl,hall,hbw⟩:=hrel;have HALL:=Hd hall;have BW:=Hd hbw;have BWW:=Hd (B3.o.trans (hbw.mono B3.o.size));clear hall hbw;by_cases hlt4:k4<nk
        ·obtain ⟨x,hx⟩:∃ x,K[k4]? = some x:=⟨_,Yaa (by rw [←HNK.o];exact hlt4)⟩
         obtain ⟨b6,o6,u,hko,hu,_,hcl⟩:=Src.elem (StrR.st.below HKR.o BW.o) k4 x hx;obtain rfl:ro=some ⟨b6,o6,none⟩:=hko;obtain rfl:=hu;have c0:wr.cell? ⟨b6,o6+k4,none⟩=some (.string (S x)):=by have q:=hcl 0 _ rfl;rw [YaG] at q;exact q
         have HCF:=Hd (HTH.o x wr (HKS.o x (Yaf hx)) BWW.o);have HTK:Hid ((K.take (k4+1)).all (ZbY (newT cs))=ZbY (newT cs) x):=Hd (by rw [YaL,hx];simp [HALL.o]);have HNA:Hid (ZbY (newT cs) x=false->z=65):=Hd (fun h=>HD2.o (Zb9 (fun h2=>by rw [YaE.1 h2 x (Yaf hx)] at h;cases h)));have hk0:(0:Int)<=(k4:Int):=by omega
         have hkq:(k4:Int)<(nk:Int):=by omega
         clear hcl hx
         go_wp2_with fail
         with_reducible refine HCF.o.mono ?_
         rintro e w4 ⟨rfl,hb4⟩;have B4:=Hd (BW.o.trans (hb4.mono BW.o.size));have BW4:=Hd (BWW.o.trans (hb4.mono BWW.o.size));clear hb4 c0 HCF;cases hde:ZbY (newT cs) x with
         | false=>
          have HZ:=Hd (HNA.o hde);clear hde HTK HNA;go_wp2;go_ret;exact ⟨by rw [HZ.o];rfl,BW4.o⟩
         | true=>
          rw [hde] at HTK;clear hde HNA;go_wp2
          go_roundw
          case rel=>exact ⟨k4+1,by omega,by go_num,HTK.o,B4.o⟩
          case measure=>simp [intOf];omega
        ·obtain rfl:k4=nk:=by omega
         have HKA:Hid (K.all (ZbY (newT cs))=true):=Hd (by have h:=HALL.o;rw [HNK.o,YaJ] at h;exact h);have HD4:=Hd (HD3.o HKA.o);have HX4:=Hd (HX3.o.below BW.o);have HBC:=Hd (HBL.o wr BWW.o);unfold ZgT at HBC;rw [HEL.o] at HBC;clear HALL HD2 HD3 HX3 HKR BW
         go_wp2_with fail
         with_reducible refine HBC.o.mono ?_
         rintro e w5 ⟨RB,v,M,rfl,hmat,hrl,hsrc,hM,hb5⟩;have B5:=Hd (BWW.o.trans (hb5.mono BWW.o.size));have HX5:=Hd (HX4.o.below hb5);obtain ⟨ri,hri⟩:∃ ri,RB[i]? = some ri:=⟨_,Yaa (by rw [hrl];exact hi)⟩
         obtain ⟨vo,vc,rfl⟩:=hsrc.shape;rw [hrl] at hsrc ⊢;obtain ⟨ob,oo,u,hvo,hu,_,hclr⟩:=Src.elem hsrc i ri hri;obtain rfl:vo=some ⟨ob,oo,none⟩:=hvo;obtain rfl:=hu;have HMR:=Hd (HOV.o M hM);have HRD:Hid (∀ V,Below w5.heap.size w5 V->V.cell? ⟨ob,oo+i,none⟩=some (.slice (some ⟨ri,0,none⟩) n n)/\∀ k,k<n->V.cell? ⟨ri,0+k,none⟩=some (.bool (M i k))/\V.cell? ⟨ri,k,none⟩=some (.bool (M i k))):=Hd (fun V hV=>by
          have ho:=Yad (S:=fun _=>False) hV;refine ⟨ho.cell (a:=⟨ob,oo+i,none⟩) (by have q:=hclr 0 _ rfl;rw [YaG] at q;exact q) id,fun k hk=>?_⟩;have q:=ho.cell (hmat.cell hri hk) id;exact ⟨by rw [Ybc];exact q,q⟩)
         have HD5:=Hd (HD4.o (M i) HMR.o);have HAS:=Hd (HHAS.o (M i) HMR.o);have HAG:=Hd (HGA.o (M i) HMR.o);generalize M i=R at HRD HD5 HAS HAG;have HMI:=Hd (Zej (n:=7) (R:=MVR) 44 w5.heap.size w5 (Yac _));have HBI:=Hd (Zaa (Yab w5.heap.size w5) (.cells #[] 44));clear hmat hrl hsrc hM hb5 hri hclr HBC HD4 HX4 HOV HHAS HGA HBL HMR BWW;go_wp2
         go_loopw [12,13] (fun v12 v13 wr=>∃ (k5:Nat) (vs:List MV),k5<=n/\v13=.int .i64 k5/\MVals A w (Zcb (newT cs) i R k5) vs/\Zpt w5.heap.size wr v12 vs/\Below w5.heap.size w5 wr) (fun _ v13 _=>n - (intOf v13).toNat)
         case atStart=>exact ⟨0,[],Yai _,rfl,MVals.nil,HMI.o,HBI.o⟩
         case round=>
          obtain ⟨k5,vs,hk5,rfl,hmv,hir,hbw⟩:=hrel;have HMV:=Hd hmv;have HR0:=Hd hir;have BW:=Hd hbw;have BWW:=Hd (B5.o.trans (hbw.mono B5.o.size));obtain ⟨ro5,rc5,rfl⟩:=hir.shape;clear hmv hir hbw;by_cases hlt5:k5<n
          ·obtain ⟨ek,hek⟩:∃ ek,(newT cs)[k5]? = some ek:=⟨_,Yaa (by rw [←HNN.o];exact hlt5)⟩
           have hxk:(allR cs)[k5]? = some ek.cls:=by rw [HAT.o,hek];rfl
           have hsk:=HSX.o;obtain ⟨b8,o8,u,h8,hv,_,hcl⟩:=Src.elem hsk k5 ek.cls hxk;simp only [Yba,YbF,and_true] at h8;obtain ⟨h9,h10⟩:=h8;subst h9 h10;obtain ⟨_,_,mv,rfl,_,_,hm8⟩:=hv;obtain ⟨mo8,mc8,rfl⟩:=hm8.shape;obtain ⟨vs2,hvs2,hsv2⟩:=ZmU hm8;have a7:wr.cell? ⟨b1,o1+k5 * 8+7,none⟩=some (.slice mo8 ek.cls.mths.length mc8):=(Yad (S:=fun _=>False) BWW.o).cell (a:=⟨b1,o1+k5 * 8+7,none⟩) (hcl 7 _ rfl) id;have hmt:Zar (newT cs) k5=ek.cls.mths:=Zcg hek;have hln:vs.length<=40000:=by
            rw [HMV.o.len];have:=Zgf (i:=i) (R:=R) HFEW.o k5;omega
           have hln2:vs2.length<=32:=by rw [hvs2.len,←hmt];exact HFEW.o k5
           obtain ⟨v',w',hr,ht',hG⟩:=ZiL w5.heap.size wr (.slice ro5 vs.length rc5) (.slice mo8 ek.cls.mths.length mc8) 85 vs vs2 HR0.o BW.o.size (MVRst.below hsv2 BWW.o) (by omega);obtain ⟨vs3,hvs3⟩:∃ vs3,vs3=vs++vs2:=⟨_,rfl⟩
           rw [←hvs3] at ht';have HRR:=Hd hr;have HT2:=Hd ht';have HB2:=Hd (BW.o.trans hG);have HMV2:Hid ((k5 == i || R k5)=true->MVals A w (Zcb (newT cs) i R (k5+1)) vs3):=Hd (fun h=>by
            show MVals A w (Zcb (newT cs) i R k5++(if (k5 == i || R k5)=true then Zar (newT cs) k5 else [])) _
            rw [YaC h,hmt,hvs3];exact HMV.o.app hvs2)
           have HMV3:Hid ((k5 == i || R k5)=false->MVals A w (Zcb (newT cs) i R (k5+1)) vs):=Hd (fun h=>by
            show MVals A w (Zcb (newT cs) i R k5++(if (k5 == i || R k5)=true then Zar (newT cs) k5 else [])) _
            rw [Yas (by rw [h];decide),Ya2];exact HMV.o)
           obtain ⟨xo,xc,rfl⟩:=ht'.shape;obtain ⟨r0,rk⟩:=HRD.o wr BW.o;obtain ⟨r1,r2⟩:=rk k5 hlt5;have hk0:(0:Int)<=(k5:Int):=by omega
           have hkn:(k5:Int)<(n:Int):=by omega
           generalize R k5=rb at r1 r2 HMV2 HMV3;clear hek hxk hsk hcl hm8 hvs2 hsv2 hmt hln hln2 hr ht' hG rk hvs3;by_cases hki:k5=i
           ·have HMV4:=Hd (HMV2.o (by rw [hki];simp));clear HMV2 HMV3;subst hki
            go_wp2_with (at_builtin;refine Zak rfl _ _ 85 rfl _ _ _ w' rfl rfl HRR.o ?_)
            go_wp2
            go_roundw
            case rel=>exact ⟨k5+1,_,by omega,by go_num,HMV4.o,HT2.o,HB2.o⟩
            case measure=>simp [intOf];omega
           ·have hkj:¬ (k5:Int)=(i:Int):=by omega
            have hkd:decide ((k5:Int)=(i:Int))=false:=Yaj hkj;have hkb:(k5 == i)=false:=Yah.2 hki;rw [hkb,YaS] at HMV2 HMV3;cases rb with
            | true=>
             have HMV4:=Hd (HMV2.o rfl);clear HMV2 HMV3 hki hkb
             go_wp2_with (at_builtin;refine Zak rfl _ _ 85 rfl _ _ _ w' rfl rfl HRR.o ?_)
             go_wp2
             go_roundw
             case rel=>exact ⟨k5+1,_,by omega,by go_num,HMV4.o,HT2.o,HB2.o⟩
             case measure=>simp [intOf];omega
            | false=>
             have HMV4:=Hd (HMV3.o rfl);clear HMV2 HMV3 hki hkb;go_wp2
             go_roundw
             case rel=>exact ⟨k5+1,_,by omega,by go_num,HMV4.o,HR0.o,BW.o⟩
             case measure=>simp [intOf];omega
          ·obtain rfl:n=k5:=by omega
           obtain ⟨w6,rfl⟩:∃ w6,w6=wr:=⟨_,rfl⟩
           have hMS:=ZmW HMV.o (HR0.o.src MVRst) BWW.o;have hvl:=HMV.o.len;rw [hvl] at hMS ⊢;have HX6:=Hd (HX5.o.below BW.o);have B6:=Hd BWW.o;obtain ⟨al,hal⟩:∃ al,al=Zcb (newT cs) i R n:=⟨_,rfl⟩
           rw [←hal] at hMS HD5 HAS HAG ⊢;obtain ⟨q,hq⟩:∃ q,q=al.length:=⟨_,rfl⟩
           rw [←hq] at hMS ⊢;have HAL:=Hd hMS;have HQ:=Hd hq;have hq9:q<=40000:=by
            have:=Zgf (i:=i) (R:=R) HFEW.o n;rw [hq,hal];omega
           clear hMS hvl hal hq HMV HR0 BW BWW HX5 HRD HMI HBI B5 HFEW;go_wp2
           go_loopw [14] (fun v14 wr=>∃ x:Nat,x<=q/\v14=.int .i64 x/\(∀ a b X Y,a<x->b<a->al[a]? = some X->al[b]? = some Y->X.name=Y.name->ZaJ X=ZaJ Y)/\Below w6.heap.size w6 wr) (fun v14 _=>q - (intOf v14).toNat)
           case atStart=>exact ⟨0,Yai _,rfl,fun a b X Y h=>by omega,Yab _ _⟩
           case round=>
            obtain ⟨x,hx,rfl,hpr,hbw⟩:=hrel;have HPR:=Hd hpr;have BW:=Hd hbw;clear hpr hbw;by_cases hlt6:x<q
            ·obtain ⟨X,hX⟩:∃ X,al[x]? = some X:=⟨_,Yaa (by rw [←HQ.o];exact hlt6)⟩
             have HXX:=Hd hX;obtain ⟨b2,o2,vx,hro,hvx,_,hclx⟩:=Src.elem HAL.o x X hX;obtain rfl:ro5=some ⟨b2,o2,none⟩:=hro;have HVX:=Hd hvx;obtain ⟨_,_,_,rfl,⟨po,pc,rfl⟩,⟨co,cc,rfl⟩,⟨ko,kc,rfl⟩⟩:=Zam hvx;have HCX:=Hd hclx;have x0:(0:Int)<=(x:Int):=by omega
             have xq:(x:Int)<(q:Int):=by omega
             clear hX hvx hclx;go_wp2
             go_loopw [15] (fun v15 wr=>∃ y:Nat,y<=x/\v15=.int .i64 y/\(∀ b Y,b<y->al[b]? = some Y->X.name=Y.name->ZaJ X=ZaJ Y)/\Below w6.heap.size w6 wr) (fun v15 _=>x - (intOf v15).toNat)
             case atStart=>exact ⟨0,Yai _,rfl,fun b Y h=>by omega,BW.o⟩
             case round=>
              obtain ⟨y,hy,rfl,hpy,hby⟩:=hrel;have HPY:=Hd hpy;have BY:=Hd hby
              have BYY:=Hd (B6.o.trans (hby.mono B6.o.size));clear hpy hby
              by_cases hlt7:y<x
              ·obtain ⟨Y,hY⟩:∃ Y,al[y]? = some Y:=⟨_,Yaa (by rw [←HQ.o];omega)⟩
               have HYY:=Hd hY;obtain ⟨b3,o3,vy,hro,hvy,_,hcly⟩:=Src.elem HAL.o y Y hY;simp only [Yba,YbF,and_true] at hro;obtain ⟨h9,h10⟩:=hro;subst h9 h10;have HVY:=Hd hvy;obtain ⟨_,_,_,rfl,⟨po2,pc2,rfl⟩,⟨co2,cc2,rfl⟩,⟨ko2,kc2,rfl⟩⟩:=Zam hvy;have HSS:Hid (∀ V,Below wr.heap.size wr V->(V.cell? ⟨b2,o2+x * 7,none⟩=some (.string (S X.name))/\V.cell? ⟨b2,o2+x * 7+1,none⟩=some (.slice po X.params.length pc)/\V.cell? ⟨b2,o2+x * 7+2,none⟩=some (.string (S X.res))/\V.cell? ⟨b2,o2+x * 7+3,none⟩=some (.bool X.abs)/\V.cell? ⟨b2,o2+x * 7+4,none⟩=some (.int .i64 X.loc)/\V.cell? ⟨b2,o2+x * 7+5,none⟩=some (.slice co X.code.length cc)/\V.cell? ⟨b2,o2+x * 7+6,none⟩=some (.slice ko X.cats.length kc))/\(V.cell? ⟨b2,o2+y * 7,none⟩=some (.string (S Y.name))/\V.cell? ⟨b2,o2+y * 7+1,none⟩=some (.slice po2 Y.params.length pc2)/\V.cell? ⟨b2,o2+y * 7+2,none⟩=some (.string (S Y.res))/\V.cell? ⟨b2,o2+y * 7+3,none⟩=some (.bool Y.abs)/\V.cell? ⟨b2,o2+y * 7+4,none⟩=some (.int .i64 Y.loc)/\V.cell? ⟨b2,o2+y * 7+5,none⟩=some (.slice co2 Y.code.length cc2)/\V.cell? ⟨b2,o2+y * 7+6,none⟩=some (.slice ko2 Y.cats.length kc2))):=Hd (fun V hV=>by
                have ho:=Yad (S:=fun _=>False) (BY.o.trans (hV.mono BY.o.size));exact ⟨⟨ho.cell (a:=⟨b2,o2+x * 7,none⟩) (HCX.o 0 _ rfl) id,ho.cell (a:=⟨b2,o2+x * 7+1,none⟩) (HCX.o 1 _ rfl) id,ho.cell (a:=⟨b2,o2+x * 7+2,none⟩) (HCX.o 2 _ rfl) id,ho.cell (a:=⟨b2,o2+x * 7+3,none⟩) (HCX.o 3 _ rfl) id,ho.cell (a:=⟨b2,o2+x * 7+4,none⟩) (HCX.o 4 _ rfl) id,ho.cell (a:=⟨b2,o2+x * 7+5,none⟩) (HCX.o 5 _ rfl) id,ho.cell (a:=⟨b2,o2+x * 7+6,none⟩) (HCX.o 6 _ rfl) id⟩,⟨ho.cell (a:=⟨b2,o2+y * 7,none⟩) (hcly 0 _ rfl) id,ho.cell (a:=⟨b2,o2+y * 7+1,none⟩) (hcly 1 _ rfl) id,ho.cell (a:=⟨b2,o2+y * 7+2,none⟩) (hcly 2 _ rfl) id,ho.cell (a:=⟨b2,o2+y * 7+3,none⟩) (hcly 3 _ rfl) id,ho.cell (a:=⟨b2,o2+y * 7+4,none⟩) (hcly 4 _ rfl) id,ho.cell (a:=⟨b2,o2+y * 7+5,none⟩) (hcly 5 _ rfl) id,ho.cell (a:=⟨b2,o2+y * 7+6,none⟩) (hcly 6 _ rfl) id⟩⟩)
               have y0:(0:Int)<=(y:Int):=by omega
               have yq:(y:Int)<(q:Int):=by omega
               have yx:(y:Int)<(x:Int):=by omega
               have hB:=Yab wr.heap.size wr;have g:=HSS.o wr hB;clear hY hvy hcly;by_cases hnm:X.name=Y.name
               ·have HGX:Hid (∀ V,Below wr.heap.size wr V->Calls Tryz.prog 121 #[.agg #[.string (S X.name),.slice po X.params.length pc,.string (S X.res),.bool X.abs,.int .i64 X.loc,.slice co X.code.length cc,.slice ko X.cats.length kc]] V (Zca (ZaJ X) V)):=Hd (fun V hV=>Zft X _ V (MthR.st.keep HVX.o (Yad (S:=fun _=>False) (BY.o.trans (hV.mono BY.o.size))) (fun _ _=>id)) (HAG.o X (Yaf HXX.o)).brief);have HGY:Hid (∀ V,Below wr.heap.size wr V->Calls Tryz.prog 121 #[.agg #[.string (S Y.name),.slice po2 Y.params.length pc2,.string (S Y.res),.bool Y.abs,.int .i64 Y.loc,.slice co2 Y.code.length cc2,.slice ko2 Y.cats.length kc2]] V (Zca (ZaJ Y) V)):=Hd (fun V hV=>Zft Y _ V (MthR.st.keep HVY.o (Yad (S:=fun _=>False) (BY.o.trans (hV.mono BY.o.size))) (fun _ _=>id)) (HAG.o Y (Yaf HYY.o)).brief);unfold Zca at HGX HGY;have e1:=Zae X.name;have e2:=Zae Y.name;have e4:(X.name == Y.name)=true:=by rw [hnm];exact Ybf _
                have e5:decide (X.name=Y.name)=true:=Yat hnm;have HNMQ:=Hd hnm;clear hnm;by_cases hsg:ZaJ X=ZaJ Y
                ·have HP2:Hid (∀ b Y',b<y+1->al[b]? = some Y'->X.name=Y'.name->ZaJ X=ZaJ Y'):=Hd (fun b Y' hb hY' hn=>by
                  rcases YaB b y with h|h
                  ·exact HPY.o b Y' h hY' hn
                  ·rw [show b=y by omega,HYY.o] at hY';obtain rfl:=Yae hY';exact hsg)
                 rw [←hsg] at HGY;clear hsg;have e3:=Zae (ZaJ X);generalize ZaJ X=sg at HGX HGY HP2 e3;obtain ⟨⟨x00,x01,x02,x03,x04,x05,x06⟩,⟨y00,y01,y02,y03,y04,y05,y06⟩⟩:=g
                 go_upto_region 36 with fail
                 first
                 | (go_region_held3 (fun V=>(V.cell? ⟨b2,o2+x * 7,none⟩=some (.string (S X.name))/\V.cell? ⟨b2,o2+x * 7+1,none⟩=some (.slice po X.params.length pc)/\V.cell? ⟨b2,o2+x * 7+2,none⟩=some (.string (S X.res))/\V.cell? ⟨b2,o2+x * 7+3,none⟩=some (.bool X.abs)/\V.cell? ⟨b2,o2+x * 7+4,none⟩=some (.int .i64 X.loc)/\V.cell? ⟨b2,o2+x * 7+5,none⟩=some (.slice co X.code.length cc)/\V.cell? ⟨b2,o2+x * 7+6,none⟩=some (.slice ko X.cats.length kc))/\(V.cell? ⟨b2,o2+y * 7,none⟩=some (.string (S Y.name))/\V.cell? ⟨b2,o2+y * 7+1,none⟩=some (.slice po2 Y.params.length pc2)/\V.cell? ⟨b2,o2+y * 7+2,none⟩=some (.string (S Y.res))/\V.cell? ⟨b2,o2+y * 7+3,none⟩=some (.bool Y.abs)/\V.cell? ⟨b2,o2+y * 7+4,none⟩=some (.int .i64 Y.loc)/\V.cell? ⟨b2,o2+y * 7+5,none⟩=some (.slice co2 Y.code.length cc2)/\V.cell? ⟨b2,o2+y * 7+6,none⟩=some (.slice ko2 Y.cats.length kc2))) ((refine HSS.o _ ?_;(repeat (first|(with_reducible exact hB)|(with_reducible assumption)|(with_reducible (apply Zac;rotate_left;assumption))|(with_reducible refine Zab ?_)|(with_reducible refine Zaa ?_ _)))))
                   (first
                    | ((go_at_call 121;(with_reducible refine (HGX.o _ ?_).mono ?_);(focus ((repeat (first|(with_reducible exact hB)|(with_reducible assumption)|(with_reducible (apply Zac;rotate_left;assumption))|(with_reducible refine Zab ?_)|(with_reducible refine Zaa ?_ _)));done));rintro e ws1 ⟨rfl,bs1⟩))
                    | ((go_at_call 121;(with_reducible refine (HGY.o _ ?_).mono ?_);(focus ((repeat (first|(with_reducible exact hB)|(with_reducible assumption)|(with_reducible (apply Zac;rotate_left;assumption))|(with_reducible refine Zab ?_)|(with_reducible refine Zaa ?_ _)));done));rintro e ws2 ⟨rfl,bs2⟩))))
                 | fail
                 all_goals
                  go_wp2
                  go_roundw
                  case rel=>exact ⟨y+1,by omega,by go_num,HP2.o,BY.o.trans (YbN (by first|exact Zaz _ _|(repeat (first|(with_reducible exact hB)|(with_reducible assumption)|(with_reducible (apply Zac;rotate_left;assumption))|(with_reducible refine Zab ?_)|(with_reducible refine Zaa ?_ _)))) BY.o.size)⟩
                  case measure=>simp [intOf];omega
                ·have HZ:Hid (z=66):=Hd (HD5.o.1 ⟨x,y,X,Y,hlt7,HXX.o,HYY.o,HNMQ.o,hsg⟩);have e3:=Zae (ZaJ X);have e6:=Zae (ZaJ Y);have h1:(ZaJ X == ZaJ Y)=false:=Yah.2 hsg;have h2:(ZaJ X != ZaJ Y)=true:=by rw [bne_iff_ne];exact hsg
                 have h3:decide (ZaJ X=ZaJ Y)=false:=Yaj hsg;clear hsg;generalize ZaJ X=sgx at HGX h1 h2 h3 e3;generalize ZaJ Y=sgy at HGY h1 h2 h3 e6;obtain ⟨⟨x00,x01,x02,x03,x04,x05,x06⟩,⟨y00,y01,y02,y03,y04,y05,y06⟩⟩:=g
                 go_upto_region 36 with fail
                 first
                 | (go_region_held3 (fun V=>(V.cell? ⟨b2,o2+x * 7,none⟩=some (.string (S X.name))/\V.cell? ⟨b2,o2+x * 7+1,none⟩=some (.slice po X.params.length pc)/\V.cell? ⟨b2,o2+x * 7+2,none⟩=some (.string (S X.res))/\V.cell? ⟨b2,o2+x * 7+3,none⟩=some (.bool X.abs)/\V.cell? ⟨b2,o2+x * 7+4,none⟩=some (.int .i64 X.loc)/\V.cell? ⟨b2,o2+x * 7+5,none⟩=some (.slice co X.code.length cc)/\V.cell? ⟨b2,o2+x * 7+6,none⟩=some (.slice ko X.cats.length kc))/\(V.cell? ⟨b2,o2+y * 7,none⟩=some (.string (S Y.name))/\V.cell? ⟨b2,o2+y * 7+1,none⟩=some (.slice po2 Y.params.length pc2)/\V.cell? ⟨b2,o2+y * 7+2,none⟩=some (.string (S Y.res))/\V.cell? ⟨b2,o2+y * 7+3,none⟩=some (.bool Y.abs)/\V.cell? ⟨b2,o2+y * 7+4,none⟩=some (.int .i64 Y.loc)/\V.cell? ⟨b2,o2+y * 7+5,none⟩=some (.slice co2 Y.code.length cc2)/\V.cell? ⟨b2,o2+y * 7+6,none⟩=some (.slice ko2 Y.cats.length kc2))) ((refine HSS.o _ ?_;(repeat (first|(with_reducible exact hB)|(with_reducible assumption)|(with_reducible (apply Zac;rotate_left;assumption))|(with_reducible refine Zab ?_)|(with_reducible refine Zaa ?_ _)))))
                   (first
                    | ((go_at_call 121;(with_reducible refine (HGX.o _ ?_).mono ?_);(focus ((repeat (first|(with_reducible exact hB)|(with_reducible assumption)|(with_reducible (apply Zac;rotate_left;assumption))|(with_reducible refine Zab ?_)|(with_reducible refine Zaa ?_ _)));done));rintro e ws1 ⟨rfl,bs1⟩))
                    | ((go_at_call 121;(with_reducible refine (HGY.o _ ?_).mono ?_);(focus ((repeat (first|(with_reducible exact hB)|(with_reducible assumption)|(with_reducible (apply Zac;rotate_left;assumption))|(with_reducible refine Zab ?_)|(with_reducible refine Zaa ?_ _)));done));rintro e ws2 ⟨rfl,bs2⟩))))
                 | fail
                 all_goals
                  go_wp2;go_ret;exact ⟨by rw [HZ.o];rfl,BYY.o.trans (YbN (by first|exact Zaz _ _|(repeat (first|(with_reducible exact hB)|(with_reducible assumption)|(with_reducible (apply Zac;rotate_left;assumption))|(with_reducible refine Zab ?_)|(with_reducible refine Zaa ?_ _)))) BYY.o.size)⟩
               ·have e1:=Zae X.name;have e2:=Zae Y.name;have e4:(X.name == Y.name)=false:=Yah.2 hnm;have e5:decide (X.name=Y.name)=false:=Yaj hnm;have HP2:Hid (∀ b Y',b<y+1->al[b]? = some Y'->X.name=Y'.name->ZaJ X=ZaJ Y'):=Hd (fun b Y' hb hY' hn=>by
                 rcases YaB b y with h|h
                 ·exact HPY.o b Y' h hY' hn
                 ·rw [show b=y by omega,HYY.o] at hY';obtain rfl:=Yae hY';exact absurd hn hnm)
                clear hnm;obtain ⟨⟨x00,x01,x02,x03,x04,x05,x06⟩,⟨y00,y01,y02,y03,y04,y05,y06⟩⟩:=g
                go_upto_region 36 with fail
                go_quiet (fail)
                all_goals
                 go_wp2
                 go_roundw
                 case rel=>exact ⟨y+1,by omega,by go_num,HP2.o,BY.o.trans (YbN (by first|exact Zaz _ _|(repeat (first|(with_reducible exact hB)|(with_reducible assumption)|(with_reducible (apply Zac;rotate_left;assumption))|(with_reducible refine Zab ?_)|(with_reducible refine Zaa ?_ _)))) BY.o.size)⟩
                 case measure=>simp [intOf];omega
              ·obtain rfl:y=x:=by omega
               have HP2:Hid (∀ a b X Y,a<y+1->b<a->al[a]? = some X->al[b]? = some Y->X.name=Y.name->ZaJ X=ZaJ Y):=Hd (fun a b X' Y' ha hb hX' hY' hn=>by
                rcases YaB a y with h|h
                ·exact HPR.o a b X' Y' h hb hX' hY' hn
                ·have:a=y:=by omega
                 subst this;rw [HXX.o] at hX';obtain rfl:=Yae hX';exact HPY.o b Y' hb hY' hn)
               go_wp2
               go_roundw
               case rel=>exact ⟨y+1,by omega,by go_num,HP2.o,BY.o⟩
               case measure=>simp [intOf];omega
            ·obtain rfl:x=q:=by omega
             have HNP:Hid (¬ Zeo al):=Hd (by
              rintro ⟨a,b,X,Y,hab,hX,hY,hn,hs⟩;exact hs (HPR.o a b X Y (by rw [HQ.o];exact (Yag.1 hX).1) hab hX hY hn))
             have HD6:=Hd (HD5.o.2.1 HNP.o);have HD7:=Hd (HD5.o.2.2 HNP.o);have HX7:=Hd (HX6.o.below BW.o);have HA7:=Hd (MthR.st.below HAL.o BW.o);have B7:=Hd (B6.o.trans (BW.o.mono B6.o.size));clear HPR HNP HD5 HX6 HAL B6 BW;obtain ⟨w7,rfl⟩:∃ w7,w7=wr:=⟨_,rfl⟩
             cases hab:en.cls.abs with
             | true=>
              rw [hab] at HX7;have HZ:Hid (z=0):=Hd (HD7.o (.inl hab));have c4:w7.cell? ⟨bx,4,none⟩=some (.bool true):=HX7.o.cell 4 rfl;clear hab HD6 HD7 HX7;go_wp2
              go_loopw [16] (fun v16 wr=>v16=.int .i64 0/\wr=w7) (fun _ _=>0)
              case atStart=>exact ⟨rfl,rfl⟩
              case round=>
               obtain ⟨rfl,rfl⟩:=hrel;by_cases h0:x=0
               ·subst h0;go_wp2;go_ret;exact ⟨by rw [HZ.o];rfl,B7.o⟩
               ·have h1:(0:Int)<(x:Int):=by omega
                go_wp2;go_ret;exact ⟨by rw [HZ.o];rfl,B7.o⟩
             | false=>
              rw [hab] at HX7;have HABF:=Hd hab;clear hab;go_wp2
              go_loopw [16] (fun v16 wr=>∃ k8:Nat,k8<=x/\v16=.int .i64 k8/\(∀ a X,a<k8->al[a]? = some X->absM (newT cs) i X.name=false)/\Below w7.heap.size w7 wr) (fun v16 _=>x - (intOf v16).toNat)
              case atStart=>exact ⟨0,Yai _,rfl,fun a X h=>by omega,Yab _ _⟩
              case round=>
               obtain ⟨k8,hk8,rfl,hno,hbw⟩:=hrel;have HNO:=Hd hno;have BW:=Hd hbw;have BWW:=Hd (B7.o.trans (hbw.mono B7.o.size));clear hno hbw;by_cases hlt8:k8<x
               ·obtain ⟨X,hX⟩:∃ X,al[k8]? = some X:=⟨_,Yaa (by rw [←HQ.o];exact hlt8)⟩
                obtain ⟨b2,o2,vx,hro,hvx,_,hclx⟩:=Src.elem (MthR.st.below HA7.o BW.o) k8 X hX;obtain rfl:ro5=some ⟨b2,o2,none⟩:=hro;obtain ⟨_,_,_,rfl,⟨po,pc,rfl⟩,⟨co,cc,rfl⟩,⟨ko,kc,rfl⟩⟩:=Zam hvx;have hk0:(0:Int)<=(k8:Int):=by omega
                have hkx:(k8:Int)<(x:Int):=by omega
                have hB:=Yab wr.heap.size wr;have HSS:Hid (∀ V,Below wr.heap.size wr V->V.cell? ⟨bx,0,none⟩=some (.string (S en.cls.name))/\V.cell? ⟨b2,o2+k8 * 7,none⟩=some (.string (S X.name))):=Hd (fun V hV=>by
                 have ho:=Yad (S:=fun _=>False) hV;exact ⟨(HX7.o.below (BW.o.trans (hV.mono BW.o.size))).cell 0 rfl,ho.cell (a:=⟨b2,o2+k8 * 7,none⟩) (hclx 0 _ rfl) id⟩)
                have c4:wr.cell? ⟨bx,4,none⟩=some (.bool false):=(HX7.o.below BW.o).cell 4 rfl;obtain ⟨⟨rx,rm⟩,hrf⟩:=HAS.o X (Yaf hX);have HAB:=Hd (HABS.o X.name (rx,rm) hrf);have HXX:=Hd hX;have HMC:Hid (∀ V,Below wr.heap.size wr V->Calls Tryz.prog 122 #[.slice (some ⟨b1,o1,none⟩) n sc,.string (S en.cls.name),.string (S X.name)] V (fun e w'=>∃ po2 pc2 co2 cc2 ko2 kc2,e=.returned (.tuple #[.string (S (nmE (newT cs) rx)),.agg #[.string (S rm.name),.slice po2 rm.params.length pc2,.string (S rm.res),.bool rm.abs,.int .i64 rm.loc,.slice co2 rm.code.length cc2,.slice ko2 rm.cats.length kc2],.bool true])/\Below V.heap.size V w')):=Hd (fun V hV=>by
                 refine (HME.o X.name V (BWW.o.trans (hV.mono BWW.o.size))).mono ?_;rintro e w' ⟨hb,hq⟩;rw [hrf] at hq;rcases hq with ⟨h,_⟩|⟨x',m',v',h,rfl,hmv⟩
                 ·cases h
                 ·obtain ⟨rfl,rfl⟩:=Prod.mk.inj (Yae h);obtain ⟨_,_,_,rfl,⟨po2,pc2,rfl⟩,⟨co2,cc2,rfl⟩,⟨ko2,kc2,rfl⟩⟩:=Zam hmv;exact ⟨po2,pc2,co2,cc2,ko2,kc2,rfl,hb⟩)
                generalize nmE (newT cs) rx=rnx at HMC;obtain ⟨g1,g2⟩:=HSS.o wr hB;generalize hxe:X.name=xn at HSS HMC g2 HAB;have hxn:=Hd hxe;clear hxe;clear hX hvx hclx hrf;have hba:Below wr.heap.size wr (wr.alloc (.cells #[.string ⟨#[]⟩,.slice none 0 0,.string ⟨#[]⟩,.bool false,.int .i64 0,.slice none 0 0,.slice none 0 0] 44)).drew:=Zab (Zaa (Yab _ _) _);have hz0:=(Box.new wr #[.string ⟨#[]⟩,.slice none 0 0,.string ⟨#[]⟩,.bool false,.int .i64 0,.slice none 0 0,.slice none 0 0] 44).below (Zab (Yab _ _));have HMA:Hid (Calls Tryz.prog 122 #[.slice (some ⟨b1,o1,none⟩) n sc,.string (S en.cls.name),.string (S xn)] (wr.alloc (.cells #[.string ⟨#[]⟩,.slice none 0 0,.string ⟨#[]⟩,.bool false,.int .i64 0,.slice none 0 0,.slice none 0 0] 44)).drew (fun e w'=>∃ po2 pc2 co2 cc2 ko2 kc2,e=.returned (.tuple #[.string (S rnx),.agg #[.string (S rm.name),.slice po2 rm.params.length pc2,.string (S rm.res),.bool rm.abs,.int .i64 rm.loc,.slice co2 rm.code.length cc2,.slice ko2 rm.cats.length kc2],.bool true])/\Box w' wr.heap.size #[.string ⟨#[]⟩,.slice none 0 0,.string ⟨#[]⟩,.bool false,.int .i64 0,.slice none 0 0,.slice none 0 0] 44/\Below wr.heap.size wr w')):=Hd (by
                 refine (HMC.o _ hba).mono ?_;rintro e w' ⟨po2,pc2,co2,cc2,ko2,kc2,h1,h2⟩;exact ⟨po2,pc2,co2,cc2,ko2,kc2,h1,hz0.below h2,hba.trans (h2.mono hba.size)⟩)
                clear hba hz0
                go_upto_region 41 with fail
                clear c4
                go_cut [17,18,19] (fun s17 s18 s19 wx=>∃ E:Nat,s17=.string (S rnx)/\s18=.pointer (some ⟨E,0,none⟩)/\s19=.bool true/\wx.cell? ⟨E,3,none⟩=some (.bool rm.abs)/\Below wr.heap.size wr wx)
                case first=>
                 first
                 | (go_region_held3 (fun V=>V.cell? ⟨bx,0,none⟩=some (.string (S en.cls.name))/\V.cell? ⟨b2,o2+k8 * 7,none⟩=some (.string (S xn))) ((refine HSS.o _ ?_;(repeat (first|(with_reducible exact hB)|(with_reducible assumption)|(with_reducible (apply Zac;rotate_left;assumption))|(with_reducible refine Zab ?_)|(with_reducible refine Zaa ?_ _)|((with_reducible refine Below.setCell ?_ ?_ _);rotate_left;(focus ((first|exact Yac _|omega|(simp;omega));done)))))))
                   (first
                    | ((go_at_call 122;(with_reducible refine HMA.o.mono ?_);rintro e wp ⟨po2,pc2,co2,cc2,ko2,kc2,rfl,hbxa,bpa⟩;obtain ⟨f0,f1,f2,f3,f4,f5,f6⟩:=Zhl hbxa;obtain ⟨k0,k1,k2,k3,k4,k5,k6⟩:=ZdQ hbxa))
                    | ((go_at_call 122;(with_reducible refine (HMC.o _ ?_).mono ?_);(focus ((repeat (first|(with_reducible exact hB)|(with_reducible assumption)|(with_reducible (apply Zac;rotate_left;assumption))|(with_reducible refine Zab ?_)|(with_reducible refine Zaa ?_ _)));done));rintro e wp ⟨po2,pc2,co2,cc2,ko2,kc2,rfl,bpb⟩;have hqs:=bpb.size))))
                 | fail
                 all_goals
                  go_wp2_with fail
                  go_meet
                  first
                  | (revert hbxa;intro hbxa;exact ⟨wr.heap.size,rfl,rfl,rfl,((set7 hbxa (.string (S rm.name)) (.slice po2 rm.params.length pc2) (.string (S rm.res)) (.bool rm.abs) (.int .i64 rm.loc) (.slice co2 rm.code.length cc2) (.slice ko2 rm.cats.length kc2)).1.below (by first|exact Yab _ _|exact Zab (Yab _ _))).cell 3 rfl,by first|exact bpa.trans ((set7 hbxa (.string (S rm.name)) (.slice po2 rm.params.length pc2) (.string (S rm.res)) (.bool rm.abs) (.int .i64 rm.loc) (.slice co2 rm.code.length cc2) (.slice ko2 rm.cats.length kc2)).2.below bpa.size (fun k (q:k=wr.heap.size)=>by omega))|exact bpa.trans ((set7 hbxa (.string (S rm.name)) (.slice po2 rm.params.length pc2) (.string (S rm.res)) (.bool rm.abs) (.int .i64 rm.loc) (.slice co2 rm.code.length cc2) (.slice ko2 rm.cats.length kc2)).2.drew.below bpa.size (fun k (q:k=wr.heap.size)=>by omega))⟩)
                  | exact ⟨_,rfl,rfl,rfl,((Box.new wp #[.string (S rm.name),.slice po2 rm.params.length pc2,.string (S rm.res),.bool rm.abs,.int .i64 rm.loc,.slice co2 rm.code.length cc2,.slice ko2 rm.cats.length kc2] 44).below (by first|exact Yab _ _|exact Zab (Yab _ _))).cell 3 rfl,by first|exact Zaa (by repeat (first|(with_reducible exact hB)|(with_reducible assumption)|(with_reducible (apply Zac;rotate_left;assumption))|(with_reducible refine Zab ?_)|(with_reducible refine Zaa ?_ _))) _|exact Zab (Zaa (by repeat (first|(with_reducible exact hB)|(with_reducible assumption)|(with_reducible (apply Zac;rotate_left;assumption))|(with_reducible refine Zab ?_)|(with_reducible refine Zaa ?_ _))) _)⟩
                case rest=>
                 obtain ⟨E,rfl,rfl,rfl,hE,hbE⟩:=hcut;have BE1:=Hd (BW.o.trans (hbE.mono BW.o.size));have BEW:=Hd (BWW.o.trans (hbE.mono BWW.o.size));clear hbE HMA HMC HSS g1 g2 hB;cases hra:rm.abs with
                 | true=>
                  rw [hra] at hE;have HZ:Hid (z=67):=Hd (HD6.o ⟨HABF.o,X,Yaf HXX.o,by rw [hxn.o,HAB.o];exact hra⟩);clear hra HAB;go_wp2;go_ret;exact ⟨by rw [HZ.o];rfl,BEW.o⟩
                 | false=>
                  rw [hra] at hE;have HN2:Hid (∀ a X,a<k8+1->al[a]? = some X->absM (newT cs) i X.name=false):=Hd (fun a X' ha hX'=>by
                   rcases YaB a k8 with h|h
                   ·exact HNO.o a X' h hX'
                   ·rw [show a=k8 by omega,HXX.o] at hX';rw [←Yae hX',hxn.o,HAB.o];exact hra)
                  clear hra HAB;go_wp2
                  go_roundw
                  case rel=>exact ⟨k8+1,by omega,by go_num,HN2.o,BE1.o⟩
                  case measure=>simp [intOf];omega
               ·obtain rfl:k8=x:=by omega
                have HZ:Hid (z=0):=Hd (HD7.o (.inr (fun m hm=>by
                 obtain ⟨a,ha⟩:=Ya0.1 hm;exact HNO.o a m (by rw [HQ.o];exact (Yag.1 ha).1) ha)))
                go_wp2;go_ret;exact ⟨by rw [HZ.o];rfl,BWW.o⟩
