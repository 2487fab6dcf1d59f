/- laws -/
import Derived.Test.YtggcdinoflchjaaGreatDoorK73
import Derived.Test.YtggcdinoflchjaaGreatDoorK79
import Derived.Test.YtggcdinoflchjaaGreatDoorK78
set_option maxRecDepth 100000
set_option maxHeartbeats 16000000
namespace Go.Proofs.YtggcdinoflchjaaGreatDoor
open Go.RowKit
theorem Wise.kind_nil {es:List Ent} (W:Wise es):ZaK es []=false:=by
 unfold ZaK Zbs;rw [ZeE (Zcz (by decide +kernel)),W.not_class (by decide)];decide
theorem Shp.Few.fit {s:Shp} (h:s.Few):s.Fit:=⟨Yan h.n1 (by decide),Yan h.n2 (by decide)⟩
theorem Zit (l:List (List UInt8)):samB ZbB l l=true:=by
 unfold samB;rw [Yar rfl,Yax];induction l with
 | nil=>rfl
 | cons x r ih=>rw [List.zip_cons_cons,YbY,ih];simp [ZbB]
theorem Shp.eq_refl (s:Shp):s.eqB s=true:=by
 unfold Shp.eqB;rw [Zit,Zit];simp
theorem Wise.nil_sub {es:List Ent} (W:Wise es) (a:List UInt8):subE es a []=false:=by
 cases h:subE es a [] with
 | false=>rfl
 | true=>have:=(W.sub_kind h).2;rw [W.kind_nil] at this;cases this
theorem Wise.join_self {es:List Ent} (W:Wise es) {a:List UInt8} (h:ZaK es a=true):Za7 es a a=a:=by
 unfold Za7;rw [YaA (W.sub_self h)]
theorem Wise.join_nil {es:List Ent} (W:Wise es):Za7 es [] []=[]:=by
 unfold Za7;have hd:derE es []=none:=by
  unfold derE;rw [Yaq (by rw [Zcz (show Zaj []=false by decide +kernel)];omega)];exact W.not_class (by decide)
 rw [W.nil_sub,hd,ZaC];rfl
theorem ZeM {es:List Ent} (W:Wise es):∀ (l:List (List UInt8)),(∀ x ∈ l,x=[]\/ZaK es x=true)->Zam es l l=l
 | [],_=>rfl
 | x :: l,h=>by
  have ih:=ZeM W l (fun y hy=>h y (Yas _ hy));unfold Zam at ih ⊢;rw [YbQ,ih];rcases h x Yak with e|e
  ·rw [e,W.join_nil]
  ·rw [W.join_self e]
theorem ZkT {es:List Ent} (W:Wise es) (s:Shp) (hs:s.seen=true) (h1:∀ x ∈ s.stk,ZaK es x=true) (h2:∀ x ∈ s.loc,x=[]\/ZaK es x=true):ZaR es s s=(s,0):=by
 unfold ZaR;simp only [hs,Bool.true_eq_false,if_false];rw [ZeM W s.stk (fun x hx=>.inr (h1 x hx)),ZeM W s.loc h2];have hn:Zbh s.stk=false:=by
  unfold Zbh;rw [YaU];intro x hx he;have:=h1 x hx;rw [eq_of_beq he,W.kind_nil] at this;cases this
 rw [hn];obtain ⟨a,b,c⟩:=s;cases hs
 simp
theorem ZkS {es:List Ent} (s:Shp):ZaR es Shp.zero s=(s,0):=by
 unfold ZaR Shp.zero;simp
theorem Zjd {es:List Ent} (s:Shp) (hs:s.seen=true):ZaR es s Shp.zero=(s,0):=by
 unfold ZaR Shp.zero;rw [hs];rfl
theorem ShpR.cut {A:Nat->Prop} {w:World} {s:Shp} {v:Value} {n m:Nat} {b:Bool} (h:ShpR A w s v) (hn:n=s.stk.length) (hm:m=s.loc.length) (hb:b=s.seen):∃ so sc lo lc,v=.agg #[.bool b,.slice so n sc,.slice lo m lc]:=by
 subst hn hm hb;exact h.shape
theorem Shp.zero_small:Shp.zero.Small:=⟨by decide,by decide,fun x hx=>(by cases hx),fun x hx=>(by cases hx)⟩
theorem Shp.zero_r (w:World):ShpR Anyw w Shp.zero (.agg #[.bool false,.slice none 0 0,.slice none 0 0]):=⟨_,_,rfl,Src.nil,Src.nil⟩
theorem Zir (s:Shp) (v:Value) (w:World) (hs:ShpR Anyw w s v) (hf:s.Fit) (hT:HT6 w) :
  Calls Tryz.prog 9 #[v] w (Said true w):=by
 have HTB:Hid (∀ W,Below w.heap.size w W->Calls Tryz.prog 10 #[] W (Zdv W)):=Hd (fun W hW=>ZdH W (hT.ft.keep hW) (hT.ct.keep hW));have HA:Hid (∀ W,Below w.heap.size w W->Calls Tryz.prog 11 #[] W (Said true W)):=Hd (fun W hW=>ZeJ W (hT.ft.keep hW) (hT.ct.keep hW));have HF:Hid (∀ W,Below w.heap.size w W->Calls Tryz.prog 12 #[v] W (Zeg s W)):=Hd (fun W hW=>Zeo s v W (ShpR.below hs hW) hf);have HS:=Hd hs;obtain ⟨so,sc,lo,lc,rfl⟩:=hs.shape;obtain ⟨n,hn⟩:∃ n,n=s.stk.length:=⟨_,rfl⟩
 obtain ⟨m,hm⟩:∃ m,m=s.loc.length:=⟨_,rfl⟩
 obtain ⟨sn,hsn⟩:∃ sn,sn=s.seen:=⟨_,rfl⟩
 rw [←hn,←hm,←hsn] at HF HS ⊢;have HN:=Hd hn;have HM:=Hd hm;have HSN:=Hd hsn;unfold Said at HA;unfold Zdv at HTB;unfold Said;have hb0:=Zaa (Yab w.heap.size w) (.cells #[.bool sn,.slice so n sc,.slice lo m lc] 24);have HX:=Hd (Box.new w #[.bool sn,.slice so n sc,.slice lo m lc] 24);have HB0:=Hd hb0;clear hs hT hf hn hm hsn hb0;go_enter Tryz.func9,Tryz.ntmps9
 go_wp2_with fail
 with_reducible refine (HTB.o _ HB0.o).mono ?_
 rintro e w1 ⟨ok,T,mb,B,A,tv,rfl,ht,_,hb1⟩;have HT:=Hd ht;have OK:=Hd ok;have HB1:=Hd (HB0.o.trans (hb1.mono HB0.o.size));have HX1:=Hd (HX.o.below hb1);clear ht ok hb1 HX
 go_wp2_with fail
 with_reducible refine (HA.o _ HB1.o).mono ?_
 rintro e w2 ⟨rfl,hb2⟩;have x0:=(HX1.o.below hb2).cell 0 rfl;have x1:=(HX1.o.below hb2).cell 1 rfl;have x2:=(HX1.o.below hb2).cell 2 rfl;have HB2:=Hd (HB1.o.trans (hb2.mono HB1.o.size));have HX2:=Hd (HX1.o.below hb2);have HT2:=Hd hb2;clear hb2 HX1
 go_wp2_with fail
 with_reducible refine (HF.o _ HB2.o).mono ?_
 unfold Zeg;rintro e w3 ⟨b,rfl,hfew,hb3⟩;have y0:=(HX2.o.below hb3).cell 0 rfl;have y1:=(HX2.o.below hb3).cell 1 rfl;have y2:=(HX2.o.below hb3).cell 2 rfl;have HB3:=Hd (HB2.o.trans (hb3.mono HB2.o.size));have HX3:=Hd (HX2.o.below hb3);have HT3:=Hd (HT2.o.trans (hb3.mono HT2.o.size));have HFew:=Hd hfew;clear hb3 hfew HX2 HT2 x0 x1 x2;cases b
 ·go_wp2_with fail
  with_reducible refine (HA.o _ HB3.o).mono ?_
  rintro e w4 ⟨rfl,hb4⟩;have HB4:=Hd (HB3.o.trans (hb4.mono HB3.o.size));clear hb4;go_wp2;go_ret;exact ⟨rfl,HB4.o⟩
 cases sn
 ·go_wp2_with fail
  with_reducible refine (HA.o _ HB3.o).mono ?_
  rintro e w4 ⟨rfl,hb4⟩;have HB4:=Hd (HB3.o.trans (hb4.mono HB3.o.size));clear hb4;go_wp2;go_ret;exact ⟨rfl,HB4.o⟩
 have FW:=Hd (HFew.o rfl);have HBW:Hid (∀ W,Below w3.heap.size w3 W->Below w.heap.size w W):=Hd (fun W h=>HB3.o.trans (h.mono HB3.o.size));have HKD:Hid (∀ W l,Below w3.heap.size w3 W->l.length<=100->Calls Tryz.prog 24 #[.pointer (some ⟨T,0,none⟩),.string (S l)] W (Said (ZaK (newT cls7) l) W)):=Hd (fun W l h hl=>Zfx HT.o l W (HT3.o.trans (h.mono HT3.o.size)) (Yan hl (by decide)));obtain ⟨p1,p2,hp,h1,h2⟩:=HS.o
 injection hp with hp
 injection hp with hp
 injection hp with hq hp
 clear hq
 injection hp with hp1 hp
 injection hp with hp2 hq
 clear hq;subst hp1 hp2;have HE1:=Hd (Src.elem h1);have HE2:=Hd (Src.elem h2);clear h1 h2;have hn40:n<=40:=by rw [HN.o];exact FW.o.n1
 have hm40:m<=40:=by rw [HM.o];exact FW.o.n2
 go_wp2_with fail
 go_loopw [5] (fun v5 wr=>∃ k:Nat,k<=n/\v5=.int .i64 k/\(∀ x ∈ s.stk.take k,ZaK (newT cls7) x=true)/\Below w3.heap.size w3 wr) (fun v5 _=>n - (intOf v5).toNat)
 case atStart=>exact ⟨0,Yai _,rfl,(fun x hx=>by simp at hx),Yab _ _⟩
 case round=>
  obtain ⟨k,hk,rfl,hall,hbw⟩:=hrel;have HAll:=Hd hall;have HB:=Hd hbw;have c:=(HX3.o.below hbw).cell 1 rfl;clear hall hbw y0 y1 y2;by_cases hlt:k<n
  ·obtain ⟨x,hx⟩:∃ x,s.stk[k]? = some x:=⟨_,Yaa (by rw [←HN.o];exact hlt)⟩
   obtain ⟨b1,o1,u1,rfl,hu1,_,hc1⟩:=HE1.o k x hx;obtain rfl:=hu1;have d1:wr.cell? ⟨b1,o1+k,none⟩=some (.string (S x)):=(Yaf (S:=fun _=>False) (HBW.o _ HB.o)).cell (a:=⟨b1,o1+k,none⟩) (by have p:=hc1 0 _ rfl;rw [YaC] at p;exact p) id;have hk0:(0:Int)<=(k:Int):=by omega
   have hkn:(k:Int)<(n:Int):=by omega
   have HT1:Hid (s.stk.take (k+1)=s.stk.take k++[x]):=Hd (by rw [YaI,hx];rfl);have HKx:=Hd (HKD.o wr x HB.o (FW.o.k1 x (Yad hx)));clear hc1 hx;unfold Said at HKx;generalize hKE:ZaK (newT cls7) x=kx at HKx;have HKE:=Hd hKE;clear hKE
   go_wp2_with fail
   with_reducible refine HKx.o.mono ?_
   rintro e wk ⟨rfl,hbk⟩;have HBk:=Hd (HB.o.trans (hbk.mono HB.o.size));clear hbk HKx c d1;cases kx
   ·have HBE:=Hd (HBW.o _ HBk.o);go_wp2;go_ret;exact ⟨rfl,HBE.o⟩
   ·go_wp2
    go_roundw
    case rel=>exact ⟨k+1,by omega,by go_num,(fun y hy=>by rw [HT1.o,Yap,Yav] at hy;rcases hy with hy|hy;exact HAll.o y hy;rw [hy];exact HKE.o),HBk.o⟩
    case measure=>simp [intOf];omega
  ·obtain rfl:n=k:=by omega
   have HALL1:Hid (∀ x ∈ s.stk,ZaK (newT cls7) x=true):=Hd (by have h:=HAll.o;rw [HN.o,YaF] at h;exact h);obtain ⟨w5,hw5⟩:∃ w5,w5=wr:=⟨_,rfl⟩
   have HB5:=HB;have c1:=(HX3.o.below HB.o).cell 1 rfl;have c2:=(HX3.o.below HB.o).cell 2 rfl;clear HAll c HB;rw [←hw5] at HB5 c1 c2 ⊢;clear hw5
   go_wp2_with fail
   have HBW5:Hid (∀ W,Below w5.heap.size w5 W->Below w3.heap.size w3 W):=Hd (fun W h=>HB5.o.trans (h.mono HB5.o.size))
   go_loopw [6] (fun v6 wr=>∃ k:Nat,k<=m/\v6=.int .i64 k/\(∀ x ∈ s.loc.take k,x=[]\/ZaK (newT cls7) x=true)/\Below w5.heap.size w5 wr) (fun v6 _=>m - (intOf v6).toNat)
   case atStart=>exact ⟨0,Yai _,rfl,(fun x hx=>by simp at hx),Yab _ _⟩
   case round=>
    obtain ⟨k,hk,rfl,hall,hbw⟩:=hrel;have HAll:=Hd hall;have HB:=Hd hbw;have c:=(HX3.o.below (HBW5.o _ hbw)).cell 2 rfl;clear hall hbw c1 c2;by_cases hlt:k<m
    ·obtain ⟨x,hx⟩:∃ x,s.loc[k]? = some x:=⟨_,Yaa (by rw [←HM.o];exact hlt)⟩
     obtain ⟨b1,o1,u1,rfl,hu1,_,hc1⟩:=HE2.o k x hx;obtain rfl:=hu1;have d1:wr.cell? ⟨b1,o1+k,none⟩=some (.string (S x)):=(Yaf (S:=fun _=>False) (HBW.o _ (HBW5.o _ HB.o))).cell (a:=⟨b1,o1+k,none⟩) (by have p:=hc1 0 _ rfl;rw [YaC] at p;exact p) id;have hk0:(0:Int)<=(k:Int):=by omega
     have hkn:(k:Int)<(m:Int):=by omega
     have HT1:Hid (s.loc.take (k+1)=s.loc.take k++[x]):=Hd (by rw [YaI,hx];rfl);have HKx:=Hd (HKD.o wr x (HBW5.o _ HB.o) (FW.o.k2 x (Yad hx)));clear hc1 hx;unfold Said at HKx;by_cases hx0:x=[]
     ·have HX0:=Hd hx0;have hse:S x=⟨#[]⟩:=by rw [hx0];rfl
      rw [hse] at d1;clear hx0 hse HKx
      go_wp2_with fail
      go_roundw
      case rel=>exact ⟨k+1,by omega,by go_num,(fun y hy=>by rw [HT1.o,Yap,Yav] at hy;rcases hy with hy|hy;exact HAll.o y hy;rw [hy];exact .inl HX0.o),HB.o⟩
      case measure=>simp [intOf];omega
     ·generalize hKE:ZaK (newT cls7) x=kx at HKx;have HKE:=Hd hKE;have hse:x.isEmpty=false:=by
       cases x with
       | nil=>exact absurd rfl hx0
       | cons _ _=>rfl
      have e0:=Zae x;clear hKE hx0
      go_wp2_with fail
      with_reducible refine HKx.o.mono ?_
      rintro e wk ⟨rfl,hbk⟩;have HBk:=Hd (HB.o.trans (hbk.mono HB.o.size));clear hbk HKx c d1;cases kx
      ·have HBE:=Hd (HBW.o _ (HBW5.o _ HBk.o));go_wp2;go_ret;exact ⟨rfl,HBE.o⟩
      ·go_wp2
       go_roundw
       case rel=>exact ⟨k+1,by omega,by go_num,(fun y hy=>by rw [HT1.o,Yap,Yav] at hy;rcases hy with hy|hy;exact HAll.o y hy;rw [hy];exact .inr HKE.o),HBk.o⟩
       case measure=>simp [intOf];omega
    ·obtain rfl:m=k:=by omega
     have HALL2:Hid (∀ x ∈ s.loc,x=[]\/ZaK (newT cls7) x=true):=Hd (by have h:=HAll.o;rw [HM.o,YaF] at h;exact h);have HB6:=Hd (HBW5.o _ HB.o);obtain ⟨w6,hw6⟩:∃ w6,w6=wr:=⟨_,rfl⟩
     have c0:=(HX3.o.below HB6.o).cell 0 rfl;have c1:=(HX3.o.below HB6.o).cell 1 rfl;have c2:=(HX3.o.below HB6.o).cell 2 rfl;clear HAll c HB;rw [←hw6] at HB6 c0 c1 c2 ⊢;clear hw6
     go_wp2_with fail
     have HTW:Hid (∀ W,Below w6.heap.size w6 W->Below w1.heap.size w1 W):=Hd (fun W h=>HT3.o.trans ((HB6.o.trans (h.mono HB6.o.size)).mono HT3.o.size));have HWW:Hid (∀ W,Below w6.heap.size w6 W->Below w.heap.size w W):=Hd (fun W h=>HBW.o _ (HB6.o.trans (h.mono HB6.o.size)));have HSW:Hid (∀ W,Below w6.heap.size w6 W->ShpR Anyw W s (.agg #[.bool true,.slice so n sc,.slice lo m lc])):=Hd (fun W h=>ShpR.below HS.o (HWW.o W h));have HX6:=Hd (HX3.o.below HB6.o);have HM1:Hid (∀ W,Below w6.heap.size w6 W->Calls Tryz.prog 13 #[.pointer (some ⟨T,0,none⟩),.agg #[.bool true,.slice so n sc,.slice lo m lc],.agg #[.bool true,.slice so n sc,.slice lo m lc]] W (DoG (s,0) W)):=Hd (fun W h=>by
      have hm:=Zcm HT.o OK.o.shape s s _ _ W (HTW.o W h) (HSW.o W h) (HSW.o W h) FW.o.small FW.o.small;rw [ZkT OK.o.wise s HSN.o.symm HALL1.o HALL2.o] at hm;exact hm)
     have HM2:Hid (∀ W,Below w6.heap.size w6 W->Calls Tryz.prog 13 #[.pointer (some ⟨T,0,none⟩),.agg #[.bool false,.slice none 0 0,.slice none 0 0],.agg #[.bool true,.slice so n sc,.slice lo m lc]] W (DoG (s,0) W)):=Hd (fun W h=>by
      have hm:=Zcm HT.o OK.o.shape Shp.zero s _ _ W (HTW.o W h) (Shp.zero_r W) (HSW.o W h) Shp.zero_small FW.o.small;rw [ZkS s] at hm;exact hm)
     have HM3:Hid (∀ W,Below w6.heap.size w6 W->Calls Tryz.prog 13 #[.pointer (some ⟨T,0,none⟩),.agg #[.bool true,.slice so n sc,.slice lo m lc],.agg #[.bool false,.slice none 0 0,.slice none 0 0]] W (DoG (s,0) W)):=Hd (fun W h=>by
      have hm:=Zcm HT.o OK.o.shape s Shp.zero _ _ W (HTW.o W h) (HSW.o W h) (Shp.zero_r W) FW.o.small Shp.zero_small;rw [Zjd s HSN.o.symm] at hm;exact hm)
     have HRS:Hid (∀ W u v,ShpR Anyw W s u->ShpR Anyw W s v->Calls Tryz.prog 15 #[u,v] W (Said true W)):=Hd (fun W u v hu hv=>by
      have h:=Zdu s s u v W hu hv FW.o.fit FW.o.fit;rw [Shp.eq_refl] at h;exact h)
     have HSS:Hid (∀ W u v,ShpR Anyw W s u->ShpR Anyw W s v->Calls Tryz.prog 16 #[u,v] W (Said true W)):=Hd (fun W u v hu hv=>by
      have h:=ZfZ s s u v W hu hv FW.o.fit FW.o.fit;rw [Shp.eq_refl] at h;exact h)
     unfold DoG at HM1 HM2 HM3;unfold Said at HRS HSS;clear HX3 HALL1 HALL2 HE1 HE2 HKD HF HTB HA hn40 hm40 HB5 HBW5;with_reducible refine (HM1.o w6 (Yab _ _)).mono ?_
     rintro e w7 ⟨va,rfl,hra,hb7⟩;obtain ⟨soa,sca,loa,lca,rfl⟩:=ShpR.cut hra HN.o HM.o HSN.o;have hq:=Zaa (Yab w7.heap.size w7) (.cells #[.bool true,.slice soa n sca,.slice loa m lca] 24);have RA:=Hd (ShpR.below hra hq);have XA:=Hd (Box.new w7 #[.bool true,.slice soa n sca,.slice loa m lca] 24);have B7:=Hd (hb7.trans (hq.mono hb7.size));clear hra hb7 hq c0 c1 c2;obtain ⟨d0,d1,d2⟩:_/\_/\_:=⟨(HX6.o.below B7.o).cell 0 rfl,(HX6.o.below B7.o).cell 1 rfl,(HX6.o.below B7.o).cell 2 rfl⟩
     go_wp2_with fail
     with_reducible refine (HM2.o _ B7.o).mono ?_
     rintro e w8 ⟨vb,rfl,hrb,hb8⟩;obtain ⟨sob,scb,lob,lcb,rfl⟩:=ShpR.cut hrb HN.o HM.o HSN.o;have hq:=Zaa (Yab w8.heap.size w8) (.cells #[.bool true,.slice sob n scb,.slice lob m lcb] 24);have hbq:=hb8.trans (hq.mono hb8.size);have RA8:=Hd (ShpR.below RA.o hbq);have XA8:=Hd (XA.o.below hbq);have RB:=Hd (ShpR.below hrb hq);have XB:=Hd (Box.new w8 #[.bool true,.slice sob n scb,.slice lob m lcb] 24);have B8:=Hd (B7.o.trans (hbq.mono B7.o.size));clear hrb hb8 hq hbq RA XA B7 d0 d1 d2;obtain ⟨d0,d1,d2⟩:_/\_/\_:=⟨(HX6.o.below B8.o).cell 0 rfl,(HX6.o.below B8.o).cell 1 rfl,(HX6.o.below B8.o).cell 2 rfl⟩
     go_wp2_with fail
     with_reducible refine (HM3.o _ B8.o).mono ?_
     rintro e w9 ⟨vc,rfl,hrc,hb9⟩;obtain ⟨soc,scc,loc,lcc,rfl⟩:=ShpR.cut hrc HN.o HM.o HSN.o;have hq:=Zaa (Yab w9.heap.size w9) (.cells #[.bool true,.slice soc n scc,.slice loc m lcc] 24);have hbq:=hb9.trans (hq.mono hb9.size);have RA9:=Hd (ShpR.below RA8.o hbq);have XA9:=Hd (XA8.o.below hbq);have RB9:=Hd (ShpR.below RB.o hbq);have XB9:=Hd (XB.o.below hbq);have RC9:=Hd (ShpR.below hrc hq);have XC9:=Hd (Box.new w9 #[.bool true,.slice soc n scc,.slice loc m lcc] 24);have B9:=Hd (B8.o.trans (hbq.mono B8.o.size));clear hrc hb9 hq hbq RA8 XA8 RB XB B8 d0 d1 d2 HM1 HM2 HM3;have X9:=Hd (HX6.o.below B9.o);have HS9:=Hd (HSW.o _ B9.o);have a0:=XA9.o.cell 0 rfl;have d0:=X9.o.cell 0 rfl;have a1:=XA9.o.cell 1 rfl;have d1:=X9.o.cell 1 rfl;have a2:=XA9.o.cell 2 rfl;have d2:=X9.o.cell 2 rfl
     go_wp2_with fail
     clear a0 a1 a2 d0 d1 d2;obtain ⟨W0,hW0⟩:∃ W0,W0=w9.alloc (.cells #[.bool true,.slice soc n scc,.slice loc m lcc] 24):=⟨_,rfl⟩
     rw [←hW0] at RA9 XA9 RB9 XB9 RC9 XC9 B9 X9 HS9 ⊢;clear hW0;have BA:=fun W (h:Below W0.heap.size W0 W)=>XA9.o.below h
     have BB:=fun W (h:Below W0.heap.size W0 W)=>XB9.o.below h
     have BC:=fun W (h:Below W0.heap.size W0 W)=>XC9.o.below h
     have BS:=fun W (h:Below W0.heap.size W0 W)=>X9.o.below h
     have PA:=fun W (h:Below W0.heap.size W0 W)=>ShpR.below RA9.o h
     have PB:=fun W (h:Below W0.heap.size W0 W)=>ShpR.below RB9.o h
     have PC:=fun W (h:Below W0.heap.size W0 W)=>ShpR.below RC9.o h
     have PS:=fun W (h:Below W0.heap.size W0 W)=>ShpR.below HS9.o h
     have BA:=Hd BA;have BB:=Hd BB;have BC:=Hd BC;have BS:=Hd BS;have PA:=Hd PA;have PB:=Hd PB;have PC:=Hd PC;have PS:=Hd PS;have HEND:Hid (∀ W,Below W0.heap.size W0 W->Below w.heap.size w W):=Hd (fun W h=>HWW.o W (B9.o.trans (h.mono B9.o.size)));have Q0:Hid (Below W0.heap.size W0 W0):=Hd (Yab _ _);clear RA9 XA9 RB9 XB9 RC9 XC9 B9 X9 HS9 HX6 HTW HWW HSW HB6 HBW HB3 HT3 FW OK HT;with_reducible refine (HRS.o W0 _ _ (PA.o W0 Q0.o) (PS.o W0 Q0.o)).mono ?_
     rintro e wt1 ⟨rfl,hbt⟩;have Q1:=Hd (Q0.o.trans (hbt.mono Q0.o.size));clear hbt Q0;have a0:=(BB.o wt1 Q1.o).cell 0 rfl;have a1:=(BB.o wt1 Q1.o).cell 1 rfl;have a2:=(BB.o wt1 Q1.o).cell 2 rfl;have d0:=(BS.o wt1 Q1.o).cell 0 rfl;have d1:=(BS.o wt1 Q1.o).cell 1 rfl;have d2:=(BS.o wt1 Q1.o).cell 2 rfl
     go_wp2_with fail
     with_reducible refine (HRS.o wt1 _ _ (PB.o wt1 Q1.o) (PS.o wt1 Q1.o)).mono ?_
     rintro e wt2 ⟨rfl,hbt⟩;have Q2:=Hd (Q1.o.trans (hbt.mono Q1.o.size));clear hbt a0 a1 a2 d0 d1 d2 Q1;have a0:=(BC.o wt2 Q2.o).cell 0 rfl;have a1:=(BC.o wt2 Q2.o).cell 1 rfl;have a2:=(BC.o wt2 Q2.o).cell 2 rfl;have d0:=(BS.o wt2 Q2.o).cell 0 rfl;have d1:=(BS.o wt2 Q2.o).cell 1 rfl;have d2:=(BS.o wt2 Q2.o).cell 2 rfl
     go_wp2_with fail
     with_reducible refine (HRS.o wt2 _ _ (PC.o wt2 Q2.o) (PS.o wt2 Q2.o)).mono ?_
     rintro e wt3 ⟨rfl,hbt⟩;have Q3:=Hd (Q2.o.trans (hbt.mono Q2.o.size));clear hbt a0 a1 a2 d0 d1 d2 Q2;have a0:=(BA.o wt3 Q3.o).cell 0 rfl;have a1:=(BA.o wt3 Q3.o).cell 1 rfl;have a2:=(BA.o wt3 Q3.o).cell 2 rfl;have d0:=(BS.o wt3 Q3.o).cell 0 rfl;have d1:=(BS.o wt3 Q3.o).cell 1 rfl;have d2:=(BS.o wt3 Q3.o).cell 2 rfl
     go_wp2_with fail
     with_reducible refine (HSS.o wt3 _ _ (PA.o wt3 Q3.o) (PS.o wt3 Q3.o)).mono ?_
     rintro e wt4 ⟨rfl,hbt⟩;have Q4:=Hd (Q3.o.trans (hbt.mono Q3.o.size));clear hbt a0 a1 a2 d0 d1 d2 Q3;have HBE:=Hd (HEND.o _ Q4.o);go_wp2;go_ret;exact ⟨rfl,HBE.o⟩
theorem ZpY (v:Value) (s:Shp) (w:World) (hT:HT6 w) (hs:ShpR Anyw w s v) (hr:s.real) :
  Calls Tryz.prog 9 #[v] w (Said true w):=
 Zir s v w hs hr.2.2 hT
