/- laws -/
import Derived.Test.YtggcdinoflchjaaGreatDoorK64
set_option maxRecDepth 100000
set_option maxHeartbeats 16000000
namespace Go.Proofs.YtggcdinoflchjaaGreatDoor
open Go.RowKit
theorem Ze4 {α:Type} {l:List α} {p:α->Bool} {k:Nat} (h:l.findIdx? p=some k):∃ m,l[k]? = some m/\l.find? p=some m:=by
 obtain ⟨h1,h2,h3⟩:=YaV.1 h;refine ⟨l[k],Yaa h1,List.find?_eq_some_iff_getElem.2 ⟨h2,k,h1,rfl,fun j hj=>?_⟩⟩;have:=h3 j hj
 simpa using this
theorem ZeC {α:Type} {l:List α} {p:α->Bool} (h:l.findIdx? p=none):l.find? p=none:=by
 rw [YbW] at h;rw [Ycj];intro x hx;rw [h x hx];decide
def ZgW (s0:Nat) (es:List Ent) (r:Option (Nat × Mth)) (w:World) (e:Ending) (w':World):Prop:=Below w.heap.size w w'/\
 ((r=none/\e=.returned (.tuple #[.string ⟨#[]⟩,mthZ,.bool false]))\/∃ x m v,r=some (x,m)/\e=.returned (.tuple #[.string (S (nmE es x)),v,.bool true])/\MthR (fun k=>k<s0) w' m v)
theorem Zle (s0:Nat) (cs:List Cls) (hL:Lined cs) (sv:Value) (n:List UInt8) :
  ∀ (f:Nat) (i:Nat) (en:Ent) (A':Nat->Prop) (v:Value) (w:World),(newT cs)[i]? = some en->Deep (newT cs) f en.lk->s0<=w.heap.size->Src 8 ClsR (fun k=>k<s0) w sv (allR cs)->ClsR A' w en.cls v->
   Calls Tryz.prog 191 #[sv,v,.string (S n)] w (ZgW s0 (newT cs) (ZbP (newT cs) (ownG (newT cs) n) f en.lk) w):=by
 intro f;induction f with
 | zero=>
  intro i en A' v w hen hdp hs0 hs hv;have hlk:en.lk=[]:=hdp;have hl0:en.cls.like.length=0:=by
   have h:=Ya5 List.length (hL.like hen);rw [Yaz,Yaz,hlk] at h;exact h
  obtain ⟨lv,fv,mv,rfl,hl,hf,hm⟩:=hv;obtain ⟨lo,lc,rfl⟩:=hl.shape;obtain ⟨fo,fc,rfl⟩:=hf.shape;obtain ⟨mo,mc,rfl⟩:=hm.shape;obtain ⟨so,sc,rfl⟩:=hs.shape;rw [hl0];have hx:=(Box.new w #[.string (S en.cls.name),.string (S en.cls.sup),.slice lo (0:Nat) lc,.bool en.cls.itf,.bool en.cls.abs,.bool en.cls.fin,.slice fo en.cls.flds.length fc,.slice mo en.cls.mths.length mc] 87).below (Zaa (Yab _ _) (.cells #[.string ⟨#[]⟩,.slice none 0 0,.string ⟨#[]⟩,.bool false,.int .i64 0,.slice none 0 0,.slice none 0 0] 44));have hr:=Zg3 (W:=w.alloc (.cells #[.string (S en.cls.name),.string (S en.cls.sup),.slice lo (0:Nat) lc,.bool en.cls.itf,.bool en.cls.abs,.bool en.cls.fin,.slice fo en.cls.flds.length fc,.slice mo en.cls.mths.length mc] 87)) (b:=w.heap.size+1) (cs:=#[.string ⟨#[]⟩,.slice none 0 0,.string ⟨#[]⟩,.bool false,.int .i64 0,.slice none 0 0,.slice none 0 0]) (t:=44) (by simp);have hb:Below w.heap.size w ((w.alloc (.cells #[.string (S en.cls.name),.string (S en.cls.sup),.slice lo (0:Nat) lc,.bool en.cls.itf,.bool en.cls.abs,.bool en.cls.fin,.slice fo en.cls.flds.length fc,.slice mo en.cls.mths.length mc] 87)).alloc (.cells #[.string ⟨#[]⟩,.slice none 0 0,.string ⟨#[]⟩,.bool false,.int .i64 0,.slice none 0 0,.slice none 0 0] 44)):=Zaa (Zaa (Yab _ _) _) _;have HX:=Hd hx;have HR:=Hd hr;have HB:=Hd hb;have HRE:Hid (ZbP (newT cs) (ownG (newT cs) n) 0 en.lk=none):=Hd rfl;generalize ZbP (newT cs) (ownG (newT cs) n) 0 en.lk=r at HRE ⊢;clear hs hl hf hm hx hr hb hdp hlk hl0 hen hs0;go_enter Tryz.func191,Tryz.ntmps191
  go_upto_region 1 with fail
  obtain ⟨bx,hbx⟩:∃ bx,bx=w.heap.size:=⟨_,rfl⟩
  generalize hW:(w.alloc (.cells #[.string (S en.cls.name),.string (S en.cls.sup),.slice lo (0:Nat) lc,.bool en.cls.itf,.bool en.cls.abs,.bool en.cls.fin,.slice fo en.cls.flds.length fc,.slice mo en.cls.mths.length mc] 87)).alloc (.cells #[.string ⟨#[]⟩,.slice none 0 0,.string ⟨#[]⟩,.bool false,.int .i64 0,.slice none 0 0,.slice none 0 0] 44)=W0 at HX HR HB ⊢;rw [←hbx] at HX HR ⊢;have HBX:=Hd hbx;clear hW hbx;go_wp2
  go_loopw [9] (fun v9 wr=>v9=.int .i64 0/\wr=W0) (fun _ _=>0)
  case atStart=>exact ⟨rfl,rfl⟩
  case round=>
   obtain ⟨rfl,rfl⟩:=hrel;have c2:wr.cell? ⟨bx,2,none⟩=some (.slice lo (0:Nat) lc):=HX.o.cell 2 rfl;obtain ⟨f0,f1,f2,f3,f4,f5,f6⟩:=Zhl HR.o;obtain ⟨k0,k1,k2,k3,k4,k5,k6⟩:=ZdQ HR.o;obtain ⟨y1,y2⟩:=set7 HR.o (.string ⟨#[]⟩) (.slice none 0 0) (.string ⟨#[]⟩) (.bool false) (.int .i64 0) (.slice none 0 0) (.slice none 0 0);have HY:=Hd y1;have HBE:=Hd (HB.o.trans (y2.below HB.o.size (fun k (q:k=bx+1)=>by have:=HBX.o;omega)));clear y1 y2 HX HR;go_wp2;have l:=ZaD (P:=Tryz.prog) (ty:=44) HY.o Tryz.underlying44 rfl Zbz;refine bodyPost_ret (v:=.tuple #[.string ⟨#[]⟩,mthZ,.bool false]) ?_ rfl ⟨HBE.o,.inl ⟨HRE.o,rfl⟩⟩;simp only [results,Tryz.results191];simp [asAddr,l,mthZ]
 | succ f ih=>
  intro i en A' v w hen hdp hs0 hs hv;have hlike:=hL.like hen;have hll:en.cls.like.length=en.lk.length:=by
   have h:=Ya5 List.length hlike
   rwa [Yaz,Yaz] at h
  have hnm:∀ (k:Nat) (x:List UInt8),en.cls.like[k]? = some x->∃ d ed,en.lk[k]? = some d/\Zad (newT cs) x=some d/\(newT cs)[d]? = some ed/\Deep (newT cs) f ed.lk:=fun k x hx=>by
   have h:=hL.like_at hen k;rw [hx] at h;cases hd:en.lk[k]? with
   | none=>rw [hd] at h;cases h
   | some d=>
    rw [hd] at h;have hp:Zad (newT cs) x=some d:=Yae h;obtain ⟨ed,he,hde⟩:=hdp d (Yaf hd);exact ⟨d,ed,rfl,hp,he,hde⟩
  have HNM:=Hd hnm;have HS0:=Hd hs0;have hq9:en.cls.like.length<=1000:=hL.like_len en.cls (Yaf (show (allR cs)[i]? = some en.cls by rw [Zdx,hen];rfl));obtain ⟨lv,fv,mv,rfl,hl,hf,hm⟩:=hv;obtain ⟨lo,lc,rfl⟩:=hl.shape;obtain ⟨fo,fc,rfl⟩:=hf.shape;obtain ⟨mo,mc,rfl⟩:=hm.shape;obtain ⟨q,hq⟩:∃ q,q=en.cls.like.length:=⟨_,rfl⟩
  rw [←hq] at hl hq9 ⊢;have HQ:=Hd hq;have HQL:Hid (q=en.lk.length):=Hd (by rw [hq,hll]);have HSX:=Hd hs;have HI:Hid (∀ (d:Nat) (ed:Ent) (vd:Value) (V:World),(newT cs)[d]? = some ed->Deep (newT cs) f ed.lk->Below w.heap.size w V->ClsR Anyw V ed.cls vd->Calls Tryz.prog 191 #[sv,vd,.string (S n)] V (ZgW s0 (newT cs) (ZbP (newT cs) (ownG (newT cs) n) f ed.lk) V)):=Hd (fun d ed vd V h1 h2 hV h3=>ih d ed Anyw vd V h1 h2 (Yaq hs0 hV.size) (ClsR.st.below hs hV) h3);have HF:Hid (∀ x V,Below w.heap.size w V->Calls Tryz.prog 53 #[sv,.string (S x)] V (fun e w'=>e=.returned (.int .i64 (idxV (Zad (newT cs) x)))/\Below V.heap.size V w')):=Hd (fun x V hV=>Zcw cs hL.len sv x V (ClsR.st.below hs hV));have HML:Hid (∀ (d:Nat) (ed:Ent),(newT cs)[d]? = some ed->ed.cls.mths.length<=9223372036854775807):=Hd (fun d ed h=>by have:=(hL.small d ed h).2.2.1;omega);obtain ⟨so,sc,rfl⟩:=hs.shape;obtain ⟨m,hm9⟩:∃ m,m=(allR cs).length:=⟨_,rfl⟩
  have HMM:=Hd hm9;rw [←hm9] at HF HI HSX ⊢;have hx:=(Box.new w #[.string (S en.cls.name),.string (S en.cls.sup),.slice lo q lc,.bool en.cls.itf,.bool en.cls.abs,.bool en.cls.fin,.slice fo en.cls.flds.length fc,.slice mo en.cls.mths.length mc] 87).below (Zaa (Yab _ _) (.cells #[.string ⟨#[]⟩,.slice none 0 0,.string ⟨#[]⟩,.bool false,.int .i64 0,.slice none 0 0,.slice none 0 0] 44));have hr:=Zg3 (W:=w.alloc (.cells #[.string (S en.cls.name),.string (S en.cls.sup),.slice lo q lc,.bool en.cls.itf,.bool en.cls.abs,.bool en.cls.fin,.slice fo en.cls.flds.length fc,.slice mo en.cls.mths.length mc] 87)) (b:=w.heap.size+1) (cs:=#[.string ⟨#[]⟩,.slice none 0 0,.string ⟨#[]⟩,.bool false,.int .i64 0,.slice none 0 0,.slice none 0 0]) (t:=44) (by simp);have hb:Below w.heap.size w ((w.alloc (.cells #[.string (S en.cls.name),.string (S en.cls.sup),.slice lo q lc,.bool en.cls.itf,.bool en.cls.abs,.bool en.cls.fin,.slice fo en.cls.flds.length fc,.slice mo en.cls.mths.length mc] 87)).alloc (.cells #[.string ⟨#[]⟩,.slice none 0 0,.string ⟨#[]⟩,.bool false,.int .i64 0,.slice none 0 0,.slice none 0 0] 44)):=Zaa (Zaa (Yab _ _) _) _;have HX:=Hd hx;have HR:=Hd hr;have HB:=Hd hb;have HLV:=Hd (StrR.st.below hl hb);have HRE:Hid (ZbP (newT cs) (ownG (newT cs) n) (f+1) en.lk=en.lk.findSome? (fun d=>(ownG (newT cs) n d).or (ZbP (newT cs) (ownG (newT cs) n) f (lkOf (newT cs) d)))):=Hd rfl;generalize ZbP (newT cs) (ownG (newT cs) n) (f+1) en.lk=r at HRE ⊢;clear hs hl hf hm hx hr hb hdp hen hlike hll hnm hq hm9 ih hs0;unfold ZgW;go_enter Tryz.func191,Tryz.ntmps191
  go_upto_region 1 with fail
  obtain ⟨bx,hbx⟩:∃ bx,bx=w.heap.size:=⟨_,rfl⟩
  generalize hW:(w.alloc (.cells #[.string (S en.cls.name),.string (S en.cls.sup),.slice lo q lc,.bool en.cls.itf,.bool en.cls.abs,.bool en.cls.fin,.slice fo en.cls.flds.length fc,.slice mo en.cls.mths.length mc] 87)).alloc (.cells #[.string ⟨#[]⟩,.slice none 0 0,.string ⟨#[]⟩,.bool false,.int .i64 0,.slice none 0 0,.slice none 0 0] 44)=W0 at HX HR HB HLV ⊢;rw [←hbx] at HX HR ⊢;have HBX:=Hd hbx;clear hW hbx;go_wp2
  go_loopw [9] (fun v9 wr=>∃ k:Nat,k<=q/\v9=.int .i64 k/\(en.lk.take k).findSome? (fun d=>(ownG (newT cs) n d).or (ZbP (newT cs) (ownG (newT cs) n) f (lkOf (newT cs) d)))=none/\Below W0.heap.size W0 wr) (fun v9 _=>q - (intOf v9).toNat)
  case atStart=>exact ⟨0,Yai _,rfl,rfl,Yab _ _⟩
  case round=>
   obtain ⟨k,hk,rfl,hno,hbw⟩:=hrel;have HNO:=Hd hno;have BW:=Hd hbw;have BWW:=Hd (HB.o.trans (hbw.mono HB.o.size));have c2:wr.cell? ⟨bx,2,none⟩=some (.slice lo q lc):=(HX.o.below hbw).cell 2 rfl;clear hno hbw;by_cases hlt:k<q
   ·obtain ⟨x,hx⟩:∃ x,en.cls.like[k]? = some x:=⟨_,Yaa (by rw [←HQ.o];exact hlt)⟩
    obtain ⟨d,ed,hkd,hpd,hed,hdd⟩:=HNM.o k x hx;obtain ⟨b2,o2,u,rfl,hu,_,hcl⟩:=Src.elem (StrR.st.below HLV.o BW.o) k x hx;obtain rfl:=hu;have e0:wr.cell? ⟨b2,o2+k,none⟩=some (.string (S x)):=by have q:=hcl 0 _ rfl;rw [YaG] at q;exact q
    have hk0:(0:Int)<=(k:Int):=by omega
    have hkq:(k:Int)<(q:Int):=by omega
    have HFX:=Hd (HF.o x wr BWW.o);rw [hpd] at HFX;have i0:idxV (some d)=(d:Int):=rfl;rw [i0] at HFX;have hxc:(allR cs)[d]? = some ed.cls:=by rw [Zdx,hed];rfl
    have i1:(0:Int)<=(d:Int):=by omega
    have i2:(d:Int)<(m:Int):=by have:=(Yag.1 hxc).1;have:=HMM.o;omega
    have HNM2:Hid (nmE (newT cs) d=ed.cls.name):=Hd (ZhJ hed);have HLK:Hid (lkOf (newT cs) d=ed.lk):=Hd (Zba hed);have HOW:Hid (ownG (newT cs) n d=(ed.cls.mths.find? (fun m=>m.name == n)).map (fun m=>(d,m))):=Hd (by unfold ownG ownM;rw [Zcg hed]);have HTK:Hid ((en.lk.take (k+1)).findSome? (fun d=>(ownG (newT cs) n d).or (ZbP (newT cs) (ownG (newT cs) n) f (lkOf (newT cs) d)))=(ownG (newT cs) n d).or (ZbP (newT cs) (ownG (newT cs) n) f ed.lk)):=Hd (by
     rw [YaL,hkd,Ybb,HNO.o,Ybx,←HLK.o];simp)
    have HTR:Hid (∀ z,(en.lk.take (k+1)).findSome? (fun d=>(ownG (newT cs) n d).or (ZbP (newT cs) (ownG (newT cs) n) f (lkOf (newT cs) d)))=some z->r=some z):=Hd (fun z hz=>by
     rw [HRE.o];exact ZdB (List.take_prefix _ _) hz)
    have HED:=Hd hed;have HDD:=Hd hdd;have HXC:=Hd hxc;clear hcl hx hkd hpd hed hdd hxc i0 HNO
    go_wp2_with fail
    with_reducible refine HFX.o.mono ?_
    rintro e w3 ⟨rfl,hb3⟩;have B3:=Hd (BW.o.trans (hb3.mono BW.o.size));have BW3:=Hd (BWW.o.trans (hb3.mono BWW.o.size));obtain ⟨b1,o1,v1,rfl,hv1,_,hcl1⟩:=Src.elem (ClsR.st.below HSX.o BW3.o) d ed.cls HXC.o;have HV1:=Hd hv1;obtain ⟨_,_,_,rfl,hl1,hf1,hm1⟩:=hv1;obtain ⟨lo1,lc1,rfl⟩:=hl1.shape;obtain ⟨fo1,fc1,rfl⟩:=hf1.shape;obtain ⟨mo1,mc1,rfl⟩:=hm1.shape;have HM1:=Hd hm1;have d0:w3.cell? ⟨b1,o1+d * 8,none⟩=some (.string (S ed.cls.name)):=hcl1 0 _ rfl;have d1:w3.cell? ⟨b1,o1+d * 8+1,none⟩=some (.string (S ed.cls.sup)):=hcl1 1 _ rfl;have d2:w3.cell? ⟨b1,o1+d * 8+2,none⟩=some (.slice lo1 ed.cls.like.length lc1):=hcl1 2 _ rfl;have d3:w3.cell? ⟨b1,o1+d * 8+3,none⟩=some (.bool ed.cls.itf):=hcl1 3 _ rfl;have d4:w3.cell? ⟨b1,o1+d * 8+4,none⟩=some (.bool ed.cls.abs):=hcl1 4 _ rfl;have d5:w3.cell? ⟨b1,o1+d * 8+5,none⟩=some (.bool ed.cls.fin):=hcl1 5 _ rfl;have d6:w3.cell? ⟨b1,o1+d * 8+6,none⟩=some (.slice fo1 ed.cls.flds.length fc1):=hcl1 6 _ rfl;have d7:w3.cell? ⟨b1,o1+d * 8+7,none⟩=some (.slice mo1 ed.cls.mths.length mc1):=hcl1 7 _ rfl;have hba:Below w3.heap.size w3 (w3.alloc (.cells #[.string (S ed.cls.name),.string (S ed.cls.sup),.slice lo1 ed.cls.like.length lc1,.bool ed.cls.itf,.bool ed.cls.abs,.bool ed.cls.fin,.slice fo1 ed.cls.flds.length fc1,.slice mo1 ed.cls.mths.length mc1] 87)):=Zaa (Yab _ _) _;have HD:=Hd (Box.new w3 #[.string (S ed.cls.name),.string (S ed.cls.sup),.slice lo1 ed.cls.like.length lc1,.bool ed.cls.itf,.bool ed.cls.abs,.bool ed.cls.fin,.slice fo1 ed.cls.flds.length fc1,.slice mo1 ed.cls.mths.length mc1] 87);have B4:=Hd (B3.o.trans (hba.mono B3.o.size));have BW4:=Hd (BW3.o.trans (hba.mono BW3.o.size));have HV4:=Hd (ClsR.st.keep (ClsR.st.mono (A':=Anyw) HV1.o (fun _ _ _=>trivial)) (Yad (S:=fun _=>False) hba) (fun _ _=>id));have HOC:=Hd (ZjD ed.cls _ n _ HV4.o (HML.o d ed HED.o));unfold Zfx at HOC;have HBA3:=Hd hba;clear hcl1 hl1 hf1 hm1 hb3 c2 e0 hba HFX
    go_upto_region 5 with fail
    generalize hWD:w3.alloc (.cells #[.string (S ed.cls.name),.string (S ed.cls.sup),.slice lo1 ed.cls.like.length lc1,.bool ed.cls.itf,.bool ed.cls.abs,.bool ed.cls.fin,.slice fo1 ed.cls.flds.length fc1,.slice mo1 ed.cls.mths.length mc1] 87)=WD at HD B4 BW4 HV4 HOC HBA3 ⊢;obtain ⟨bd,hbd⟩:∃ bd,bd=w3.heap.size:=⟨_,rfl⟩
    rw [←hbd] at HD ⊢;clear hWD hbd d0 d1 d2 d3 d4 d5 d6 d7 HV1 B3 BW3;obtain ⟨a0,a1,a2,a3,a4,a5,a6,a7⟩:=ZlH HD.o
    go_wp2_with fail
    with_reducible refine HOC.o.mono ?_
    rintro e w5 ⟨rfl,hb5⟩;have B5:=Hd (B4.o.trans (hb5.mono B4.o.size));have BW5:=Hd (BW4.o.trans (hb5.mono BW4.o.size));have HD5:=Hd (HD.o.below hb5);have HM5:=Hd (MthR.st.below HM1.o (HBA3.o.trans (hb5.mono HBA3.o.size)));have HV5:=Hd (ClsR.st.keep HV4.o (Yad (S:=fun _=>False) hb5) (fun _ _=>id));clear a0 a1 a2 a3 a4 a5 a6 a7 HOC HD HV4 B4 BW4 hb5;cases hoi:ed.cls.mths.findIdx? (fun m=>m.name == n) with
    | none=>
     have HN:Hid (ownG (newT cs) n d=none):=Hd (by rw [HOW.o,ZeC hoi];rfl);have j0:idxV none=(-1:Int):=rfl;rw [j0];obtain ⟨a0,a1,a2,a3,a4,a5,a6,a7⟩:=ZlH HD5.o;have HIC:=Hd (HI.o d ed _ w5 HED.o HDD.o BW5.o HV5.o);unfold ZgW at HIC;clear hoi j0
     go_wp2_with fail
     with_reducible refine HIC.o.mono ?_
     rintro e w6 ⟨hb6,hcase⟩;have B6:=Hd (B5.o.trans (hb6.mono B5.o.size));have BW6:=Hd (BW5.o.trans (hb6.mono BW5.o.size));clear a0 a1 a2 a3 a4 a5 a6 a7 hb6 HIC;rcases hcase with ⟨hrn,rfl⟩|⟨x,mm,vv,hrs,rfl,hmv⟩
     ·have HT2:Hid ((en.lk.take (k+1)).findSome? (fun d=>(ownG (newT cs) n d).or (ZbP (newT cs) (ownG (newT cs) n) f (lkOf (newT cs) d)))=none):=Hd (by rw [HTK.o,HN.o,Ybx];exact hrn);have BA:=Hd (B6.o.trans ((Zaa (Yab w6.heap.size w6) (.cells #[.string ⟨#[]⟩,.slice none 0 0,.string ⟨#[]⟩,.bool false,.int .i64 0,.slice none 0 0,.slice none 0 0] 44)).mono B6.o.size));clear hrn HTK HTR;unfold mthZ;go_wp2
      go_roundw
      case rel=>exact ⟨k+1,by omega,by go_num,HT2.o,BA.o⟩
      case measure=>simp [intOf];omega
     ·have HRZ:Hid (r=some (x,mm)):=Hd (HTR.o _ (by rw [HTK.o,HN.o,Ybx];exact hrs));have HMV:=Hd hmv;obtain ⟨_,_,_,rfl,⟨po2,pc2,rfl⟩,⟨co2,cc2,rfl⟩,⟨ko2,kc2,rfl⟩⟩:=Zam hmv;have hba:Below w6.heap.size w6 (w6.alloc (.cells #[.string (S mm.name),.slice po2 mm.params.length pc2,.string (S mm.res),.bool mm.abs,.int .i64 mm.loc,.slice co2 mm.code.length cc2,.slice ko2 mm.cats.length kc2] 44)):=Zaa (Yab _ _) _;have HD7:=Hd (Box.new w6 #[.string (S mm.name),.slice po2 mm.params.length pc2,.string (S mm.res),.bool mm.abs,.int .i64 mm.loc,.slice co2 mm.code.length cc2,.slice ko2 mm.cats.length kc2] 44);have HMV7:=Hd (MthR.st.keep HMV.o (Yad (S:=fun _=>False) hba) (fun _ _=>id));have B7:=Hd (B6.o.trans (hba.mono B6.o.size));have BW7:=Hd (BW6.o.trans (hba.mono BW6.o.size));clear hrs hmv hba HTK HTR HMV
      go_upto_region 9 with fail
      generalize hWD:w6.alloc (.cells #[.string (S mm.name),.slice po2 mm.params.length pc2,.string (S mm.res),.bool mm.abs,.int .i64 mm.loc,.slice co2 mm.code.length cc2,.slice ko2 mm.cats.length kc2] 44)=W7 at HD7 B7 BW7 HMV7 ⊢;obtain ⟨be,hbe⟩:∃ be,be=w6.heap.size:=⟨_,rfl⟩
      have HBE2:Hid (be ≠ bx+1):=Hd (by have:=HR.o.lt;have:=B6.o.size;omega);rw [←hbe] at HD7 ⊢;clear hWD hbe B6 BW6;obtain ⟨g0,g1,g2,g3,g4,g5,g6⟩:=ZdQ HD7.o;obtain ⟨f0,f1,f2,f3,f4,f5,f6⟩:=Zhl (HR.o.below B7.o);obtain ⟨k0,k1,k2,k3,k4,k5,k6⟩:=ZdQ (HR.o.below B7.o);obtain ⟨y1,y2⟩:=set7 (HR.o.below B7.o) (.string (S mm.name)) (.slice po2 mm.params.length pc2) (.string (S mm.res)) (.bool mm.abs) (.int .i64 mm.loc) (.slice co2 mm.code.length cc2) (.slice ko2 mm.cats.length kc2)
      go_upto_region 10 with fail
      go_region
      all_goals
       have HY:=Hd (y1.below (Zab (Yab _ _)));have HBE:=Hd (BW7.o.trans (y2.drew.below BW7.o.size (fun k (q:k=bx+1)=>by have:=HBX.o;omega)));have HMF:=Hd (MthR.st.keep HMV7.o y2.drew (fun k (hk:k<s0) (q:k=bx+1)=>by have:=HBX.o;have:=HS0.o;omega));clear y1 y2 g0 g1 g2 g3 g4 g5 g6 f0 f1 f2 f3 f4 f5 f6 k0 k1 k2 k3 k4 k5 k6 HD7 HR HX HV5 HD5 HM5 HM1;go_wp2;have l:=ZaD (P:=Tryz.prog) (ty:=44) HY.o Tryz.underlying44 rfl Zbz;refine bodyPost_ret (v:=.tuple #[.string (S (nmE (newT cs) x)),.agg #[.string (S mm.name),.slice po2 mm.params.length pc2,.string (S mm.res),.bool mm.abs,.int .i64 mm.loc,.slice co2 mm.code.length cc2,.slice ko2 mm.cats.length kc2],.bool true]) ?_ rfl ⟨HBE.o,.inr ⟨x,mm,_,HRZ.o,rfl,HMF.o⟩⟩;simp only [results,Tryz.results191];simp [asAddr,l]
    | some kk=>
     obtain ⟨mm,hmm,hfm⟩:=Ze4 hoi;have HRZ:Hid (r=some (d,mm)):=Hd (HTR.o _ (by rw [HTK.o,HOW.o,hfm];rfl));have j0:idxV (some kk)=(kk:Int):=rfl;rw [j0];obtain ⟨bm,om,vm,hmo,hvm,_,hclm⟩:=Src.elem HM5.o kk mm hmm;obtain rfl:mo1=some ⟨bm,om,none⟩:=hmo;have HVM:=Hd hvm;obtain ⟨_,_,_,rfl,⟨po2,pc2,rfl⟩,⟨co2,cc2,rfl⟩,⟨ko2,kc2,rfl⟩⟩:=Zam hvm;obtain ⟨a0,a1,a2,a3,a4,a5,a6,a7⟩:=ZlH HD5.o;have g0:w5.cell? ⟨bm,om+kk * 7,none⟩=some (.string (S mm.name)):=hclm 0 _ rfl;have g1:w5.cell? ⟨bm,om+kk * 7+1,none⟩=some (.slice po2 mm.params.length pc2):=hclm 1 _ rfl;have g2:w5.cell? ⟨bm,om+kk * 7+2,none⟩=some (.string (S mm.res)):=hclm 2 _ rfl;have g3:w5.cell? ⟨bm,om+kk * 7+3,none⟩=some (.bool mm.abs):=hclm 3 _ rfl;have g4:w5.cell? ⟨bm,om+kk * 7+4,none⟩=some (.int .i64 mm.loc):=hclm 4 _ rfl;have g5:w5.cell? ⟨bm,om+kk * 7+5,none⟩=some (.slice co2 mm.code.length cc2):=hclm 5 _ rfl;have g6:w5.cell? ⟨bm,om+kk * 7+6,none⟩=some (.slice ko2 mm.cats.length kc2):=hclm 6 _ rfl;have kk0:(0:Int)<=(kk:Int):=by omega
     have kkm:(kk:Int)<(ed.cls.mths.length:Int):=by have:=(Yag.1 hmm).1;omega
     obtain ⟨f0,f1,f2,f3,f4,f5,f6⟩:=Zhl (HR.o.below B5.o);obtain ⟨k0,k1,k2,k3,k4,k5,k6⟩:=ZdQ (HR.o.below B5.o);obtain ⟨y1,y2⟩:=set7 (HR.o.below B5.o) (.string (S mm.name)) (.slice po2 mm.params.length pc2) (.string (S mm.res)) (.bool mm.abs) (.int .i64 mm.loc) (.slice co2 mm.code.length cc2) (.slice ko2 mm.cats.length kc2);clear hoi hmm hfm hvm hclm j0
     go_upto_region 7 with fail
     go_region
     all_goals
      have HY:=Hd (y1.below (Zab (Yab _ _)));have HBE:=Hd (BW5.o.trans (y2.drew.below BW5.o.size (fun k (q:k=bx+1)=>by have:=HBX.o;omega)));have HMF:=Hd (MthR.st.keep HVM.o y2.drew (fun k (hk:k<s0) (q:k=bx+1)=>by have:=HBX.o;have:=HS0.o;omega));clear y1 y2 a0 a1 a2 a3 a4 a5 a6 a7 g0 g1 g2 g3 g4 g5 g6 f0 f1 f2 f3 f4 f5 f6 k0 k1 k2 k3 k4 k5 k6 HR HX HV5 HD5 HM5 HM1;go_wp2;have l:=ZaD (P:=Tryz.prog) (ty:=44) HY.o Tryz.underlying44 rfl Zbz;refine bodyPost_ret (v:=.tuple #[.string (S ed.cls.name),.agg #[.string (S mm.name),.slice po2 mm.params.length pc2,.string (S mm.res),.bool mm.abs,.int .i64 mm.loc,.slice co2 mm.code.length cc2,.slice ko2 mm.cats.length kc2],.bool true]) ?_ rfl ⟨HBE.o,.inr ⟨d,mm,_,HRZ.o,by rw [HNM2.o],HMF.o⟩⟩;simp only [results,Tryz.results191];simp [asAddr,l]
   ·obtain rfl:k=q:=by omega
    have HRN:Hid (r=none):=Hd (by have h:=HNO.o;rw [HQL.o,YaJ] at h;rw [HRE.o];exact h);obtain ⟨f0,f1,f2,f3,f4,f5,f6⟩:=Zhl (HR.o.below BW.o);obtain ⟨k0,k1,k2,k3,k4,k5,k6⟩:=ZdQ (HR.o.below BW.o);obtain ⟨y1,y2⟩:=set7 (HR.o.below BW.o) (.string ⟨#[]⟩) (.slice none 0 0) (.string ⟨#[]⟩) (.bool false) (.int .i64 0) (.slice none 0 0) (.slice none 0 0);have HY:=Hd y1;have HBE:=Hd (BWW.o.trans (y2.below BWW.o.size (fun k (q:k=bx+1)=>by have:=HBX.o;omega)));clear y1 y2 HX HR HNO BW BWW HNM HI HF;go_wp2;have l:=ZaD (P:=Tryz.prog) (ty:=44) HY.o Tryz.underlying44 rfl Zbz;refine bodyPost_ret (v:=.tuple #[.string ⟨#[]⟩,mthZ,.bool false]) ?_ rfl ⟨HBE.o,.inl ⟨HRN.o,rfl⟩⟩;simp only [results,Tryz.results191];simp [asAddr,l,mthZ]
theorem Src.elem2 {α:Type} {n:Nat} {R:Zao α} {A:Nat->Prop} {w:World} {b o m c:Nat} {l:List α} (h:Src n R A w (.slice (some ⟨b,o,none⟩) m c) l) (k:Nat) (x:α) (hx:l[k]? = some x):∃ v,R A w x v/\v.cells.size=n/\∀ j u,v.cells[j]? = some u->w.cell? ⟨b,o+k * n+j,none⟩=some u:=by
 rcases h with ⟨ao,cp,he,rfl⟩|⟨b',o',cp,he,_,hc⟩
 ·simp at hx
 ·injection he with e1 e2 e3
  injection e1 with e1
  injection e1 with e4 e5
  subst e4 e5;exact hc k x hx
theorem ZiX (s0:Nat) (cs:List Cls) (hL:Lined cs) (W:Wise (newT cs)) (sv:Value) (c n:List UInt8) (w:World) (hs0:s0<=w.heap.size) (hs:Src 8 ClsR (fun k=>k<s0) w sv (allR cs)) :
  Calls Tryz.prog 122 #[sv,.string (S c),.string (S n)] w (ZgW s0 (newT cs) (ZbI (newT cs) (Zad (newT cs) c) n) w):=by
 have hpl:∀ i,Zad (newT cs) c=some i->i<(newT cs).length:=fun i hi=>Za4 hi
 have HRE:=Hd (W.methR (Zad (newT cs) c) hpl n);have HF:Hid (∀ x V,Below w.heap.size w V->Calls Tryz.prog 53 #[sv,.string (S x)] V (fun e w'=>e=.returned (.int .i64 (idxV (Zad (newT cs) x)))/\Below V.heap.size V w')):=Hd (fun x V hV=>Zcw cs hL.len sv x V (ClsR.st.below hs hV));have HLK:Hid (∀ (i:Nat) (en:Ent) (vd:Value) (V:World),(newT cs)[i]? = some en->Below w.heap.size w V->ClsR (fun k=>k<s0) V en.cls vd->Calls Tryz.prog 191 #[sv,vd,.string (S n)] V (ZgW s0 (newT cs) (ZbP (newT cs) (ownG (newT cs) n) (newT cs).length (lkOf (newT cs) i)) V)):=Hd (fun i en vd V h1 hV h3=>by
  rw [Zba h1];exact Zle s0 cs hL sv n (newT cs).length i en _ vd V h1 (W.sh.deep i en h1) (Yaq hs0 hV.size) (ClsR.st.below hs hV) h3)
 have HML:Hid (∀ (d:Nat) (ed:Ent),(newT cs)[d]? = some ed->ed.cls.mths.length<=9223372036854775807):=Hd (fun d ed h=>by have:=(hL.small d ed h).2.2.1;omega);have HSX:=Hd hs;have HS0:=Hd hs0;have HW:=Hd W;have hL2:=Hd hL;have hel:(allR cs).length=(newT cs).length:=by rw [ZcP,ZaR]
 obtain ⟨c0,hx0⟩:∃ c0,(allR cs)[0]? = some c0:=⟨_,Yaa (by rw [ZcP];omega)⟩
 obtain ⟨so,sc,rfl⟩:=hs.shape;obtain ⟨b1,o1,v,rfl,_,_,_⟩:=Src.elem hs 0 _ hx0;obtain ⟨m,hm9⟩:∃ m,m=(allR cs).length:=⟨_,rfl⟩
 have HMM:Hid (m=(newT cs).length):=Hd (by rw [hm9,hel]);rw [←hm9] at HF HLK HSX ⊢;have hr:=Box.new w #[.string ⟨#[]⟩,.slice none 0 0,.string ⟨#[]⟩,.bool false,.int .i64 0,.slice none 0 0,.slice none 0 0] 44;have hb:Below w.heap.size w (w.alloc (.cells #[.string ⟨#[]⟩,.slice none 0 0,.string ⟨#[]⟩,.bool false,.int .i64 0,.slice none 0 0,.slice none 0 0] 44)):=Zaa (Yab _ _) _;have HR:=Hd hr;have HB:=Hd hb;generalize ZbI (newT cs) (Zad (newT cs) c) n=r at HRE ⊢;have HPL:=Hd hpl;unfold ZgW at HLK ⊢;clear hs hr hb hx0 hel hm9 hpl hs0 W hL;go_enter Tryz.func122,Tryz.ntmps122
 go_upto_region 1 with fail
 obtain ⟨rx,hrx⟩:∃ rx,rx=w.heap.size:=⟨_,rfl⟩
 generalize hW:w.alloc (.cells #[.string ⟨#[]⟩,.slice none 0 0,.string ⟨#[]⟩,.bool false,.int .i64 0,.slice none 0 0,.slice none 0 0] 44)=W0 at HR HB ⊢;rw [←hrx] at HR ⊢;have HRX:=Hd hrx;clear hW hrx
 go_wp2_with fail
 with_reducible refine (HF.o c W0 HB.o).mono ?_
 rintro e w1 ⟨rfl,hb1⟩;have B1:=Hd hb1;clear hb1;go_wp2
 go_loopw [9] (fun v9 wr=>∃ (o:Option Nat) (L1:List Nat),v9=.int .i64 (idxV o)/\(∀ i,o=some i->i<(newT cs).length)/\Zap (newT cs) (Zad (newT cs) c)=L1++Zap (newT cs) o/\L1.findSome? (ownG (newT cs) n)=none/\Below W0.heap.size W0 wr) (fun v9 _=>(Zap (newT cs) (Znh v9)).length)
 case atStart=>exact ⟨Zad (newT cs) c,[],rfl,HPL.o,rfl,rfl,B1.o⟩
 case round=>
  obtain ⟨o,L1,rfl,hol,hln,hno,hbw⟩:=hrel;have HOL:=Hd hol;have HLN:=Hd hln;have HNO:=Hd hno;have BW:=Hd hbw;have BWW:=Hd (HB.o.trans (hbw.mono HB.o.size));clear hol hln hno hbw;cases o with
  | some i=>
   have hil:=HOL.o i rfl;obtain ⟨en,hen⟩:∃ en,(newT cs)[i]? = some en:=⟨_,Yaa hil⟩
   have hx:(allR cs)[i]? = some en.cls:=by rw [Zdx,hen];rfl
   obtain ⟨v1,hv1,_,hcl1⟩:=Src.elem2 (ClsR.st.below HSX.o BWW.o) i en.cls hx;have HV1:=Hd hv1;obtain ⟨_,_,_,rfl,hl1,hf1,hm1⟩:=hv1;obtain ⟨lo1,lc1,rfl⟩:=hl1.shape;obtain ⟨fo1,fc1,rfl⟩:=hf1.shape;obtain ⟨mo1,mc1,rfl⟩:=hm1.shape;have HM1:=Hd hm1;have HCC:Hid (∀ V,Below wr.heap.size wr V->V.cell? ⟨b1,o1+i * 8,none⟩=some (.string (S en.cls.name))/\V.cell? ⟨b1,o1+i * 8+1,none⟩=some (.string (S en.cls.sup))/\V.cell? ⟨b1,o1+i * 8+2,none⟩=some (.slice lo1 en.cls.like.length lc1)/\V.cell? ⟨b1,o1+i * 8+3,none⟩=some (.bool en.cls.itf)/\V.cell? ⟨b1,o1+i * 8+4,none⟩=some (.bool en.cls.abs)/\V.cell? ⟨b1,o1+i * 8+5,none⟩=some (.bool en.cls.fin)/\V.cell? ⟨b1,o1+i * 8+6,none⟩=some (.slice fo1 en.cls.flds.length fc1)/\V.cell? ⟨b1,o1+i * 8+7,none⟩=some (.slice mo1 en.cls.mths.length mc1)):=Hd (fun V hV=>
    have ho:=Yad (S:=fun _=>False) hV
    ⟨ho.cell (a:=⟨b1,o1+i * 8,none⟩) (hcl1 0 _ rfl) id,ho.cell (a:=⟨b1,o1+i * 8+1,none⟩) (hcl1 1 _ rfl) id,ho.cell (a:=⟨b1,o1+i * 8+2,none⟩) (hcl1 2 _ rfl) id,ho.cell (a:=⟨b1,o1+i * 8+3,none⟩) (hcl1 3 _ rfl) id,ho.cell (a:=⟨b1,o1+i * 8+4,none⟩) (hcl1 4 _ rfl) id,ho.cell (a:=⟨b1,o1+i * 8+5,none⟩) (hcl1 5 _ rfl) id,ho.cell (a:=⟨b1,o1+i * 8+6,none⟩) (hcl1 6 _ rfl) id,ho.cell (a:=⟨b1,o1+i * 8+7,none⟩) (hcl1 7 _ rfl) id⟩)
   have i0:idxV (some i)=(i:Int):=rfl;have i1:(0:Int)<=(i:Int):=by omega
   have i2:(i:Int)<(m:Int):=by have:=HMM.o;omega
   have HNM2:Hid (nmE (newT cs) i=en.cls.name):=Hd (ZhJ hen);have HUP:Hid (Zad (newT cs) en.cls.sup=en.up):=Hd (hL2.o.sup hen);have HUL:Hid (∀ j,en.up=some j->j<(newT cs).length):=Hd (fun j hj=>HW.o.upj i en j hen hj);have HLI:Hid (Zap (newT cs) (some i)=i :: Zap (newT cs) en.up):=Hd (HW.o.line hen);have HEN:=Hd hen;rw [i0];clear hcl1 hl1 hf1 hm1 hx hil hen i0 HOL;have HOC:=Hd (ZjD en.cls _ n wr HV1.o (HML.o i en HEN.o));unfold Zfx at HOC;have HOW:Hid (ownG (newT cs) n i=(en.cls.mths.find? (fun m=>m.name == n)).map (fun m=>(i,m))):=Hd (by unfold ownG ownM;rw [Zcg HEN.o]);obtain ⟨d0,d1,d2,d3,d4,d5,d6,d7⟩:=HCC.o wr (Yab _ _)
   go_wp2_with fail
   with_reducible refine HOC.o.mono ?_
   rintro e w5 ⟨rfl,hb5⟩;have B5:=Hd (BW.o.trans (hb5.mono BW.o.size));have BW5:=Hd (BWW.o.trans (hb5.mono BWW.o.size));have HM5:=Hd (MthR.st.below HM1.o hb5);obtain ⟨a0,a1,a2,a3,a4,a5,a6,a7⟩:=HCC.o w5 hb5;clear d0 d1 d2 d3 d4 d5 d6 d7 HOC hb5;cases hoi:en.cls.mths.findIdx? (fun m=>m.name == n) with
   | none=>
    have HN2:Hid ((L1++[i]).findSome? (ownG (newT cs) n)=none):=Hd (by
     rw [Ybb,HNO.o,Ybx];simp [HOW.o,ZeC hoi])
    have HLN2:Hid (Zap (newT cs) (Zad (newT cs) c)=(L1++[i])++Zap (newT cs) en.up):=Hd (by rw [HLN.o,HLI.o];simp);have HME:Hid ((Zap (newT cs) en.up).length<(Zap (newT cs) (some i)).length):=Hd (by rw [HLI.o,YaI];omega);have j0:idxV none=(-1:Int):=rfl;rw [j0];clear hoi j0 HNO HLN HLI HOW
    go_wp2_with fail
    with_reducible refine (HF.o en.cls.sup w5 BW5.o).mono ?_
    rintro e w9 ⟨rfl,hb9⟩;have B9:=Hd (B5.o.trans (hb9.mono B5.o.size));rw [HUP.o];clear hb9 a0 a1 a2 a3 a4 a5 a6 a7;go_wp2
    go_roundw
    case rel=>exact ⟨en.up,L1++[i],rfl,HUL.o,HLN2.o,HN2.o,B9.o⟩
    case measure=>rw [Zfo,ZhM];exact HME.o
   | some kk=>
    obtain ⟨mm,hmm,hfm⟩:=Ze4 hoi;have HRZ:Hid (r=some (i,mm)):=Hd (by
     have h:(L1++Zap (newT cs) (some i)).findSome? (ownG (newT cs) n)=some (i,mm):=by
      rw [Ybb,HNO.o,Ybx,HLI.o,YbE,HOW.o,hfm];rfl
     rw [HRE.o,HLN.o,h];rfl)
    have j0:idxV (some kk)=(kk:Int):=rfl;rw [j0];obtain ⟨bm,om,vm,hmo,hvm,_,hclm⟩:=Src.elem HM5.o kk mm hmm;obtain rfl:mo1=some ⟨bm,om,none⟩:=hmo;have HVM:=Hd hvm;obtain ⟨_,_,_,rfl,⟨po2,pc2,rfl⟩,⟨co2,cc2,rfl⟩,⟨ko2,kc2,rfl⟩⟩:=Zam hvm;have g0:w5.cell? ⟨bm,om+kk * 7,none⟩=some (.string (S mm.name)):=hclm 0 _ rfl;have g1:w5.cell? ⟨bm,om+kk * 7+1,none⟩=some (.slice po2 mm.params.length pc2):=hclm 1 _ rfl;have g2:w5.cell? ⟨bm,om+kk * 7+2,none⟩=some (.string (S mm.res)):=hclm 2 _ rfl;have g3:w5.cell? ⟨bm,om+kk * 7+3,none⟩=some (.bool mm.abs):=hclm 3 _ rfl;have g4:w5.cell? ⟨bm,om+kk * 7+4,none⟩=some (.int .i64 mm.loc):=hclm 4 _ rfl;have g5:w5.cell? ⟨bm,om+kk * 7+5,none⟩=some (.slice co2 mm.code.length cc2):=hclm 5 _ rfl;have g6:w5.cell? ⟨bm,om+kk * 7+6,none⟩=some (.slice ko2 mm.cats.length kc2):=hclm 6 _ rfl;have kk0:(0:Int)<=(kk:Int):=by omega
    have kkm:(kk:Int)<(en.cls.mths.length:Int):=by have:=(Yag.1 hmm).1;omega
    obtain ⟨f0,f1,f2,f3,f4,f5,f6⟩:=Zhl (HR.o.below B5.o);obtain ⟨k0,k1,k2,k3,k4,k5,k6⟩:=ZdQ (HR.o.below B5.o);obtain ⟨y1,y2⟩:=set7 (HR.o.below B5.o) (.string (S mm.name)) (.slice po2 mm.params.length pc2) (.string (S mm.res)) (.bool mm.abs) (.int .i64 mm.loc) (.slice co2 mm.code.length cc2) (.slice ko2 mm.cats.length kc2);clear hoi hmm hfm hvm hclm j0 a1 a2 a3 a4 a5 a6
    go_upto_region 6 with fail
    go_region
    all_goals
     have HY:=Hd (y1.below (Zab (Yab _ _)));have HBE:=Hd (BW5.o.trans (y2.drew.below BW5.o.size (fun k (q:k=rx)=>by have:=HRX.o;omega)));have HMF:=Hd (MthR.st.keep HVM.o y2.drew (fun k (hk:k<s0) (q:k=rx)=>by have:=HRX.o;have:=HS0.o;omega));clear y1 y2 a0 a7 g0 g1 g2 g3 g4 g5 g6 f0 f1 f2 f3 f4 f5 f6 k0 k1 k2 k3 k4 k5 k6 HR;go_wp2;have l:=ZaD (P:=Tryz.prog) (ty:=44) HY.o Tryz.underlying44 rfl Zbz;refine bodyPost_ret (v:=.tuple #[.string (S en.cls.name),.agg #[.string (S mm.name),.slice po2 mm.params.length pc2,.string (S mm.res),.bool mm.abs,.int .i64 mm.loc,.slice co2 mm.code.length cc2,.slice ko2 mm.cats.length kc2],.bool true]) ?_ rfl ⟨HBE.o,.inr ⟨i,mm,_,HRZ.o,by rw [HNM2.o],HMF.o⟩⟩;simp only [results,Tryz.results122];simp [asAddr,l]
  | none=>
   have i0:idxV none=(-1:Int):=rfl;rw [i0];have HRE2:Hid (r=(Zap (newT cs) (Zad (newT cs) c)).findSome? (fun d=>ZbP (newT cs) (ownG (newT cs) n) (newT cs).length (lkOf (newT cs) d))):=Hd (by
    have h:=HLN.o;rw [Za6,Ya2] at h;rw [HRE.o,h,HNO.o,Ybx])
   clear HLN HNO HOL HRE i0
   go_wp2_with fail
   with_reducible refine (HF.o c wr BWW.o).mono ?_
   rintro e w2 ⟨rfl,hb2⟩;have B2:=Hd (BW.o.trans (hb2.mono BW.o.size));clear hb2 BW BWW;go_wp2
   go_loopw [11] (fun v11 wr=>∃ (o:Option Nat) (L1:List Nat),v11=.int .i64 (idxV o)/\(∀ i,o=some i->i<(newT cs).length)/\Zap (newT cs) (Zad (newT cs) c)=L1++Zap (newT cs) o/\L1.findSome? (fun d=>ZbP (newT cs) (ownG (newT cs) n) (newT cs).length (lkOf (newT cs) d))=none/\Below W0.heap.size W0 wr) (fun v11 _=>(Zap (newT cs) (Znh v11)).length)
   case atStart=>exact ⟨Zad (newT cs) c,[],rfl,HPL.o,rfl,rfl,B2.o⟩
   case round=>
    obtain ⟨o,L1,rfl,hol,hln,hno,hbw⟩:=hrel;have HOL:=Hd hol;have HLN:=Hd hln;have HNO:=Hd hno;have BW:=Hd hbw;have BWW:=Hd (HB.o.trans (hbw.mono HB.o.size));clear hol hln hno hbw;cases o with
    | none=>
     have i0:idxV none=(-1:Int):=rfl;rw [i0];have HRN:Hid (r=none):=Hd (by
      have h:=HLN.o;rw [Za6,Ya2] at h;rw [HRE2.o,h,HNO.o])
     obtain ⟨f0,f1,f2,f3,f4,f5,f6⟩:=Zhl (HR.o.below BW.o);obtain ⟨k0,k1,k2,k3,k4,k5,k6⟩:=ZdQ (HR.o.below BW.o);obtain ⟨y1,y2⟩:=set7 (HR.o.below BW.o) (.string ⟨#[]⟩) (.slice none 0 0) (.string ⟨#[]⟩) (.bool false) (.int .i64 0) (.slice none 0 0) (.slice none 0 0);have HY:=Hd y1;have HBE:=Hd (BWW.o.trans (y2.below BWW.o.size (fun k (q:k=rx)=>by have:=HRX.o;omega)));clear y1 y2 HR HLN HNO HOL i0;go_wp2;have l:=ZaD (P:=Tryz.prog) (ty:=44) HY.o Tryz.underlying44 rfl Zbz;refine bodyPost_ret (v:=.tuple #[.string ⟨#[]⟩,mthZ,.bool false]) ?_ rfl ⟨HBE.o,.inl ⟨HRN.o,rfl⟩⟩;simp only [results,Tryz.results122];simp [asAddr,l,mthZ]
    | some i=>
     have hil:=HOL.o i rfl;obtain ⟨en,hen⟩:∃ en,(newT cs)[i]? = some en:=⟨_,Yaa hil⟩
     have hx:(allR cs)[i]? = some en.cls:=by rw [Zdx,hen];rfl
     obtain ⟨v1,hv1,_,hcl1⟩:=Src.elem2 (ClsR.st.below HSX.o BWW.o) i en.cls hx;have HV1:=Hd hv1;obtain ⟨_,_,_,rfl,hl1,hf1,hm1⟩:=hv1;obtain ⟨lo1,lc1,rfl⟩:=hl1.shape;obtain ⟨fo1,fc1,rfl⟩:=hf1.shape;obtain ⟨mo1,mc1,rfl⟩:=hm1.shape;have HM1:=Hd hm1;have HCC:Hid (∀ V,Below wr.heap.size wr V->V.cell? ⟨b1,o1+i * 8,none⟩=some (.string (S en.cls.name))/\V.cell? ⟨b1,o1+i * 8+1,none⟩=some (.string (S en.cls.sup))/\V.cell? ⟨b1,o1+i * 8+2,none⟩=some (.slice lo1 en.cls.like.length lc1)/\V.cell? ⟨b1,o1+i * 8+3,none⟩=some (.bool en.cls.itf)/\V.cell? ⟨b1,o1+i * 8+4,none⟩=some (.bool en.cls.abs)/\V.cell? ⟨b1,o1+i * 8+5,none⟩=some (.bool en.cls.fin)/\V.cell? ⟨b1,o1+i * 8+6,none⟩=some (.slice fo1 en.cls.flds.length fc1)/\V.cell? ⟨b1,o1+i * 8+7,none⟩=some (.slice mo1 en.cls.mths.length mc1)):=Hd (fun V hV=>
      have ho:=Yad (S:=fun _=>False) hV
      ⟨ho.cell (a:=⟨b1,o1+i * 8,none⟩) (hcl1 0 _ rfl) id,ho.cell (a:=⟨b1,o1+i * 8+1,none⟩) (hcl1 1 _ rfl) id,ho.cell (a:=⟨b1,o1+i * 8+2,none⟩) (hcl1 2 _ rfl) id,ho.cell (a:=⟨b1,o1+i * 8+3,none⟩) (hcl1 3 _ rfl) id,ho.cell (a:=⟨b1,o1+i * 8+4,none⟩) (hcl1 4 _ rfl) id,ho.cell (a:=⟨b1,o1+i * 8+5,none⟩) (hcl1 5 _ rfl) id,ho.cell (a:=⟨b1,o1+i * 8+6,none⟩) (hcl1 6 _ rfl) id,ho.cell (a:=⟨b1,o1+i * 8+7,none⟩) (hcl1 7 _ rfl) id⟩)
     have i0:idxV (some i)=(i:Int):=rfl;have i1:(0:Int)<=(i:Int):=by omega
     have i2:(i:Int)<(m:Int):=by have:=HMM.o;omega
     have HNM2:Hid (nmE (newT cs) i=en.cls.name):=Hd (ZhJ hen);have HUP:Hid (Zad (newT cs) en.cls.sup=en.up):=Hd (hL2.o.sup hen);have HUL:Hid (∀ j,en.up=some j->j<(newT cs).length):=Hd (fun j hj=>HW.o.upj i en j hen hj);have HLI:Hid (Zap (newT cs) (some i)=i :: Zap (newT cs) en.up):=Hd (HW.o.line hen);have HEN:=Hd hen;rw [i0];clear hcl1 hl1 hf1 hm1 hx hil hen i0 HOL;have HIC:=Hd (HLK.o i en _ wr HEN.o BWW.o HV1.o);obtain ⟨d0,d1,d2,d3,d4,d5,d6,d7⟩:=HCC.o wr (Yab _ _)
     go_wp2_with fail
     with_reducible refine HIC.o.mono ?_
     rintro e w6 ⟨hb6,hcase⟩;have B6:=Hd (BW.o.trans (hb6.mono BW.o.size));have BW6:=Hd (BWW.o.trans (hb6.mono BWW.o.size));have HB66:=Hd hb6;clear d0 d1 d2 d3 d4 d5 d6 d7 hb6 HIC;rcases hcase with ⟨hrn,rfl⟩|⟨x,mm,vv,hrs,rfl,hmv⟩
     ·have HN2:Hid ((L1++[i]).findSome? (fun d=>ZbP (newT cs) (ownG (newT cs) n) (newT cs).length (lkOf (newT cs) d))=none):=Hd (by
       rw [Ybb,HNO.o,Ybx];simp [hrn])
      have HLN2:Hid (Zap (newT cs) (Zad (newT cs) c)=(L1++[i])++Zap (newT cs) en.up):=Hd (by rw [HLN.o,HLI.o];simp);have HME:Hid ((Zap (newT cs) en.up).length<(Zap (newT cs) (some i)).length):=Hd (by rw [HLI.o,YaI];omega);have hba:=Zaa (Yab w6.heap.size w6) (.cells #[.string ⟨#[]⟩,.slice none 0 0,.string ⟨#[]⟩,.bool false,.int .i64 0,.slice none 0 0,.slice none 0 0] 44);have BA:=Hd (B6.o.trans (hba.mono B6.o.size));have BWA:=Hd (BW6.o.trans (hba.mono BW6.o.size));obtain ⟨a0,a1,a2,a3,a4,a5,a6,a7⟩:=HCC.o _ (HB66.o.trans (hba.mono HB66.o.size));have HFS:=Hd (HF.o en.cls.sup _ BWA.o);clear hrn HNO HLN HLI hba;unfold mthZ
      go_upto_region 11 with fail
      generalize w6.alloc (.cells #[.string ⟨#[]⟩,.slice none 0 0,.string ⟨#[]⟩,.bool false,.int .i64 0,.slice none 0 0,.slice none 0 0] 44)=W7 at BA BWA a0 a1 a2 a3 a4 a5 a6 a7 HFS ⊢
      go_wp2_with fail
      with_reducible refine HFS.o.mono ?_
      rintro e w9 ⟨rfl,hb9⟩;have B9:=Hd (BA.o.trans (hb9.mono BA.o.size));rw [HUP.o];clear hb9 a0 a1 a2 a3 a4 a5 a6 a7 HFS;go_wp2
      go_roundw
      case rel=>exact ⟨en.up,L1++[i],rfl,HUL.o,HLN2.o,HN2.o,B9.o⟩
      case measure=>rw [Zfo,ZhM];exact HME.o
     ·have HRZ:Hid (r=some (x,mm)):=Hd (by
       rw [HRE2.o,HLN.o,Ybb,HNO.o,Ybx,HLI.o,YbE,hrs])
      have HMV:=Hd hmv;obtain ⟨_,_,_,rfl,⟨po2,pc2,rfl⟩,⟨co2,cc2,rfl⟩,⟨ko2,kc2,rfl⟩⟩:=Zam hmv;have hba:Below w6.heap.size w6 (w6.alloc (.cells #[.string (S mm.name),.slice po2 mm.params.length pc2,.string (S mm.res),.bool mm.abs,.int .i64 mm.loc,.slice co2 mm.code.length cc2,.slice ko2 mm.cats.length kc2] 44)):=Zaa (Yab _ _) _;have HD7:=Hd (Box.new w6 #[.string (S mm.name),.slice po2 mm.params.length pc2,.string (S mm.res),.bool mm.abs,.int .i64 mm.loc,.slice co2 mm.code.length cc2,.slice ko2 mm.cats.length kc2] 44);have HMV7:=Hd (MthR.st.keep HMV.o (Yad (S:=fun _=>False) hba) (fun _ _=>id));have B7:=Hd (B6.o.trans (hba.mono B6.o.size));have BW7:=Hd (BW6.o.trans (hba.mono BW6.o.size));clear hrs hmv hba HMV
      go_upto_region 11 with fail
      generalize hWD:w6.alloc (.cells #[.string (S mm.name),.slice po2 mm.params.length pc2,.string (S mm.res),.bool mm.abs,.int .i64 mm.loc,.slice co2 mm.code.length cc2,.slice ko2 mm.cats.length kc2] 44)=W7 at HD7 B7 BW7 HMV7 ⊢;obtain ⟨be,hbe⟩:∃ be,be=w6.heap.size:=⟨_,rfl⟩
      have HBE2:Hid (be ≠ rx):=Hd (by have:=HR.o.lt;have:=B6.o.size;omega);rw [←hbe] at HD7 ⊢;clear hWD hbe B6 BW6;obtain ⟨g0,g1,g2,g3,g4,g5,g6⟩:=ZdQ HD7.o;obtain ⟨f0,f1,f2,f3,f4,f5,f6⟩:=Zhl (HR.o.below B7.o);obtain ⟨k0,k1,k2,k3,k4,k5,k6⟩:=ZdQ (HR.o.below B7.o);obtain ⟨y1,y2⟩:=set7 (HR.o.below B7.o) (.string (S mm.name)) (.slice po2 mm.params.length pc2) (.string (S mm.res)) (.bool mm.abs) (.int .i64 mm.loc) (.slice co2 mm.code.length cc2) (.slice ko2 mm.cats.length kc2)
      go_upto_region 12 with fail
      go_region
      all_goals
       have HY:=Hd (y1.below (Zab (Yab _ _)));have HBE:=Hd (BW7.o.trans (y2.drew.below BW7.o.size (fun k (q:k=rx)=>by have:=HRX.o;omega)));have HMF:=Hd (MthR.st.keep HMV7.o y2.drew (fun k (hk:k<s0) (q:k=rx)=>by have:=HRX.o;have:=HS0.o;omega));clear y1 y2 g0 g1 g2 g3 g4 g5 g6 HD7 f0 f1 f2 f3 f4 f5 f6 k0 k1 k2 k3 k4 k5 k6 HR;go_wp2;have l:=ZaD (P:=Tryz.prog) (ty:=44) HY.o Tryz.underlying44 rfl Zbz;refine bodyPost_ret (v:=.tuple #[.string (S (nmE (newT cs) x)),.agg #[.string (S mm.name),.slice po2 mm.params.length pc2,.string (S mm.res),.bool mm.abs,.int .i64 mm.loc,.slice co2 mm.code.length cc2,.slice ko2 mm.cats.length kc2],.bool true]) ?_ rfl ⟨HBE.o,.inr ⟨x,mm,_,HRZ.o,rfl,HMF.o⟩⟩;simp only [results,Tryz.results122];simp [asAddr,l]
abbrev ZfF (lo:Nat) (w:World) (v:Value) (l:List Nat):Prop:=TRow 1 3 (Flat natV) lo w v l (l.map natV)
def PutT (lo:Nat) (l:List Nat) (w:World) (v:Value) (e:Ending) (w':World):Prop:=∃ v',e=.returned v'/\ZfF lo w' v' l/\Grew w v w' v'
theorem Znq {es:List Ent} (ha:Acyc es) (hp:Zc3 es) (f:Nat) {out:List Nat} {o:Option Nat} (ho:∀ i,o=some i->i<es.length) (hn:out.Nodup) (hb:∀ x ∈ out,x<es.length):(putO es f out o).Nodup/\∀ x ∈ putO es f out o,x<es.length:=by
 cases o with
 | none=>exact ⟨hn,hb⟩
 | some i=>
  have h:=ZgD ha hp f out i (ho i rfl) hn hb;exact ⟨h.1,fun x hx=>(h.2 x hx).1⟩
theorem Zo3 {A:Nat->Prop} (cs:List Cls) (hL:Lined cs) (W:Wise (newT cs)) (sv:Value) (w0:World) (hs:Src 8 ClsR A w0 sv (allR cs)) :
  ∀ (f:Nat) (o:Option Nat) (out:List Nat) (v:Value) (w:World),(∀ i,o=some i->Zga (newT cs) f i/\i<(newT cs).length)->out.Nodup->(∀ x ∈ out,x<(newT cs).length)->Below w0.heap.size w0 w->ZfF w0.heap.size w v out->
   Calls Tryz.prog 56 #[sv,v,.int .i64 8,.int .i64 (idxV o)] w (PutT w0.heap.size (putO (newT cs) f out o) w v):=by
 intro f;induction f with
 | zero=>
  intro o out v w hd hnd hbd hw ht;cases o with
  | some i=>exact (hd i rfl).1.elim
  | none=>
   have HT:=Hd ht;obtain ⟨so,sc,rfl⟩:=hs.shape;obtain ⟨to2,tc,rfl⟩:=ht.shape;have i0:idxV none=(-1:Int):=rfl;rw [i0];unfold PutT;have HR:Hid (putO (newT cs) 0 out none=out):=Hd rfl;generalize putO (newT cs) 0 out none=r at HR ⊢;clear hs hd hnd hbd hw ht;go_enter Tryz.func56,Tryz.ntmps56;go_wp2;go_ret;exact ⟨_,rfl,by rw [HR.o];exact HT.o,Grew.refl _ _⟩
 | succ f ih=>
  intro o out v w hd hnd hbd hw ht;have HT:=Hd ht;have HS:=Hd hs;have HW:=Hd hw;have HND:=Hd hnd;have HBD:=Hd hbd;cases o with
  | none=>
   obtain ⟨so,sc,rfl⟩:=hs.shape;obtain ⟨to2,tc,rfl⟩:=ht.shape;have i0:idxV none=(-1:Int):=rfl;rw [i0];unfold PutT;have HR:Hid (putO (newT cs) (f+1) out none=out):=Hd rfl;generalize putO (newT cs) (f+1) out none=r at HR ⊢;clear hs hd hnd hbd hw ht ih;go_enter Tryz.func56,Tryz.ntmps56;go_wp2;go_ret;exact ⟨_,rfl,by rw [HR.o];exact HT.o,Grew.refl _ _⟩
  | some i=>
   obtain ⟨hdi,hil⟩:=hd i rfl;have HDI:Hid (∀ d ∈ parE (newT cs) i,Zga (newT cs) f d):=Hd hdi;have i0:idxV (some i)=(i:Int):=rfl;rw [i0];have HR:Hid (putO (newT cs) (f+1) out (some i)=if i<8\/i ∈ out then out else (parE (newT cs) i).foldl (putE (newT cs) f) out++[i]):=Hd rfl;unfold PutT;generalize putO (newT cs) (f+1) out (some i)=r at HR ⊢;by_cases h8:i<8
   ·obtain ⟨so,sc,rfl⟩:=hs.shape;obtain ⟨to2,tc,rfl⟩:=ht.shape;have HR2:Hid (r=out):=Hd (by rw [HR.o,YaC (.inl h8)]);have h8i:(i:Int)<8:=by omega
    clear hs hd hnd hbd hw ht ih hdi hil i0 HR HDI h8;go_enter Tryz.func56,Tryz.ntmps56;go_wp2;go_ret;exact ⟨_,rfl,by rw [HR2.o];exact HT.o,Grew.refl _ _⟩
   ·have h8i:¬ (i:Int)<8:=by omega
    obtain ⟨en,hen⟩:∃ en,(newT cs)[i]? = some en:=⟨_,Yaa hil⟩
    have hx:(allR cs)[i]? = some en.cls:=by rw [Zdx,hen];rfl
    have HXC:=Hd hx;have him:i<(allR cs).length:=(Yag.1 hx).1;have HKL:Hid (en.cls.like.length<=1000):=Hd (hL.like_len en.cls (Yaf hx));have HUPS:Hid ((en.cls.sup :: en.cls.like).map (Zad (newT cs))=en.up :: en.lk.map some):=Hd (hL.upsMap hen);have HUPS2:=HUPS;have HFD:Hid ((en.up :: en.lk.map some).foldl (putO (newT cs) f) out=(parE (newT cs) i).foldl (putE (newT cs) f) out):=Hd (Zpc hen f out);have HPI:Hid (∀ o ∈ en.up :: en.lk.map some,∀ d,o=some d->Zga (newT cs) f d/\d<(newT cs).length):=Hd (fun o ho d hd=>by
     have hm:d ∈ parE (newT cs) i:=by
      rw [ZcK hen];unfold Ent.par;subst hd;rcases Yav.1 ho with e|e
      ·rw [←e];simp
      ·obtain ⟨d2,h1,h2⟩:=Ya6.1 e;obtain rfl:=Yae h2;exact YaZ _ h1
     exact ⟨HDI.o d hm,W.par i d hm⟩)
    have HF:Hid (∀ x V,Below w0.heap.size w0 V->Calls Tryz.prog 53 #[sv,.string (S x)] V (fun e w'=>e=.returned (.int .i64 (idxV (Zad (newT cs) x)))/\Below V.heap.size V w')):=Hd (fun x V hV=>Zcw cs hL.len sv x V (ClsR.st.below hs hV));have HP:Hid (∀ (o:Option Nat) (l:List Nat) (u:Value) (V:World),(∀ i,o=some i->Zga (newT cs) f i/\i<(newT cs).length)->l.Nodup->(∀ x ∈ l,x<(newT cs).length)->Below w0.heap.size w0 V->ZfF w0.heap.size V u l->
      Calls Tryz.prog 56 #[sv,u,.int .i64 8,.int .i64 (idxV o)] V (PutT w0.heap.size (putO (newT cs) f l o) V u)):=Hd (fun o l u V h1 h2 h3 h4 h5=>ih o l u V h1 h2 h3 h4 h5)
    have HFINE:Hid (∀ (o:Option Nat) (l:List Nat),o ∈ en.up :: en.lk.map some->l.Nodup->(∀ x ∈ l,x<(newT cs).length)->(putO (newT cs) f l o).Nodup/\∀ x ∈ putO (newT cs) f l o,x<(newT cs).length):=Hd (fun o l ho h1 h2=>Znq W.ac W.par f (fun d hd=>(HPI.o o ho d hd).2) h1 h2);have hp9:=ZcI (newT cs).length out hnd hbd;have hp8:out.length<=1008:=by have:=ZaR cs;have:=hL.len;omega
    have HNL:Hid ((newT cs).length<=1008):=Hd (by rw [ZaR];have:=hL.len;omega);obtain ⟨so,sc,rfl⟩:=hs.shape;obtain ⟨to2,tc,rfl⟩:=ht.shape;obtain ⟨p,hp⟩:∃ p,p=out.length:=⟨_,rfl⟩
    have HPL:=Hd hp;rw [←hp] at HT hp8 ⊢;obtain ⟨m,hm9⟩:∃ m,m=(allR cs).length:=⟨_,rfl⟩
    rw [←hm9] at HF HP HS him ⊢;have HTS:=Hd (HT.o.src (Flat.stays _));have i1:(0:Int)<=(i:Int):=by omega
    have i2:(i:Int)<(m:Int):=by omega
    unfold PutT at HP;clear hs hd hnd hbd hw ht ih hdi hil i0 HDI hen hx him hp hm9 W hL hp9;go_enter Tryz.func56,Tryz.ntmps56;go_wp2
    go_loopw [9] (fun v9 wr=>∃ k:Nat,k<=p/\v9=.int .i64 k/\i ∉ out.take k/\wr=w) (fun v9 _=>p - (intOf v9).toNat)
    case atStart=>exact ⟨0,Yai _,rfl,by simp,rfl⟩
    case round=>
     obtain ⟨k,hk,rfl,hno,hww⟩:=hrel;subst hww;obtain ⟨wo,rfl⟩:∃ wo,wo=wr:=⟨_,rfl⟩
     by_cases hlt:k<p
     ·obtain ⟨x,hx⟩:∃ x,out[k]? = some x:=⟨_,Yaa (by rw [←HPL.o];exact hlt)⟩
      obtain ⟨b2,o2,u,rfl,hu,_,hcl⟩:=Src.elem HTS.o k x hx;obtain rfl:=hu;have e0:wo.cell? ⟨b2,o2+k,none⟩=some (.int .i64 (x:Nat)):=by have q:=hcl 0 _ rfl;rw [YaG] at q;exact q
      have hk0:(0:Int)<=(k:Int):=by omega
      have hkp:(k:Int)<(p:Int):=by omega
      have HX:=Hd hx;have HNO:=Hd hno;clear hcl hx hno;by_cases hxi:x=i
      ·have hxj:(x:Int)=(i:Int):=by omega
       have HR2:Hid (r=out):=Hd (by rw [HR.o,YaC (.inr (hxi ▸ Yaf HX.o))]);clear hxi HR;go_wp2;go_ret;exact ⟨_,rfl,by rw [HR2.o];exact HT.o,Grew.refl _ _⟩
      ·have hxj:¬ (x:Int)=(i:Int):=by omega
       have HN2:Hid (i ∉ out.take (k+1)):=Hd (by
        rw [YaL,HX.o];simp only [Option.toList_some,Yao,YaA,not_or];exact ⟨HNO.o,fun e=>hxi e.symm⟩)
       clear hxi;go_wp2
       go_roundw
       case rel=>exact ⟨k+1,by omega,by go_num,HN2.o,trivial⟩
       case measure=>simp [intOf];omega
     ·obtain rfl:k=p:=by omega
      have HNI:Hid (i ∉ out):=Hd (by rw [HPL.o,YaJ] at hno;exact hno);have HR2:Hid (r=((en.cls.sup :: en.cls.like).map (Zad (newT cs))).foldl (putO (newT cs) f) out++[i]):=Hd (by
       rw [HR.o,Yas (fun q=>q.elim (fun q=>h8 q) HNI.o),HUPS.o,HFD.o])
      have hsw:=ClsR.st.below HS.o HW.o;obtain ⟨b1,o1,v1,rfl,hv,_,hcl⟩:=Src.elem hsw i en.cls HXC.o;obtain ⟨lv,fv,mv,rfl,hlv,_,_⟩:=hv;obtain ⟨lo,lc,rfl⟩:=hlv.shape;have HCC:Hid (∀ V,Below wo.heap.size wo V->V.cell? ⟨b1,o1+i * 8+1,none⟩=some (.string (S en.cls.sup))/\V.cell? ⟨b1,o1+i * 8+2,none⟩=some (.slice lo en.cls.like.length lc)):=Hd (fun V hV=>
       have ho:=Yad (S:=fun _=>False) hV
       ⟨ho.cell (a:=⟨b1,o1+i * 8+1,none⟩) (hcl 1 _ rfl) id,ho.cell (a:=⟨b1,o1+i * 8+2,none⟩) (hcl 2 _ rfl) id⟩)
      have HLV:=Hd hlv;have HAP:Hid (∀ V v3 ty,TRow 1 9 StrR wo.heap.size V v3 [en.cls.sup] [.string (S en.cls.sup)]->Below wo.heap.size wo V->∃ v' w',(Builtin.append_ #[22,22] ty #[v3,.slice lo en.cls.like.length lc]).run Tryz.prog V=.ok v' w'/\TRow 1 9 StrR wo.heap.size w' v' (en.cls.sup :: en.cls.like) ((en.cls.sup :: en.cls.like).map strV)/\Below wo.heap.size wo w'):=Hd (fun V v3 ty t hV=>by
       obtain ⟨v',w',hr,q1,q2⟩:=ZcN wo.heap.size V v3 _ ty [en.cls.sup] en.cls.like t hV.size (StrR.st.below HLV.o hV) (by have:=HKL.o;simp;omega);exact ⟨v',w',hr,q1,hV.trans (q2.only.below hV.size (fun g hg=>t.own g hg))⟩)
      have hB:=Yab wo.heap.size wo;obtain ⟨c1,c2⟩:=HCC.o wo hB;have t0:=(ZgM wo.heap.size wo (Yac _) en.cls.sup).below StrR.st (Zab (Yab _ _));have b0:Below wo.heap.size wo (wo.alloc (.cells #[.string (S en.cls.sup)] 9)).drew:=Zab (Zaa (Yab _ _) _);have T0:=Hd t0;have B0:=Hd b0;clear t0 b0 hcl hlv hsw hno HR HUPS HFD
      go_upto_region 8 with fail
      go_cut [10] (fun s10 wx=>∃ us,TRow 1 9 StrR wo.heap.size wx s10 (en.cls.sup :: en.cls.like) us/\Below wo.heap.size wo wx)
      case first=>
       first
       | (go_region_held3 (fun V=>V.cell? ⟨b1,o1+i * 8+1,none⟩=some (.string (S en.cls.sup))/\V.cell? ⟨b1,o1+i * 8+2,none⟩=some (.slice lo en.cls.like.length lc)) ((refine HCC.o _ ?_;(repeat (first|(with_reducible exact Yab _ _)|(with_reducible assumption)|(with_reducible refine Zab ?_)|(with_reducible refine Zaa ?_ _)))))
         ((obtain ⟨v2,w2,hr,t2,b2⟩:=HAP.o _ _ 22 T0.o B0.o;refine ZaY (by rfl) _ _ 22 (by rfl) _ _ v2 w2 (by rfl) (by rfl) hr ?_)))
       | fail
       all_goals
        go_wp2_with fail
        go_meet
        exact ⟨_,t2,b2⟩
      case rest=>
       obtain ⟨us,ht,hb2⟩:=hcut;have B2:=Hd hb2;have HUP:=Hd (ht.src StrR.st);obtain ⟨uo,uc,rfl⟩:=ht.shape;obtain ⟨ups,hups⟩:∃ ups,ups=en.cls.sup :: en.cls.like:=⟨_,rfl⟩
       rw [←hups] at HUP ⊢;have HUS:=Hd hups;obtain ⟨q,hq⟩:∃ q,q=ups.length:=⟨_,rfl⟩
       rw [←hq] at HUP ⊢;have HQ:=Hd hq;have hq9:q<=1001:=by have:=HKL.o;rw [hq,hups,YaI];omega
       have HMEM:Hid (∀ x ∈ ups,Zad (newT cs) x ∈ en.up :: en.lk.map some):=Hd (fun x hx=>by rw [←HUPS2.o,←hups];exact Ya6.2 ⟨x,hx,rfl⟩);have HT2:=Hd (HT.o.below (Flat.stays _) hb2);have HWC:=Hd (HW.o.trans (hb2.mono HW.o.size));have HOW:Hid (∀ g,(Value.slice to2 k tc).ownBlock=some g->g<wo.heap.size):=Hd (fun g hg=>HT.o.lt g hg);have HG0:Hid (Grew wo (.slice to2 k tc) wc (.slice to2 k tc)):=Hd ⟨Yad hb2,.inl rfl⟩;clear hups hq ht hb2 c1 c2 hB HAP HCC T0 B0 HLV HT HTS;go_wp2
       go_loopw [1,11] (fun v1 v11 wk=>∃ j:Nat,j<=q/\v11=.int .i64 j/\ZfF w0.heap.size wk v1 (((ups.take j).map (Zad (newT cs))).foldl (putO (newT cs) f) out)/\(((ups.take j).map (Zad (newT cs))).foldl (putO (newT cs) f) out).Nodup/\(∀ x ∈ ((ups.take j).map (Zad (newT cs))).foldl (putO (newT cs) f) out,x<(newT cs).length)/\Grew wc (.slice to2 k tc) wk v1) (fun _ v11 _=>q - (intOf v11).toNat)
       case atStart=>exact ⟨0,Yai _,rfl,HT2.o,HND.o,HBD.o,Grew.refl _ _⟩
       case round=>
        obtain ⟨j,hj,rfl,hti,hndi,hbdi,hgi⟩:=hrel;have HTI:=Hd hti;have HNDI:=Hd hndi;have HBDI:=Hd hbdi;have HGI:=Hd hgi;have HWI:Hid (Below w0.heap.size w0 wr):=Hd (HWC.o.trans (hgi.only.below HWC.o.size (fun b hb=>HT2.o.own b hb)));obtain ⟨ro,rc,rfl⟩:=hti.shape;clear hti hndi hbdi hgi;by_cases hltj:j<q
        ·obtain ⟨x,hx⟩:∃ x,ups[j]? = some x:=⟨_,Yaa (by rw [←HQ.o];exact hltj)⟩
         obtain ⟨b6,o6,u,rfl,hu,_,hcl⟩:=Src.elem (StrR.st.src HUP.o HGI.o.only (fun y (hy:wo.heap.size<=y) (e:_=some y)=>by have:=HOW.o y e;omega)) j x hx;obtain rfl:=hu;have c0:wr.cell? ⟨b6,o6+j,none⟩=some (.string (S x)):=by have q:=hcl 0 _ rfl;rw [YaG] at q;exact q
         have HCF:=Hd (HF.o x wr HWI.o);have HOM:=Hd (HMEM.o x (Yaf hx));have HTK:Hid (((ups.take (j+1)).map (Zad (newT cs))).foldl (putO (newT cs) f) out=putO (newT cs) f (((ups.take j).map (Zad (newT cs))).foldl (putO (newT cs) f) out) (Zad (newT cs) x)):=Hd (by
          rw [YaL,hx];simp)
         generalize ((ups.take j).map (Zad (newT cs))).foldl (putO (newT cs) f) out=cur at HTI HNDI HBDI HTK HGI ⊢;have hk0:(0:Int)<=(j:Int):=by omega
         have hkq:(j:Int)<(q:Int):=by omega
         clear hcl hx
         go_wp2_with fail
         with_reducible refine HCF.o.mono ?_
         rintro e w3 ⟨rfl,hb3⟩;have HW3:=Hd (HWI.o.trans (hb3.mono HWI.o.size));have HT3:=Hd (HTI.o.below (Flat.stays _) hb3);have HG3:Hid (Grew wc (.slice to2 k tc) w3 (.slice ro cur.length rc)):=Hd (HGI.o.trans ⟨Yad hb3,.inl rfl⟩);have HPC:=Hd (HP.o (Zad (newT cs) x) cur _ w3 (HPI.o _ HOM.o) HNDI.o HBDI.o HW3.o HT3.o);have HFN:=Hd (HFINE.o (Zad (newT cs) x) cur HOM.o HNDI.o HBDI.o);clear hb3 c0 HCF
         go_wp2_with fail
         with_reducible refine HPC.o.mono ?_
         rintro e w4 ⟨v',rfl,ht4,hg4⟩;have HT4:=Hd ht4;have HG4:=Hd (HG3.o.trans hg4);obtain ⟨xo,xc,rfl⟩:=ht4.shape;clear ht4 hg4 HPC;go_wp2
         go_roundw
         case rel=>exact ⟨j+1,by omega,by go_num,by rw [HTK.o];exact HT4.o,by rw [HTK.o];exact HFN.o.1,by rw [HTK.o];exact HFN.o.2,HG4.o⟩
         case measure=>simp [intOf];omega
        ·obtain rfl:j=q:=by omega
         have HTF:Hid (((ups.take j).map (Zad (newT cs))).foldl (putO (newT cs) f) out=(ups.map (Zad (newT cs))).foldl (putO (newT cs) f) out):=Hd (by rw [HQ.o,YaJ]);rw [HTF.o] at HTI HNDI HBDI HGI ⊢;have HR3:Hid (r=(ups.map (Zad (newT cs))).foldl (putO (newT cs) f) out++[i]):=Hd (by rw [HR2.o,←HUS.o]);generalize (ups.map (Zad (newT cs))).foldl (putO (newT cs) f) out=cur at HTI HNDI HBDI HR3 HGI ⊢;have hbA:Below wr.heap.size wr (wr.alloc (.cells #[.int .i64 (i:Nat)] 3)):=Zaa (Yab _ _) _;have hln:=ZcI (newT cs).length cur HNDI.o HBDI.o;obtain ⟨v',w',hr,ht',hG⟩:=ZiG w0.heap.size (wr.alloc (.cells #[.int .i64 (i:Nat)] 3)) (.slice ro cur.length rc) (.slice (some ⟨wr.heap.size,0,none⟩) 1 1) 38 cur [i] (HTI.o.below (Flat.stays _) hbA) (HWI.o.trans (hbA.mono HWI.o.size)).size (Zi6 (f:=natV) (fun _=>rfl) wr i 3) (by have:=HNL.o;simp;omega);have HAR:=Hd hr;obtain ⟨xo,xc,hvx⟩:=ht'.shape;rw [show (cur++[i]).length=cur.length+1 by simp] at hvx;subst hvx;have HT5:=Hd ht';have HG5:Hid (Grew wo (.slice to2 k tc) w' _):=Hd ((HG0.o.trans HGI.o).trans (Grew.trans ⟨Yad hbA,.inl rfl⟩ hG));clear hbA hr ht' hG hln
         go_wp2_with (at_builtin;refine Zak rfl _ _ 38 rfl _ _ _ w' rfl rfl HAR.o ?_)
         go_wp2;go_ret;exact ⟨_,rfl,by rw [HR3.o];exact HT5.o,HG5.o⟩
