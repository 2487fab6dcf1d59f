/- laws -/
import Derived.Test.YtggcdinoflchjaaGreatDoorK64
set_option maxRecDepth 100000
set_option maxHeartbeats 16000000
namespace Go.Proofs.YtggcdinoflchjaaGreatDoor
open Go.RowKit
theorem Zhm:givenL.length=8:=rfl
theorem Ziu (cs:List Cls) (k:Nat):(Zaw cs k).map Ent.cls=givenL++cs.take k:=by
 unfold Zaw;rw [Ya4,Zf4,YbX]
 congr 1
 conv=>rhs;rw [←List.map_id (cs.take k)]
 rfl
theorem ZoG {cs:List Cls} {k:Nat} {c:Cls} (hc:cs[k]? = some c):Za2 (allR cs) c.name=some (8+k)↔Zad (Zaw cs k) c.name=none:=by
 obtain ⟨hk,hce⟩:=Yag.1 hc;have e1:allR cs=(givenL++cs.take k)++(c :: cs.drop (k+1)):=by
  unfold allR;rw [YaW]
  congr 1
  have h:=Ya1 k cs;rw [YbK hk,hce] at h;exact h.symm
 have e2:Zad (Zaw cs k) c.name=Za2 (givenL++cs.take k) c.name:=by rw [ZdH,Ziu]
 have hl:(givenL++cs.take k).length=8+k:=by rw [Yak,Zhm,Yay,Ybe (by omega)]
 rw [e1,e2];unfold Za2;rw [Ycw];cases h:(givenL++cs.take k).findIdx? (fun d=>d.name == c.name) with
 | none=>simp [List.findIdx?_cons,hl]
 | some j=>
  have hj:=(YaV.1 h).1;simp
  omega
theorem Zie {cs:List Cls} {j:Nat} {d:Cls} (h:(allR cs)[j]? = some d):Zcn (Zat cs) j=d.itf/\Ze2 (Zat cs) j=d.fin:=by
 rw [←ZcH,Zb8 cs,Yau] at h;obtain ⟨e,he,rfl⟩:=YaU.1 h;exact ⟨Zec he,Zgl he⟩
def upC (cs:List Cls) (c:Cls):Nat:=match upE (Zat cs) c.sup with|none=>61|some _=>if ZaH (Zat cs) c.like=false then 62 else 0
theorem Zpb {cs:List Cls} {c:Cls} (h:upC cs c=0):(upE (Zat cs) c.sup).isSome=true/\ZaH (Zat cs) c.like=true:=by
 unfold upC at h;cases hu:upE (Zat cs) c.sup with
 | none=>rw [hu] at h;cases h
 | some j=>
  rw [hu] at h;dsimp only at h;cases hl:ZaH (Zat cs) c.like with
  | true=>exact ⟨rfl,rfl⟩
  | false=>rw [hl,YaC rfl] at h;cases h
theorem Zqg {cs:List Cls} {c:Cls} (h:upC cs c ≠ 0):upC cs c=61/\upE (Zat cs) c.sup=none\/upC cs c=62/\(upE (Zat cs) c.sup).isSome=true/\ZaH (Zat cs) c.like=false:=by
 unfold upC at h ⊢;cases hu:upE (Zat cs) c.sup with
 | none=>exact .inl ⟨rfl,rfl⟩
 | some j=>
  rw [hu] at h;dsimp only at h ⊢;cases hl:ZaH (Zat cs) c.like with
  | true=>rw [hl,Yas (by decide)] at h;exact absurd rfl h
  | false=>exact .inr ⟨YaC rfl,rfl,rfl⟩
theorem ZqO {cs:List Cls} {c:Cls} (h:Za2 (allR cs) c.sup=none):upC cs c=61:=by
 rw [Zcd] at h;have hu:upE (Zat cs) c.sup=none:=by unfold upE;rw [h]
 unfold upC;rw [hu]
theorem Zqh {cs:List Cls} {c d:Cls} {j:Nat} (h:Za2 (allR cs) c.sup=some j) (hd:(allR cs)[j]? = some d) (hb:d.itf=true\/d.fin=true):upC cs c=61:=by
 obtain ⟨h1,h2⟩:=Zie hd;rw [Zcd] at h;have hu:upE (Zat cs) c.sup=none:=by
  unfold upE;rw [h];show (if (Zcn (Zat cs) j || Ze2 (Zat cs) j)=true then none else some j)=none
  rw [h1,h2,YaC (by rcases hb with e|e <;> rw [e] <;> simp)]
 unfold upC;rw [hu]
theorem ZqP {cs:List Cls} {c d:Cls} {j:Nat} (h:Za2 (allR cs) c.sup=some j) (hd:(allR cs)[j]? = some d) (h3:d.itf=false) (h4:d.fin=false):upC cs c=if ZaH (Zat cs) c.like=false then 62 else 0:=by
 obtain ⟨h1,h2⟩:=Zie hd;rw [Zcd] at h;have hu:upE (Zat cs) c.sup=some j:=by
  unfold upE;rw [h];show (if (Zcn (Zat cs) j || Ze2 (Zat cs) j)=true then none else some j)=some j
  rw [h1,h2,h3,h4];rfl
 unfold upC;rw [hu]
def likB (cs:List Cls) (n:List UInt8):Bool:=(Zce (Zat cs) n).isSome
theorem ZpT {cs:List Cls} {n:List UInt8} (h:Za2 (allR cs) n=none):likB cs n=false:=by
 rw [Zcd] at h;unfold likB Zce;rw [h];rfl
theorem ZpS {cs:List Cls} {n:List UInt8} {d:Cls} {j:Nat} (h:Za2 (allR cs) n=some j) (hd:(allR cs)[j]? = some d):likB cs n=d.itf:=by
 obtain ⟨h1,_⟩:=Zie hd;rw [Zcd] at h;unfold likB Zce;rw [h];dsimp only;rw [h1];cases d.itf <;> rfl
theorem Zfa (cs:List Cls) (l:List (List UInt8)):ZaH (Zat cs) l=l.all (likB cs):=rfl
theorem ZfN {L:List Cls} {n:List UInt8} {j:Nat} (h:Za2 L n=some j):∃ d,L[j]? = some d/\d.name=n:=by
 unfold Za2 at h;obtain ⟨h1,h2,_⟩:=YaV.1 h;exact ⟨_,Yaa h1,by simpa using h2⟩
theorem Zjq {cs:List Cls} {x:Nat} (hx:x<8):¬ Over (newT cs) x x:=by
 have low:∀ i,i<8->∀ d ∈ parE startL i,d<i:=by decide
 have up:∀ {x y:Nat},Up (newT cs) x y->x<8->y<=x:=by
  intro x y h;induction h with
  | refl=>intro _;exact Yac _
  | step h1 _ ih=>
   intro hx;rw [Zcv hx] at h1;have:=low _ hx _ h1;have:=ih (by omega);omega
 rintro ⟨d,hd,hu⟩;rw [Zcv hx] at hd;have h1:=low _ hx _ hd;have:=up hu (by omega);omega
theorem Zma {l:List Bool} {k:Nat} (hk:l[k]? = some true) (hb:∀ j,j<k->l.getD j false=false):firstT l=(k:Nat):=by
 obtain ⟨h1,h2⟩:=Yag.1 hk;have h3:l.findIdx id=k:=by
  refine (List.findIdx_eq h1).2 ⟨h2,fun j hj=>?_⟩;have:=hb j hj;rw [Yam,Yaa (by omega)] at this
  simpa using this
 unfold firstT;rw [h3,YaC h1]
theorem Ziz {l:List Bool} (h:∀ j,j<l.length->l.getD j false=false):firstT l<0:=by
 unfold firstT;rw [Yas]
 ·decide
 ·intro h1;have h2:id (l[l.findIdx id]'h1)=true:=YbU;have h3:=h _ h1;rw [Yam,Yaa h1] at h3;simp at h3 h2
  rw [h2] at h3;cases h3
theorem Lined.flags {cs:List Cls} (h:Lined cs):(ZaI (newT cs) (newT cs).length).loop.length=(newT cs).length/\∀ x,x<(newT cs).length->((ZaI (newT cs) (newT cs).length).loop.getD x false=true↔Over (newT cs) x x):=
 ZdG (by have:=h.len;rw [ZaR];omega) (fun c d hd=>h.par c d hd) h.self
theorem Lined.loop_bad {cs:List Cls} (h:Lined cs) {k:Nat} (hk:k<cs.length) (ho:Over (newT cs) (8+k) (8+k)) (hb:∀ j,j<k->¬ Over (newT cs) (8+j) (8+j)) :
  0<=firstT (ZaI (newT cs) (newT cs).length).loop/\((k:Nat):Int)=firstT (ZaI (newT cs) (newT cs).length).loop - 8:=by
 obtain ⟨h1,h2⟩:=h.flags;have hlen:=ZaR cs;have h3:=(h2 (8+k) (by omega)).2 ho;rw [Zma (k:=8+k)]
 ·omega
 ·rw [Yam,Yaa (by omega)] at h3;rw [Yaa (by omega)]
  simpa using h3
 ·intro j hj;refine Zb9 (fun h4=>?_);have h5:=(h2 j (by omega)).1 h4;rcases YaB j 8 with h6|h6
  ·exact Zjq h6 h5
  ·exact hb (j - 8) (by omega) (by rw [show 8+(j - 8)=j by omega];exact h5)
theorem Lined.loop_none {cs:List Cls} (h:Lined cs) (hb:∀ j,j<cs.length->¬ Over (newT cs) (8+j) (8+j)):firstT (ZaI (newT cs) (newT cs).length).loop<0:=by
 obtain ⟨h1,h2⟩:=h.flags;have hlen:=ZaR cs;refine Ziz (fun j hj=>Zb9 (fun h4=>?_));have h5:=(h2 j (by omega)).1 h4;rcases YaB j 8 with h6|h6
 ·exact Zjq h6 h5
 ·exact hb (j - 8) (by omega) (by rw [show 8+(j - 8)=j by omega];exact h5)
theorem Lined.wise0 {cs:List Cls} (h:Lined cs) (h0:firstT (ZaI (newT cs) (newT cs).length).loop<0):Wise (newT cs):=by
 have ha:Acyc (newT cs):=Zep h.flags h0;exact h.wise (h.shape ha) ha h.goodT
theorem Lined.order_at {cs:List Cls} (h:Lined cs) (h0:firstT (ZaI (newT cs) (newT cs).length).loop<0) (k:Nat):(Zb1 (newT cs) (newT cs).length)[8+k]? = (Zcj (newT cs))[k]?:=by
 rw [h.order (Zep h.flags h0),YaH (by simp)];simp
theorem Lined.chk_bad {cs:List Cls} (h:Lined cs) (h0:firstT (ZaI (newT cs) (newT cs).length).loop<0) {k x:Nat} (hx:(Zcj (newT cs))[k]? = some x) (hn:chkT (newT cs) x ≠ 0) (hb:∀ j y,j<k->(Zcj (newT cs))[j]? = some y->chkT (newT cs) y=0) :
  ∃ (k x':Nat),(Zb1 (newT cs) (newT cs).length)[k]? = some x'/\(x:Int) - 8=(x':Int) - 8/\chkT (newT cs) x=chkT (newT cs) x'/\chkT (newT cs) x' ≠ 0/\∀ j y,j<k->(Zb1 (newT cs) (newT cs).length)[j]? = some y->chkT (newT cs) y=0:=by
 refine ⟨8+k,x,by rw [h.order_at h0];exact hx,rfl,rfl,hn,fun j y hj hy=>?_⟩;rcases YaB j 8 with h1|h1
 ·rw [h.order (Zep h.flags h0),YaP (by simpa using h1),Ybl h1] at hy;rw [←Yae hy];exact ZeU (h.wise0 h0) h1
 ·rw [show j=8+(j - 8) by omega,h.order_at h0] at hy;exact hb (j - 8) y (by omega) hy
theorem Lined.ok {cs:List Cls} (h:Lined cs) (h0:firstT (ZaI (newT cs) (newT cs).length).loop<0) (hb:∀ y ∈ Zcj (newT cs),chkT (newT cs) y=0):NewOk cs:=
 ⟨h,h0,fun x hx=>by
  rw [h.order (Zep h.flags h0)] at hx;rcases Yao.1 hx with h1|h1
  ·exact ZeU (h.wise0 h0) (YbL.1 h1)
  ·exact hb x h1⟩
theorem Lined.anc {cs:List Cls} (h:Lined cs) (h0:firstT (ZaI (newT cs) (newT cs).length).loop<0) {k x:Nat} (hx:(Zcj (newT cs))[k]? = some x) (hxl:x<(newT cs).length) (hb:∀ j y,j<k->(Zcj (newT cs))[j]? = some y->chkT (newT cs) y=0):∀ d ∈ Zap (newT cs) (upAt (newT cs) x),chkT (newT cs) d=0:=fun d hd=>by
 have W:=h.wise0 h0;have hov:Over (newT cs) x d:=by
  cases hu:upAt (newT cs) x with
  | none=>rw [hu,Za6] at hd;cases hd
  | some j=>
   rw [hu] at hd;have he:=Yaa hxl;rw [Zci he] at hu;exact ⟨j,ZbG he hu,W.line_up j (W.upj x _ j he hu) d hd⟩
 rcases Zoc (Zk7 W _ (Yac _)) k x hx d hov with h1|h1
 ·exact ZeU W h1
 ·obtain ⟨j,hj⟩:=Ya0.1 h1;rw [YbI] at hj;split at hj
  ·rename_i hjk
   exact hb j d hjk hj
  ·cases hj
theorem Zlf {A:Nat->Prop} (cs:List Cls) (hL:Lined cs) (W:Wise (newT cs)) (sv:Value) (n f:List UInt8) (w:World) (hs:Src 8 ClsR A w sv (allR cs)) :
  Calls Tryz.prog 119 #[sv,.string (S n),.string (S f)] w (Zfx (ZcL (newT cs) n f) w):=by
 have hch:=W.sh.line (Zad (newT cs) n) (fun i hi=>Za4 hi);have hll:(Zap (newT cs) (Zad (newT cs) n)).length<=10000:=by
  have h2:=ZhB (newT cs) (newT cs).length (Zad (newT cs) n);have h3:=ZaR cs;have h4:=hL.len;unfold Zap;omega
 have HFS:=Hd (ZiV cs hL W sv (Zap (newT cs) (Zad (newT cs) n)) n w hch hll hs);have hlen:(Zbl (newT cs) (Zap (newT cs) (Zad (newT cs) n))).length<=9223372036854775807:=by
  have:=Zgn W.sh.fl (Zap (newT cs) (Zad (newT cs) n));omega
 obtain ⟨so,sc,rfl⟩:=hs.shape;unfold ZnY at HFS;unfold Zfx ZcL;show Calls _ _ _ _ (fun e w'=>e=.returned (.int .i64 (idxV ((Zbl (newT cs) (Zap (newT cs) (Zad (newT cs) n))).findIdx? (fun x=>x.name == f))))/\_)
 generalize Zbl (newT cs) (Zap (newT cs) (Zad (newT cs) n))=fl at HFS hlen ⊢;obtain ⟨m,hm⟩:∃ m,m=(allR cs).length:=⟨_,rfl⟩
 rw [←hm] at HFS ⊢;obtain ⟨q,hq⟩:∃ q,q=fl.length:=⟨_,rfl⟩
 have HQ:=Hd hq;rw [←hq] at hlen;clear hs hch hll hL W hm hq;go_enter Tryz.func119,Tryz.ntmps119
 go_wp2_with fail
 with_reducible refine HFS.o.mono ?_
 rintro e w1 ⟨v,rfl,h1,h2⟩;have HT:=Hd (h1.src FldR.st);obtain ⟨fo,fc,rfl⟩:=h1.shape;have HB1:=Hd h2;rw [←HQ.o] at HT ⊢;clear h1 h2 HFS;go_wp2
 go_loopw [8] (fun v8 wr=>∃ k:Nat,k<=q/\v8=.int .i64 k/\(fl.take k).any (fun x=>x.name == f)=false/\Below w1.heap.size w1 wr) (fun v8 _=>q - (intOf v8).toNat)
 case atStart=>exact ⟨0,Yai _,rfl,by simp,Yab _ _⟩
 case round=>
  obtain ⟨k,hk,rfl,hno,hbw⟩:=hrel;have HNO:=Hd hno;have HB:=Hd hbw;have HBB:=Hd (HB1.o.trans (hbw.mono HB1.o.size));clear hno hbw;by_cases hlt:k<q
  ·obtain ⟨x,hx⟩:∃ x,fl[k]? = some x:=⟨_,Yaa (by rw [←HQ.o];exact hlt)⟩
   obtain ⟨b,o,v,rfl,hv,_,hcl⟩:=Src.elem (FldR.st.below HT.o HB.o) k x hx;obtain rfl:=hv;have d0:wr.cell? ⟨b,o+k * 3,none⟩=some (.string (S x.name)):=hcl 0 _ rfl;have hk0:(0:Int)<=(k:Int):=by omega
   have hkm:(k:Int)<(q:Int):=by omega
   have e1:=Zae x.name;have e2:=Zae f;have HX:=Hd hx;clear hcl hx;by_cases hn:x.name=f
   ·have HF:=Hd (Ziy HX.o HNO.o (by rw [hn];exact Ybf _));have e3:(x.name == f)=true:=by rw [hn];exact Ybf _
    generalize x.name=nx at d0 e1 e3;clear hn HX;go_wp2;go_ret;exact ⟨by rw [HF.o];rfl,HBB.o⟩
   ·have e3:(x.name == f)=false:=Yah.2 hn;have HT2:Hid ((fl.take (k+1)).any (fun c:Fld=>c.name == f)=false):=Hd (by rw [Zah (fun c:Fld=>c.name == f) fl k x HX.o,HNO.o,YaS];exact e3);generalize x.name=nx at d0 e1 e3;clear hn HX;go_wp2
    go_roundw
    case rel=>exact ⟨k+1,by omega,by go_num,HT2.o,HB.o⟩
    case measure=>simp [intOf];omega
  ·obtain rfl:k=q:=by omega
   have HF:Hid (fl.findIdx? (fun x=>x.name == f)=none):=Hd (by
    have h:=HNO.o;rw [HQ.o,YaJ] at h;rw [YbW];intro c hc;have:=YaT.1 h c hc
    simpa using this)
   go_wp2;go_ret;exact ⟨by rw [HF.o];rfl,HBB.o⟩
theorem ZiZ {A A':Nat->Prop} (cs:List Cls) (hlen:cs.length<=1000) (sv v:Value) (c:Cls) (w:World) (hs:Src 8 ClsR A w sv (allR cs)) (hv:ClsR A' w c v) (hlk:c.like.length<=1000) :
  Calls Tryz.prog 54 #[sv,v] w (fun e w'=>e=.returned (.int .i64 ((upC cs c:Nat):Int))/\Below w.heap.size w w'):=by
 obtain ⟨lv,fv,mv,rfl,hl,hf,hm⟩:=hv;obtain ⟨lo,lc,rfl⟩:=hl.shape;obtain ⟨fo,fc,rfl⟩:=hf.shape;obtain ⟨mo,mc,rfl⟩:=hm.shape;obtain ⟨q,hq⟩:∃ q,q=c.like.length:=⟨_,rfl⟩
 rw [←hq] at hl hlk ⊢;have HQ:=Hd hq;have HF:Hid (∀ x V,Below w.heap.size w V->Calls Tryz.prog 53 #[sv,.string (S x)] V (fun e w'=>e=.returned (.int .i64 (idxV (Za2 (allR cs) x)))/\Below V.heap.size V w')):=Hd (fun x V hV=>Zei (allR cs) sv x V (ClsR.st.below hs hV) (by rw [ZcP];omega));have HS:=Hd hs;obtain ⟨so,sc,rfl⟩:=hs.shape;obtain ⟨m,hm9⟩:∃ m,m=(allR cs).length:=⟨_,rfl⟩
 have HM:=Hd hm9;rw [←hm9] at HF HS ⊢;have hbA:Below w.heap.size w (w.alloc (.cells #[.string (S c.name),.string (S c.sup),.slice lo q lc,.bool c.itf,.bool c.abs,.bool c.fin,.slice fo c.flds.length fc,.slice mo c.mths.length mc] 87)):=Zaa (Yab _ _) _;have HX:=Hd (Box.new w #[.string (S c.name),.string (S c.sup),.slice lo q lc,.bool c.itf,.bool c.abs,.bool c.fin,.slice fo c.flds.length fc,.slice mo c.mths.length mc] 87);have HLV:=Hd (StrR.st.below hl hbA);have HBA:=Hd hbA;clear hl hf hm hbA hq hs hm9;go_enter Tryz.func54,Tryz.ntmps54
 go_upto_region 1 with fail
 obtain ⟨bx,hbx⟩:∃ bx,bx=w.heap.size:=⟨_,rfl⟩
 generalize hW:w.alloc (.cells #[.string (S c.name),.string (S c.sup),.slice lo q lc,.bool c.itf,.bool c.abs,.bool c.fin,.slice fo c.flds.length fc,.slice mo c.mths.length mc] 87)=W0 at HX HLV HBA ⊢;rw [←hbx] at HX ⊢;have c1:W0.cell? ⟨bx,1,none⟩=some (.string (S c.sup)):=HX.o.cell 1 rfl;clear hW hbx
 go_wp2_with fail
 with_reducible refine (HF.o c.sup W0 HBA.o).mono ?_
 rintro e w1 ⟨rfl,hb⟩;have B1:=Hd (HBA.o.trans (hb.mono HBA.o.size));have HX1:=Hd (HX.o.below hb);have HLV1:=Hd (StrR.st.below HLV.o hb);clear hb c1 HX HLV HBA;cases hp:Za2 (allR cs) c.sup with
 | none=>
  have HR:=Hd (ZqO (c:=c) hp);have i0:idxV none=(-1:Int):=rfl;rw [i0];clear hp i0;go_wp2;go_ret;exact ⟨by rw [HR.o];rfl,B1.o⟩
 | some j=>
  obtain ⟨d,hd,_⟩:=ZfN hp;have hjm:j<(allR cs).length:=(Yag.1 hd).1;obtain ⟨b1,o1,v,rfl,hv,_,hcl⟩:=Src.elem (ClsR.st.below HS.o B1.o) j d hd;obtain ⟨_,_,_,rfl,_⟩:=hv;have d3:w1.cell? ⟨b1,o1+j * 8+3,none⟩=some (.bool d.itf):=hcl 3 _ rfl;have d5:w1.cell? ⟨b1,o1+j * 8+5,none⟩=some (.bool d.fin):=hcl 5 _ rfl;have i0:idxV (some j)=(j:Int):=rfl;have i1:(0:Int)<=(j:Int):=by omega
  have i2:(j:Int)<(m:Int):=by have:=HM.o;omega
  have i3:decide ((j:Int)<0)=false:=by simp
  rw [i0];have HN1:=Hd (fun hb=>Zqh (c:=c) hp hd hb);have HN2:=Hd (fun h3 h4=>ZqP (c:=c) hp hd h3 h4);clear hp hd hjm hcl i0;generalize d.itf=x3 at d3 HN1 HN2;generalize d.fin=x5 at d5 HN1 HN2;cases x3 with
  | true=>
   have HR:=Hd (HN1.o (.inl rfl));clear HN1 HN2;go_wp2;go_ret;exact ⟨by rw [HR.o];rfl,B1.o⟩
  | false=>
   cases x5 with
   | true=>
    have HR:=Hd (HN1.o (.inr rfl));clear HN1 HN2;go_wp2;go_ret;exact ⟨by rw [HR.o];rfl,B1.o⟩
   | false=>
    have HR:=Hd (HN2.o rfl rfl);clear HN1 HN2;go_wp2
    go_loopw [6] (fun v6 wr=>∃ k:Nat,k<=q/\v6=.int .i64 k/\(c.like.take k).all (likB cs)=true/\Below w1.heap.size w1 wr) (fun v6 _=>q - (intOf v6).toNat)
    case atStart=>exact ⟨0,Yai _,rfl,by simp,Yab _ _⟩
    case round=>
     obtain ⟨k,hk,rfl,hall,hbw⟩:=hrel;have HALL:=Hd hall;have BW:=Hd hbw;have BWW:=Hd (B1.o.trans (hbw.mono B1.o.size));have c2:wr.cell? ⟨bx,2,none⟩=some (.slice lo q lc):=(HX1.o.below hbw).cell 2 rfl;clear hall hbw;by_cases hlt:k<q
     ·obtain ⟨x,hx⟩:∃ x,c.like[k]? = some x:=⟨_,Yaa (by rw [←HQ.o];exact hlt)⟩
      obtain ⟨b2,o2,u,rfl,hu,_,hcl⟩:=Src.elem (StrR.st.below HLV1.o BW.o) k x hx;obtain rfl:=hu;have e0:wr.cell? ⟨b2,o2+k,none⟩=some (.string (S x)):=by have q:=hcl 0 _ rfl;rw [YaG] at q;exact q
      have hk0:(0:Int)<=(k:Int):=by omega
      have hkq:(k:Int)<(q:Int):=by omega
      have HTS:Hid ((c.like.take (k+1)).all (likB cs)=likB cs x):=Hd (by
       rw [YaL,hx];simp [HALL.o])
      have HBAD:Hid (likB cs x=false->ZaH (Zat cs) c.like=false):=Hd (fun h=>by
       rw [Zfa];refine Zb9 (fun h2=>?_);rw [YaE.1 h2 x (Yaf hx)] at h;cases h)
      clear hcl hx HALL
      go_wp2_with fail
      with_reducible refine (HF.o x wr BWW.o).mono ?_
      rintro e w3 ⟨rfl,hb⟩;have B3:=Hd (BW.o.trans (hb.mono BW.o.size));have BW3:=Hd (BWW.o.trans (hb.mono BWW.o.size));clear hb c2 e0;cases hp:Za2 (allR cs) x with
      | none=>
       have HR2:Hid (upC cs c=62):=Hd (by rw [HR.o,YaC (HBAD.o (ZpT hp))]);have i0:idxV none=(-1:Int):=rfl;rw [i0];clear hp i0 HTS HBAD HR;go_wp2;go_ret;exact ⟨by rw [HR2.o];rfl,BW3.o⟩
      | some j2=>
       obtain ⟨d2,hd2,_⟩:=ZfN hp;have hjm:j2<(allR cs).length:=(Yag.1 hd2).1;obtain ⟨b4,o4,v4,he4,hv,_,hcl⟩:=Src.elem (ClsR.st.below HS.o BW3.o) j2 d2 hd2;simp only [Yba,YbF,and_true] at he4;obtain ⟨he5,he6⟩:=he4;subst he5 he6;obtain ⟨_,_,_,rfl,_⟩:=hv;have d3:w3.cell? ⟨b1,o1+j2 * 8+3,none⟩=some (.bool d2.itf):=hcl 3 _ rfl;have i0:idxV (some j2)=(j2:Int):=rfl;have i1:(0:Int)<=(j2:Int):=by omega
       have i2:(j2:Int)<(m:Int):=by have:=HM.o;omega
       have i3:decide ((j2:Int)<0)=false:=by simp
       rw [i0];have HLB:=Hd (ZpS hp hd2);clear hp hd2 hjm hcl i0;generalize d2.itf=x3 at d3 HLB;cases x3 with
       | false=>
        have HR2:Hid (upC cs c=62):=Hd (by rw [HR.o,YaC (HBAD.o HLB.o)]);clear HTS HBAD HR;go_wp2;go_ret;exact ⟨by rw [HR2.o];rfl,BW3.o⟩
       | true=>
        have HT2:Hid ((c.like.take (k+1)).all (likB cs)=true):=Hd (by rw [HTS.o];exact HLB.o);have B5:=Hd B3.o;clear HTS HBAD;go_wp2
        go_roundw
        case rel=>exact ⟨k+1,by omega,by go_num,HT2.o,B5.o⟩
        case measure=>simp [intOf];omega
     ·obtain rfl:k=q:=by omega
      have HR2:Hid (upC cs c=0):=Hd (by
       have h:=HALL.o;rw [HQ.o,YaJ] at h;rw [HR.o,Zfa,h];rfl)
      go_wp2;go_ret;exact ⟨by rw [HR2.o];rfl,BWW.o⟩
theorem Lined.clsSmall {cs:List Cls} (h:Lined cs) (i:Nat) (e:Ent) (he:(newT cs)[i]? = some e):e.cls.Small:=by
 rcases Zbb he with ⟨h1,h2⟩|⟨h1,c,h2,rfl⟩
 ·have h3:startL.all (fun e=>decide (e.cls.name.length<=32/\e.cls.sup.length<=32/\e.cls.like=[]/\e.cls.flds.length<=32/\e.cls.flds.all (fun f=>decide (f.name.length<=32/\f.kind.length<=32))=true) && e.cls.mths.isEmpty)=true:=by decide
  have h4:=YaE.1 h3 e (Yaf h2);rw [Yar,List.isEmpty_iff] at h4;obtain ⟨h5,h6⟩:=h4;obtain ⟨a1,a2,a3,a4,a5⟩:=of_decide_eq_true h5;refine ⟨by omega,by omega,by rw [a3];simp,by omega,by rw [h6];simp,fun x hx=>?_,fun f hf=>?_,fun m hm=>?_⟩
  ·rw [a3] at hx;cases hx
  ·have:=of_decide_eq_true (YaE.1 a5 f hf);omega
  ·rw [h6] at hm;cases hm
 ·exact (h.good c (Yaf h2)).small
theorem Lined.few {cs:List Cls} (h:Lined cs) (i:Nat):(Zar (newT cs) i).length<=32:=by
 unfold Zar;cases he:(newT cs)[i]? with
 | none=>simp
 | some e=>exact (h.small i e he).2.2.1
theorem Zoy {c:Cls} (h1:c.flds.length<=32) (h2:c.mths.length<=32) (h3:∀ m ∈ c.mths,m.params.length<=32):(ZcT c).length<=2000:=by
 have key:∀ l:List Mth,(∀ m ∈ l,m.params.length<=32)->(l.flatMap Zbx).length<=l.length * 33:=by
  intro l;induction l with
  | nil=>intro _;simp
  | cons m l ih=>
   intro h;have q:=ih (fun x hx=>h x (Yap _ hx));have q2:=h m Yal;rw [Yb4,Yak,YaI];have q3:(Zbx m).length<=33:=by
    unfold Zbx;rw [Yak];split <;> simp <;> omega
   omega
 unfold ZcT;rw [Yak,Yaz];have:=key c.mths h3;omega
theorem ZmH {c:Cls} (h:c.Small):∀ s ∈ ZcT c,s.length<=281474976710656:=by
 intro s hs;unfold ZcT at hs;rcases Yao.1 hs with h1|h1
 ·obtain ⟨f,hf,rfl⟩:=Ya6.1 h1;exact (h.flds f hf).2
 ·obtain ⟨m,hm,h2⟩:=YbB.1 h1;unfold Zbx at h2;rcases Yao.1 h2 with h3|h3
  ·exact (h.mths m hm).params s h3
  ·split at h3
   ·cases h3
   ·rw [YaA.1 h3];exact (h.mths m hm).res
theorem Lined.clash {cs:List Cls} (h:Lined cs) {i:Nat} {en:Ent} (hen:(newT cs)[i]? = some en):ZdR (newT cs) i=en.cls.flds.any fun f=>(ZcL (newT cs) en.cls.sup f.name).isSome:=by
 rw [ZlJ];have hfa:Zbh (newT cs) i=en.cls.flds:=by unfold Zbh;rw [hen]
 rw [hfa,Zci hen]
 congr 1
 funext f
 unfold ZcL ZqB;rw [List.findIdx?_isSome,h.sup hen]
structure ChkD (cs:List Cls) (i:Nat) (c:Cls):Prop where
 a:(c.flds.any fun f=>(ZcL (newT cs) c.sup f.name).isSome)=true->chkT (newT cs) i=64
 b:(c.flds.any fun f=>(ZcL (newT cs) c.sup f.name).isSome)=false->(ZcT c).all (ZbY (newT cs))=false->chkT (newT cs) i=65
 c:(c.flds.any fun f=>(ZcL (newT cs) c.sup f.name).isSome)=false->(ZcT c).all (ZbY (newT cs))=true->∀ R:Nat->Bool,(∀ k,k<(newT cs).length->(R k=true↔Over (newT cs) i k))->
  (Zeo (Zcb (newT cs) i R (newT cs).length)->chkT (newT cs) i=66)/\
  (¬ Zeo (Zcb (newT cs) i R (newT cs).length)->(c.abs=false/\∃ m ∈ Zcb (newT cs) i R (newT cs).length,absM (newT cs) i m.name=true)->chkT (newT cs) i=67)/\
  (¬ Zeo (Zcb (newT cs) i R (newT cs).length)->(c.abs=true\/∀ m ∈ Zcb (newT cs) i R (newT cs).length,absM (newT cs) i m.name=false)->chkT (newT cs) i=0)
theorem Lined.chkD {cs:List Cls} (h:Lined cs) (W:Wise (newT cs)) {i:Nat} {en:Ent} (hen:(newT cs)[i]? = some en) (hanc:∀ d ∈ Zap (newT cs) (upAt (newT cs) i),chkT (newT cs) d=0):ChkD cs i en.cls:=by
 have hi:i<(newT cs).length:=(Yag.1 hen).1;have h1:=h.clash hen;have h2:ZcB (newT cs) (ZeV (newT cs) i)=(ZcT en.cls).all (ZbY (newT cs)):=by rw [Zgh hen];exact Zkk _ _
 refine ⟨fun q=>?_,fun q1 q2=>?_,fun q1 q2 R hR=>?_⟩
 ·unfold chkT;rw [h1,q,YaC rfl]
 ·unfold chkT;rw [h1,q1,h2,q2,Yas (by decide),YaC rfl]
 ·obtain ⟨p1,p2⟩:=W.chk_pair hi hR hanc;have ha:Zcl (newT cs) i=en.cls.abs:=Zgc hen;rw [ha] at p2;have e:chkT (newT cs) i=if ZaL (newT cs) i=true then 66 else if Zb0 (newT cs) i=true then 67 else 0:=by
   unfold chkT;rw [h1,q1,h2,q2,Yas (by decide),Yas (by decide)]
  rw [e];refine ⟨fun q=>by rw [YaC (p1.2 q)],fun q3 q4=>?_,fun q3 q4=>?_⟩
  ·rw [Yas (fun x=>q3 (p1.1 x)),YaC (p2.2 q4)]
  ·rw [Yas (fun x=>q3 (p1.1 x)),Yas];intro x;obtain ⟨y1,m,y2,y3⟩:=p2.1 x;rcases q4 with q4|q4
   ·rw [q4] at y1;cases y1
   ·rw [q4 m y2] at y3;cases y3
structure MV where
 val:Value
 sz:val.cells.size=7
 one:∀ u ∈ val.cells.toList,u.oneCell'=true
abbrev mvV (x:MV):Value:=x.val
abbrev MVR:Zao MV:=Flat mvV
theorem MVRst:Stays MVR:=Flat.stays _
theorem ZmV {A:Nat->Prop} {w:World} {m:Mth} {v:Value} (h:MthR A w m v):v.cells.size=7/\∀ u ∈ v.cells.toList,u.oneCell'=true:=by
 obtain ⟨_,_,_,rfl,⟨lo,lc,rfl⟩,⟨fo,fc,rfl⟩,⟨mo,mc,rfl⟩⟩:=Zam h;refine ⟨rfl,fun u hu=>?_⟩;simp [Value.cells] at hu
 rcases hu with rfl|rfl|rfl|rfl|rfl|rfl|rfl <;> rfl
structure MVals (A:Nat->Prop) (w:World) (ms:List Mth) (vs:List MV):Prop where
 len:vs.length=ms.length
 each:∀ (k:Nat) (m:Mth),ms[k]? = some m->∃ u:MV,vs[k]? = some u/\MthR A w m (mvV u)
theorem MVals.nil {A:Nat->Prop} {w:World}:MVals A w [] []:=⟨rfl,fun k m h=>by simp at h⟩
theorem MVals.app {A:Nat->Prop} {w:World} {m1 m2:List Mth} {v1 v2:List MV} (h1:MVals A w m1 v1) (h2:MVals A w m2 v2):MVals A w (m1++m2) (v1++v2):=by
 refine ⟨by rw [Yak,Yak,h1.len,h2.len],fun k m hm=>?_⟩;rcases YaB k m1.length with hk|hk
 ·rw [YaP hk] at hm;rw [YaP (by rw [h1.len];exact hk)];exact h1.each k m hm
 ·rw [YaH hk] at hm;rw [YaH (by rw [h1.len];exact hk),h1.len];exact h2.each _ m hm
theorem ZmU {A:Nat->Prop} {w:World} {sv:Value} {ms:List Mth} (h:Src 7 MthR A w sv ms):∃ vs,MVals A w ms vs/\Src 7 MVR A w sv vs:=by
 rcases h with ⟨ao,cap,rfl,rfl⟩|⟨b,o,cap,rfl,hk,hc⟩
 ·exact ⟨[],MVals.nil,.inl ⟨_,_,rfl,rfl⟩⟩
 ·have key:∀ (l:List Mth) (d:Nat),(∀ (k:Nat) (x:Mth),l[k]? = some x->∃ v,MthR A w x v/\v.cells.size=7/\∀ j u,v.cells[j]? = some u->w.cell? ⟨b,d+k * 7+j,none⟩=some u)->
    ∃ vs:List MV,MVals A w l vs/\∀ (k:Nat) (x:MV),vs[k]? = some x->∃ v,MVR A w x v/\v.cells.size=7/\∀ j u,v.cells[j]? = some u->w.cell? ⟨b,d+k * 7+j,none⟩=some u:=by
   intro l;induction l with
   | nil=>intro d _;exact ⟨[],MVals.nil,fun k x h=>(by simp at h)⟩
   | cons c l ih=>
    intro d h;obtain ⟨v,h1,h2,h3⟩:=h 0 c rfl;obtain ⟨vs,hv,hq⟩:=ih (d+7) (fun k x hx=>by
     obtain ⟨v,q1,q2,q3⟩:=h (k+1) x (by simpa using hx);exact ⟨v,q1,q2,fun j u hj=>by have:=q3 j u hj;rw [show d+7+k * 7+j=d+(k+1) * 7+j by omega];exact this⟩)
    refine ⟨(⟨v,(ZmV h1).1,(ZmV h1).2⟩:MV) :: vs,⟨by rw [YaI,YaI,hv.len],fun k x hx=>?_⟩,fun k x hx=>?_⟩
    ·cases k with
     | zero=>obtain rfl:=Yae hx;exact ⟨_,rfl,h1⟩
     | succ k=>obtain ⟨u,q1,q2⟩:=hv.each k x (by simpa using hx);exact ⟨u,by simpa using q1,q2⟩
    ·cases k with
     | zero=>obtain rfl:=Yae hx;exact ⟨v,rfl,h2,h3⟩
     | succ k=>
      obtain ⟨v2,q1,q2,q3⟩:=hq k x (by simpa using hx);exact ⟨v2,q1,q2,fun j u hj=>by have:=q3 j u hj;rw [show d+(k+1) * 7+j=d+7+k * 7+j by omega];exact this⟩
  obtain ⟨vs,hv,hq⟩:=key ms o hc;exact ⟨vs,hv,.inr ⟨b,o,cap,by rw [hv.len],by rw [hv.len];exact hk,hq⟩⟩
theorem ZmW {A A':Nat->Prop} {w wr:World} {sv:Value} {ms:List Mth} {vs:List MV} (hv:MVals A w ms vs) (h:Src 7 MVR A' wr sv vs) (hb:Below w.heap.size w wr):Src 7 MthR Anyw wr sv ms:=by
 rcases h with ⟨ao,cap,rfl,hn⟩|⟨b,o,cap,rfl,hk,hc⟩
 ·have:ms=[]:=YaY.1 (by rw [←hv.len,hn];rfl);exact .inl ⟨_,_,rfl,this⟩
 ·rw [hv.len] at hk ⊢;refine .inr ⟨b,o,cap,rfl,⟨trivial,hk.2⟩,fun k x hx=>?_⟩;obtain ⟨u,q1,q2⟩:=hv.each k x hx;obtain ⟨v,rfl,h2,h3⟩:=hc k u q1;exact ⟨_,MthR.st.keep (MthR.st.mono q2 (fun _ _ _=>trivial)) (Yad (S:=fun _=>False) hb) (fun _ _=>id),h2,h3⟩
abbrev Zpt (lo:Nat) (W:World) (v:Value) (l:List MV):Prop:=TRow 7 44 MVR lo W v l (l.map mvV)
theorem Zms:(Tryz.prog.info? 44).map (fun i=>(i.zero,i.size,i.bytes))=some (some (.agg #[.string ⟨#[]⟩,.slice none 0 0,.string ⟨#[]⟩,.bool false,.int .i64 0,.slice none 0 0,.slice none 0 0]),7,120):=by kernel_rfl
theorem ZiL {A:Nat->Prop} (lo:Nat) (W:World) (v sv:Value) (ty:TypeId) (l1 l2:List MV) (h1:Zpt lo W v l1) (hlo:lo<=W.heap.size) (h2:Src 7 MVR A W sv l2) (hl:l1.length+l2.length<=1048576) :
  ∃ v' w',(Builtin.append_ #[85,85] ty #[v,sv]).run Tryz.prog W=.ok v' w'/\Zpt lo w' v' (l1++l2)/\Below lo W w':=by
 obtain ⟨j0,hji,hz0,hz1,hz2⟩:=info_parts Zms;obtain ⟨v',w',hr,q1,q2⟩:=ZbC (f:=mvV) (n:=7) (by decide) (fun x=>x.sz) (fun x=>x.one) 85 ty 44 j0 _ 120 Tryz.underlying85 hji hz0 hz1 hz2 rfl h1 hlo h2 (by omega) (by omega);exact ⟨v',w',hr,q1,q2.only.below hlo (fun g hg=>h1.own g hg)⟩
