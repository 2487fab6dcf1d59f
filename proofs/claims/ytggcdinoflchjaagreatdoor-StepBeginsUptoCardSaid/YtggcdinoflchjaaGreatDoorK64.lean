/- laws -/
import Derived.Test.YtggcdinoflchjaaGreatDoorK60
import Derived.BigRegion
set_option maxRecDepth 100000
set_option maxHeartbeats 16000000
namespace Go.Proofs.YtggcdinoflchjaaGreatDoor
open Go.RowKit
theorem Zei {A:Nat->Prop} (cs:List Cls) (sv:Value) (n:List UInt8) (w:World) (hs:Src 8 ClsR A w sv cs) (hlen:cs.length<=9223372036854775807) :
  Calls Tryz.prog 53 #[sv,.string (S n)] w (Zfx (Za2 cs n) w):=by
 obtain ⟨so,sc,rfl⟩:=hs.shape;obtain ⟨m,hm⟩:∃ m,m=cs.length:=⟨_,rfl⟩
 have HS:=Hd hs;rw [←hm] at HS hlen ⊢;have HM:=Hd hm;clear hs hm;go_enter Tryz.func53,Tryz.ntmps53;go_wp2
 go_loopw [5] (fun v5 wr=>∃ k:Nat,k<=m/\v5=.int .i64 k/\(cs.take k).any (fun c=>c.name == n)=false/\Below w.heap.size w wr) (fun v5 _=>m - (intOf v5).toNat)
 case atStart=>exact ⟨0,Yai _,rfl,by simp,Yab _ _⟩
 case round=>
  obtain ⟨k,hk,rfl,hno,hbw⟩:=hrel;have HNO:=Hd hno;have HB:=Hd hbw;clear hno hbw;by_cases hlt:k<m
  ·obtain ⟨x,hx⟩:∃ x,cs[k]? = some x:=⟨_,Yaa (by rw [←HM.o];exact hlt)⟩
   obtain ⟨b,o,v,rfl,hv,_,hcl⟩:=Src.elem (ClsR.st.below HS.o HB.o) k x hx;obtain ⟨_,_,_,rfl,_⟩:=hv;have d0:wr.cell? ⟨b,o+k * 8,none⟩=some (.string (S x.name)):=hcl 0 _ rfl;have hk0:(0:Int)<=(k:Int):=by omega
   have hkm:(k:Int)<(m:Int):=by omega
   have e1:=Zae x.name;have e2:=Zae n;have HX:=Hd hx;clear hcl hx;by_cases hn:x.name=n
   ·have HF:=Hd (Ziy HX.o HNO.o (by rw [hn];exact Ybf _));have e3:(x.name == n)=true:=by rw [hn];exact Ybf _
    generalize x.name=nx at d0 e1 e3;clear hn HX;go_wp2;go_ret;exact ⟨by show _=Ending.returned (.int .i64 (idxV (Za2 cs n)));unfold Za2;rw [HF.o];rfl,HB.o⟩
   ·have HT:=Hd (Zah (fun c:Cls=>c.name == n) cs k x HX.o);have e3:(x.name == n)=false:=Yah.2 hn;have HT2:Hid ((cs.take (k+1)).any (fun c:Cls=>c.name == n)=false):=Hd (by rw [HT.o,HNO.o,YaS];exact e3);generalize x.name=nx at d0 e1 e3;clear hn HX HT;go_wp2
    go_roundw
    case rel=>exact ⟨k+1,by omega,by go_num,HT2.o,HB.o⟩
    case measure=>simp [intOf];omega
  ·obtain rfl:k=m:=by omega
   have HF:Hid (Za2 cs n=none):=Hd (by
    have h:=HNO.o;rw [HM.o,YaJ] at h;unfold Za2;rw [YbW];intro c hc;have:=YaT.1 h c hc
    simpa using this)
   go_wp2;go_ret;exact ⟨by rw [HF.o];rfl,HB.o⟩
theorem ZhQ (l:List UInt8) (w:World) (hl:l.length<=9223372036854775807) :
  Calls Tryz.prog 128 #[.string (S l)] w (Zca (Zbe l) w):=by
 have HD:=Hd (ZdW l w hl);unfold Zib at HD;have hd:=Zdl l;have z:((S l).size:Int)=(l.length:Int):=by rw [Zay]
 have z2:(S l).size=l.length:=Zay l;obtain ⟨d,hdd⟩:∃ d,d=ZaO l:=⟨_,rfl⟩
 have HB:Hid (Zbe l=l.take (l.length - 2 * d)):=Hd (by rw [hdd];rfl);rw [←hdd] at HD hd;have hn:(((l.length:Int) - 2 * (d:Int)))=((l.length - 2 * d:Nat):Int):=by omega
 have hle:l.length - 2 * d<=l.length:=by omega
 clear hdd;go_enter Tryz.func128,Tryz.ntmps128
 go_wp2_with fail
 with_reducible refine HD.o.mono ?_
 rintro e w1 ⟨rfl,hb⟩;go_wp2;go_ret;exact ⟨by rw [HB.o,ZfG];rfl,hb ▸ Yab _ _⟩
theorem ZjD {A:Nat->Prop} (c:Cls) (v:Value) (n:List UInt8) (w:World) (hv:ClsR A w c v) (hlen:c.mths.length<=9223372036854775807) :
  Calls Tryz.prog 190 #[v,.string (S n)] w (Zfx (c.mths.findIdx? (fun m=>m.name == n)) w):=by
 obtain ⟨lv,fv,mv,rfl,hl,hf,hm⟩:=hv;obtain ⟨lo,lc,rfl⟩:=hl.shape;obtain ⟨fo,fc,rfl⟩:=hf.shape;obtain ⟨mo,mc,rfl⟩:=hm.shape;obtain ⟨q,hq⟩:∃ q,q=c.mths.length:=⟨_,rfl⟩
 rw [←hq] at hm hlen ⊢;have HQ:=Hd hq;have hbA:Below w.heap.size w (w.alloc (.cells #[.string (S c.name),.string (S c.sup),.slice lo c.like.length lc,.bool c.itf,.bool c.abs,.bool c.fin,.slice fo c.flds.length fc,.slice mo q mc] 87)):=Zaa (Yab _ _) _;have HX:=Hd (Box.new w #[.string (S c.name),.string (S c.sup),.slice lo c.like.length lc,.bool c.itf,.bool c.abs,.bool c.fin,.slice fo c.flds.length fc,.slice mo q mc] 87);have HM:=Hd (MthR.st.below hm hbA);have HBA:=Hd hbA;have c7:(w.alloc (.cells #[.string (S c.name),.string (S c.sup),.slice lo c.like.length lc,.bool c.itf,.bool c.abs,.bool c.fin,.slice fo c.flds.length fc,.slice mo q mc] 87)).cell? ⟨w.heap.size,7,none⟩=some (.slice mo q mc):=HX.o.cell 7 rfl;clear hl hf hm hbA hq;go_enter Tryz.func190,Tryz.ntmps190
 go_upto_region 1 with fail
 obtain ⟨bx,hbx⟩:∃ bx,bx=w.heap.size:=⟨_,rfl⟩
 generalize hW:w.alloc (.cells #[.string (S c.name),.string (S c.sup),.slice lo c.like.length lc,.bool c.itf,.bool c.abs,.bool c.fin,.slice fo c.flds.length fc,.slice mo q mc] 87)=W at HX HM HBA c7 ⊢;rw [←hbx] at HX c7 ⊢;clear hW hbx;go_wp2
 go_loopw [5] (fun v5 wr=>∃ k:Nat,k<=q/\v5=.int .i64 k/\(c.mths.take k).any (fun m=>m.name == n)=false/\Below W.heap.size W wr) (fun v5 _=>q - (intOf v5).toNat)
 case atStart=>exact ⟨0,Yai _,rfl,by simp,Yab _ _⟩
 case round=>
  obtain ⟨k,hk,rfl,hno,hbw⟩:=hrel;have HNO:=Hd hno;have HB:=Hd hbw;have c7:wr.cell? ⟨bx,7,none⟩=some (.slice mo q mc):=(HX.o.below hbw).cell 7 rfl;clear hno hbw;by_cases hlt:k<q
  ·obtain ⟨x,hx⟩:∃ x,c.mths[k]? = some x:=⟨_,Yaa (by rw [←HQ.o];exact hlt)⟩
   obtain ⟨b,o,v,rfl,hv,_,hcl⟩:=Src.elem (MthR.st.below HM.o HB.o) k x hx;obtain ⟨_,_,_,rfl,_⟩:=Zam hv;have d0:wr.cell? ⟨b,o+k * 7,none⟩=some (.string (S x.name)):=hcl 0 _ rfl;have hk0:(0:Int)<=(k:Int):=by omega
   have hkm:(k:Int)<(q:Int):=by omega
   have e1:=Zae x.name;have e2:=Zae n;have HX2:=Hd hx;clear hcl hx hv;by_cases hn:x.name=n
   ·have HF:=Hd (Ziy HX2.o HNO.o (by rw [hn];exact Ybf _));have e3:(x.name == n)=true:=by rw [hn];exact Ybf _
    have HE:=Hd (HBA.o.trans (HB.o.mono HBA.o.size));generalize x.name=nx at d0 e1 e3;clear hn HX2;go_wp2;go_ret;exact ⟨by rw [HF.o];rfl,HE.o⟩
   ·have e3:(x.name == n)=false:=Yah.2 hn;have HT2:Hid ((c.mths.take (k+1)).any (fun m=>m.name == n)=false):=Hd (by rw [Zah (fun m:Mth=>m.name == n) c.mths k x HX2.o,HNO.o,YaS];exact e3);generalize x.name=nx at d0 e1 e3;clear hn HX2;go_wp2
    go_roundw
    case rel=>exact ⟨k+1,by omega,by go_num,HT2.o,HB.o⟩
    case measure=>simp [intOf];omega
  ·obtain rfl:k=q:=by omega
   have HF:Hid (c.mths.findIdx? (fun m=>m.name == n)=none):=Hd (by
    have h:=HNO.o;rw [HQ.o,YaJ] at h;rw [YbW];intro m hm;have:=YaT.1 h m hm
    simpa using this)
   have HE:=Hd (HBA.o.trans (HB.o.mono HBA.o.size));go_wp2;go_ret;exact ⟨by rw [HF.o];rfl,HE.o⟩
structure MkM (n:Nat) (w wr:World) (v:Value) (RB:List Nat) (M:Nat->Nat->Bool):Prop where
 mat:Mat w.heap.size n wr RB M
 out:TRow 1 91 (Flat (rowV n)) w.heap.size wr v RB (RB.map (rowV n))
 off:∀ b ∈ RB,v.ownBlock ≠ some b
 bel:Below w.heap.size w wr
theorem MkM.below {n:Nat} {w wr w':World} {v:Value} {RB:List Nat} {M:Nat->Nat->Bool} (h:MkM n w wr v RB M) (hb:Below wr.heap.size wr w'):MkM n w w' v RB M:=
 ⟨h.mat.below hb,h.out.below (Flat.stays _) hb,h.off,h.bel.trans (hb.mono h.bel.size)⟩
theorem MkM.lt {n:Nat} {w wr:World} {v:Value} {RB:List Nat} {M:Nat->Nat->Bool} (h:MkM n w wr v RB M):∀ b ∈ RB,b<wr.heap.size:=fun b hb=>by
 obtain ⟨i,hi⟩:=Ya0.1 hb;exact (h.mat.row i b hi).lt
theorem MkM.push {n:Nat} {w wr w':World} {v v':Value} {RB:List Nat} {M:Nat->Nat->Bool} {g:Nat} {f:Nat->Bool} (h:MkM n w wr v RB M) (hr:MRow wr g n 4 (rowC n f)) (hg:w.heap.size<=g) (hn:g ∉ RB) (ho:v.ownBlock ≠ some g)
  (hT:TRow 1 91 (Flat (rowV n)) w.heap.size w' v' (RB++[g]) ((RB++[g]).map (rowV n))) (hG:Grew wr v w' v'):MkM n w w' v' (RB++[g]) (fun i=>if i=RB.length then f else M i):=by
 have hs:=h.mat.snoc hr hg hn;have hlt:∀ b ∈ RB++[g],b<wr.heap.size:=fun b hb=>by
  rcases Yao.1 hb with hb|hb
  ·exact h.lt b hb
  ·rw [YaA.1 hb];exact hr.lt
 have hoff:∀ b ∈ RB++[g],v.ownBlock ≠ some b:=fun b hb=>by
  rcases Yao.1 hb with hb|hb
  ·exact h.off b hb
  ·rw [YaA.1 hb];exact ho
 refine ⟨hs.keep hG.only (fun b hb=>hoff b hb),hT,fun b hb e=>hoff b hb (hG.into b (hlt b hb) e),h.bel.trans (hG.only.below h.bel.size (fun b hb=>h.out.own b hb))⟩
theorem TRow.flatKeep {α:Type} {n:Nat} {t:TypeId} {f:α->Value} {lo:Nat} {w w':World} {vs:Value} {m:List α} {us:List Value} {S:Nat->Prop} (h:TRow n t (Flat f) lo w vs m us) (ho:Only S w w') (hS:∀ g,vs.ownBlock=some g->¬ S g):TRow n t (Flat f) lo w' vs m us:=
 ⟨ho.row h.row hS,h.own,h.len,h.size,fun k x hx=>h.each k x hx⟩
theorem Zf1 {A:Nat->Prop} (L:List Cls) (sv:Value) (w:World) (hs:Src 8 ClsR A w sv L) (hlen:L.length<=2000) (hlk:∀ c ∈ L,c.like.length<=1000) :
  Calls Tryz.prog 55 #[sv] w (ZgT L w):=by
 have HF:Hid (∀ x V,Below w.heap.size w V->Calls Tryz.prog 53 #[sv,.string (S x)] V (fun e w'=>e=.returned (.int .i64 (idxV (Za2 L x)))/\Below V.heap.size V w')):=Hd (fun x V hV=>Zei L sv x V (ClsR.st.below hs hV) (by omega));have HS:=Hd hs;have HLK:=Hd hlk;obtain ⟨so,sc,rfl⟩:=hs.shape;obtain ⟨n,hn⟩:∃ n,n=L.length:=⟨_,rfl⟩
 unfold ZgT;rw [←hn] at HF HS ⊢;have HN:=Hd hn;have hn2:n<=2000:=by omega
 obtain ⟨j1,kji,kz0,kz1,kz2⟩:=info_parts Ze7;have HMK:Hid (∀ W,∃ w',(Instr.makeSlice 91 (.int .i64 (n:Int)) (.int .i64 (n:Int))).run Tryz.prog W=.ok (.slice (some ⟨W.heap.size,0,none⟩) n n) w'/\MRow w' W.heap.size n 4 (List.replicate n (.bool false))/\Below W.heap.size W w'):=Hd (fun W=>Zcf (P:=Tryz.prog) 91 4 j1 (.bool false) Tryz.underlying91 kji kz0 kz1 rfl n (by rw [kz2];omega) (by unfold maxLen;omega) W);have M0:Hid (MkM n w (w.alloc (.cells #[] 91)) (.slice (some ⟨w.heap.size,0,none⟩) 0 0) [] (fun _ _=>false)):=Hd ⟨Mat.nil,Zej _ _ _ (Yac _),fun b hb=>(by cases hb),Zaa (Yab _ _) _⟩;clear hs hlen hlk hn kji kz0 kz1 kz2;go_enter Tryz.func55,Tryz.ntmps55;go_wp2
 go_loopw [3,4] (fun v3 v4 wr=>∃ (i:Nat) (RB:List Nat) (M:Nat->Nat->Bool),i<=n/\v4=.int .i64 i/\RB.length=i/\MkM n w wr v3 RB M/\(∀ a j,a<i->j<n->M a j=ZgP L a j)) (fun _ v4 _=>n - (intOf v4).toNat)
 case atStart=>exact ⟨0,[],_,Yai _,rfl,rfl,M0.o,fun a j h=>by omega⟩
 case round=>
  obtain ⟨i,RB,M,hi,rfl,hrl,hmk,hM⟩:=hrel;obtain ⟨wo,rfl⟩:∃ wo,wo=wr:=⟨_,rfl⟩
  have MKR:=Hd hmk;have HRL:=Hd hrl;have HMM:=Hd hM;obtain ⟨ro,rc,rfl⟩:=hmk.out.shape;rw [hrl];rw [hrl] at MKR;clear hmk hrl hM;by_cases hlt:i<n
  ·obtain ⟨c,hc⟩:∃ c,L[i]? = some c:=⟨_,Yaa (by rw [←HN.o];exact hlt)⟩
   obtain ⟨b1,o1,v,rfl,hv,_,hcl⟩:=Src.elem (ClsR.st.below HS.o MKR.o.bel) i c hc;obtain ⟨lv,fv,mv,rfl,hlv,_,_⟩:=hv;obtain ⟨lo,lc,rfl⟩:=hlv.shape;have HCC:Hid (∀ V,Below wo.heap.size wo V->V.cell? ⟨b1,o1+i * 8+1,none⟩=some (.string (S c.sup))/\V.cell? ⟨b1,o1+i * 8+2,none⟩=some (.slice lo c.like.length lc)):=Hd (fun V hV=>
    have ho:=Yad (S:=fun _=>False) hV
    ⟨ho.cell (a:=⟨b1,o1+i * 8+1,none⟩) (hcl 1 _ rfl) id,ho.cell (a:=⟨b1,o1+i * 8+2,none⟩) (hcl 2 _ rfl) id⟩)
   have HLV:=Hd hlv;have HKL:Hid (c.like.length<=1000):=Hd (HLK.o c (Yaf hc));have HUS:Hid (∀ k j x,(c.sup :: c.like)[k]? = some x->upsB L c (k+1) j=(upsB L c k j || Za2 L x == some j)):=Hd (fun k j x h=>ZnQ L c k j x h);have HST:Hid (∀ j,upsB L c (c.like.length+1) j=ZgP L i j):=Hd (fun j=>by unfold ZgP;rw [hc]);have i0:(0:Int)<=(i:Int):=by omega
   have i1:(i:Int)<(n:Int):=by omega
   obtain ⟨w1,hmake,hrow,hb1⟩:=HMK.o wo;rw [Zo2] at hrow;have HROW:=Hd hrow;have B1:=Hd hb1;have MK1:=Hd (MKR.o.below hb1);obtain ⟨g,hg⟩:∃ g,g=wo.heap.size:=⟨_,rfl⟩
   have HG:=Hd hg;have HAP:Hid (∀ V v3 ty,TRow 1 9 StrR w1.heap.size V v3 [c.sup] [.string (S c.sup)]->Below w1.heap.size w1 V->∃ v' w',(Builtin.append_ #[22,22] ty #[v3,.slice lo c.like.length lc]).run Tryz.prog V=.ok v' w'/\TRow 1 9 StrR w1.heap.size w' v' (c.sup :: c.like) ((c.sup :: c.like).map strV)/\Below w1.heap.size w1 w'):=Hd (fun V v3 ty t hV=>by
    obtain ⟨v',w',hr,q1,q2⟩:=ZcN w1.heap.size V v3 _ ty [c.sup] c.like t hV.size (StrR.st.below HLV.o (B1.o.trans (hV.mono B1.o.size))) (by have:=HKL.o;simp;omega);exact ⟨v',w',hr,q1,hV.trans (q2.only.below hV.size (fun g hg=>t.own g hg))⟩)
   rw [←hg] at HROW hmake;clear hcl hc hlv hrow hg
   go_upto_region 6 with fail
   clear hmake;have hB:=Yab w1.heap.size w1;obtain ⟨c1,c2⟩:=HCC.o w1 hb1;have HCC1:=Hd (fun V (hV:Below w1.heap.size w1 V)=>HCC.o V (B1.o.trans (hV.mono B1.o.size)));clear hb1 HCC;have t0:=(ZgM w1.heap.size w1 (Yac _) c.sup).below StrR.st (Zab (Yab _ _));have b0:Below w1.heap.size w1 (w1.alloc (.cells #[.string (S c.sup)] 9)).drew:=Zab (Zaa (Yab _ _) _);have T0:=Hd t0;have B0:=Hd b0;clear t0 b0
   go_cut [6] (fun s6 wx=>∃ us,TRow 1 9 StrR w1.heap.size wx s6 (c.sup :: c.like) us/\Below w1.heap.size w1 wx)
   case first=>
    first
    | (go_region_held3 (fun V=>V.cell? ⟨b1,o1+i * 8+1,none⟩=some (.string (S c.sup))/\V.cell? ⟨b1,o1+i * 8+2,none⟩=some (.slice lo c.like.length lc)) ((refine HCC1.o _ ?_;(repeat (first|(with_reducible exact Yab _ _)|(with_reducible assumption)|(with_reducible refine Zab ?_)|(with_reducible refine Zaa ?_ _)))))
      ((obtain ⟨v2,w2,hr,t2,b2⟩:=HAP.o _ _ 22 T0.o B0.o;refine ZaY (by rfl) _ _ 22 (by rfl) _ _ v2 w2 (by rfl) (by rfl) hr ?_)))
    | fail
    all_goals
     go_wp2_with fail
     go_meet
     exact ⟨_,t2,b2⟩
   case rest=>
    obtain ⟨us,ht,hb2⟩:=hcut;have B2:=Hd hb2;have HUP:=Hd (ht.src StrR.st);obtain ⟨uo,uc,rfl⟩:=ht.shape;obtain ⟨q,hq⟩:∃ q,q=(c.sup :: c.like).length:=⟨_,rfl⟩
    rw [←hq] at HUP ⊢;have HQ:=Hd hq;have HQ2:Hid (q=c.like.length+1):=Hd (by rw [hq,YaI]);have HRC:=Hd (HROW.o.keep (Yad (S:=fun _=>False) hb2) id);have HGL:Hid (g<w1.heap.size):=Hd HROW.o.lt;have HBC:=Hd (B1.o.trans (hb2.mono B1.o.size));have hq9:q<=1001:=by have:=HKL.o;have:=HQ2.o;omega
    clear hq ht hb2 c1 c2 hB HAP HCC1 T0 B0 HLV HROW;go_wp2
    go_loopw [7] (fun v7 wk=>∃ k:Nat,k<=q/\v7=.int .i64 k/\MRow wk g n 4 (rowC n (upsB L c k))/\Only (fun x=>x=g) wc wk) (fun v7 _=>q - (intOf v7).toNat)
    case atStart=>
     refine ⟨0,Yai _,rfl,?_,Yan _ _⟩;rw [Zcx (f:=upsB L c 0) (g:=fun _=>false) (fun j _=>ZnR L c j)];exact HRC.o
    case round=>
     obtain ⟨k,hk,rfl,hrk,hok⟩:=hrel;have HRK:=Hd hrk;have HOK:=Hd hok;have HBV:Hid (Below wo.heap.size wo wr):=Hd (HBC.o.trans (hok.below HBC.o.size (fun y (e:y=g)=>by have:=HG.o;omega)));clear hrk hok;by_cases hltk:k<q
     ·obtain ⟨x,hx⟩:∃ x,(c.sup :: c.like)[k]? = some x:=⟨_,Yaa (by rw [←HQ.o];exact hltk)⟩
      obtain ⟨b6,o6,u,rfl,hu,_,hcl⟩:=Src.elem (StrR.st.src HUP.o HOK.o (fun j (hj:w1.heap.size<=j) (e:j=g)=>by have:=HGL.o;omega)) k x hx;obtain rfl:=hu;have c0:wr.cell? ⟨b6,o6+k,none⟩=some (.string (S x)):=by have q:=hcl 0 _ rfl;rw [YaG] at q;exact q
      have HCF:=Hd (HF.o x wr (MKR.o.bel.trans (HBV.o.mono MKR.o.bel.size)));have HUK:=Hd (fun j=>HUS.o k j x hx);have HFL:Hid (∀ m,Za2 L x=some m->m<n):=Hd (fun m hm=>by
       rw [HN.o];unfold Za2 at hm;exact (YaV.1 hm).1)
      have hk0:(0:Int)<=(k:Int):=by omega
      have hkq:(k:Int)<(q:Int):=by omega
      clear hcl hx
      go_wp2_with fail
      with_reducible refine HCF.o.mono ?_
      rintro e w3 ⟨rfl,hb3⟩;have HR3:=Hd (HRK.o.keep (Yad (S:=fun _=>False) hb3) id);have HO3:Hid (Only (fun x=>x=g) wc w3):=Hd (HOK.o.trans (Yad hb3));clear hb3 HCF c0;cases hf:Za2 L x with
      | none=>
       have e1:idxV none=(-1:Int):=rfl;rw [e1];have HR4:Hid (MRow w3 g n 4 (rowC n (upsB L c (k+1)))):=Hd (by
        rw [Zcx (f:=upsB L c (k+1)) (g:=upsB L c k) (fun j _=>by rw [HUK.o j,hf];simp)];exact HR3.o)
       clear hf e1 HUK HFL HR3;go_wp2
       go_roundw
       case rel=>exact ⟨k+1,by omega,by go_num,HR4.o,HO3.o⟩
       case measure=>simp [intOf];omega
      | some m=>
       have e1:idxV (some m)=(m:Int):=rfl;rw [e1];have hmn:m<n:=HFL.o m hf;have m0:(0:Int)<=(m:Int):=by omega
       have m1:(m:Int)<(n:Int):=by omega
       have f0:w3.frozen? ⟨g,m,none⟩=false:=HR3.o.free m;have d0:w3.cell? ⟨g,m,none⟩=some (.bool (upsB L c k m)):=by rw [HR3.o.at_ m hmn];exact Znx hmn
       have HR4:Hid (MRow (w3.setCell ⟨g,m,none⟩ (.bool true)) g n 4 (rowC n (upsB L c (k+1)))):=Hd (by
        have h:=HR3.o.set m (.bool true);rw [ZjB] at h;rw [Zcx (f:=upsB L c (k+1)) (g:=fun x=>if x=m then true else upsB L c k x) (fun j _=>by
         rw [HUK.o j,hf];by_cases hj:j=m
         ·rw [YaC hj,hj];simp
         ·rw [Yas hj];have:(some m == some j)=false:=Yah.2 (fun h=>hj (Yae h).symm);rw [this,Bool.or_false])]
        exact h)
       have HO4:Hid (Only (fun x=>x=g) wc (w3.setCell ⟨g,m,none⟩ (.bool true))):=Hd (HO3.o.setCell (p:=⟨g,m,none⟩) rfl _);clear hf e1 HUK HFL HR3;go_wp2
       go_roundw
       case rel=>exact ⟨k+1,by omega,by go_num,HR4.o,HO4.o⟩
       case measure=>simp [intOf];omega
     ·obtain rfl:k=q:=by omega
      have HRS:Hid (MRow wr g n 4 (rowC n (ZgP L i))):=Hd (by
       have h:=HRK.o;rw [HQ2.o,Zcx (f:=upsB L c (c.like.length+1)) (g:=ZgP L i) (fun j _=>HST.o j)] at h;exact h)
      have HMW:=Hd (MKR.o.below HBV.o);have hbA:Below wr.heap.size wr (wr.alloc (.cells #[.slice (some ⟨g,0,none⟩) n n] 91)):=Zaa (Yab _ _) _;have HMA:=Hd (HMW.o.below hbA);have HRA:=Hd (HRS.o.keep (Yad (S:=fun _=>False) hbA) id);obtain ⟨v',w',hr,ht',hG⟩:=ZiY n w.heap.size (wr.alloc (.cells #[.slice (some ⟨g,0,none⟩) n n] 91)) (.slice ro i rc) (.slice (some ⟨wr.heap.size,0,none⟩) 1 1) 102 RB [g] HMA.o.out HMA.o.bel.size (Zi6 (f:=rowV n) (fun _=>rfl) wr g 91) (by have:=HRL.o;simp;omega);have HP:=Hd (HMA.o.push HRA.o (by rw [HG.o];exact MKR.o.bel.size) (fun hm=>by have:=MKR.o.lt g hm;have:=HG.o;omega) (fun ho=>by have:=MKR.o.out.lt g ho;have:=HG.o;omega) ht' hG);have HR:=Hd hr;clear hbA hr ht' hG HRK HUP HRC
      go_wp2_with (at_builtin;refine Zak rfl _ _ 102 rfl _ _ v' w' rfl rfl HR.o ?_)
      go_wp2
      go_roundw
      case rel=>
       refine ⟨i+1,RB++[g],_,by omega,by go_num,by rw [Yak,HRL.o];rfl,HP.o,fun a j ha hj=>?_⟩;rw [HRL.o];show (if a=i then ZgP L i else M a) j=ZgP L a j
       by_cases e:a=i
       ·rw [YaC e,e]
       ·rw [Yas e];exact HMM.o a j (by omega) hj
      case measure=>simp [intOf];omega
  ·obtain rfl:n=i:=by omega
   have HMT:Hid (Mat w.heap.size n wo RB M):=Hd MKR.o.mat;have HW0:Hid (War (StepR L) n 0 0 0 M):=Hd (War.start (fun a b ha hb=>by rw [HMM.o a b ha hb];exact ZnH L a b));have HOB:Hid (∀ g,(Value.slice ro n rc).ownBlock=some g->¬ g ∈ RB):=Hd (fun g hg hm=>MKR.o.off g hm hg);have HSR:Hid (Src 1 (Flat (rowV n)) (fun k=>w.heap.size<=k) wo (.slice ro n rc) RB):=Hd (MKR.o.out.src (Flat.stays _));clear HMM HMK HF HS HLK M0;go_wp2
   go_loopw [9] (fun v9 wA=>∃ (k:Nat) (M:Nat->Nat->Bool),k<=n/\v9=.int .i64 k/\Mat w.heap.size n wA RB M/\War (StepR L) n k 0 0 M/\Only (fun x=>x ∈ RB) wo wA) (fun v9 _=>n - (intOf v9).toNat)
   case atStart=>exact ⟨0,M,Yai _,rfl,HMT.o,HW0.o,Yan _ _⟩
   case round=>
    obtain ⟨k,MA,hk,rfl,hmA,hwA,hoA⟩:=hrel;have HMA:=Hd hmA;have HWA:=Hd hwA;have HOA:=Hd hoA;clear hmA hwA hoA HMT HW0;by_cases hlk:k<n
    ·have k0:(0:Int)<=(k:Int):=by omega
     have k1:(k:Int)<(n:Int):=by omega
     go_wp2
     go_loopw [10] (fun v10 wA=>∃ (i:Nat) (M:Nat->Nat->Bool),i<=n/\v10=.int .i64 i/\Mat w.heap.size n wA RB M/\War (StepR L) n k i 0 M/\Only (fun x=>x ∈ RB) wo wA) (fun v10 _=>n - (intOf v10).toNat)
     case atStart=>exact ⟨0,MA,Yai _,rfl,HMA.o,HWA.o,HOA.o⟩
     case round=>
      obtain ⟨i,MB,hi,rfl,hmB,hwB,hoB⟩:=hrel;have HMB:=Hd hmB;have HWB:=Hd hwB;have HOB2:=Hd hoB;clear hmB hwB hoB HMA HWA HOA;by_cases hli:i<n
      ·have i0:(0:Int)<=(i:Int):=by omega
       have i1:(i:Int)<(n:Int):=by omega
       go_wp2
       go_loopw [11] (fun v11 wA=>∃ (j:Nat) (M:Nat->Nat->Bool),j<=n/\v11=.int .i64 j/\Mat w.heap.size n wA RB M/\War (StepR L) n k i j M/\Only (fun x=>x ∈ RB) wo wA) (fun v11 _=>n - (intOf v11).toNat)
       case atStart=>exact ⟨0,MB,Yai _,rfl,HMB.o,HWB.o,HOB2.o⟩
       case round=>
        obtain ⟨j,MC,hj,rfl,hmC,hwC,hoC⟩:=hrel;have HMC:=Hd hmC;have HWC:=Hd hwC;have HOC:=Hd hoC;clear hmC hwC hoC HMB HWB HOB2;by_cases hlj:j<n
        ·have j0:(0:Int)<=(j:Int):=by omega
         have j1:(j:Int)<(n:Int):=by omega
         obtain ⟨ri,hri⟩:∃ ri,RB[i]? = some ri:=⟨_,Yaa (by rw [HRL.o];exact hli)⟩
         obtain ⟨rk,hrk⟩:∃ rk,RB[k]? = some rk:=⟨_,Yaa (by rw [HRL.o];exact hlk)⟩
         obtain ⟨ob,oo,u,rfl,hu,_,hcl⟩:=Src.elem (m:=n) HSR.o i ri hri;obtain rfl:=hu;obtain ⟨ob2,oo2,u2,he2,hu2,_,hcl2⟩:=Src.elem (m:=n) HSR.o k rk hrk;simp only [Yba,YbF,and_true] at he2;obtain ⟨he3,he4⟩:=he2;subst he3 he4;obtain rfl:=hu2;have hno:¬ ob ∈ RB:=HOB.o ob rfl;have c0:wr.cell? ⟨ob,oo+i,none⟩=some (.slice (some ⟨ri,0,none⟩) n n):=HOC.o.cell (a:=⟨ob,oo+i,none⟩) (by have q:=hcl 0 _ rfl;rw [YaG] at q;exact q) hno;have c1:wr.cell? ⟨ob,oo+k,none⟩=some (.slice (some ⟨rk,0,none⟩) n n):=HOC.o.cell (a:=⟨ob,oo+k,none⟩) (by have q:=hcl2 0 _ rfl;rw [YaG] at q;exact q) hno;have d0:=HMC.o.cell hri hlj;have d1:=HMC.o.cell hri hlk;have d2:=HMC.o.cell hrk hlj;have f0:=HMC.o.free hri j;have HM2:=Hd (HMC.o.set hri j (MC i j || (MC i k && MC k j)));have HW2:=Hd (HWC.o.step hli hlk hlj);have HO2:Hid (Only (fun x=>x ∈ RB) wo (wr.setCell ⟨ri,j,none⟩ (.bool (MC i j || (MC i k && MC k j))))):=Hd (HOC.o.setCell (p:=⟨ri,j,none⟩) (Yaf hri) _);generalize updM MC i j (MC i j || (MC i k && MC k j))=MD at HM2 HW2;generalize MC i j=x at d0 HM2 HO2;generalize MC i k=y at d1 HM2 HO2;generalize MC k j=z at d2 HM2 HO2;clear hcl hcl2 hno HMC HWC HOC hri hrk;cases x with
         | true=>
          rw [Yco] at HM2 HO2
          go_upto_region 23 with fail
          go_region
          all_goals
           have HM3:=Hd (HM2.o.keep ((Yan (fun _=>False) _).drew) (fun _ _=>id));have HO3:=Hd HO2.o.drew;clear HM2 HO2 c0 c1 d0 d1 d2 f0;go_wp2
           go_roundw
           case rel=>exact ⟨j+1,MD,by omega,by go_num,HM3.o,HW2.o,HO3.o⟩
           case measure=>simp [intOf];omega
         | false=>
          rw [YaS] at HM2 HO2;cases y with
          | false=>
           rw [YaF] at HM2 HO2
           go_upto_region 23 with fail
           go_region
           all_goals
            have HM3:=Hd (HM2.o.keep ((Yan (fun _=>False) _).drew) (fun _ _=>id));have HO3:=Hd HO2.o.drew;clear HM2 HO2 c0 c1 d0 d1 d2 f0;go_wp2
            go_roundw
            case rel=>exact ⟨j+1,MD,by omega,by go_num,HM3.o,HW2.o,HO3.o⟩
            case measure=>simp [intOf];omega
          | true=>
           rw [Yax] at HM2 HO2
           go_upto_region 23 with fail
           go_region
           all_goals
            have HM3:=Hd (HM2.o.keep ((Yan (fun _=>False) _).drew) (fun _ _=>id));have HO3:=Hd HO2.o.drew;clear HM2 HO2 c0 c1 d0 d1 d2 f0;go_wp2
            go_roundw
            case rel=>exact ⟨j+1,MD,by omega,by go_num,HM3.o,HW2.o,HO3.o⟩
            case measure=>simp [intOf];omega
        ·obtain rfl:n=j:=by omega
         have HWC2:=Hd HWC.o.row;go_wp2
         go_roundw
         case rel=>exact ⟨i+1,MC,by omega,by go_num,HMC.o,HWC2.o,HOC.o⟩
         case measure=>simp [intOf];omega
      ·obtain rfl:n=i:=by omega
       have HWB2:=Hd HWB.o.layer;go_wp2
       go_roundw
       case rel=>exact ⟨k+1,MB,by omega,by go_num,HMB.o,HWB2.o,HOB2.o⟩
       case measure=>simp [intOf];omega
    ·obtain rfl:n=k:=by omega
     have HOUT:Hid (Src 1 (Flat (rowV n)) (fun k=>w.heap.size<=k) wr (.slice ro n rc) RB):=Hd ((MKR.o.out.flatKeep HOA.o (fun g hg=>HOB.o g hg)).src (Flat.stays _));have HBE:Hid (Below w.heap.size w wr):=Hd (MKR.o.bel.trans (HOA.o.below MKR.o.bel.size (fun y hy=>HMA.o.lo y hy)));go_wp2;go_ret;exact ⟨RB,_,MA,rfl,HMA.o,HRL.o,HOUT.o,fun a b ha hb=>HWA.o.done (fun i j h=>by rw [HN.o];exact h.lt) a b ha hb,HBE.o⟩
theorem Lined.like_len {cs:List Cls} (h:Lined cs):∀ c ∈ allR cs,c.like.length<=1000:=fun c hc=>by
 rw [←ZcH] at hc;obtain ⟨e,he,rfl⟩:=Ya6.1 hc;obtain ⟨i,hi⟩:=Ya0.1 he;have h1:=Ya5 List.length (h.like hi);rw [Yaz,Yaz] at h1;have:=(h.small i e hi).2.2.2;omega
def Znh (v:Value):Option Nat:=if intOf v<0 then none else some (intOf v).toNat
theorem Zfo (o:Option Nat):Znh (.int .i64 (idxV o))=o:=by
 unfold Znh intOf idxV;cases o with
 | none=>rfl
 | some k=>simp
theorem ZhM (k:Nat):Znh (.int .i64 (k:Nat))=some k:=Zfo (some k)
theorem Zcw {A:Nat->Prop} (cs:List Cls) (hlen:cs.length<=1000) (sv:Value) (n:List UInt8) (w:World) (hs:Src 8 ClsR A w sv (allR cs)) :
  Calls Tryz.prog 53 #[sv,.string (S n)] w (Zfx (Zad (newT cs) n) w):=by
 have h:=Zei (allR cs) sv n w hs (by rw [ZcP];omega);rw [Ze3] at h;exact h
theorem Znw {A:Nat->Prop} (cs:List Cls) (hlen:cs.length<=1000) (W:Wise (newT cs)) (sv:Value) (s:List UInt8) (w:World) (hs:Src 8 ClsR A w sv (allR cs)) (hl:s.length<=9223372036854775807) :
  Calls Tryz.prog 60 #[sv,.string (S s)] w (Said (ZeI (newT cs) s) w):=by
 rw [W.kindR s];have HR:=Hd (ZbH s w hl);have HB:=Hd (ZhQ s w hl);have HP:=Hd (fun V=>ZcW (Zbe s) V);have HB2:=Hd (fun V=>ZhQ s V hl);obtain ⟨z,hz⟩:∃ z,z=idxV (Zad (newT cs) (Zbe s)):=⟨_,rfl⟩
 have HF:Hid (∀ V,Below w.heap.size w V->Calls Tryz.prog 53 #[sv,.string (S (Zbe s))] V (fun e w'=>e=.returned (.int .i64 z)/\Below V.heap.size V w')):=Hd (fun V hV=>by
  rw [hz];exact Zcw cs hlen sv (Zbe s) V (ClsR.st.below hs hV))
 have HZ:Hid ((Zad (newT cs) (Zbe s)).isSome=decide (0<=z)):=Hd (by
  rw [hz];cases Zad (newT cs) (Zbe s) with
  | none=>rfl
  | some k=>show true=decide ((0:Int)<=(k:Int));rw [Yat (by omega)])
 unfold Zca at HB HB2;have e0:=Zae s;have z0:∃ so n sc,sv=.slice so n sc:=by obtain ⟨so,sc,rfl⟩:=hs.shape;exact ⟨_,_,_,rfl⟩
 obtain ⟨so,n,sc,rfl⟩:=z0;generalize Zbe s=t at HB HP HB2 HF HZ ⊢;generalize (Zad (newT cs) t).isSome=q at HZ ⊢;generalize ZaB t=pl at HP ⊢;generalize Zaj s=r at HR ⊢;unfold Zdq;clear hz hs hl W;cases hn:(s == [110,117,108,108]) with
 | true=>
  clear HR HB HP HB2 HF HZ;go_enter Tryz.func60,Tryz.ntmps60;go_wp2;go_ret;exact ⟨rfl,Yab _ _⟩
 | false=>
  go_enter Tryz.func60,Tryz.ntmps60
  go_wp2_with fail
  with_reducible refine HR.o.mono ?_
  rintro e w1 ⟨rfl,rfl⟩;cases r with
  | false=>
   clear HR HB HP HB2 HF HZ;go_wp2;go_ret;exact ⟨rfl,Yab _ _⟩
  | true=>
   go_wp2_with fail
   with_reducible refine HB.o.mono ?_
   rintro e w2 ⟨rfl,hb2⟩;have B2:=Hd hb2;clear hb2
   go_wp2_with fail
   with_reducible refine (HP.o w2).mono ?_
   rintro e w3 ⟨rfl,rfl⟩;cases pl with
   | true=>
    clear HR HB HP HB2 HF HZ;go_wp2;go_ret;exact ⟨rfl,B2.o⟩
   | false=>
    go_wp2_with fail
    with_reducible refine (HB2.o w2).mono ?_
    rintro e w4 ⟨rfl,hb⟩;have B4:=Hd (B2.o.trans (hb.mono B2.o.size));clear hb
    go_wp2_with fail
    with_reducible refine (HF.o w4 B4.o).mono ?_
    rintro e w5 ⟨rfl,hb⟩;have B5:=Hd (B4.o.trans (hb.mono B4.o.size));clear hb HR HB HP HB2 HF;by_cases hz:0<=z
    ·have h1:decide (0<=z)=true:=Yat hz;have HQ:Hid (q=true):=Hd (by rw [HZ.o,h1]);clear HZ;go_wp2;go_ret;exact ⟨by rw [HQ.o];rfl,B5.o⟩
    ·have h1:decide (0<=z)=false:=Yaj hz;have HQ:Hid (q=false):=Hd (by rw [HZ.o,h1]);clear HZ;go_wp2;go_ret;exact ⟨by rw [HQ.o];rfl,B5.o⟩
theorem Zlg {A:Nat->Prop} (cs:List Cls) (hlen:cs.length<=1000) (W:Wise (newT cs)) (sv:Value) (s:List UInt8) (w:World) (hs:Src 8 ClsR A w sv (allR cs)) (hl:s.length<=9223372036854775807) :
  Calls Tryz.prog 120 #[sv,.string (S s)] w (Said (ZbY (newT cs) s) w):=by
 rw [W.there s];have HK:=Hd (Znw cs hlen W sv s w hs hl);unfold Said at HK;have e0:=Zae s;generalize ZeI (newT cs) s=r at HK ⊢;unfold Zdq;obtain ⟨so,sc,rfl⟩:=hs.shape;clear hs hl W;by_cases hn:s=[110,117,108,108]
 ·have h1:(s == [110,117,108,108])=true:=by rw [hn];rfl
  have h2:decide (s ≠ [110,117,108,108])=false:=Yaj (fun h=>h hn);have h3:(s != [110,117,108,108])=false:=by rw [bne,h1];rfl
  rw [h2];clear HK h2 hn;go_enter Tryz.func120,Tryz.ntmps120;go_wp2;go_ret;exact ⟨rfl,Yab _ _⟩
 ·have h1:(s == [110,117,108,108])=false:=Yah.2 hn;have h2:decide (s ≠ [110,117,108,108])=true:=Yat hn;have h3:(s != [110,117,108,108])=true:=by rw [bne,h1];rfl
  rw [h2];clear h2 hn;go_enter Tryz.func120,Tryz.ntmps120
  go_wp2_with fail
  with_reducible refine HK.o.mono ?_
  rintro e w1 ⟨rfl,hb⟩;clear HK;go_wp2;go_ret;exact ⟨rfl,hb⟩
theorem ZhW (lo:Nat) (W:World) (h:lo<=W.heap.size):TRow 3 99 FldR lo (W.alloc (.cells #[] 99)) (.slice (some ⟨W.heap.size,0,none⟩) 0 0) [] []:=Zej _ _ _ h
theorem ZiV {A:Nat->Prop} (cs:List Cls) (hL:Lined cs) (W:Wise (newT cs)) (sv:Value) :
  ∀ (L:List Nat) (n:List UInt8) (w:World),Zdw (newT cs) L (Zad (newT cs) n)->L.length<=10000->Src 8 ClsR A w sv (allR cs)->Calls Tryz.prog 189 #[sv,.string (S n)] w (ZnY (Zbl (newT cs) L) w):=by
 intro L;induction L with
 | nil=>
  intro n w hc _ hs;have hp:Zad (newT cs) n=none:=hc;have HF:=Hd (Zcw cs hL.len sv n w hs);unfold Zfx at HF;rw [hp] at HF;obtain ⟨so,sc,rfl⟩:=hs.shape;clear hs hc hp;have i0:idxV none=(-1:Int):=rfl;rw [i0] at HF;unfold ZnY;go_enter Tryz.func189,Tryz.ntmps189
  go_wp2_with fail
  with_reducible refine HF.o.mono ?_
  rintro e w1 ⟨rfl,hb⟩;have B1:=Hd hb;clear hb;go_wp2;go_ret;exact ⟨_,rfl,TRow.nil _ _,B1.o⟩
 | cons i L ih=>
  intro n w hc hl hs;obtain ⟨hp,en,hen,hcl⟩:=hc;have HF:=Hd (Zcw cs hL.len sv n w hs);unfold Zfx at HF;rw [hp] at HF;have i0:idxV (some i)=(i:Int):=rfl;rw [i0] at HF;have hx:(allR cs)[i]? = some en.cls:=by rw [Zdx,hen];rfl
  have him:i<(allR cs).length:=(Yag.1 hx).1;have hfa:Zbh (newT cs) i=en.cls.flds:=by unfold Zbh;rw [hen]
  have hll:=Zgn W.sh.fl L;have hle:=W.sh.fl i en hen;rw [YaI] at hl;have hsup:=hL.sup hen;have HC:Hid (∀ V,Below w.heap.size w V->Calls Tryz.prog 189 #[sv,.string (S en.cls.sup)] V (fun e w'=>∃ v,e=.returned v/\TRow 3 99 FldR V.heap.size w' v (Zbl (newT cs) L) ((Zbl (newT cs) L).map fldV)/\Below V.heap.size V w')):=Hd (fun V hV=>ih en.cls.sup V (by rw [hsup];exact hcl) (by omega) (ClsR.st.below hs hV));have HS:=Hd hs;obtain ⟨so,sc,rfl⟩:=hs.shape;obtain ⟨m,hm⟩:∃ m,m=(allR cs).length:=⟨_,rfl⟩
  rw [←hm] at HF HC HS him ⊢;have B0:=Hd (Yab w.heap.size w);have i1:(0:Int)<=(i:Int):=by omega
  have i2:(i:Int)<(m:Int):=by omega
  have HX:=Hd hx;unfold ZnY;have HFA:Hid (Zbl (newT cs) (i :: L)=Zbl (newT cs) L++en.cls.flds):=Hd (by show Zbl (newT cs) L++Zbh (newT cs) i=_;rw [hfa]);have HLE:Hid ((Zbl (newT cs) L).length+en.cls.flds.length<=1048576):=Hd (by omega);clear hs hm hx him hfa hll hle hl hsup hcl hen ih hp i0;go_enter Tryz.func189,Tryz.ntmps189
  go_wp2_with fail
  with_reducible refine HF.o.mono ?_
  rintro e w1 ⟨rfl,hb⟩;have B1:=Hd hb;obtain ⟨b1,o1,v,rfl,hv,_,hcl⟩:=Src.elem (ClsR.st.below HS.o hb) i en.cls HX.o;obtain ⟨lv,fv,mv,rfl,_,hfv,_⟩:=hv;obtain ⟨fo,fc,rfl⟩:=hfv.shape;have HCC:Hid (∀ V,Below w1.heap.size w1 V->V.cell? ⟨b1,o1+i * 8+1,none⟩=some (.string (S en.cls.sup))/\V.cell? ⟨b1,o1+i * 8+6,none⟩=some (.slice fo en.cls.flds.length fc)):=Hd (fun V hV=>
   have ho:=Yad (S:=fun _=>False) hV
   ⟨ho.cell (a:=⟨b1,o1+i * 8+1,none⟩) (hcl 1 _ rfl) id,ho.cell (a:=⟨b1,o1+i * 8+6,none⟩) (hcl 6 _ rfl) id⟩)
  have HFV:=Hd hfv;clear hb hcl hfv HF;have HLF:Hid ((Zbl (newT cs) L).length<=1048576):=Hd (by have:=HLE.o;omega);have HAP1:Hid (∀ V ve vc,TRow 3 99 FldR w1.heap.size V ve [] []->TRow 3 99 FldR w1.heap.size V vc (Zbl (newT cs) L) ((Zbl (newT cs) L).map fldV)->Below w1.heap.size w1 V->∃ v' w',(Builtin.append_ #[84,84] 84 #[ve,vc]).run Tryz.prog V=.ok v' w'/\
    TRow 3 99 FldR w1.heap.size w' v' (Zbl (newT cs) L) ((Zbl (newT cs) L).map fldV)/\Below w1.heap.size w1 w'):=Hd (fun V ve vc h1 h2 hV=>by
   obtain ⟨v',w',hr,q1,q2⟩:=Ze5 w1.heap.size V ve vc 84 [] _ h1 hV.size (h2.src FldR.st) (by have:=HLF.o;simpa using this);rw [Ybm] at q1;exact ⟨v',w',hr,q1,hV.trans (q2.only.below hV.size (fun g hg=>h1.own g hg))⟩)
  have HAP2:Hid (∀ V v,TRow 3 99 FldR w1.heap.size V v (Zbl (newT cs) L) ((Zbl (newT cs) L).map fldV)->Below w1.heap.size w1 V->∃ v' w',(Builtin.append_ #[84,84] 84 #[v,.slice fo en.cls.flds.length fc]).run Tryz.prog V=.ok v' w'/\
    TRow 3 99 FldR w1.heap.size w' v' (Zbl (newT cs) (i :: L)) ((Zbl (newT cs) (i :: L)).map fldV)/\Below w1.heap.size w1 w'):=Hd (fun V v h1 hV=>by
   obtain ⟨v',w',hr,q1,q2⟩:=Ze5 w1.heap.size V v _ 84 _ _ h1 hV.size (FldR.st.below HFV.o hV) HLE.o;rw [←HFA.o] at q1;exact ⟨v',w',hr,q1,hV.trans (q2.only.below hV.size (fun g hg=>h1.own g hg))⟩)
  have HCL:Hid (∀ V,Below w1.heap.size w1 V->Calls Tryz.prog 189 #[.slice (some ⟨b1,o1,none⟩) m sc,.string (S en.cls.sup)] V (fun e w'=>∃ v,e=.returned v/\TRow 3 99 FldR w1.heap.size w' v (Zbl (newT cs) L) ((Zbl (newT cs) L).map fldV)/\Below V.heap.size V w'/\Below w1.heap.size w1 w')):=Hd (fun V hV=>by
   refine (HC.o V (B1.o.trans (hV.mono B1.o.size))).mono ?_;rintro e w' ⟨v,h1,h2,h3⟩;exact ⟨v,h1,h2.lower FldR.st hV.size,h3,hV.trans (h3.mono hV.size)⟩)
  have hba:Below w1.heap.size w1 (w1.alloc (.cells #[] 99)).drew:=Zab (Zaa (Yab _ _) _);have e0:=(ZhW w1.heap.size w1 (Yac _)).below FldR.st (Zab (Yab _ _));have HCA:Hid (Calls Tryz.prog 189 #[.slice (some ⟨b1,o1,none⟩) m sc,.string (S en.cls.sup)] (w1.alloc (.cells #[] 99)).drew (fun e w'=>∃ v,e=.returned v/\TRow 3 99 FldR w1.heap.size w' v (Zbl (newT cs) L) ((Zbl (newT cs) L).map fldV)/\TRow 3 99 FldR w1.heap.size w' (.slice (some ⟨w1.heap.size,0,none⟩) 0 0) [] []/\Below w1.heap.size w1 w')):=Hd (by
   refine (HCL.o _ hba).mono ?_;rintro e w' ⟨v,h1,h2,h3,h4⟩;exact ⟨v,h1,h2,e0.below FldR.st h3,h4⟩)
  have HE2:Hid (∀ V:World,w1.heap.size<=V.heap.size->TRow 3 99 FldR w1.heap.size (V.alloc (.cells #[] 99)) (.slice (some ⟨V.heap.size,0,none⟩) 0 0) [] []):=Hd (fun V hV=>ZhW _ V hV);obtain ⟨g1,g2⟩:=HCC.o w1 (Yab _ _);have hB:=Yab w1.heap.size w1;clear e0 HC B0 hba
  go_upto_region 4 with fail
  go_cut [4] (fun s4 wx=>TRow 3 99 FldR w1.heap.size wx s4 (Zbl (newT cs) (i :: L)) ((Zbl (newT cs) (i :: L)).map fldV)/\Below w1.heap.size w1 wx)
  case first=>
   first
   | (go_region_held3 (fun V=>V.cell? ⟨b1,o1+i * 8+1,none⟩=some (.string (S en.cls.sup))/\V.cell? ⟨b1,o1+i * 8+6,none⟩=some (.slice fo en.cls.flds.length fc)) ((refine HCC.o _ ?_;(repeat (first|(with_reducible exact Yab _ _)|(with_reducible assumption)|(with_reducible refine Zab ?_)|(with_reducible refine Zaa ?_ _)))))
     (first
      | (go_at_call 189;(with_reducible refine HCA.o.mono ?_);rintro en2 wq ⟨v1,rfl,t1a,z1a,b1a⟩)
      | (go_at_call 189;(with_reducible refine (HCL.o _ ?_).mono ?_);(focus ((repeat (first|(with_reducible exact Yab _ _)|(with_reducible assumption)|(with_reducible refine Zab ?_)|(with_reducible refine Zaa ?_ _)));done));rintro en2 wq ⟨v1,rfl,t1b,b0b,b1b⟩)
      | ((revert b2;intro b2;obtain ⟨v3,w3,hr3,t3,b3⟩:=HAP2.o _ _ t2 b2;refine ZaY (by rfl) _ _ 84 (by rfl) _ _ v3 w3 (by rfl) (by rfl) hr3 ?_))
      | ((revert z1a;intro z1a;obtain ⟨v2,w2,hr,t2,b2⟩:=HAP1.o _ _ _ z1a t1a b1a;refine ZaY (by rfl) _ _ 84 (by rfl) _ _ v2 w2 (by rfl) (by rfl) hr ?_))
      | ((revert b0b;intro b0b;obtain ⟨v2,w2,hr,t2,b2⟩:=HAP1.o _ _ _ (HE2.o _ (Below.size b1b)) (t1b.below FldR.st (Zaa (Yab _ _) _)) (Zaa b1b _);refine ZaY (by rfl) _ _ 84 (by rfl) _ _ v2 w2 (by rfl) (by rfl) hr ?_))))
   | fail
   all_goals
    go_wp2_with fail
    go_meet
    exact ⟨t3,b3⟩
  case rest=>
   obtain ⟨ht,hb⟩:=hcut;have HTF:=Hd (ht.lower FldR.st B1.o.size);have HBF:=Hd (B1.o.trans (hb.mono B1.o.size));clear ht hb g1 g2 hB HCC HAP1 HAP2 HCL HCA HE2;go_wp2;go_ret;exact ⟨_,rfl,HTF.o,HBF.o⟩
