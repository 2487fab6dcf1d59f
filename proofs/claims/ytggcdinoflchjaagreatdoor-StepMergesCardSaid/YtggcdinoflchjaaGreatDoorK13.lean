/- laws -/
import Derived.Test.YtggcdinoflchjaaGreatDoorK12
import Derived.Deep.DrawnRows
import Derived.StringKeys
set_option maxRecDepth 100000
set_option maxHeartbeats 16000000
namespace Go.Proofs.YtggcdinoflchjaaGreatDoor
open Go.RowKit
theorem Zad {w V W:World} (h:Below w.heap.size w V) (b:Below V.heap.size V W):Below w.heap.size w W:=h.trans (b.mono h.size)
theorem Zaa {w V:World} (h:Below w.heap.size w V) (o:Obj):Below w.heap.size w (V.alloc o):=h.alloc h.size o
theorem Zab {w V:World} (h:Below w.heap.size w V):Below w.heap.size w V.drew:=⟨h.os,h.tape,h.output,h.size,h.block⟩
theorem Src.elem {α:Type} {n:Nat} {R:Zaq α} {A:Nat->Prop} {w:World} {so:Option Addr} {m sc:Nat} {l:List α} (hs:Src n R A w (.slice so m sc) l) :
  ∀ (k:Nat) (x:α),l[k]? = some x->∃ b o v,so=some ⟨b,o,none⟩/\R A w x v/\v.cells.size=n/\∀ (j:Nat) u,v.cells[j]? = some u->w.cell? ⟨b,o+k * n+j,none⟩=some u:=by
 intro k x hx;rcases hs with ⟨ao,cp0,he,rfl⟩|⟨b,o,cap,he,_,hc⟩
 ·simp at hx
 ·simp at he
  obtain ⟨v,hv,hsz,hcl⟩:=hc k x hx;exact ⟨b,o,v,he.1,hv,hsz,hcl⟩
theorem Ze8 {α:Type} {p:α->Bool} {l:List α} {k:Nat} (h:(l.take k).any p=true):l.any p=true:=by
 rw [YaN] at h ⊢;obtain ⟨x,hx,hp⟩:=h;exact ⟨x,Ybh hx,hp⟩
theorem Zjm {A:Nat->Prop} (c:Cls) (v:Value) (w:World) (hv:ClsR A w c v) (hfit:c.Fit) :
  Calls Tryz.prog 117 #[v] w (Said c.many w):=by
 obtain ⟨lv,fv,mv,rfl,hl,hf,hm⟩:=hv;obtain ⟨lo,lc,rfl⟩:=hl.shape;obtain ⟨fo,fc,rfl⟩:=hf.shape;obtain ⟨mo,mc,rfl⟩:=hm.shape;have hb0:Below w.heap.size w (w.alloc (.cells #[.string (S c.name),.string (S c.sup),.slice lo c.like.length lc,.bool c.itf,.bool c.abs,.bool c.fin,.slice fo c.flds.length fc,.slice mo c.mths.length mc] 87)):=(Yab _ w).alloc (Yac _) _;have HB0:=Hd hb0;have HBX:=Hd (Box.new w #[.string (S c.name),.string (S c.sup),.slice lo c.like.length lc,.bool c.itf,.bool c.abs,.bool c.fin,.slice fo c.flds.length fc,.slice mo c.mths.length mc] 87);have HC:=Hd (Src.elem (MthR.st.below hm hb0));obtain ⟨n,hn⟩:∃ n,n=c.mths.length:=⟨_,rfl⟩
 have HN:=Hd hn;have hn3:n<=9223372036854775807:=by rw [hn];exact hfit.n3
 have hn1:=hfit.n1;have hn2:=hfit.n2;have hMA:c.many=(decide (32<c.like.length) || (decide (32<c.flds.length) || (decide (32<n) || c.mths.any Mth.many))):=by rw [hn];rfl
 have HMA:=Hd hMA;rw [←hn] at hb0 HB0 HBX HC ⊢;obtain ⟨R,hR⟩:∃ R,R=c.many:=⟨_,rfl⟩
 rw [←hR] at HMA ⊢;have HF:Hid (∀ x ∈ c.mths,x.Fit):=Hd hfit.mths;clear hl hf hm hb0 hn hMA hR hfit;go_enter Tryz.func117,Tryz.ntmps117;go_wp2;generalize w.alloc (.cells #[.string (S c.name),.string (S c.sup),.slice lo c.like.length lc,.bool c.itf,.bool c.abs,.bool c.fin,.slice fo c.flds.length fc,.slice mo n mc] 87)=W0 at HB0 HBX HC ⊢;obtain ⟨B,hB⟩:∃ B,B=w.heap.size:=⟨_,rfl⟩
 rw [←hB] at HBX ⊢;clear hB
 go_loopw [3] (fun v3 wr=>∃ k:Nat,k<=n/\v3=.int .i64 k/\(c.mths.take k).any Mth.many=false/\Below W0.heap.size W0 wr) (fun v3 _=>n - (intOf v3).toNat)
 case atStart=>exact ⟨0,Yai _,rfl,by simp,Yab _ _⟩
 case round=>
  obtain ⟨k,hk,rfl,hall,hbw⟩:=hrel;have HA:=Hd hall;have HBW:=Hd hbw;have c7:=(HBX.o.below hbw).cell 7 rfl;clear hall hbw;by_cases hlt:k<n
  ·have hkl:k<c.mths.length:=by have:=HN.o;omega
   obtain ⟨x,hx⟩:∃ x,c.mths[k]? = some x:=⟨_,Yaa hkl⟩
   have hoW:=Yaf (S:=fun _=>False) HBW.o;obtain ⟨b,o,v,rfl,hv,hsz,hcl⟩:=HC.o k x hx;have HV:=Hd (MthR.st.keep hv hoW (fun _ _=>id));obtain ⟨_,_,_,rfl,⟨po,pc,rfl⟩,⟨co,cc,rfl⟩,⟨ko,kc,rfl⟩⟩:=Zan hv;have d0:wr.cell? ⟨b,o+k * 7,none⟩=some (.string (S x.name)):=hoW.cell (a:=⟨b,o+k * 7,none⟩) (hcl 0 _ rfl) id;have d1:wr.cell? ⟨b,o+k * 7+1,none⟩=some (.slice po x.params.length pc):=hoW.cell (a:=⟨b,o+k * 7+1,none⟩) (hcl 1 _ rfl) id;have d2:wr.cell? ⟨b,o+k * 7+2,none⟩=some (.string (S x.res)):=hoW.cell (a:=⟨b,o+k * 7+2,none⟩) (hcl 2 _ rfl) id;have d3:wr.cell? ⟨b,o+k * 7+3,none⟩=some (.bool x.abs):=hoW.cell (a:=⟨b,o+k * 7+3,none⟩) (hcl 3 _ rfl) id;have d4:wr.cell? ⟨b,o+k * 7+4,none⟩=some (.int .i64 x.loc):=hoW.cell (a:=⟨b,o+k * 7+4,none⟩) (hcl 4 _ rfl) id;have d5:wr.cell? ⟨b,o+k * 7+5,none⟩=some (.slice co x.code.length cc):=hoW.cell (a:=⟨b,o+k * 7+5,none⟩) (hcl 5 _ rfl) id;have d6:wr.cell? ⟨b,o+k * 7+6,none⟩=some (.slice ko x.cats.length kc):=hoW.cell (a:=⟨b,o+k * 7+6,none⟩) (hcl 6 _ rfl) id;clear hcl hsz;have HX:=Hd hx;have hts:=Zai Mth.many c.mths k x hx;rw [HA.o,YaR] at hts;have HTS:=Hd hts;clear hx hkl hoW hts;have hk0:(0:Int)<=k:=by omega
   have hkn:(k:Int)<(n:Int):=by omega
   by_cases h1:32<x.params.length
   ·have ih1:32<(x.params.length:Int):=by omega
    have hmx:x.many=true:=by unfold Mth.many;simp [h1]
    rw [hmx] at HTS;have hR:R=true:=by rw [HMA.o,Ze8 HTS.o];simp
    subst hR;have HBE:=Hd (HB0.o.trans ((Zaa HBW.o _).mono HB0.o.size):Below w.heap.size w (wr.alloc (.cells #[.string (S x.name),.slice po x.params.length pc,.string (S x.res),.bool x.abs,.int .i64 x.loc,.slice co x.code.length cc,.slice ko x.cats.length kc] 44)));clear hmx h1;go_wp2;go_ret;exact ⟨Zao (rfl),HBE.o⟩
   ·have ih1:¬ (32<(x.params.length:Int)):=by omega
    by_cases h2:32<x.cats.length
    ·have ih2:32<(x.cats.length:Int):=by omega
     have hmx:x.many=true:=by unfold Mth.many;simp [h1,h2]
     rw [hmx] at HTS;have hR:R=true:=by rw [HMA.o,Ze8 HTS.o];simp
     subst hR;have HBE:=Hd (HB0.o.trans ((Zaa HBW.o _).mono HB0.o.size):Below w.heap.size w (wr.alloc (.cells #[.string (S x.name),.slice po x.params.length pc,.string (S x.res),.bool x.abs,.int .i64 x.loc,.slice co x.code.length cc,.slice ko x.cats.length kc] 44)));clear hmx h1 h2;go_wp2;go_ret;exact ⟨Zao (rfl),HBE.o⟩
    ·have ih2:¬ (32<(x.cats.length:Int)):=by omega
     by_cases h3:200<x.code.length
     ·have ih3:200<(x.code.length:Int):=by omega
      have hmx:x.many=true:=by unfold Mth.many;simp [h1,h2,h3]
      rw [hmx] at HTS;have hR:R=true:=by rw [HMA.o,Ze8 HTS.o];simp
      subst hR;have HBE:=Hd (HB0.o.trans ((Zaa HBW.o _).mono HB0.o.size):Below w.heap.size w (wr.alloc (.cells #[.string (S x.name),.slice po x.params.length pc,.string (S x.res),.bool x.abs,.int .i64 x.loc,.slice co x.code.length cc,.slice ko x.cats.length kc] 44)));clear hmx h1 h2 h3;go_wp2;go_ret;exact ⟨Zao (rfl),HBE.o⟩
     ·have ih3:¬ (200<(x.code.length:Int)):=by omega
      by_cases h4:64<x.loc
      ·have ih4:64<x.loc:=by omega
       have hmx:x.many=true:=by unfold Mth.many;simp [h1,h2,h3,h4]
       rw [hmx] at HTS;have hR:R=true:=by rw [HMA.o,Ze8 HTS.o];simp
       subst hR;have HBE:=Hd (HB0.o.trans ((Zaa HBW.o _).mono HB0.o.size):Below w.heap.size w (wr.alloc (.cells #[.string (S x.name),.slice po x.params.length pc,.string (S x.res),.bool x.abs,.int .i64 x.loc,.slice co x.code.length cc,.slice ko x.cats.length kc] 44)));clear hmx h1 h2 h3 h4;go_wp2;go_ret;exact ⟨Zao (rfl),HBE.o⟩
      ·have ih4:¬ (64<x.loc):=by omega
       have hmx:x.many=false:=by unfold Mth.many;simp [h1,h2,h3,h4]
       rw [hmx] at HTS;clear hmx h1 h2 h3 h4;go_wp2
       go_roundw
       case rel=>exact ⟨k+1,by omega,by go_num,HTS.o,Zaa HBW.o _⟩
       case measure=>simp [intOf];omega
  ·obtain rfl:k=n:=by omega
   have hfa:c.mths.any Mth.many=false:=by
    have h:=HA.o;rw [HN.o,Yay (Yac _)] at h;exact h
   rw [hfa,Bool.or_false] at HMA;have hbE:Below w.heap.size w wr:=HB0.o.trans (HBW.o.mono HB0.o.size);have HBE:=Hd hbE;have c2:=(HBX.o.below HBW.o).cell 2 rfl;have c6:=(HBX.o.below HBW.o).cell 6 rfl;clear hfa hbE;by_cases h1:32<c.like.length
   ·have ih1:32<(c.like.length:Int):=by omega
    obtain rfl:R=true:=by rw [HMA.o];simp [h1]
    clear h1;go_wp2;go_ret;exact ⟨Zao (rfl),HBE.o⟩
   ·have ih1:¬ (32<(c.like.length:Int)):=by omega
    by_cases h2:32<c.flds.length
    ·have ih2:32<(c.flds.length:Int):=by omega
     obtain rfl:R=true:=by rw [HMA.o];simp [h1,h2]
     clear h1 h2;go_wp2;go_ret;exact ⟨Zao (rfl),HBE.o⟩
    ·have ih2:¬ (32<(c.flds.length:Int)):=by omega
     by_cases h3:32<k
     ·have ih3:32<(k:Int):=by omega
      obtain rfl:R=true:=by rw [HMA.o];simp [h1,h2,h3]
      clear h1 h2 h3;go_wp2;go_ret;exact ⟨Zao (rfl),HBE.o⟩
     ·have ih3:¬ (32<(k:Int)):=by omega
      obtain rfl:R=false:=by rw [HMA.o];simp [h1,h2,h3]
      clear h1 h2 h3;go_wp2;go_ret;exact ⟨Zao (rfl),HBE.o⟩
abbrev entV (B:Nat->Nat) (i:Nat):Value:=.pointer (some ⟨B i,0,none⟩)
abbrev EntP (B:Nat->Nat):Zaq Nat:=Flat (entV B)
theorem EntP.st (B:Nat->Nat):Stays (EntP B):=Flat.stays _
def YesNo (Y N:World->Prop) (e:Ending) (w':World):Prop:=∃ b,e=.returned (.bool b)/\(b=true->Y w')/\(b=false->N w')
theorem YesNo.mono {Y N Y' N':World->Prop} {e:Ending} {w':World} (h:YesNo Y N e w') (hY:∀ w,Y w->Y' w) (hN:∀ w,N w->N' w):YesNo Y' N' e w':=by
 obtain ⟨b,e1,h1,h2⟩:=h;exact ⟨b,e1,fun q=>hY _ (h1 q),fun q=>hN _ (h2 q)⟩
theorem YesNo.mono' {Y N Y' N':World->Prop} {e:Ending} {w':World} (h:YesNo Y N e w') (hY:Y w'->Y' w') (hN:N w'->N' w'):YesNo Y' N' e w':=by
 obtain ⟨b,e1,h1,h2⟩:=h;exact ⟨b,e1,fun q=>hY (h1 q),fun q=>hN (h2 q)⟩
def ZiF (B:Nat->Nat) (F:Nat) (caps:Array Value) (l:List Nat) (J K:Nat->World->Prop):Prop:=
 ∀ (k x:Nat) (w:World),l[k]? = some x->J k w->Calls Tryz.prog F (#[entV B x]++caps) w (YesNo (K k) (J (k+1)))
def ZpS (n:Nat) (J K:Nat->World->Prop) (e:Ending) (w':World):Prop:=∃ z:Int,e=.returned (.int .i64 z)/\((0<=z/\∃ k,k<n/\z=(k:Int)/\K k w')\/(z<0/\J n w'))
theorem ZkF {B:Nat->Nat} {A:Nat->Prop} (F:Nat) (caps:Array Value) (l:List Nat) (so:Option Addr) (cp:Nat) (J K:Nat->World->Prop) (w:World) (he:∀ args w,(callFunc F args).run Tryz.prog w=.ok (.enter F args) w)
  (hst:∀ k w',J k w'->Src 1 (EntP B) A w' (.slice so l.length cp) l) (h0:J 0 w) (hF:ZiF B F caps l J K) (hlen:l.length<=9223372036854775807) :
  Calls Tryz.prog 223 #[.slice so l.length cp,.func (.func F) #[] caps] w (ZpS l.length J K):=by
 have HF:=Hd hF;have HE:=Hd he;have HS:=Hd hst;have H0:=Hd h0;obtain ⟨n,hn⟩:∃ n,n=l.length:=⟨_,rfl⟩
 rw [←hn] at hlen ⊢;simp only [←hn] at HS;have HN:=Hd hn;clear hF he hst h0 hn;go_enter Tryz.func223,Tryz.ntmps223;go_wp2
 go_loopw [8] (fun v8 wr=>∃ k:Nat,k<=n/\v8=.int .i64 k/\J k wr) (fun v8 _=>n - (intOf v8).toNat)
 case atStart=>exact ⟨0,Yai _,rfl,H0.o⟩
 case round=>
  obtain ⟨k,hk,rfl,hj⟩:=hrel;have HJ:=Hd hj;clear hj;by_cases hlt:k<n
  ·have hkl:k<l.length:=by have:=HN.o;omega
   obtain ⟨x,hx⟩:∃ x,l[k]? = some x:=⟨_,Yaa hkl⟩
   obtain ⟨b,o,v,rfl,hv,_,hcl⟩:=Src.elem (HS.o k wr HJ.o) k x hx;obtain rfl:=hv;have d0:wr.cell? ⟨b,o+k,none⟩=some (entV B x):=by have q:=hcl 0 _ rfl;rw [YaC] at q;exact q
   clear hcl;have HX:=Hd hx;clear hx hkl;have hk0:(0:Int)<=k:=by omega
   have hkn:(k:Int)<(n:Int):=by omega
   have he:=HE.o
   go_wp2_with fail
   refine (HF.o k x wr HX.o HJ.o).mono ?_;rintro e w1 ⟨b',rfl,hy,hno⟩;have HY:=Hd hy;have HNO:=Hd hno;clear he d0 hy hno;cases b' with
   | true=>
    have HK:=Hd (HY.o rfl);clear HY HNO;go_wp2;go_ret;exact ⟨k,rfl,Or.inl ⟨by omega,k,hlt,rfl,HK.o⟩⟩
   | false=>
    have HK:=Hd (HNO.o rfl);clear HY HNO;go_wp2
    go_roundw
    case rel=>exact ⟨k+1,by omega,by go_num,HK.o⟩
    case measure=>simp [intOf];omega
  ·obtain rfl:n=k:=by omega
   go_wp2;go_ret;exact ⟨-1,rfl,Or.inr ⟨by decide,HJ.o⟩⟩
theorem Zfl {B:Nat->Nat} {A:Nat->Prop} (F:Nat) (caps:Array Value) (l:List Nat) (sv:Value) (J K:Nat->World->Prop) (w:World) (he:∀ args w,(callFunc F args).run Tryz.prog w=.ok (.enter F args) w)
  (hst:∀ k w',J k w'->Src 1 (EntP B) A w' sv l) (h0:J 0 w) (hF:ZiF B F caps l J K) (hlen:l.length<=9223372036854775807) :
  Calls Tryz.prog 170 #[sv,.func (.func F) #[] caps] w (YesNo (fun w'=>∃ k,k<l.length/\K k w') (J l.length)):=by
 obtain ⟨so,cp,rfl⟩:=(hst 0 w h0).shape;have HI:=Hd (ZkF F caps l so cp J K w he hst h0 hF hlen);generalize l.length=n at HI ⊢;clear he hst h0 hF hlen;go_enter Tryz.func170,Tryz.ntmps170
 go_wp2_with fail
 refine HI.o.mono ?_;rintro e w1 ⟨z,rfl,hz⟩;have HZ:=Hd hz;rcases hz with ⟨h1,_⟩|⟨h1,_⟩
 ·have HK:Hid (∃ k,k<n/\K k w1):=Hd (by
   rcases HZ.o with ⟨_,k,hk,_,h⟩|⟨h2,_⟩
   ·exact ⟨k,hk,h⟩
   ·omega)
  clear HZ;go_wp2;go_ret;exact ⟨true,rfl,fun _=>HK.o,(fun h=>by cases h)⟩
 ·have HK:Hid (J n w1):=Hd (by
   rcases HZ.o with ⟨h2,_⟩|⟨_,h⟩
   ·omega
   ·exact h)
  have h0:decide (0<=z)=false:=by rw [decide_eq_false_iff_not];omega
  clear HZ;go_wp2;go_ret;exact ⟨false,rfl,(fun h=>by cases h),fun _=>HK.o⟩
structure Ent where
 cls:Cls
 up:Option Nat
 lk:List Nat
def ptrV (B:Nat->Nat) (o:Option Nat):Value:=.pointer (o.map fun j=>⟨B j,0,none⟩)
theorem ZdY (B:Nat->Nat) (o:Option Nat):∃ q,ptrV B o=.pointer q:=⟨_,rfl⟩
theorem Zca (B:Nat->Nat) (j:Nat):ptrV B (some j)=.pointer (some ⟨B j,0,none⟩):=rfl
theorem Zez (B:Nat->Nat):ptrV B none=.pointer none:=rfl
def Zac (es:List Ent) (n:List UInt8):Option Nat:=es.findIdx? (fun e=>e.cls.name == n)
def Ze5 (es:List Ent):Lit->Option Nat
 | .string n=>Zac es n
 | _=>none
def entC (B:Nat->Nat) (i:Nat) (e:Ent) (lv fv mv sv:Value):Array Value:=
 #[.int .i64 i,.string (S e.cls.name),.string (S e.cls.sup),lv,.bool e.cls.itf,.bool e.cls.abs,.bool e.cls.fin,fv,mv,ptrV B e.up,sv]
def EntIs (A:Nat->Prop) (B:Nat->Nat) (w:World) (i:Nat) (e:Ent):Prop:=
 ∃ lv fv mv sv,Box w (B i) (entC B i e lv fv mv sv) 97/\Src 1 StrR A w lv e.cls.like/\Src 3 FldR A w fv e.cls.flds/\Src 7 MthR A w mv e.cls.mths/\Src 1 (EntP B) A w sv e.lk
theorem EntIs.keep {A S:Nat->Prop} {B:Nat->Nat} {w w':World} {i:Nat} {e:Ent} (h:EntIs A B w i e) (ho:Only S w w') (hA:∀ k,A k->¬ S k) (hB:¬ S (B i)):EntIs A B w' i e:=by
 obtain ⟨lv,fv,mv,sv,h0,h1,h2,h3,h4⟩:=h;exact ⟨lv,fv,mv,sv,h0.keep ho hB,StrR.st.src h1 ho hA,FldR.st.src h2 ho hA,MthR.st.src h3 ho hA,(EntP.st B).src h4 ho hA⟩
structure Tab (A:Nat->Prop) (w:World) (T mb:Nat) (B:Nat->Nat) (es:List Ent):Prop where
 box:Box w T #[.map (some mb)] 81
 map:MapF Tryz.prog 9 (.pointer none) w mb es.length (fun k=>ptrV B (Ze5 es k)) (fun k=>(Ze5 es k).isSome)
 ent:∀ i e,es[i]? = some e->EntIs A B w i e
 inj:∀ i j,i<es.length->j<es.length->B i=B j->i=j
 offA:∀ i,i<es.length->¬ A (B i)
 offT:∀ i,i<es.length->B i ≠ T
 offM:∀ i,i<es.length->B i ≠ mb
 T_A:¬ A T
 M_A:¬ A mb
 T_M:T ≠ mb
theorem Tab.keep {A S:Nat->Prop} {w w':World} {T mb:Nat} {B:Nat->Nat} {es:List Ent} (h:Tab A w T mb B es) (ho:Only S w w') (hS:∀ k,k<w.heap.size->¬ S k):Tab A w' T mb B es:=by
 have hS':Only (fun _=>False) w w':=ho.mono (fun i hi s=>hS i hi s);exact ⟨h.box.keep hS' id,h.map.keep hS' id,fun i e hi=>(h.ent i e hi).keep hS' (fun _ _=>id) id,h.inj,h.offA,h.offT,h.offM,h.T_A,h.M_A,h.T_M⟩
theorem Tab.below {A:Nat->Prop} {w w':World} {T mb:Nat} {B:Nat->Nat} {es:List Ent} (h:Tab A w T mb B es) (hb:Below w.heap.size w w'):Tab A w' T mb B es:=
 h.keep (Yaf (S:=fun _=>False) hb) (fun _ _=>id)
theorem Tab.lt {A:Nat->Prop} {w:World} {T mb:Nat} {B:Nat->Nat} {es:List Ent} (h:Tab A w T mb B es) {i:Nat} (hi:i<es.length):B i<w.heap.size:=by
 obtain ⟨_,_,_,_,h0,_⟩:=h.ent i es[i] (Yaa hi);exact h0.lt
theorem ZcR (n:List UInt8) (hn:n.length<=9223372036854775807):keyOf Tryz.prog 9 (.string (S n))=some (.string n):=by
 have h:=Go.WideMaps.keyOf_string_mk (P:=Tryz.prog) (k:=9) (s:=S n) Tryz.underlying9 (by rw [ZaB];unfold maxLen;exact hn);rw [h];exact Ya5 (fun x=>some (Lit.string x)) rfl
theorem Zbd:Maps.Keyed Tryz.prog 9:=Maps.string_keyed Tryz.underlying9
theorem Zj8 (w:World):(zeroValue 94).run Tryz.prog w=.ok (.pointer none) w:=by kernel_rfl
theorem Tab.look {A:Nat->Prop} {w:World} {T mb:Nat} {B:Nat->Nat} {es:List Ent} (h:Tab A w T mb B es) (n:List UInt8) (hn:n.length<=9223372036854775807) :
  (Instr.lookup 79 (.map (some mb)) (.string (S n)) false).run Tryz.prog w=.ok (ptrV B (Zac es n)) w:=
 h.map.look Zbd Tryz.underlying79 (Zj8 w) (ZcR n hn)
def ZdK (es:List Ent):List Nat->Option Nat->Prop
 | [],o=>o=none
 | i :: l,o=>o=some i/\∃ e,es[i]? = some e/\ZdK es l e.up
theorem ZhE {α:Type} {l r:List α} {k:Nat} {x:α} (h:l.drop k=x :: r):l[k]? = some x/\l.drop (k+1)=r/\k<l.length:=by
 have hk:k<l.length:=by
  rcases YaE k l.length with h'|h'
  ·exact h'
  ·rw [List.drop_eq_nil_of_le h'] at h;cases h
 rw [YbJ hk] at h
 injection h with h1 h2
 exact ⟨by rw [Yaa hk,h1],h2,hk⟩
theorem Zfa {A:Nat->Prop} {B:Nat->Nat} {T mb:Nat} {es:List Ent} {w0:World} (hT:Tab A w0 T mb B es) (F:Nat) (caps:Array Value) (L:List Nat) (o:Option Nat) (J K:Nat->World->Prop) (w:World) (he:∀ args w,(callFunc F args).run Tryz.prog w=.ok (.enter F args) w)
  (hc:ZdK es L o) (hJ:∀ k w',J k w'->Below w0.heap.size w0 w') (h0:J 0 w) (hF:ZiF B F caps L J K) :
  Calls Tryz.prog 125 #[ptrV B o,.func (.func F) #[] caps] w (YesNo (fun w'=>∃ k,k<L.length/\K k w') (J L.length)):=by
 have HF:=Hd hF;have HE:=Hd he;have HT:=Hd hT;have HJ:=Hd hJ;have H0:=Hd h0;have HC:=Hd hc;clear hF he hT hJ h0 hc;generalize hv0:ptrV B o=vo;have HV:=Hd hv0;clear hv0;go_enter Tryz.func125,Tryz.ntmps125;go_wp2
 go_loopg [0] (L.length+1) (fun gk v0 wr=>∃ (k:Nat) (o:Option Nat),v0=ptrV B o/\ZdK es (L.drop k) o/\J k wr/\k<=L.length/\L.length - k<gk)
 case atStart=>exact ⟨0,o,HV.o.symm,HC.o,H0.o,Yai _,by omega⟩
 case round=>
  obtain ⟨k,o,hv,hc,hj,hk,hg⟩:=hrel;have HJK:=Hd hj;clear hj;cases hd:L.drop k with
  | nil=>
   rw [hd] at hc;have ho:o=none:=hc;subst ho;have hv':u0=.pointer none:=hv;clear hv hc;subst hv';have hkl:L.length=k:=by
    have:=Ya5 List.length hd;simp at this
    omega
   have HKL:=Hd hkl;clear hd hkl;go_wp2;go_ret;exact ⟨false,rfl,(fun h=>by cases h),fun _=>by rw [HKL.o];exact HJK.o⟩
  | cons i r=>
   rw [hd] at hc;obtain ⟨ho,e,hei,hcr⟩:=hc;obtain ⟨hx,hr,hkl⟩:=ZhE hd;subst ho;have hv':u0=.pointer (some ⟨B i,0,none⟩):=hv;subst hv';have HX:=Hd hx;have HR:=Hd hr;have HEI:=Hd hei;have HCR:=Hd hcr;clear hv hx hr hei hcr hd;have he:=HE.o
   go_wp2_with fail
   refine (HF.o k i wr HX.o HJK.o).mono ?_;rintro e1 w1 ⟨b,rfl,hy,hno⟩;have HY:=Hd hy;have HNO:=Hd hno;clear he hy hno;cases b with
   | true=>
    have HK:=Hd (HY.o rfl);clear HY HNO;go_wp2;go_ret;exact ⟨true,rfl,fun _=>⟨k,hkl,HK.o⟩,(fun h=>by cases h)⟩
   | false=>
    have HK:=Hd (HNO.o rfl);clear HY HNO;obtain ⟨lv,fv,mv,sv,hb,_⟩:=(HT.o.below (HJ.o _ _ HK.o)).ent i e HEI.o;have c9:=hb.cell 9 rfl;clear hb;go_wp2
    go_roundg (L.length - k)
    case measure=>omega
    case rel=>exact ⟨k+1,e.up,rfl,by rw [HR.o];exact HCR.o,HK.o,hkl,by omega⟩
