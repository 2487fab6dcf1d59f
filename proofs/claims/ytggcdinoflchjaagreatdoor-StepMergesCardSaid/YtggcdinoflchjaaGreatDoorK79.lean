/- laws -/
import Derived.Test.YtggcdinoflchjaaGreatDoorK77
set_option maxRecDepth 100000
set_option maxHeartbeats 16000000
namespace Go.Proofs.YtggcdinoflchjaaGreatDoor
open Go.RowKit
structure Shp.Few (s:Shp):Prop where
 n1:s.stk.length<=40
 n2:s.loc.length<=40
 k1:∀ x ∈ s.stk,x.length<=100
 k2:∀ x ∈ s.loc,x.length<=100
def Zeg (s:Shp) (w:World) (e:Ending) (w':World):Prop:=∃ b,e=.returned (.bool b)/\(b=true->s.Few)/\Below w.heap.size w w'
theorem Zeo {A:Nat->Prop} (s:Shp) (v:Value) (w:World) (hs:ShpR A w s v) (hf:s.Fit):Calls Tryz.prog 12 #[v] w (Zeg s w):=by
 obtain ⟨p1,p2,rfl,h1,h2⟩:=hs;obtain ⟨so,sc,rfl⟩:=h1.shape;obtain ⟨lo,lc,rfl⟩:=h2.shape;have HE1:=Hd (Src.elem h1);have HE2:=Hd (Src.elem h2);obtain ⟨n,hn⟩:∃ n,n=s.stk.length:=⟨_,rfl⟩
 obtain ⟨m,hm⟩:∃ m,m=s.loc.length:=⟨_,rfl⟩
 have hn1:n<=9223372036854775807:=by rw [hn];exact hf.1
 have hm1:m<=9223372036854775807:=by rw [hm];exact hf.2
 rw [←hn,←hm];have HN:=Hd hn;have HM:=Hd hm;have HX:=Hd (Box.new w #[.bool s.seen,.slice so n sc,.slice lo m lc] 24);have HB0:Hid (Below w.heap.size w (w.alloc (.cells #[.bool s.seen,.slice so n sc,.slice lo m lc] 24))):=Hd (Zaa (Yab _ _) _);clear h1 h2 hf hn hm;by_cases g1:40<n
 ·have i1:40<(n:Int):=by omega
  clear g1;go_enter Tryz.func12,Tryz.ntmps12;go_wp2;go_ret;exact (⟨false,rfl,(fun h=>by cases h),HB0.o⟩:Zeg s w _ _)
 have i1:¬ (40<(n:Int)):=by omega
 by_cases g2:40<m
 ·have i2:40<(m:Int):=by omega
  clear g1 g2;go_enter Tryz.func12,Tryz.ntmps12;go_wp2;go_ret;exact (⟨false,rfl,(fun h=>by cases h),HB0.o⟩:Zeg s w _ _)
 have i2:¬ (40<(m:Int)):=by omega
 have HG:Hid (n<=40/\m<=40):=Hd ⟨by omega,by omega⟩;clear g1 g2;go_enter Tryz.func12,Tryz.ntmps12;go_wp2
 go_loopw [3] (fun v wr=>∃ k:Nat,k<=n/\v=.int .i64 k/\(∀ x ∈ s.stk.take k,x.length<=100)/\Below (w.alloc (.cells #[.bool s.seen,.slice so n sc,.slice lo m lc] 24)).heap.size (w.alloc (.cells #[.bool s.seen,.slice so n sc,.slice lo m lc] 24)) wr) (fun v _=>n - (intOf v).toNat)
 case atStart=>exact ⟨0,Yai _,rfl,(fun x hx=>by simp at hx),Yab _ _⟩
 case round=>
  obtain ⟨k,hk,rfl,hall,hbw⟩:=hrel;have HA:=Hd hall;have HB:=Hd hbw;have c:=(HX.o.below hbw).cell 1 rfl;clear hall hbw;by_cases hlt:k<n
  ·obtain ⟨x,hx⟩:∃ x,s.stk[k]? = some x:=⟨_,Yaa (by rw [←HN.o];exact hlt)⟩
   obtain ⟨b1,o1,u1,rfl,hu1,_,hc1⟩:=HE1.o k x hx;obtain rfl:=hu1;have d1:wr.cell? ⟨b1,o1+k,none⟩=some (.string (S x)):=(Yaf (S:=fun _=>False) (HB0.o.trans (HB.o.mono HB0.o.size))).cell (a:=⟨b1,o1+k,none⟩) (by have p:=hc1 0 _ rfl;rw [YaC] at p;exact p) id;have zx:((S x).size:Int)=(x.length:Int):=by rw [ZaB]
   have hk0:(0:Int)<=(k:Int):=by omega
   have hkn:(k:Int)<(n:Int):=by omega
   have HT:Hid (s.stk.take (k+1)=s.stk.take k++[x]):=Hd (by rw [YaI,hx];rfl);have HBE:=Hd (HB0.o.trans (HB.o.mono HB0.o.size));clear hc1 hx;by_cases hbig:100<x.length
   ·have ib:100<(x.length:Int):=by omega
    clear hbig;go_wp2;go_ret;exact (⟨false,rfl,(fun h=>by cases h),HBE.o⟩:Zeg s w _ _)
   ·have ib:¬ (100<(x.length:Int)):=by omega
    have HX100:Hid (x.length<=100):=Hd (by omega);clear hbig;go_wp2
    go_roundw
    case rel=>exact ⟨k+1,by omega,by go_num,(fun y hy=>by rw [HT.o,Yap,Yav] at hy;rcases hy with hy|hy;exact HA.o y hy;rw [hy];exact HX100.o),HB.o⟩
    case measure=>simp [intOf];omega
  ·obtain rfl:n=k:=by omega
   have HALL:Hid (∀ x ∈ s.stk,x.length<=100):=Hd (by have h:=HA.o;rw [HN.o,YaF] at h;exact h);have HBE:=Hd (HB0.o.trans (HB.o.mono HB0.o.size));have HALL1:=HALL;obtain ⟨W2,hW2⟩:∃ W2,W2=wr:=⟨_,rfl⟩
   have BE1:=HBE;have X2:=Hd (HX.o.below HB.o);clear HA c HALL HBE HB;rw [←hW2] at BE1 X2 ⊢;clear hW2;have c1:=X2.o.cell 1 rfl;have c2:=X2.o.cell 2 rfl;go_wp2
   go_loopw [4] (fun v wr=>∃ k:Nat,k<=m/\v=.int .i64 k/\(∀ x ∈ s.loc.take k,x.length<=100)/\Below W2.heap.size W2 wr) (fun v _=>m - (intOf v).toNat)
   case atStart=>exact ⟨0,Yai _,rfl,(fun x hx=>by simp at hx),Yab _ _⟩
   case round=>
    obtain ⟨k,hk,rfl,hall,hbw⟩:=hrel;have HA:=Hd hall;have HB:=Hd hbw;have c:=(X2.o.below hbw).cell 2 rfl;clear hall hbw;by_cases hlt:k<m
    ·obtain ⟨x,hx⟩:∃ x,s.loc[k]? = some x:=⟨_,Yaa (by rw [←HM.o];exact hlt)⟩
     obtain ⟨b1,o1,u1,rfl,hu1,_,hc1⟩:=HE2.o k x hx;obtain rfl:=hu1;have d1:wr.cell? ⟨b1,o1+k,none⟩=some (.string (S x)):=(Yaf (S:=fun _=>False) (BE1.o.trans (HB.o.mono BE1.o.size))).cell (a:=⟨b1,o1+k,none⟩) (by have p:=hc1 0 _ rfl;rw [YaC] at p;exact p) id;have zx:((S x).size:Int)=(x.length:Int):=by rw [ZaB]
     have hk0:(0:Int)<=(k:Int):=by omega
     have hkn:(k:Int)<(m:Int):=by omega
     have HT:Hid (s.loc.take (k+1)=s.loc.take k++[x]):=Hd (by rw [YaI,hx];rfl);have HBE:=Hd (BE1.o.trans (HB.o.mono BE1.o.size));clear hc1 hx;by_cases hbig:100<x.length
     ·have ib:100<(x.length:Int):=by omega
      clear hbig;go_wp2;go_ret;exact (⟨false,rfl,(fun h=>by cases h),HBE.o⟩:Zeg s w _ _)
     ·have ib:¬ (100<(x.length:Int)):=by omega
      have HX100:Hid (x.length<=100):=Hd (by omega);clear hbig;go_wp2
      go_roundw
      case rel=>exact ⟨k+1,by omega,by go_num,(fun y hy=>by rw [HT.o,Yap,Yav] at hy;rcases hy with hy|hy;exact HA.o y hy;rw [hy];exact HX100.o),HB.o⟩
      case measure=>simp [intOf];omega
    ·obtain rfl:m=k:=by omega
     have HALL:Hid (∀ x ∈ s.loc,x.length<=100):=Hd (by have h:=HA.o;rw [HM.o,YaF] at h;exact h);have HBE:=Hd (BE1.o.trans (HB.o.mono BE1.o.size));go_wp2;go_ret;exact (⟨true,rfl,(fun _=>⟨by rw [←HN.o];exact HG.o.1,by rw [←HM.o];exact HG.o.2,HALL1.o,HALL.o⟩),HBE.o⟩:Zeg s w _ _)
theorem Shp.Few.small {s:Shp} (h:s.Few):s.Small:=⟨Yan h.n1 (by decide),Yan h.n2 (by decide),fun x hx=>Yan (h.k1 x hx) (by decide),fun x hx=>Yan (h.k2 x hx) (by decide)⟩
