/- laws -/
import Derived.Test.YtggcdinoflchjaaGreatDoorK08
import Derived.Lib.ValidLaws
import Derived.Shelf.Unicode.DecodeSlow
import Derived.Deep.LoopGhost
set_option maxRecDepth 100000
set_option maxHeartbeats 16000000
namespace Go.Proofs.YtggcdinoflchjaaGreatDoor
open Go.RowKit
theorem Zmz {A:Nat->Prop} (F:Nat) (caps:Array Value) (nm:Mth->List UInt8) (x y:Mth) (vx vy:Value) (cn cx:Nat) (w:World) (he:∀ args w,(callFunc F args).run Tryz.prog w=.ok (.enter F args) w)
  (hvx:MthR A w x vx) (hvy:MthR A w y vy) (hc:w.cell? ⟨cn,0,none⟩=some (.func (.func F) #[] caps)) (hb:∀ j u,vx.cells[j]? = some u->w.cell? ⟨cx,j,none⟩=some u) (hN:Zka MthR A F caps nm w) :
  Calls Tryz.prog 210 #[vy,.pointer (some ⟨cn,0,none⟩),.pointer (some ⟨cx,0,none⟩)] w (Said (nm y == nm x) w):=by
 have HNX:Hid (∀ W,Below w.heap.size w W->Calls Tryz.prog F (#[vx]++caps) W fun e w'=>e=.returned (.string (S (nm x)))/\Below W.heap.size W w'):=Hd (fun W hW=>(hN x vx W hW (MthR.st.keep hvx (Yaf (S:=fun _=>False) hW) (fun _ _=>id))));have HNY:Hid (∀ W,Below w.heap.size w W->Calls Tryz.prog F (#[vy]++caps) W fun e w'=>e=.returned (.string (S (nm y)))/\Below W.heap.size W w'):=Hd (fun W hW=>(hN y vy W hW (MthR.st.keep hvy (Yaf (S:=fun _=>False) hW) (fun _ _=>id))));clear hN;obtain ⟨_,_,_,rfl,⟨po,pc,rfl⟩,⟨co,cc,rfl⟩,⟨ko,kc,rfl⟩⟩:=Zan hvx;obtain ⟨_,_,_,rfl,⟨po1,pc1,rfl⟩,⟨co1,cc1,rfl⟩,⟨ko1,kc1,rfl⟩⟩:=Zan hvy;have e1:=Zae (nm x);have e2:=Zae (nm y);generalize nm x=nx at HNX e1 ⊢;generalize nm y=ny at HNY e2 ⊢;have hb0:Below w.heap.size w (w.alloc (.cells #[.string (S y.name),.slice po1 y.params.length pc1,.string (S y.res),.bool y.abs,.int .i64 y.loc,.slice co1 y.code.length cc1,.slice ko1 y.cats.length kc1] 44)):=(Yab _ w).alloc (Yac _) _;have HB0:=Hd hb0;have HX:Hid (∀ W,Below (w.alloc (.cells #[.string (S y.name),.slice po1 y.params.length pc1,.string (S y.res),.bool y.abs,.int .i64 y.loc,.slice co1 y.code.length cc1,.slice ko1 y.cats.length kc1] 44)).heap.size (w.alloc (.cells #[.string (S y.name),.slice po1 y.params.length pc1,.string (S y.res),.bool y.abs,.int .i64 y.loc,.slice co1 y.code.length cc1,.slice ko1 y.cats.length kc1] 44)) W->Calls Tryz.prog F (#[.agg #[.string (S x.name),.slice po x.params.length pc,.string (S x.res),.bool x.abs,.int .i64 x.loc,.slice co x.code.length cc,.slice ko x.cats.length kc]]++caps) W fun e w'=>e=.returned (.string (S nx))/\Below (w.alloc (.cells #[.string (S y.name),.slice po1 y.params.length pc1,.string (S y.res),.bool y.abs,.int .i64 y.loc,.slice co1 y.code.length cc1,.slice ko1 y.cats.length kc1] 44)).heap.size (w.alloc (.cells #[.string (S y.name),.slice po1 y.params.length pc1,.string (S y.res),.bool y.abs,.int .i64 y.loc,.slice co1 y.code.length cc1,.slice ko1 y.cats.length kc1] 44)) w'):=Hd (fun W hW=>(HNX.o W (HB0.o.trans (hW.mono HB0.o.size))).mono (fun _ _ h=>⟨h.1,hW.trans (h.2.mono hW.size)⟩));have HY:Hid (∀ W,Below (w.alloc (.cells #[.string (S y.name),.slice po1 y.params.length pc1,.string (S y.res),.bool y.abs,.int .i64 y.loc,.slice co1 y.code.length cc1,.slice ko1 y.cats.length kc1] 44)).heap.size (w.alloc (.cells #[.string (S y.name),.slice po1 y.params.length pc1,.string (S y.res),.bool y.abs,.int .i64 y.loc,.slice co1 y.code.length cc1,.slice ko1 y.cats.length kc1] 44)) W->Calls Tryz.prog F (#[.agg #[.string (S y.name),.slice po1 y.params.length pc1,.string (S y.res),.bool y.abs,.int .i64 y.loc,.slice co1 y.code.length cc1,.slice ko1 y.cats.length kc1]]++caps) W fun e w'=>e=.returned (.string (S ny))/\Below (w.alloc (.cells #[.string (S y.name),.slice po1 y.params.length pc1,.string (S y.res),.bool y.abs,.int .i64 y.loc,.slice co1 y.code.length cc1,.slice ko1 y.cats.length kc1] 44)).heap.size (w.alloc (.cells #[.string (S y.name),.slice po1 y.params.length pc1,.string (S y.res),.bool y.abs,.int .i64 y.loc,.slice co1 y.code.length cc1,.slice ko1 y.cats.length kc1] 44)) w'):=Hd (fun W hW=>(HNY.o W (HB0.o.trans (hW.mono HB0.o.size))).mono (fun _ _ h=>⟨h.1,hW.trans (h.2.mono hW.size)⟩));have HS:Hid (∀ W,Below (w.alloc (.cells #[.string (S y.name),.slice po1 y.params.length pc1,.string (S y.res),.bool y.abs,.int .i64 y.loc,.slice co1 y.code.length cc1,.slice ko1 y.cats.length kc1] 44)).heap.size (w.alloc (.cells #[.string (S y.name),.slice po1 y.params.length pc1,.string (S y.res),.bool y.abs,.int .i64 y.loc,.slice co1 y.code.length cc1,.slice ko1 y.cats.length kc1] 44)) W->(fun W=>W.cell? ⟨cn,0,none⟩=some (.func (.func F) #[] caps)/\W.cell? ⟨cx,0,none⟩=some (.string (S x.name))/\W.cell? ⟨cx,1,none⟩=some (.slice po x.params.length pc)/\W.cell? ⟨cx,2,none⟩=some (.string (S x.res))/\W.cell? ⟨cx,3,none⟩=some (.bool x.abs)/\W.cell? ⟨cx,4,none⟩=some (.int .i64 x.loc)/\W.cell? ⟨cx,5,none⟩=some (.slice co x.code.length cc)/\W.cell? ⟨cx,6,none⟩=some (.slice ko x.cats.length kc)/\W.cell? ⟨w.heap.size,0,none⟩=some (.string (S y.name))/\W.cell? ⟨w.heap.size,1,none⟩=some (.slice po1 y.params.length pc1)/\W.cell? ⟨w.heap.size,2,none⟩=some (.string (S y.res))/\W.cell? ⟨w.heap.size,3,none⟩=some (.bool y.abs)/\W.cell? ⟨w.heap.size,4,none⟩=some (.int .i64 y.loc)/\W.cell? ⟨w.heap.size,5,none⟩=some (.slice co1 y.code.length cc1)/\W.cell? ⟨w.heap.size,6,none⟩=some (.slice ko1 y.cats.length kc1)) W):=Hd (fun W hW=>by
  have hoA:=Yaf (S:=fun _=>False) hW;have ho:=Yaf (S:=fun _=>False) (HB0.o.trans (hW.mono HB0.o.size));exact ⟨ho.cell hc id,ho.cell (hb 0 _ rfl) id,ho.cell (hb 1 _ rfl) id,ho.cell (hb 2 _ rfl) id,ho.cell (hb 3 _ rfl) id,ho.cell (hb 4 _ rfl) id,ho.cell (hb 5 _ rfl) id,ho.cell (hb 6 _ rfl) id,hoA.cell (a:=⟨w.heap.size,0,none⟩) (by simp) id,hoA.cell (a:=⟨w.heap.size,1,none⟩) (by simp) id,hoA.cell (a:=⟨w.heap.size,2,none⟩) (by simp) id,hoA.cell (a:=⟨w.heap.size,3,none⟩) (by simp) id,hoA.cell (a:=⟨w.heap.size,4,none⟩) (by simp) id,hoA.cell (a:=⟨w.heap.size,5,none⟩) (by simp) id,hoA.cell (a:=⟨w.heap.size,6,none⟩) (by simp) id⟩)
 clear hc hb hb0 HNX HNY;go_enter Tryz.func210,Tryz.ntmps210
 go_upto_region 1 with fail
 generalize (w.alloc (.cells #[.string (S y.name),.slice po1 y.params.length pc1,.string (S y.res),.bool y.abs,.int .i64 y.loc,.slice co1 y.code.length cc1,.slice ko1 y.cats.length kc1] 44))=W0 at HX HY HS HB0 ⊢;generalize w.heap.size=Y at HS ⊢;have hS0:=HS.o _ (Yab _ W0);obtain ⟨s0,s1,s2,s3,s4,s5,s6,s7,s8,s9,s10,s11,s12,s13,s14⟩:=hS0;first
 | (go_region_held (fun W=>W.cell? ⟨cn,0,none⟩=some (.func (.func F) #[] caps)/\W.cell? ⟨cx,0,none⟩=some (.string (S x.name))/\W.cell? ⟨cx,1,none⟩=some (.slice po x.params.length pc)/\W.cell? ⟨cx,2,none⟩=some (.string (S x.res))/\W.cell? ⟨cx,3,none⟩=some (.bool x.abs)/\W.cell? ⟨cx,4,none⟩=some (.int .i64 x.loc)/\W.cell? ⟨cx,5,none⟩=some (.slice co x.code.length cc)/\W.cell? ⟨cx,6,none⟩=some (.slice ko x.cats.length kc)/\W.cell? ⟨Y,0,none⟩=some (.string (S y.name))/\W.cell? ⟨Y,1,none⟩=some (.slice po1 y.params.length pc1)/\W.cell? ⟨Y,2,none⟩=some (.string (S y.res))/\W.cell? ⟨Y,3,none⟩=some (.bool y.abs)/\W.cell? ⟨Y,4,none⟩=some (.int .i64 y.loc)/\W.cell? ⟨Y,5,none⟩=some (.slice co1 y.code.length cc1)/\W.cell? ⟨Y,6,none⟩=some (.slice ko1 y.cats.length kc1)) (first|with_reducible exact HS.o _ b2|with_reducible exact HS.o _ b1|with_reducible exact HS.o _ ((Yab _ _).drew))
   (first|(with_reducible refine (HY.o _ (by first|exact b2|exact (Yab _ _).drew)).mono ?_;rintro e wA ⟨rfl,b1⟩)|(with_reducible refine (HX.o _ (by first|exact b1|exact (Yab _ _).drew)).mono ?_;rintro e wB ⟨rfl,b2⟩)))
 | fail
 all_goals
  clear he;go_wp2;go_ret;first|exact ⟨rfl,HB0.o.trans (b2.mono HB0.o.size)⟩|exact ⟨rfl,HB0.o.trans (b1.mono HB0.o.size)⟩
theorem ZoO {A:Nat->Prop} (F:Nat) (caps:Array Value) (nm:Mth->List UInt8) (l:List (Mth)) (sv:Value) (w:World) (he:∀ args w,(callFunc F args).run Tryz.prog w=.ok (.enter F args) w)
  (hs:Src 7 MthR A w sv l) (hN:Zka MthR A F caps nm w) (hlen:l.length<=1048576) :
  Calls Tryz.prog 155 #[sv,.func (.func F) #[] caps] w (Said (ZbL (l.map nm)) w):=by
 have hmf:∀ (fn:Fn) (first cap:Array Value) (w:World),(Instr.makeFunc fn first cap).run Tryz.prog w=.ok (.func fn first cap) w:=fun _ _ _ _=>rfl
 have HE:=Hd he;have HNM:=Hd hN;have HSRC:=Hd hs;clear he hN;rcases hs with ⟨ao,cp0,rfl,rfl⟩|⟨b,o,cap,rfl,hq,hc⟩
 ·go_enter Tryz.func155,Tryz.ntmps155;go_wp2
  go_loopw [9] (fun v9 wr=>v9=.int .i64 0/\wr=w.alloc (.cells #[.func (.func F) #[] caps] 124)) (fun _ _=>0)
  case atStart=>exact ⟨rfl,rfl⟩
  case round=>
   obtain ⟨rfl,rfl⟩:=hrel;go_wp2;go_ret;exact ⟨rfl,(Yab _ w).alloc (Yac _) _⟩
 ·have HC:=Hd hc;have HQ:=Hd hq;obtain ⟨n,hn⟩:∃ n,n=l.length:=⟨_,rfl⟩
  have hcap1:n<=cap:=by rw [hn];exact hq.2.2.1
  have hcap2:cap<=9223372036854775807:=hq.2.2.2;rw [←hn] at hlen HSRC ⊢;have HN:=Hd hn;clear hc hn hq;obtain ⟨r,hr⟩:∃ r,r=ZbL (l.map nm):=⟨_,rfl⟩
  rw [←hr];have HR:=Hd hr;clear hr;go_enter Tryz.func155,Tryz.ntmps155;go_wp2;have hbF:Box (w.alloc (.cells #[.func (.func F) #[] caps] 124)) w.heap.size #[.func (.func F) #[] caps] 124:=Box.new w _ _;have hb0:Below w.heap.size w (w.alloc (.cells #[.func (.func F) #[] caps] 124)):=(Yab _ w).alloc (Yac _) _;generalize w.alloc (.cells #[.func (.func F) #[] caps] 124)=W0 at hbF hb0 ⊢;have HBF:=Hd hbF;have HB0:=Hd hb0;clear hbF hb0;obtain ⟨cf,hcf⟩:∃ cf,cf=w.heap.size:=⟨_,rfl⟩
  rw [←hcf] at HBF ⊢;have HCF:=Hd hcf;clear hcf
  go_loopw [9] (fun v9 wr=>∃ k:Nat,k<=n/\v9=.int .i64 k/\ZbE (l.map nm) k=true/\Below W0.heap.size W0 wr) (fun v9 _=>n - (intOf v9).toNat)
  case atStart=>exact ⟨0,Yai _,rfl,ZdB _,Yab _ _⟩
  case round=>
   obtain ⟨k,hk,rfl,hall,hbw⟩:=hrel;have HA:=Hd hall;have HBW:=Hd hbw;have hb1:Below w.heap.size w wr:=HB0.o.trans (hbw.mono HB0.o.size);have HB:=Hd hb1;clear hall hbw hb1;by_cases hlt:k<n
   ·have hkl:k<l.length:=by have:=HN.o;omega
    obtain ⟨x,hx⟩:∃ x,l[k]? = some x:=⟨_,Yaa hkl⟩
    have hoW:=Yaf (S:=fun _=>False) HB.o;obtain ⟨v,hv,hsz,hcl⟩:=HC.o k x hx;have HV:=Hd (MthR.st.keep hv hoW (fun _ _=>id));obtain ⟨_,_,_,rfl,⟨po,pc,rfl⟩,⟨co,cc,rfl⟩,⟨ko,kc,rfl⟩⟩:=Zan hv;have d0:wr.cell? ⟨b,o+k * 7,none⟩=some (.string (S x.name)):=hoW.cell (a:=⟨b,o+k * 7,none⟩) (hcl 0 _ rfl) id;have d1:wr.cell? ⟨b,o+k * 7+1,none⟩=some (.slice po x.params.length pc):=hoW.cell (a:=⟨b,o+k * 7+1,none⟩) (hcl 1 _ rfl) id;have d2:wr.cell? ⟨b,o+k * 7+2,none⟩=some (.string (S x.res)):=hoW.cell (a:=⟨b,o+k * 7+2,none⟩) (hcl 2 _ rfl) id;have d3:wr.cell? ⟨b,o+k * 7+3,none⟩=some (.bool x.abs):=hoW.cell (a:=⟨b,o+k * 7+3,none⟩) (hcl 3 _ rfl) id;have d4:wr.cell? ⟨b,o+k * 7+4,none⟩=some (.int .i64 x.loc):=hoW.cell (a:=⟨b,o+k * 7+4,none⟩) (hcl 4 _ rfl) id;have d5:wr.cell? ⟨b,o+k * 7+5,none⟩=some (.slice co x.code.length cc):=hoW.cell (a:=⟨b,o+k * 7+5,none⟩) (hcl 5 _ rfl) id;have d6:wr.cell? ⟨b,o+k * 7+6,none⟩=some (.slice ko x.cats.length kc):=hoW.cell (a:=⟨b,o+k * 7+6,none⟩) (hcl 6 _ rfl) id;clear hcl hsz;have HX:=Hd hx;have hfr:=Zfb nm l k x hx;have hds:=ZdA (l.map nm) k;rw [HA.o,Yax,hfr] at hds;have HDS:=Hd hds;clear hx hkl hoW hfr hds;have hk0:(0:Int)<=k:=by omega
    have hkn:(k:Int)<(n:Int):=by omega
    have hkc:(k:Int)<=(cap:Int):=by omega
    go_wp2_with fail
    have hbN:Below wr.heap.size wr (wr.alloc (.cells #[.string (S x.name),.slice po x.params.length pc,.string (S x.res),.bool x.abs,.int .i64 x.loc,.slice co x.code.length cc,.slice ko x.cats.length kc] 44)):=(Yab _ wr).alloc (Yac _) _;have hbx:Box (wr.alloc (.cells #[.string (S x.name),.slice po x.params.length pc,.string (S x.res),.bool x.abs,.int .i64 x.loc,.slice co x.code.length cc,.slice ko x.cats.length kc] 44)) wr.heap.size #[.string (S x.name),.slice po x.params.length pc,.string (S x.res),.bool x.abs,.int .i64 x.loc,.slice co x.code.length cc,.slice ko x.cats.length kc] 44:=Box.new wr _ _;have hbW1:Below w.heap.size w (wr.alloc (.cells #[.string (S x.name),.slice po x.params.length pc,.string (S x.res),.bool x.abs,.int .i64 x.loc,.slice co x.code.length cc,.slice ko x.cats.length kc] 44)):=HB.o.trans (hbN.mono HB.o.size);have hbF1:Box (wr.alloc (.cells #[.string (S x.name),.slice po x.params.length pc,.string (S x.res),.bool x.abs,.int .i64 x.loc,.slice co x.code.length cc,.slice ko x.cats.length kc] 44)) cf #[.func (.func F) #[] caps] 124:=(HBF.o.below HBW.o).below hbN;have hSk:=MthR.st.below (Src.head HQ.o HC.o k (by have:=HN.o;omega)) hbW1;refine (Zdj (A:=A) 210 _ (fun y=>nm y == nm x) (l.take k) _ _ (Zah Tryz.func210 (by kernel_rfl) rfl) hSk (fun i y vy w' hy hb' hvy=>?_) (by rw [Yaz];omega)).mono ?_
    ·have hb2:Below w.heap.size w w':=hbW1.trans (hb'.mono hbW1.size);exact Zmz F caps nm x y _ vy cf wr.heap.size w' HE.o (MthR.st.keep HV.o (Yaf (S:=fun _=>False) (hbN.trans (hb'.mono hbN.size))) (fun _ _=>id)) hvy ((hbF1.below hb').cell 0 rfl) (fun j u hj=>(hbx.below hb').cell j hj)
      (fun z vz W hW hz=>HNM.o z vz W (hb2.trans (hW.mono hb2.size)) hz)
    ·rintro e w1 ⟨rfl,hb1⟩;have hb2:Below W0.heap.size W0 w1:=(HBW.o.trans (hbN.mono HBW.o.size)).trans (hb1.mono (HBW.o.trans (hbN.mono HBW.o.size)).size);have HB2:=Hd hb2;clear hb1 hb2 hbN hbx hbW1 hbF1 hSk d0 d1 d2 d3 d4 d5 d6;cases hp:((l.take k).any fun y=>nm y == nm x) with
     | true=>
      rw [hp] at HDS;have hfin:r=false:=by
       rw [HR.o];unfold ZbL;exact Zfo _ (k+1) _ (by rw [YaB];have:=HN.o;omega) HDS.o
      subst hfin;clear hp;go_wp2;go_ret;exact ⟨rfl,HB0.o.trans (HB2.o.mono HB0.o.size)⟩
     | false=>
      rw [hp] at HDS;clear hp;go_wp2
      go_roundw
      case rel=>exact ⟨k+1,by omega,by go_num,HDS.o,HB2.o⟩
      case measure=>simp [intOf];omega
   ·obtain rfl:k=n:=by omega
    have hfin:r=true:=by
     rw [HR.o];unfold ZbL;rw [YaB,←HN.o];exact HA.o
    subst hfin;go_wp2;go_ret;exact ⟨rfl,HB.o⟩
def ZaN (s:List UInt8):Prop:=s.length<=9223372036854775807
structure Mth.Fit (m:Mth):Prop where
 name:ZaN m.name
 res:ZaN m.res
 params:∀ x ∈ m.params,ZaN x
 code:∀ x ∈ m.code,ZaN x.s
 cats:∀ x ∈ m.cats,ZaN x.cls
 n1:m.params.length<=9223372036854775807
 n2:m.code.length<=9223372036854775807
 n3:m.cats.length<=9223372036854775807
structure Cls.Fit (c:Cls):Prop where
 name:ZaN c.name
 sup:ZaN c.sup
 like:∀ x ∈ c.like,ZaN x
 flds:∀ f ∈ c.flds,ZaN f.name/\ZaN f.kind
 mths:∀ m ∈ c.mths,m.Fit
 n1:c.like.length<=9223372036854775807
 n2:c.flds.length<=9223372036854775807
 n3:c.mths.length<=9223372036854775807
theorem Zgr (s:List UInt8) (w:World) (hs:ZaN s) :
  Calls Tryz.prog 159 #[.string (S s)] w (Said (memB s) w):=by
 have HN:=Hd (Zpd s w hs);have HC:Hid (∀ w,Calls Tryz.prog 149 #[.string (S s)] w (Said (Zak s) w)):=Hd (fun w=>ZbZ s w hs);unfold memB;generalize ZbN s=a at HN ⊢;generalize Zak s=b at HC ⊢;clear hs;go_enter Tryz.func159,Tryz.ntmps159
 go_wp2_with fail
 refine HN.o.mono ?_;rintro e w1 ⟨rfl,hb1⟩;cases a
 ·go_wp2;go_ret;exact ⟨rfl,hb1⟩
 ·have HB:=Hd hb1;clear hb1
  go_wp2_with fail
  refine (HC.o _).mono ?_;rintro e w2 ⟨rfl,hb2⟩;have hb3:Below w.heap.size w w2:=HB.o.trans (hb2.mono HB.o.size);clear hb2;go_wp2;go_ret;exact ⟨rfl,hb3⟩
theorem ZlP (f:Fld) (w:World) (h1:ZaN f.name) (h2:ZaN f.kind) :
  Calls Tryz.prog 104 #[fldV f] w (Said f.ok w):=by
 have HN:Hid (∀ w,Calls Tryz.prog 159 #[.string (S f.name)] w (Said (memB f.name) w)):=Hd (fun w=>Zgr f.name w h1);have HC:Hid (∀ w,Calls Tryz.prog 160 #[.string (S f.kind)] w (Said (Zaj f.kind) w)):=Hd (fun w=>ZfX f.kind w h2);unfold Fld.ok;generalize memB f.name=a at HN ⊢;generalize Zaj f.kind=b at HC ⊢;clear h1 h2;go_enter Tryz.func104,Tryz.ntmps104
 go_wp2_with fail
 have hbx:=Box.new w #[.string (S f.name),.string (S f.kind),.bool f.tr] 99;have hb0:Below w.heap.size w (w.alloc (.cells #[.string (S f.name),.string (S f.kind),.bool f.tr] 99)):=(Yab _ w).alloc (Yac _) _;refine (HN.o _).mono ?_;rintro e w1 ⟨rfl,hb1⟩;have c1:=(hbx.below hb1).cell 1 rfl;have HB:=Hd (hb0.trans (hb1.mono hb0.size));clear hbx hb0 hb1;cases a
 ·go_wp2;go_ret;exact ⟨rfl,HB.o⟩
 ·go_wp2_with fail
  refine (HC.o _).mono ?_;rintro e w2 ⟨rfl,hb2⟩;have hb3:Below w.heap.size w w2:=HB.o.trans (hb2.mono HB.o.size);clear hb2 c1;go_wp2;go_ret;exact ⟨rfl,hb3⟩
theorem ZlO (c:Cat) (n:Nat) (w:World) (hs:ZaN c.cls) :
  Calls Tryz.prog 216 #[catV c,.int .i64 (n:Nat)] w (Said (Cat.ok n c) w):=by
 have HC:Hid (∀ w,Calls Tryz.prog 149 #[.string (S c.cls)] w (Said (Zak c.cls) w)):=Hd (fun w=>ZbZ c.cls w hs);unfold Cat.ok;obtain ⟨fr,tl,at_,cls⟩:=c;dsimp only at HC ⊢;generalize Zak cls=b at HC ⊢;clear hs;by_cases h0:0<=fr
 case neg=>
  rw [Yaj h0];have dh0:=Yaj h0;go_enter Tryz.func216,Tryz.ntmps216;go_wp2;go_ret;exact ⟨rfl,(Yab _ w).alloc (Yac _) _⟩
 rw [Yar h0,Yax];have dh0:=Yar h0;by_cases h1:fr<tl
 case neg=>
  rw [Yaj h1];have dh1:=Yaj h1;go_enter Tryz.func216,Tryz.ntmps216;go_wp2;go_ret;exact ⟨rfl,(Yab _ w).alloc (Yac _) _⟩
 rw [Yar h1,Yax];have dh1:=Yar h1;by_cases h2:tl<=(n:Int)
 case neg=>
  rw [Yaj h2];have dh2:=Yaj h2;go_enter Tryz.func216,Tryz.ntmps216;go_wp2;go_ret;exact ⟨rfl,(Yab _ w).alloc (Yac _) _⟩
 rw [Yar h2,Yax];have dh2:=Yar h2;by_cases h3:0<=at_
 case neg=>
  rw [Yaj h3];have dh3:=Yaj h3;go_enter Tryz.func216,Tryz.ntmps216;go_wp2;go_ret;exact ⟨rfl,(Yab _ w).alloc (Yac _) _⟩
 rw [Yar h3,Yax];have dh3:=Yar h3;by_cases h4:at_<(n:Int)
 case neg=>
  rw [Yaj h4];have dh4:=Yaj h4;go_enter Tryz.func216,Tryz.ntmps216;go_wp2;go_ret;exact ⟨rfl,(Yab _ w).alloc (Yac _) _⟩
 rw [Yar h4,Yax];have dh4:=Yar h4;go_enter Tryz.func216,Tryz.ntmps216
 go_wp2_with fail
 have hb0:Below w.heap.size w (w.alloc (.cells #[.int .i64 fr,.int .i64 tl,.int .i64 at_,.string (S cls)] 185)):=(Yab _ w).alloc (Yac _) _;refine (HC.o _).mono ?_;rintro e w1 ⟨rfl,hb1⟩;have HB:=Hd (hb0.trans (hb1.mono hb0.size));clear hb0 hb1;go_wp2;go_ret;exact ⟨rfl,HB.o⟩
theorem ZlN (c:Cat) (B:Nat) (co:Option Addr) (n cc:Nat) (w:World) (hs:ZaN c.cls) (hc:w.cell? ⟨B,5,none⟩=some (.slice co n cc)) :
  Calls Tryz.prog 215 #[catV c,.pointer (some ⟨B,0,none⟩)] w (Said (Cat.ok n c) w):=by
 have HV:Hid (∀ w,Calls Tryz.prog 216 #[catV c,.int .i64 (n:Nat)] w (Said (Cat.ok n c) w)):=Hd (fun w=>ZlO c n w hs);generalize Cat.ok n c=b at HV ⊢;have hlt:B<w.heap.size:=World.block_lt_of_cell? w _ hc;have hcA:∀ o:Obj,(w.alloc o).cell? ⟨B,5,none⟩=some (.slice co n cc):=fun o=>((Yam (fun _=>False) w).alloc o).cell hc id
 clear hc;go_enter Tryz.func215,Tryz.ntmps215
 go_wp2_with fail
 refine (HV.o _).mono ?_;rintro e w1 ⟨rfl,hb⟩;clear hcA;go_wp2;go_ret;exact ⟨rfl,((Yab _ w).alloc (Yac _) _).trans (hb.mono (by simp))⟩
theorem ZlQ (x:Ins) (w:World) (hT:CT w) (hs:ZaN x.s) :
  Calls Tryz.prog 213 #[ZjQ x] w (Said x.fine w):=by
 have HT:=Hd hT;clear hT;go_enter Tryz.func213,Tryz.ntmps213
 go_wp2_with fail
 have hb0:Below w.heap.size w (w.alloc (.cells #[.string (S x.op),.int .i64 x.n,.string (S x.s)] 48)):=(Yab _ w).alloc (Yac _) _;refine (Zme x.op x.n x.s _ (HT.o.keep hb0) hs).mono ?_;rintro e w1 ⟨rfl,hb1⟩;have HB:=Hd (hb0.trans (hb1.mono hb0.size));clear hb0 hb1;go_wp2;go_ret;refine ⟨?_,HB.o⟩;refine Ya5 (fun q=>Ending.returned (.bool q)) ?_;unfold Ins.fine Ins.e;rw [Ybg,beq_iff_eq,beq_iff_eq];omega
theorem Znn {A:Nat->Prop} (m:Mth) (v:Value) (w:World) (hv:MthR A w m v) :
  Calls Tryz.prog 147 #[v] w (Said m.many w):=by
 obtain ⟨_,_,_,rfl,⟨po,pc,rfl⟩,⟨co,cc,rfl⟩,⟨ko,kc,rfl⟩⟩:=Zan hv;clear hv;unfold Mth.many;generalize m.params.length=n1;generalize m.cats.length=n3;generalize m.code.length=n2;obtain ⟨name,params,res,abs,loc,code,cats⟩:=m;dsimp only;by_cases h1:32<n1
 case pos=>
  rw [Yar h1];have ih1:32<(n1:Int):=by omega
  go_enter Tryz.func147,Tryz.ntmps147;go_wp2;go_ret;exact ⟨rfl,(Yab _ w).alloc (Yac _) _⟩
 rw [Yaj h1,YaR];have ih1:¬ (32<(n1:Int)):=by omega
 by_cases h2:32<n3
 case pos=>
  rw [Yar h2];have ih2:32<(n3:Int):=by omega
  go_enter Tryz.func147,Tryz.ntmps147;go_wp2;go_ret;exact ⟨rfl,(Yab _ w).alloc (Yac _) _⟩
 rw [Yaj h2,YaR];have ih2:¬ (32<(n3:Int)):=by omega
 by_cases h3:200<n2
 case pos=>
  rw [Yar h3];have ih3:200<(n2:Int):=by omega
  go_enter Tryz.func147,Tryz.ntmps147;go_wp2;go_ret;exact ⟨rfl,(Yab _ w).alloc (Yac _) _⟩
 rw [Yaj h3,YaR];have ih3:¬ (200<(n2:Int)):=by omega
 go_enter Tryz.func147,Tryz.ntmps147;go_wp2;go_ret;exact ⟨rfl,(Yab _ w).alloc (Yac _) _⟩
theorem ZhU {A:Nat->Prop} (x:Mth) (v:Value) (w:World) (hv:MthR A w x v) :
  Calls Tryz.prog 157 #[v] w (Said x.abs w):=by
 obtain ⟨_,_,_,rfl,⟨po,pc,rfl⟩,⟨co,cc,rfl⟩,⟨ko,kc,rfl⟩⟩:=Zan hv;clear hv;go_enter Tryz.func157,Tryz.ntmps157;go_wp2;go_ret;exact ⟨rfl,(Yab _ w).alloc (Yac _) _⟩
theorem Zqv {A:Nat->Prop} (x:List UInt8) (v:Value) (w:World) (hv:StrR A w x v) :
  Calls Tryz.prog 152 #[v] w (ZbT x w):=by
 obtain rfl:=hv;go_enter Tryz.func152,Tryz.ntmps152;go_wp2;go_ret;exact ⟨rfl,Yab _ w⟩
theorem Zqw {A:Nat->Prop} (x:Fld) (v:Value) (w:World) (hv:FldR A w x v) :
  Calls Tryz.prog 154 #[v] w (ZbT x.name w):=by
 obtain rfl:=hv;go_enter Tryz.func154,Tryz.ntmps154;go_wp2;go_ret;exact ⟨rfl,(Yab _ w).alloc (Yac _) _⟩
theorem Zqx {A:Nat->Prop} (x:Mth) (v:Value) (w:World) (hv:MthR A w x v) :
  Calls Tryz.prog 156 #[v] w (ZbT x.name w):=by
 obtain ⟨_,_,_,rfl,⟨po,pc,rfl⟩,⟨co,cc,rfl⟩,⟨ko,kc,rfl⟩⟩:=Zan hv;clear hv;go_enter Tryz.func156,Tryz.ntmps156;go_wp2;go_ret;exact ⟨rfl,(Yab _ w).alloc (Yac _) _⟩
end Go.Proofs.YtggcdinoflchjaaGreatDoor
namespace Go.Proofs.YtggcdinoflchjaaGreatDoor
open Go.RowKit Go.Lib
def Zbp (n c b1 b2 b3:Nat):Nat:=
 if c<128 then 1
 else if 194<=c/\c<224/\1<n/\128<=b1/\b1<192 then 2
 else if 224<=c/\c<240/\(1<n/\128<=b1/\b1<192)/\2<n/\128<=b2/\b2<192 then
  (if 2048<=c % 16 * 4096+b1 % 64 * 64+b2 % 64/\(c % 16 * 4096+b1 % 64 * 64+b2 % 64<55296\/57343<c % 16 * 4096+b1 % 64 * 64+b2 % 64) then 3 else 0)
 else if 240<=c/\c<245/\(1<n/\128<=b1/\b1<192)/\(2<n/\128<=b2/\b2<192)/\3<n/\128<=b3/\b3<192 then
  (if 65536<=c % 8 * 262144+b1 % 64 * 4096+b2 % 64 * 64+b3 % 64/\c % 8 * 262144+b1 % 64 * 4096+b2 % 64 * 64+b3 % 64<=1114111 then 4 else 0)
 else 0
theorem Zkm (n c b1 b2 b3:Nat) (h0:128<=c) (h1:b1<256) (h2:b2<256) (h3:b3<256) :
  checkN n b1 b2 b3 (firstT c % 8) (accLo (firstT c / 16)) (accHi (firstT c / 16))=if Zbp n c b1 b2 b3=0 then none else some (Zbp n c b1 b2 b3):=by
 have key:∀ sz lo hi,firstT c % 8=sz->accLo (firstT c / 16)=lo->accHi (firstT c / 16)=hi->checkN n b1 b2 b3 sz lo hi=(if Zbp n c b1 b2 b3=0 then none else some (Zbp n c b1 b2 b3))->
   checkN n b1 b2 b3 (firstT c % 8) (accLo (firstT c / 16)) (accHi (firstT c / 16))=if Zbp n c b1 b2 b3=0 then none else some (Zbp n c b1 b2 b3):=fun sz lo hi e1 e2 e3 h=>by rw [e1,e2,e3];exact h
 have n1:¬ c<128:=by omega
 by_cases c0:c<194
 ·refine key 1 _ _ (by simp [firstT,n1,c0]) rfl rfl ?_;have e:Zbp n c b1 b2 b3=0:=by
   unfold Zbp;rw [Yaq n1,Yaq (by omega),Yaq (by omega),Yaq (by omega)]
  rw [e];rfl
 by_cases c1:c<224
 ·refine key 2 128 191 (by simp [firstT,n1,c0,c1]) (by simp [firstT,accLo,n1,c0,c1]) (by simp [firstT,accHi,n1,c0,c1]) ?_;by_cases hA:1<n/\128<=b1/\b1<192
  ·have e:Zbp n c b1 b2 b3=2:=by unfold Zbp;rw [Yaq n1,YaA (by omega)]
   rw [e];unfold checkN;rw [YaA rfl,Yaq (by omega)];rfl
  ·have e:Zbp n c b1 b2 b3=0:=by unfold Zbp;rw [Yaq n1,Yaq (by omega),Yaq (by omega),Yaq (by omega)]
   rw [e];unfold checkN;rw [YaA rfl,YaA (by omega)];rfl
 have three:∀ lo hi,(2048<=c % 16 * 4096+b1 % 64 * 64+b2 % 64/\(c % 16 * 4096+b1 % 64 * 64+b2 % 64<55296\/57343<c % 16 * 4096+b1 % 64 * 64+b2 % 64)↔lo<=b1/\b1<=hi)\/¬ (128<=b1/\b1<192)->128<=lo->hi<=191->c<240->
   checkN n b1 b2 b3 3 lo hi=(if Zbp n c b1 b2 b3=0 then none else some (Zbp n c b1 b2 b3)):=by
  intro lo hi hv hlo hhi hc;by_cases hA:(1<n/\128<=b1/\b1<192)/\2<n/\128<=b2/\b2<192
  ·by_cases hB:lo<=b1/\b1<=hi
   ·have e:Zbp n c b1 b2 b3=3:=by
     unfold Zbp;rw [Yaq n1,Yaq (by omega),YaA (by omega),YaA];rcases hv with hv|hv
     ·exact hv.2 hB
     ·omega
    rw [e];unfold checkN;rw [Yaq (by decide),YaA rfl,Yaq (by omega)];rfl
   ·have e:Zbp n c b1 b2 b3=0:=by
     unfold Zbp;rw [Yaq n1,Yaq (by omega),YaA (by omega),Yaq];rcases hv with hv|hv
     ·exact fun h=>hB (hv.1 h)
     ·omega
    rw [e];unfold checkN;rw [Yaq (by decide),YaA rfl,YaA (by omega)];rfl
  ·have e:Zbp n c b1 b2 b3=0:=by
    unfold Zbp;rw [Yaq n1,Yaq (by omega),Yaq (by omega),Yaq (by omega)]
   rw [e];unfold checkN;rw [Yaq (by decide),YaA rfl,YaA (by omega)];rfl
 have four:∀ lo hi,(65536<=c % 8 * 262144+b1 % 64 * 4096+b2 % 64 * 64+b3 % 64/\c % 8 * 262144+b1 % 64 * 4096+b2 % 64 * 64+b3 % 64<=1114111↔lo<=b1/\b1<=hi)\/¬ (128<=b1/\b1<192)->128<=lo->hi<=191->240<=c->c<245->
   checkN n b1 b2 b3 4 lo hi=(if Zbp n c b1 b2 b3=0 then none else some (Zbp n c b1 b2 b3)):=by
  intro lo hi hv hlo hhi hc hc';by_cases hA:(1<n/\128<=b1/\b1<192)/\(2<n/\128<=b2/\b2<192)/\3<n/\128<=b3/\b3<192
  ·by_cases hB:lo<=b1/\b1<=hi
   ·have e:Zbp n c b1 b2 b3=4:=by
     unfold Zbp;rw [Yaq n1,Yaq (by omega),Yaq (by omega),YaA (by omega),YaA];rcases hv with hv|hv
     ·exact hv.2 hB
     ·omega
    rw [e];unfold checkN;rw [Yaq (by decide),Yaq (by decide),YaA rfl,Yaq (by omega)];rfl
   ·have e:Zbp n c b1 b2 b3=0:=by
     unfold Zbp;rw [Yaq n1,Yaq (by omega),Yaq (by omega),YaA (by omega),Yaq];rcases hv with hv|hv
     ·exact fun h=>hB (hv.1 h)
     ·omega
    rw [e];unfold checkN;rw [Yaq (by decide),Yaq (by decide),YaA rfl,YaA (by omega)];rfl
  ·have e:Zbp n c b1 b2 b3=0:=by
    unfold Zbp;rw [Yaq n1,Yaq (by omega),Yaq (by omega),Yaq (by omega)]
   rw [e];unfold checkN;rw [Yaq (by decide),Yaq (by decide),YaA rfl,YaA (by omega)];rfl
 by_cases c2:c=224
 ·exact key 3 160 191 (by subst c2;decide) (by subst c2;decide) (by subst c2;decide) (three 160 191 (by omega) (by omega) (by omega) (by omega))
 by_cases c3:c<237
 ·exact key 3 128 191 (by simp [firstT,n1,c0,c1,c2,c3]) (by simp [firstT,accLo,n1,c0,c1,c2,c3]) (by simp [firstT,accHi,n1,c0,c1,c2,c3]) (three 128 191 (by omega) (by omega) (by omega) (by omega))
 by_cases c4:c=237
 ·exact key 3 128 159 (by subst c4;decide) (by subst c4;decide) (by subst c4;decide) (three 128 159 (by omega) (by omega) (by omega) (by omega))
 by_cases c5:c<240
 ·exact key 3 128 191 (by simp [firstT,n1,c0,c1,c2,c3,c4,c5]) (by simp [firstT,accLo,n1,c0,c1,c2,c3,c4,c5]) (by simp [firstT,accHi,n1,c0,c1,c2,c3,c4,c5]) (three 128 191 (by omega) (by omega) (by omega) (by omega))
 by_cases c6:c=240
 ·exact key 4 144 191 (by subst c6;decide) (by subst c6;decide) (by subst c6;decide) (four 144 191 (by omega) (by omega) (by omega) (by omega) (by omega))
 by_cases c7:c<244
 ·exact key 4 128 191 (by simp [firstT,n1,c0,c1,c2,c3,c4,c5,c6,c7]) (by simp [firstT,accLo,n1,c0,c1,c2,c3,c4,c5,c6,c7]) (by simp [firstT,accHi,n1,c0,c1,c2,c3,c4,c5,c6,c7]) (four 128 191 (by omega) (by omega) (by omega) (by omega) (by omega))
 by_cases c8:c=244
 ·exact key 4 128 143 (by subst c8;decide) (by subst c8;decide) (by subst c8;decide) (four 128 143 (by omega) (by omega) (by omega) (by omega) (by omega))
 ·refine key 1 _ _ (by simp [firstT,n1,c0,c1,c2,c3,c4,c5,c6,c7,c8]) rfl rfl ?_;have e:Zbp n c b1 b2 b3=0:=by
   unfold Zbp;rw [Yaq n1,Yaq (by omega),Yaq (by omega),Yaq (by omega)]
  rw [e];rfl
def Zfi (l:List UInt8):Nat:=Zbp l.length (l.getD 0 0).toNat (l.getD 1 0).toNat (l.getD 2 0).toNat (l.getD 3 0).toNat
theorem Zgz (l:List UInt8) (hne:l ≠ []):validD l=if Zfi l=0 then false else validD (l.drop (Zfi l)):=by
 by_cases h:(l.getD 0 0).toNat<128
 ·have e:Zfi l=1:=by unfold Zfi Zbp;rw [YaA h]
  rw [e];cases l with
  | nil=>exact absurd rfl hne
  | cons b t=>rw [validD_cons b t (by simpa using h)];rfl
 ·rw [validD_lead l hne (by omega),Zkm _ _ _ _ _ (by omega) (UInt8.toNat_lt _) (UInt8.toNat_lt _) (UInt8.toNat_lt _)];show (match (if Zfi l=0 then none else some (Zfi l)) with|none=>false|some k=>validD (l.drop k))=_
  by_cases h0:Zfi l=0
  ·rw [YaA h0,YaA h0]
  ·rw [Yaq h0,Yaq h0]
theorem ZoH (l:List UInt8) (hne:l ≠ []):Zfi l<=l.length:=by
 have hl:0<l.length:=List.length_pos_iff.2 hne;unfold Zfi Zbp
 repeat' split
 all_goals omega
end Go.Proofs.YtggcdinoflchjaaGreatDoor
namespace Go.Proofs.YtggcdinoflchjaaGreatDoor
open Go.RowKit Go.Lib
def aft (s:ByteArray) (i:Nat):Bool:=decide (i<s.size) && (decide (128<=(s.get! i).toNat) && decide ((s.get! i).toNat<192))
theorem get!_of_lt (s:ByteArray) (i:Nat) (h:i<s.size):s[i]'h=s.get! i:=(Utf8W.get!_of_lt s i h).symm
theorem Zl4 (s:ByteArray) (i:Nat) (w:World) :
  Calls Tryz.prog 274 #[.string s,.int .i64 i] w fun e w'=>e=.returned (.bool (aft s i))/\w=w':=by
 unfold aft;by_cases h:i<s.size
 ·have hz:(i:Int)<(s.size:Int):=by omega
  have hx:=get!_of_lt s i h;obtain ⟨x,hxx⟩:∃ x,x=s.get! i:=⟨_,rfl⟩
  rw [←hxx] at hx ⊢;clear hxx;have hx8:=x.toNat_lt;rw [Yar h,Yax];by_cases h1:128<=x.toNat
  ·have h1z:(128:Int)<=(x.toNat:Int):=by omega
   rw [Yar h1,Yax];by_cases h2:x.toNat<192
   ·have h2z:(x.toNat:Int)<192:=by omega
    rw [Yar h2];go_enter Tryz.func274,Tryz.ntmps274;go_wp2;go_ret;exact ⟨rfl,rfl⟩
   ·have h2z:decide ((x.toNat:Int)<192)=false:=by simp;omega
    rw [Yaj h2];go_enter Tryz.func274,Tryz.ntmps274;go_wp2;go_ret;exact ⟨rfl,rfl⟩
  ·have h1z:decide ((128:Int)<=(x.toNat:Int))=false:=by simp;omega
   rw [Yaj h1,YaD];go_enter Tryz.func274,Tryz.ntmps274;go_wp2;go_ret;exact ⟨rfl,rfl⟩
 ·have hz:decide ((i:Int)<(s.size:Int))=false:=by simp;omega
  rw [Yaj h,YaD];go_enter Tryz.func274,Tryz.ntmps274;go_wp2;go_ret;exact ⟨rfl,rfl⟩
def Zkl (s:ByteArray):Nat:=Zbp s.size (s.get! 0).toNat (s.get! 1).toNat (s.get! 2).toNat (s.get! 3).toNat
theorem Zd2 {s:ByteArray} {i:Nat} (h:i<s.size/\128<=(s.get! i).toNat/\(s.get! i).toNat<192):aft s i=true:=by simp [aft,h]
theorem Zdg {s:ByteArray} {i:Nat} (h:¬ (i<s.size/\128<=(s.get! i).toNat/\(s.get! i).toNat<192)):aft s i=false:=by
 cases e:aft s i with
 | false=>rfl
 | true=>simp [aft] at e;exact absurd ⟨e.1,e.2.1,e.2.2⟩ h
theorem ZoI (s:ByteArray) (w:World) (h0:0<s.size) :
  Calls Tryz.prog 267 #[.string s] w fun e w'=>e=.returned (.int .i64 (Zkl s))/\∃ q,w'=w.drewN q:=by
 have HA:Hid (∀ (i:Nat) (w:World),Calls Tryz.prog 274 #[.string s,.int .i64 i] w fun e w'=>e=.returned (.bool (aft s i))/\w=w'):=fun i w=>Zl4 s i w
 have h0z:(0:Int)<(s.size:Int):=by omega
 have hx0:=get!_of_lt s 0 h0;obtain ⟨R,hR⟩:∃ R,R=Zkl s:=⟨_,rfl⟩
 rw [←hR];unfold Zkl Zbp at hR;obtain ⟨c,hc⟩:∃ c,c=s.get! 0:=⟨_,rfl⟩
 rw [←hc] at hx0 hR;have hc8:=c.toNat_lt;clear hc;by_cases c1:c.toNat<128
 ·rw [YaA c1] at hR;subst hR;have c1z:(c.toNat:Int)<128:=by omega
  go_enter Tryz.func267,Tryz.ntmps267;go_wp2;go_ret;exact ⟨rfl,0,rfl⟩
 rw [Yaq c1] at hR;have c1z:(128:Int)<=(c.toNat:Int):=by omega
 by_cases c2:194<=c.toNat/\c.toNat<224
 ·have c2z:(194:Int)<=(c.toNat:Int):=by omega
  have c2y:(c.toNat:Int)<224:=by omega
  by_cases a1:1<s.size/\128<=(s.get! 1).toNat/\(s.get! 1).toNat<192
  ·rw [YaA ⟨c2.1,c2.2,a1⟩] at hR;subst hR;have e1:=Hd (Zd2 a1);clear a1 c1 c2;go_enter Tryz.func267,Tryz.ntmps267
   go_wp2_with (go_at_call 274;refine (HA.o 1 _).mono ?_;rintro e w1 ⟨rfl,rfl⟩;rw [e1.o])
   go_ret;exact ⟨rfl,0,rfl⟩
  ·rw [Yaq (by omega),Yaq (by omega),Yaq (by omega)] at hR;subst hR;have e1:=Hd (Zdg a1);clear a1 c1 c2;go_enter Tryz.func267,Tryz.ntmps267
   go_wp2_with (go_at_call 274;refine (HA.o 1 _).mono ?_;rintro e w1 ⟨rfl,rfl⟩;rw [e1.o])
   go_ret;exact ⟨rfl,0,rfl⟩
 rw [Yaq (by omega)] at hR;by_cases c3:224<=c.toNat/\c.toNat<240
 ·have c3z:(224:Int)<=(c.toNat:Int):=by omega
  have c3y:(c.toNat:Int)<240:=by omega
  by_cases a1:1<s.size/\128<=(s.get! 1).toNat/\(s.get! 1).toNat<192
  ·have e1:=Hd (Zd2 a1);by_cases a2:2<s.size/\128<=(s.get! 2).toNat/\(s.get! 2).toNat<192
   ·have e2:=Hd (Zd2 a2);rw [YaA ⟨c3.1,c3.2,a1,a2⟩] at hR;have k1:1<s.size:=a1.1;have k2:2<s.size:=a2.1;have hx1:=get!_of_lt s 1 k1;have hx2:=get!_of_lt s 2 k2;have s1z:(1:Int)<(s.size:Int):=by omega
    have s2z:(2:Int)<(s.size:Int):=by omega
    obtain ⟨b1,hb1⟩:∃ b,b=s.get! 1:=⟨_,rfl⟩
    obtain ⟨b2,hb2⟩:∃ b,b=s.get! 2:=⟨_,rfl⟩
    rw [←hb1] at hx1 hR a1;rw [←hb2] at hx2 hR a2;have b18:=b1.toNat_lt;have b28:=b2.toNat_lt;have HR:=Hd hR;clear hb1 hb2 c1 c2 c3 hR;go_enter Tryz.func267,Tryz.ntmps267
    go_wp2_with (first|(go_at_call_of 274 (Value.int IntKind.i64 1);refine (HA.o 1 _).mono ?_;rintro e w1 ⟨rfl,rfl⟩;rw [e1.o])|(go_at_call_of 274 (Value.int IntKind.i64 2);refine (HA.o 2 _).mono ?_;rintro e w1 ⟨rfl,rfl⟩;rw [e2.o]))
    go_quiet (fail)
    go_wp2;all_goals
     go_ret;exact ⟨Zhg (by rw [HR.o];first|(rw [YaA (by omega)];rfl)|(rw [Yaq (by omega)];rfl)),_,rfl⟩
   ·rw [Yaq (by omega),Yaq (by omega)] at hR;subst hR;have e2:=Hd (Zdg a2);clear a1 a2 c1 c2 c3;go_enter Tryz.func267,Tryz.ntmps267
    go_wp2_with (first|(go_at_call_of 274 (Value.int IntKind.i64 1);refine (HA.o 1 _).mono ?_;rintro e w1 ⟨rfl,rfl⟩;rw [e1.o])|(go_at_call_of 274 (Value.int IntKind.i64 2);refine (HA.o 2 _).mono ?_;rintro e w1 ⟨rfl,rfl⟩;rw [e2.o]))
    go_ret;exact ⟨rfl,0,rfl⟩
  ·rw [Yaq (by omega),Yaq (by omega)] at hR;subst hR;have e1:=Hd (Zdg a1);clear a1 c1 c2 c3;go_enter Tryz.func267,Tryz.ntmps267
   go_wp2_with (first|(go_at_call_of 274 (Value.int IntKind.i64 1);refine (HA.o 1 _).mono ?_;rintro e w1 ⟨rfl,rfl⟩;rw [e1.o]))
   go_ret;exact ⟨rfl,0,rfl⟩
 rw [Yaq (by omega)] at hR;by_cases c4:240<=c.toNat/\c.toNat<245
 ·have c4z:(240:Int)<=(c.toNat:Int):=by omega
  have c4y:(c.toNat:Int)<245:=by omega
  by_cases a1:1<s.size/\128<=(s.get! 1).toNat/\(s.get! 1).toNat<192
  ·have e1:=Hd (Zd2 a1);by_cases a2:2<s.size/\128<=(s.get! 2).toNat/\(s.get! 2).toNat<192
   ·have e2:=Hd (Zd2 a2);by_cases a3:3<s.size/\128<=(s.get! 3).toNat/\(s.get! 3).toNat<192
    ·have e3:=Hd (Zd2 a3);rw [YaA ⟨c4.1,c4.2,a1,a2,a3⟩] at hR;have k1:1<s.size:=a1.1;have k2:2<s.size:=a2.1;have k3:3<s.size:=a3.1;have hx1:=get!_of_lt s 1 k1;have hx2:=get!_of_lt s 2 k2;have hx3:=get!_of_lt s 3 k3;have s1z:(1:Int)<(s.size:Int):=by omega
     have s2z:(2:Int)<(s.size:Int):=by omega
     have s3z:(3:Int)<(s.size:Int):=by omega
     obtain ⟨b1,hb1⟩:∃ b,b=s.get! 1:=⟨_,rfl⟩
     obtain ⟨b2,hb2⟩:∃ b,b=s.get! 2:=⟨_,rfl⟩
     obtain ⟨b3,hb3⟩:∃ b,b=s.get! 3:=⟨_,rfl⟩
     rw [←hb1] at hx1 hR a1;rw [←hb2] at hx2 hR a2;rw [←hb3] at hx3 hR a3;have b18:=b1.toNat_lt;have b28:=b2.toNat_lt;have b38:=b3.toNat_lt;have HR:=Hd hR;clear hb1 hb2 hb3 c1 c2 c3 c4 hR;go_enter Tryz.func267,Tryz.ntmps267
     go_wp2_with (first|(go_at_call_of 274 (Value.int IntKind.i64 1);refine (HA.o 1 _).mono ?_;rintro e w1 ⟨rfl,rfl⟩;rw [e1.o])|(go_at_call_of 274 (Value.int IntKind.i64 2);refine (HA.o 2 _).mono ?_;rintro e w1 ⟨rfl,rfl⟩;rw [e2.o])|(go_at_call_of 274 (Value.int IntKind.i64 3);refine (HA.o 3 _).mono ?_;rintro e w1 ⟨rfl,rfl⟩;rw [e3.o]))
     go_quiet (fail)
     go_wp2;all_goals
      go_ret;exact ⟨Zhg (by rw [HR.o];first|(rw [YaA (by omega)];rfl)|(rw [Yaq (by omega)];rfl)),_,rfl⟩
    ·rw [Yaq (by omega)] at hR;subst hR;have e3:=Hd (Zdg a3);clear a1 a2 a3 c1 c2 c3 c4;go_enter Tryz.func267,Tryz.ntmps267
     go_wp2_with (first|(go_at_call_of 274 (Value.int IntKind.i64 1);refine (HA.o 1 _).mono ?_;rintro e w1 ⟨rfl,rfl⟩;rw [e1.o])|(go_at_call_of 274 (Value.int IntKind.i64 2);refine (HA.o 2 _).mono ?_;rintro e w1 ⟨rfl,rfl⟩;rw [e2.o])|(go_at_call_of 274 (Value.int IntKind.i64 3);refine (HA.o 3 _).mono ?_;rintro e w1 ⟨rfl,rfl⟩;rw [e3.o]))
     go_ret;exact ⟨rfl,0,rfl⟩
   ·rw [Yaq (by omega)] at hR;subst hR;have e2:=Hd (Zdg a2);clear a1 a2 c1 c2 c3 c4;go_enter Tryz.func267,Tryz.ntmps267
    go_wp2_with (first|(go_at_call_of 274 (Value.int IntKind.i64 1);refine (HA.o 1 _).mono ?_;rintro e w1 ⟨rfl,rfl⟩;rw [e1.o])|(go_at_call_of 274 (Value.int IntKind.i64 2);refine (HA.o 2 _).mono ?_;rintro e w1 ⟨rfl,rfl⟩;rw [e2.o]))
    go_ret;exact ⟨rfl,0,rfl⟩
  ·rw [Yaq (by omega)] at hR;subst hR;have e1:=Hd (Zdg a1);clear a1 c1 c2 c3 c4;go_enter Tryz.func267,Tryz.ntmps267
   go_wp2_with (first|(go_at_call_of 274 (Value.int IntKind.i64 1);refine (HA.o 1 _).mono ?_;rintro e w1 ⟨rfl,rfl⟩;rw [e1.o]))
   go_ret;exact ⟨rfl,0,rfl⟩
 ·rw [Yaq (by omega)] at hR;subst hR;by_cases d1:c.toNat<194
  ·have d1z:(c.toNat:Int)<194:=by omega
   clear c1 c2 c3 c4;go_enter Tryz.func267,Tryz.ntmps267;go_wp2;go_ret;exact ⟨rfl,0,rfl⟩
  ·have d1z:(245:Int)<=(c.toNat:Int):=by omega
   clear c1 c2 c3 c4;go_enter Tryz.func267,Tryz.ntmps267;go_wp2;go_ret;exact ⟨rfl,0,rfl⟩
