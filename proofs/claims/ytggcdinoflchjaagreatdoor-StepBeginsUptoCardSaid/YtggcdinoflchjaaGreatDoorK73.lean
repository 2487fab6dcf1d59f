/- laws -/
import Derived.Test.YtggcdinoflchjaaGreatDoorK39
import Derived.Test.YtggcdinoflchjaaGreatDoorK62
import Derived.Test.YtggcdinoflchjaaGreatDoorK72
set_option maxRecDepth 100000
set_option maxHeartbeats 16000000
namespace Go.Proofs.YtggcdinoflchjaaGreatDoor
open Go.RowKit
structure Shp where
 seen:Bool
 stk:List (List UInt8)
 loc:List (List UInt8)
def Shp.zero:Shp:=⟨false,[],[]⟩
def Zbv (es:List Ent) (a b:List (List UInt8)):List (List UInt8):=List.zipWith (ZfA es) a b
def Zjx (l:List (List UInt8)):Bool:=l.any fun y=>y == []
def ZhH (es:List Ent) (a b:Shp):Shp × Nat:=
 if a.seen=false then (b,0) else if b.seen=false then (a,0) else
 if a.stk.length=b.stk.length/\a.loc.length=b.loc.length then
  if Zjx (Zbv es a.stk b.stk)=true then (Shp.zero,75) else (⟨true,Zbv es a.stk b.stk,Zbv es a.loc b.loc⟩,0)
 else (Shp.zero,75)
theorem Ze8 {es:List Ent} {a b:List (List UInt8)} (h:a.length=b.length):(Zbv es a b).length=a.length:=by unfold Zbv;rw [List.length_zipWith];omega
theorem Zox {es:List Ent} {a b:List (List UInt8)} {k:Nat} {x y:List UInt8} (hx:a[k]? = some x) (hy:b[k]? = some y):(Zbv es a b)[k]? = some (ZfA es x y):=by
 unfold Zbv;rw [List.getElem?_zipWith,hx,hy]
def ShpR:Zao Shp:=fun A w s v=>∃ a b,v=.agg #[.bool s.seen,a,b]/\Src 1 StrR A w a s.stk/\Src 1 StrR A w b s.loc
theorem ShpR.st:Stays ShpR:=⟨fun ⟨a,b,h,h1,h2⟩ ho hA=>⟨a,b,h,StrR.st.src h1 ho hA,StrR.st.src h2 ho hA⟩,fun ⟨a,b,h,h1,h2⟩ hA=>⟨a,b,h,StrR.st.srcMono h1 hA,StrR.st.srcMono h2 hA⟩⟩
theorem ShpR.below {A:Nat->Prop} {w w':World} {s:Shp} {v:Value} (h:ShpR A w s v) (hb:Below w.heap.size w w'):ShpR A w' s v:=ShpR.st.keep h (Yad (S:=fun _=>False) hb) (fun _ _=>id)
def Shp.Fit (s:Shp):Prop:=s.stk.length<=9223372036854775807/\s.loc.length<=9223372036854775807
def Shp.eqB (a b:Shp):Bool:=(a.seen == b.seen) && (samB Zbr a.stk b.stk && samB Zbr a.loc b.loc)
theorem ZhX {A1 A2:Nat->Prop} (la lb:List (List UInt8)) (sa sb:Value) (w:World) (ha:Src 1 StrR A1 w sa la) (hb:Src 1 StrR A2 w sb lb) (hl1:la.length<=9223372036854775807) (hl2:lb.length<=9223372036854775807) :
  Calls Tryz.prog 32 #[sa,sb] w (Said (samB Zbr la lb) w):=by
 obtain ⟨n,hn⟩:∃ n,n=la.length:=⟨_,rfl⟩
 obtain ⟨m,hm⟩:∃ m,m=lb.length:=⟨_,rfl⟩
 obtain ⟨so,sc,rfl⟩:∃ so sc,sa=.slice so n sc:=by rw [hn];exact ha.shape
 obtain ⟨to_,tc,rfl⟩:∃ so sc,sb=.slice so m sc:=by rw [hm];exact hb.shape
 have HN:=Hd hn;have HM:=Hd hm;have hn1:n<=9223372036854775807:=by omega
 have hm1:m<=9223372036854775807:=by omega
 by_cases hnm:n=m
 case neg=>
  have hR:samB Zbr la lb=false:=by unfold samB;rw [Yaj (by rw [←hn,←hm];exact hnm),YaF]
  rw [hR];have hq:((n:Int) != (m:Int))=true:=by rw [bne_iff_ne];omega
  clear ha hb hn hm hnm hR hl1 hl2;go_enter Tryz.func32,Tryz.ntmps32;go_wp2;go_ret;exact ⟨rfl,Yab _ _⟩
 subst hnm;have HR:Hid (samB Zbr la lb=(la.zip lb).all fun q=>Zbr q.1 q.2):=Hd (by unfold samB;rw [Yat (by rw [←hn,←hm]),Yax]);obtain ⟨R,hr⟩:∃ R,R=samB Zbr la lb:=⟨_,rfl⟩
 rw [←hr] at HR ⊢;clear hr;have HC:=Hd (Src.elem ha);have HD:=Hd (Src.elem hb);clear ha hb hn hm hl1 hl2;go_enter Tryz.func32,Tryz.ntmps32;go_wp2
 go_loopw [5] (fun vi wr=>∃ k:Nat,k<=n/\vi=.int .i64 k/\Zfp Zbr la lb k=true/\Below w.heap.size w wr) (fun vi _=>n - (intOf vi).toNat)
 case atStart=>exact ⟨0,Yai _,rfl,by simp [Zfp],Yab _ _⟩
 case round=>
  obtain ⟨k,hk,rfl,hall,hbw⟩:=hrel;have HA:=Hd hall;have HB:=Hd hbw;clear hall hbw;by_cases hlt:k<n
  ·have hkl:k<la.length:=by have:=HN.o;omega
   have hkm:k<lb.length:=by have:=HM.o;omega
   obtain ⟨x,hx⟩:∃ x,la[k]? = some x:=⟨_,Yaa hkl⟩
   obtain ⟨y,hy⟩:∃ y,lb[k]? = some y:=⟨_,Yaa hkm⟩
   have hoW:=Yad (S:=fun _=>False) HB.o;obtain ⟨b1,o1,ux,rfl,hux,_,hcx⟩:=HC.o k x hx;obtain ⟨b2,o2,uy,rfl,huy,_,hcy⟩:=HD.o k y hy;obtain rfl:=hux;obtain rfl:=huy;have dx0:=hoW.cell (a:=⟨b1,o1+k,none⟩) (by have q:=hcx 0 _ rfl;rw [YaG] at q;exact q) id;have dy0:=hoW.cell (a:=⟨b2,o2+k,none⟩) (by have q:=hcy 0 _ rfl;rw [YaG] at q;exact q) id;have e0:=Zae x;have f0:=Zae y;have HPS:=Hd (ZfZ Zbr la lb k x y hx hy);rw [HA.o,Yax] at HPS;have hk0:(0:Int)<=k:=by omega
   have hkn:(k:Int)<(n:Int):=by omega
   clear hx hy hkl hkm hoW hcx hcy;have hpe:Zbr x y=(x == y):=rfl;rw [hpe] at HPS;clear hpe;generalize hp:(x == y)=p at HPS;cases p
   case false=>
    obtain rfl:R=false:=by rw [HR.o];exact Zjz Zbr la lb (k+1) HPS.o
    have HBE:=Hd (HB.o)
    go_wp2_with (go_quiet (fail))
    go_ret;exact ⟨rfl,below_quiet HBE.o _⟩
   go_wp2_with (go_quiet (fail))
   go_roundw
   case rel=>exact ⟨k+1,by omega,by go_num,HPS.o,below_quiet HB.o _⟩
   case measure=>simp [intOf];omega
  ·obtain rfl:n=k:=by omega
   have hfin:R=true:=by
    have h:=HA.o;unfold Zfp at h;rw [Yaw (by rw [List.length_zip,←HN.o,←HM.o];omega)] at h;rw [HR.o];exact h
   subst hfin;go_wp2;go_ret;exact ⟨rfl,HB.o⟩
theorem Zex {A1 A2:Nat->Prop} (a b:Shp) (u v:Value) (w:World) (hu:ShpR A1 w a u) (hv:ShpR A2 w b v) (ha:a.Fit) (hb:b.Fit) :
  Calls Tryz.prog 15 #[u,v] w (Said (a.eqB b) w):=by
 obtain ⟨s1,l1,rfl,hs1,hl1⟩:=hu;obtain ⟨s2,l2,rfl,hs2,hl2⟩:=hv;obtain ⟨so1,sc1,rfl⟩:=hs1.shape;obtain ⟨lo1,lc1,rfl⟩:=hl1.shape;obtain ⟨so2,sc2,rfl⟩:=hs2.shape;obtain ⟨lo2,lc2,rfl⟩:=hl2.shape;have H1:Hid (∀ W,Below w.heap.size w W->Calls Tryz.prog 32 #[.slice so1 a.stk.length sc1,.slice so2 b.stk.length sc2] W (Said (samB Zbr a.stk b.stk) W)):=Hd (fun W hW=>
  ZhX a.stk b.stk _ _ W (StrR.st.below hs1 hW) (StrR.st.below hs2 hW) ha.1 hb.1)
 have H2:Hid (∀ W,Below w.heap.size w W->Calls Tryz.prog 32 #[.slice lo1 a.loc.length lc1,.slice lo2 b.loc.length lc2] W (Said (samB Zbr a.loc b.loc) W)):=Hd (fun W hW=>
  ZhX a.loc b.loc _ _ W (StrR.st.below hl1 hW) (StrR.st.below hl2 hW) ha.2 hb.2)
 obtain ⟨R,hr⟩:∃ R,R=a.eqB b:=⟨_,rfl⟩
 rw [←hr];have HR:Hid (R=((a.seen == b.seen) && (samB Zbr a.stk b.stk && samB Zbr a.loc b.loc))):=Hd hr;clear hr hs1 hs2 hl1 hl2 ha hb;generalize samB Zbr a.stk b.stk=p1 at H1 HR;generalize samB Zbr a.loc b.loc=p2 at H2 HR;generalize a.seen=s1 at HR ⊢;generalize b.seen=s2 at HR ⊢;by_cases hs12:s1=s2
 case neg=>
  have hR:R=false:=by
   rw [HR.o,Yah.2 hs12,YaF]
  subst hR;clear HR H1 H2;cases s1 <;> cases s2 <;> first
   | exact absurd rfl hs12
   | (go_enter Tryz.func15,Tryz.ntmps15;go_wp2;go_ret;exact ⟨rfl,Zaa (Zaa (Yab _ _) _) _⟩)
 subst hs12;rw [Ybf,Yax] at HR;have HX1:=Hd ((Box.new w #[.bool s1,.slice so1 a.stk.length sc1,.slice lo1 a.loc.length lc1] 24).below (Zaa (Yab _ _) (.cells #[.bool s1,.slice so2 b.stk.length sc2,.slice lo2 b.loc.length lc2] 24)));have hx2:=Box.new (w.alloc (.cells #[.bool s1,.slice so1 a.stk.length sc1,.slice lo1 a.loc.length lc1] 24)) #[.bool s1,.slice so2 b.stk.length sc2,.slice lo2 b.loc.length lc2] 24;rw [show (w.alloc (.cells #[.bool s1,.slice so1 a.stk.length sc1,.slice lo1 a.loc.length lc1] 24)).heap.size=w.heap.size+1 by simp] at hx2;have HX2:=Hd hx2;have HB0:Hid (Below w.heap.size w ((w.alloc (.cells #[.bool s1,.slice so1 a.stk.length sc1,.slice lo1 a.loc.length lc1] 24)).alloc (.cells #[.bool s1,.slice so2 b.stk.length sc2,.slice lo2 b.loc.length lc2] 24))):=Hd (Zaa (Zaa (Yab _ _) _) _);have H1':=Hd (H1.o _ HB0.o);clear hx2 H1;cases s1 <;> (
  go_enter Tryz.func15,Tryz.ntmps15
  go_wp2_with fail
  with_reducible refine H1'.o.mono ?_
  rintro e w1 ⟨rfl,hb1⟩;have HB1:=Hd (HB0.o.trans (hb1.mono HB0.o.size));have c1:w1.cell? ⟨w.heap.size,2,none⟩=some (.slice lo1 a.loc.length lc1):=(HX1.o.below hb1).cell 2 rfl;have c2:w1.cell? ⟨w.heap.size+1,2,none⟩=some (.slice lo2 b.loc.length lc2):=(HX2.o.below hb1).cell 2 rfl;have H2':=Hd (H2.o w1 HB1.o);clear hb1 H2 H1';cases p1 with
  | false=>
   obtain rfl:R=false:=HR.o;go_wp2;go_ret;exact ⟨rfl,HB1.o⟩
  | true=>
   obtain rfl:R=p2:=by have:=HR.o;rwa [Yax] at this
   go_wp2_with fail
   with_reducible refine H2'.o.mono ?_
   rintro e w2 ⟨rfl,hb2⟩;have HB2:=Hd (HB1.o.trans (hb2.mono HB1.o.size));clear hb2 H2';go_wp2;go_ret;exact ⟨rfl,HB2.o⟩)
theorem Zf2 {A1 A2:Nat->Prop} (la lb:List (List UInt8)) (sa sb:Value) (w:World) (ha:Src 1 StrR A1 w sa la) (hb:Src 1 StrR A2 w sb lb) (hl1:la.length<=9223372036854775807) (hl2:lb.length<=9223372036854775807) :
  Calls Tryz.prog 33 #[sa,sb] w (Said (samB Zbr la lb) w):=by
 obtain ⟨n,hn⟩:∃ n,n=la.length:=⟨_,rfl⟩
 obtain ⟨m,hm⟩:∃ m,m=lb.length:=⟨_,rfl⟩
 obtain ⟨so,sc,rfl⟩:∃ so sc,sa=.slice so n sc:=by rw [hn];exact ha.shape
 obtain ⟨to_,tc,rfl⟩:∃ so sc,sb=.slice so m sc:=by rw [hm];exact hb.shape
 have HN:=Hd hn;have HM:=Hd hm;have hn1:n<=9223372036854775807:=by omega
 have hm1:m<=9223372036854775807:=by omega
 by_cases hnm:n=m
 case neg=>
  have hR:samB Zbr la lb=false:=by unfold samB;rw [Yaj (by rw [←hn,←hm];exact hnm),YaF]
  rw [hR];have hq:((n:Int) != (m:Int))=true:=by rw [bne_iff_ne];omega
  clear ha hb hn hm hnm hR hl1 hl2;go_enter Tryz.func33,Tryz.ntmps33;go_wp2;go_ret;exact ⟨rfl,Yab _ _⟩
 subst hnm;have HR:Hid (samB Zbr la lb=(la.zip lb).all fun q=>Zbr q.1 q.2):=Hd (by unfold samB;rw [Yat (by rw [←hn,←hm]),Yax]);obtain ⟨R,hr⟩:∃ R,R=samB Zbr la lb:=⟨_,rfl⟩
 rw [←hr] at HR ⊢;clear hr;have HC:=Hd (Src.elem ha);have HD:=Hd (Src.elem hb);clear ha hb hn hm hl1 hl2;go_enter Tryz.func33,Tryz.ntmps33;go_wp2
 go_loopw [13] (fun vi wr=>∃ k:Nat,k<=n/\vi=.int .i64 k/\Zfp Zbr la lb k=true/\Below w.heap.size w wr) (fun vi _=>n - (intOf vi).toNat)
 case atStart=>exact ⟨0,Yai _,rfl,by simp [Zfp],Yab _ _⟩
 case round=>
  obtain ⟨k,hk,rfl,hall,hbw⟩:=hrel;have HA:=Hd hall;have HB:=Hd hbw;clear hall hbw;by_cases hlt:k<n
  ·have hkl:k<la.length:=by have:=HN.o;omega
   have hkm:k<lb.length:=by have:=HM.o;omega
   obtain ⟨x,hx⟩:∃ x,la[k]? = some x:=⟨_,Yaa hkl⟩
   obtain ⟨y,hy⟩:∃ y,lb[k]? = some y:=⟨_,Yaa hkm⟩
   have hoW:=Yad (S:=fun _=>False) HB.o;obtain ⟨b1,o1,ux,rfl,hux,_,hcx⟩:=HC.o k x hx;obtain ⟨b2,o2,uy,rfl,huy,_,hcy⟩:=HD.o k y hy;obtain rfl:=hux;obtain rfl:=huy;have dx0:=hoW.cell (a:=⟨b1,o1+k,none⟩) (by have q:=hcx 0 _ rfl;rw [YaG] at q;exact q) id;have dy0:=hoW.cell (a:=⟨b2,o2+k,none⟩) (by have q:=hcy 0 _ rfl;rw [YaG] at q;exact q) id;have e0:=Zae x;have f0:=Zae y;have HPS:=Hd (ZfZ Zbr la lb k x y hx hy);rw [HA.o,Yax] at HPS;have hk0:(0:Int)<=k:=by omega
   have hkn:(k:Int)<(n:Int):=by omega
   clear hx hy hkl hkm hoW hcx hcy;have hpe:Zbr x y=(x == y):=rfl;rw [hpe] at HPS;clear hpe;generalize hp:(x == y)=p at HPS;cases p
   case false=>
    obtain rfl:R=false:=by rw [HR.o];exact Zjz Zbr la lb (k+1) HPS.o
    have HBE:=Hd (HB.o)
    go_wp2_with (go_quiet (fail))
    go_ret;exact ⟨rfl,below_quiet HBE.o _⟩
   go_wp2_with (go_quiet (fail))
   go_roundw
   case rel=>exact ⟨k+1,by omega,by go_num,HPS.o,below_quiet HB.o _⟩
   case measure=>simp [intOf];omega
  ·obtain rfl:n=k:=by omega
   have hfin:R=true:=by
    have h:=HA.o;unfold Zfp at h;rw [Yaw (by rw [List.length_zip,←HN.o,←HM.o];omega)] at h;rw [HR.o];exact h
   subst hfin;go_wp2;go_ret;exact ⟨rfl,HB.o⟩
theorem Zny {A1 A2:Nat->Prop} (a b:Shp) (u v:Value) (w:World) (hu:ShpR A1 w a u) (hv:ShpR A2 w b v) (ha:a.Fit) (hb:b.Fit) :
  Calls Tryz.prog 16 #[u,v] w (Said (a.eqB b) w):=by
 obtain ⟨s1,l1,rfl,hs1,hl1⟩:=hu;obtain ⟨s2,l2,rfl,hs2,hl2⟩:=hv;obtain ⟨so1,sc1,rfl⟩:=hs1.shape;obtain ⟨lo1,lc1,rfl⟩:=hl1.shape;obtain ⟨so2,sc2,rfl⟩:=hs2.shape;obtain ⟨lo2,lc2,rfl⟩:=hl2.shape;have H1:Hid (∀ W,Below w.heap.size w W->Calls Tryz.prog 33 #[.slice so1 a.stk.length sc1,.slice so2 b.stk.length sc2] W (Said (samB Zbr a.stk b.stk) W)):=Hd (fun W hW=>
  Zf2 a.stk b.stk _ _ W (StrR.st.below hs1 hW) (StrR.st.below hs2 hW) ha.1 hb.1)
 have H2:Hid (∀ W,Below w.heap.size w W->Calls Tryz.prog 33 #[.slice lo1 a.loc.length lc1,.slice lo2 b.loc.length lc2] W (Said (samB Zbr a.loc b.loc) W)):=Hd (fun W hW=>
  Zf2 a.loc b.loc _ _ W (StrR.st.below hl1 hW) (StrR.st.below hl2 hW) ha.2 hb.2)
 obtain ⟨R,hr⟩:∃ R,R=a.eqB b:=⟨_,rfl⟩
 rw [←hr];have HR:Hid (R=((a.seen == b.seen) && (samB Zbr a.stk b.stk && samB Zbr a.loc b.loc))):=Hd hr;clear hr hs1 hs2 hl1 hl2 ha hb;generalize samB Zbr a.stk b.stk=p1 at H1 HR;generalize samB Zbr a.loc b.loc=p2 at H2 HR;generalize a.seen=s1 at HR ⊢;generalize b.seen=s2 at HR ⊢;by_cases hs12:s1=s2
 case neg=>
  have hR:R=false:=by
   rw [HR.o,Yah.2 hs12,YaF]
  subst hR;clear HR H1 H2;cases s1 <;> cases s2 <;> first
   | exact absurd rfl hs12
   | (go_enter Tryz.func16,Tryz.ntmps16;go_wp2;go_ret;exact ⟨rfl,Zaa (Zaa (Yab _ _) _) _⟩)
 subst hs12;rw [Ybf,Yax] at HR;have HX1:=Hd ((Box.new w #[.bool s1,.slice so1 a.stk.length sc1,.slice lo1 a.loc.length lc1] 24).below (Zaa (Yab _ _) (.cells #[.bool s1,.slice so2 b.stk.length sc2,.slice lo2 b.loc.length lc2] 24)));have hx2:=Box.new (w.alloc (.cells #[.bool s1,.slice so1 a.stk.length sc1,.slice lo1 a.loc.length lc1] 24)) #[.bool s1,.slice so2 b.stk.length sc2,.slice lo2 b.loc.length lc2] 24;rw [show (w.alloc (.cells #[.bool s1,.slice so1 a.stk.length sc1,.slice lo1 a.loc.length lc1] 24)).heap.size=w.heap.size+1 by simp] at hx2;have HX2:=Hd hx2;have HB0:Hid (Below w.heap.size w ((w.alloc (.cells #[.bool s1,.slice so1 a.stk.length sc1,.slice lo1 a.loc.length lc1] 24)).alloc (.cells #[.bool s1,.slice so2 b.stk.length sc2,.slice lo2 b.loc.length lc2] 24))):=Hd (Zaa (Zaa (Yab _ _) _) _);have H1':=Hd (H1.o _ HB0.o);clear hx2 H1;cases s1 <;> (
  go_enter Tryz.func16,Tryz.ntmps16
  go_wp2_with fail
  with_reducible refine H1'.o.mono ?_
  rintro e w1 ⟨rfl,hb1⟩;have HB1:=Hd (HB0.o.trans (hb1.mono HB0.o.size));have c1:w1.cell? ⟨w.heap.size,2,none⟩=some (.slice lo1 a.loc.length lc1):=(HX1.o.below hb1).cell 2 rfl;have c2:w1.cell? ⟨w.heap.size+1,2,none⟩=some (.slice lo2 b.loc.length lc2):=(HX2.o.below hb1).cell 2 rfl;have H2':=Hd (H2.o w1 HB1.o);clear hb1 H2 H1';cases p1 with
  | false=>
   obtain rfl:R=false:=HR.o;go_wp2;go_ret;exact ⟨rfl,HB1.o⟩
  | true=>
   obtain rfl:R=p2:=by have:=HR.o;rwa [Yax] at this
   go_wp2_with fail
   with_reducible refine H2'.o.mono ?_
   rintro e w2 ⟨rfl,hb2⟩;have HB2:=Hd (HB1.o.trans (hb2.mono HB1.o.size));clear hb2 H2';go_wp2;go_ret;exact ⟨rfl,HB2.o⟩)
def Zfz (l:List (List UInt8)) (w:World) (e:Ending) (w':World):Prop:=∃ v,e=.returned v/\KR w.heap.size w' v l/\Below w.heap.size w w'
theorem ZlK {A:Nat->Prop} {w:World} {sv:Value} {l:List (List UInt8)} (ty:TypeId) (hs:Src 1 StrR A w sv l) (hl:l.length<=1048576) :
  ∃ v' w',(Builtin.append_ #[22,22] ty #[.slice (some ⟨w.heap.size,0,none⟩) 0 0,sv]).run Tryz.prog (w.alloc (.cells #[] 9))=.ok v' w'/\KR w.heap.size w' v' l/\Below w.heap.size w w':=by
 obtain ⟨j0,hji,hz0,hz1,hz2⟩:=info_parts ZcD;have hb0:Below w.heap.size w (w.alloc (.cells #[] 9)):=(Yab _ w).alloc (Yac _) _;have hk:KR w.heap.size (w.alloc (.cells #[] 9)) (.slice (some ⟨w.heap.size,0,none⟩) 0 0) []:=KRF.empty _ _ _ _ (Yac _);rcases hs with ⟨ao,cp,rfl,rfl⟩|⟨b,o,cap,rfl,_,hc⟩
 ·exact ⟨_,_,Za5 _ 22 ty 9 j0 1 Tryz.underlying22 hji _ 0 [] (ZcV hk (Yai _)) ao cp,hk,hb0⟩
 ·obtain ⟨v',w',hr,h2,h3⟩:=KRF.append (P:=Tryz.prog) (b:=b) (o:=o) (m:=l.length) (c:=cap) (xs:=l) Zel 22 ty j0 _ 16 Tryz.underlying22 hji hz0 hz1 hz2 rfl hk hb0.size rfl (fun k x hk=>by
   obtain ⟨v,hv,_,hcl⟩:=hc k x hk;obtain rfl:=hv;have q:=hcl 0 _ rfl;rw [YaG] at q;exact (Yad (S:=fun _=>False) hb0).cell (a:=⟨b,o+k,none⟩) q id) (by simp;omega) (by simp;omega)
  rw [Ybm] at h2;exact ⟨v',w',hr,h2,hb0.trans (h3.only.below hb0.size (fun g hg=>(hk.own g hg).1))⟩
theorem Zi0 {A:Nat->Prop} (l:List (List UInt8)) (sv:Value) (w:World) (hs:Src 1 StrR A w sv l) (hl:l.length<=1048576):Calls Tryz.prog 62 #[sv] w (Zfz l w):=by
 have HRUN:=Hd (fun ty=>ZlK ty hs hl);obtain ⟨so,sc,rfl⟩:=hs.shape;cases so with
 | none=>
  have hl0:l=[]:=by
   rcases hs with ⟨_,_,_,h⟩|⟨b,o,c,h,_⟩
   ·exact h
   ·simp at h
  subst hl0;have hq:=fun n c=>Lib.run_eql_slice_nil (P:=Tryz.prog) w 22 9 none n c 0 0 Tryz.underlying22
  clear HRUN hs hl;go_enter Tryz.func62,Tryz.ntmps62;go_wp2;go_ret;exact ⟨_,rfl,KRF.nil _ _ _ _,Yab _ _⟩
 | some a=>
  generalize hn0:l.length=n0 at HRUN ⊢;have hq:=Lib.run_eql_slice_nil (P:=Tryz.prog) w 22 9 (some a) n0 sc 0 0 Tryz.underlying22;clear hn0;clear hs hl;go_enter Tryz.func62,Tryz.ntmps62
  go_wp2_with (at_builtin;(obtain ⟨v',w',hrun,hc,hb⟩:=HRUN.o _;refine Zak rfl _ _ 22 rfl _ _ v' w' rfl rfl hrun ?_))
  go_ret;exact ⟨_,rfl,hc,hb⟩
theorem Zc6 {A:Nat->Prop} (l:List (List UInt8)) (sv:Value) (w:World) (hs:Src 1 StrR A w sv l) (hl:l.length<=1048576) (hfit:∀ x ∈ l,x.length<=281474976710656):Calls Tryz.prog 37 #[sv] w (Zfz l w):=by
 have HC:=Hd (Zi0 l sv w hs hl);have HCL:Hid (∀ x W,x ∈ l->Calls Tryz.prog 63 #[.string (S x)] W fun e w'=>e=.returned (.string (S x))/\Below W.heap.size W w'):=Hd (fun x W hx=>ZaF (S x) W (by rw [Zay];exact hfit x hx));unfold Zfz at HC ⊢;obtain ⟨so,sc,rfl⟩:=hs.shape;obtain ⟨n,hn⟩:∃ n,n=l.length:=⟨_,rfl⟩
 have HN:=Hd hn;rw [←hn] at HC hl ⊢;clear hs hn hfit;go_enter Tryz.func37,Tryz.ntmps37
 go_wp2_with fail
 with_reducible refine HC.o.mono ?_
 rintro e w1 ⟨v1,rfl,hk,hb⟩;have HK:=Hd hk;have HB:=Hd hb;obtain ⟨ao,c,rfl⟩:=hk.shape;have HE:=Hd (Src.elem (hk.src Zbc));rw [←HN.o] at HK ⊢;clear hk hb HC;go_wp2
 go_loopw [9] (fun vi wr=>∃ k:Nat,k<=n/\vi=.int .i64 k/\Below w1.heap.size w1 wr) (fun vi _=>n - (intOf vi).toNat)
 case atStart=>exact ⟨0,Yai _,rfl,Yab _ _⟩
 case round=>
  obtain ⟨k,hk,rfl,hbw⟩:=hrel;have HBW:=Hd hbw;clear hbw;by_cases hlt:k<n
  ·obtain ⟨x,hx⟩:∃ x,l[k]? = some x:=⟨_,Yaa (by rw [←HN.o];exact hlt)⟩
   obtain ⟨g,o,v,rfl,hv,_,hcl⟩:=HE.o k x hx;obtain rfl:=hv;have HC:Hid (∀ W,Below w1.heap.size w1 W->W.cell? ⟨g,o+k,none⟩=some (.string (S x))/\W.frozen? ⟨g,o+k,none⟩=false):=Hd (fun W hW=>
    ⟨(Yad (S:=fun _=>False) hW).cell (a:=⟨g,o+k,none⟩) (by have q:=hcl 0 _ rfl;rw [YaG] at q;exact q) id,(HK.o.below hW).free g o _ _ rfl _⟩)
   have HX:=Hd (HCL.o x wr (Yaf hx));have hk0:(0:Int)<=(k:Int):=by omega
   have hkn:(k:Int)<(n:Int):=by omega
   obtain ⟨c0,_⟩:=HC.o wr HBW.o;clear hcl hx
   go_wp2_with fail
   with_reducible refine HX.o.mono ?_
   rintro e w2 ⟨rfl,hb2⟩;have HB2:=Hd (HBW.o.trans (hb2.mono HBW.o.size));obtain ⟨c1,f1⟩:=HC.o w2 HB2.o;have HS:=Hd (ZcX c1);clear hb2 c0 HX;go_wp2
   go_roundw
   case rel=>
    rw [HS.o];exact ⟨k+1,by omega,by go_num,HB2.o⟩
   case measure=>simp [intOf];omega
  ·obtain rfl:n=k:=by omega
   have HKE:Hid (KR w.heap.size wr (.slice ao n c) l):=Hd (HK.o.below HBW.o);have HBE:=Hd (HB.o.trans (HBW.o.mono HB.o.size));go_wp2;go_ret;exact ⟨_,rfl,HKE.o,HBE.o⟩
noncomputable def atC (W:World) (b j:Nat):Value:=(W.cell? ⟨b,j,none⟩).getD (.bool false)
theorem Zpn {W:World} {b j:Nat} {cs:Array Value} {t:TypeId} (h:Box W b cs t) (hj:j<cs.size):W.cell? ⟨b,j,none⟩=some (atC W b j):=by
 unfold atC;rw [h.cell j (YbV hj)];rfl
structure FC (w:World) (c1 c2:Nat) (a1:Array Value) (n:Nat) (t t2:TypeId) (W:World):Prop where
 b1:Box W c1 a1 t
 b2:∃ a2,a2.size=n/\Box W c2 a2 t2
 ne:c1 ≠ c2
 bel:Below w.heap.size w W
 ge2:w.heap.size<=c2
theorem ZpM {w:World} {c1 c2:Nat} {a1:Array Value} {n:Nat} {t t2:TypeId} {W:World} (h:FC w c1 c2 a1 n t t2 W):FC w c1 c2 a1 n t t2 W.drew:=⟨h.b1,h.b2,h.ne,Zab h.bel,h.ge2⟩
theorem Zom {w:World} {c1 c2:Nat} {a1:Array Value} {n:Nat} {t t2:TypeId} {W W':World} (hb:Below W.heap.size W W') (h:FC w c1 c2 a1 n t t2 W):FC w c1 c2 a1 n t t2 W':=
 ⟨h.b1.below hb,let ⟨a2,h1,h2⟩:=h.b2;⟨a2,h1,h2.below hb⟩,h.ne,h.bel.trans (hb.mono h.bel.size),h.ge2⟩
theorem ZqA {w:World} {c1 c2:Nat} {a1:Array Value} {n:Nat} {t t2:TypeId} {W:World} (j:Nat) (u:Value) (h:FC w c1 c2 a1 n t t2 W):FC w c1 c2 a1 n t t2 (W.setCell ⟨c2,j,none⟩ u):=
 ⟨h.b1.set_ne h.ne j u,let ⟨a2,h1,h2⟩:=h.b2;⟨a2.setIfInBounds j u,by simp [h1],h2.set j u⟩,h.ne,h.bel.setCell h.ge2 u,h.ge2⟩
theorem FC.at_ {w:World} {c1 c2:Nat} {a1:Array Value} {n:Nat} {t t2:TypeId} {W:World} (h:FC w c1 c2 a1 n t t2 W) (j:Nat) (hj:j<n):W.cell? ⟨c2,j,none⟩=some (atC W c2 j):=let ⟨_,h1,h2⟩:=h.b2;Zpn h2 (by rw [h1];exact hj)
theorem FC.free {w:World} {c1 c2:Nat} {a1:Array Value} {n:Nat} {t t2:TypeId} {W:World} (h:FC w c1 c2 a1 n t t2 W) (j:Nat):W.frozen? ⟨c2,j,none⟩=false:=let ⟨_,_,h2⟩:=h.b2;h2.free j
theorem FB.fc {w:World} {c1 c2:Nat} {a1 a2:Array Value} {t:TypeId} {W:World} (h:FB w c1 c2 a1 a2 t W):FC w c1 c2 a1 a2.size t t W:=⟨h.b1,⟨a2,rfl,h.b2⟩,h.ne,h.bel,h.ge2⟩
def ZdZ (s:Shp) (w:World) (e:Ending) (w':World):Prop:=∃ a b,e=.returned (.agg #[.bool s.seen,a,b])/\KR w.heap.size w' a s.stk/\KR w.heap.size w' b s.loc/\Below w.heap.size w w'
structure Shp.Small (s:Shp):Prop where
 n1:s.stk.length<=1048576
 n2:s.loc.length<=1048576
 k1:∀ x ∈ s.stk,x.length<=281474976710656
 k2:∀ x ∈ s.loc,x.length<=281474976710656
theorem Zbj:(Tryz.prog.info? 24).map (·.size)=some 3:=by kernel_rfl
theorem ZfK {A:Nat->Prop} (s:Shp) (v:Value) (w:World) (hs:ShpR A w s v) (hf:s.Small):Calls Tryz.prog 28 #[v] w (ZdZ s w):=by
 obtain ⟨a,b,rfl,h1,h2⟩:=hs;have H1:Hid (∀ W,Below w.heap.size w W->Calls Tryz.prog 37 #[a] W (Zfz s.stk W)):=Hd (fun W hW=>Zc6 s.stk a W (StrR.st.below h1 hW) hf.n1 hf.k1);have H2:Hid (∀ W,Below w.heap.size w W->Calls Tryz.prog 37 #[b] W (Zfz s.loc W)):=Hd (fun W hW=>Zc6 s.loc b W (StrR.st.below h2 hW) hf.n2 hf.k2);obtain ⟨so,sc,rfl⟩:=h1.shape;obtain ⟨lo,lc,rfl⟩:=h2.shape;unfold Zfz at H1 H2;obtain ⟨sn,stk,loc⟩:=s;simp only at H1 H2 ⊢;unfold ZdZ;simp only;obtain ⟨ns,hns⟩:∃ n,n=stk.length:=⟨_,rfl⟩
 obtain ⟨nl,hnl⟩:∃ n,n=loc.length:=⟨_,rfl⟩
 rw [←hns] at H1 ⊢;rw [←hnl] at H2 ⊢;clear h1 h2 hf hns hnl;have HF:=Hd (ZfM w #[.bool sn,.slice so ns sc,.slice lo nl lc] #[.bool false,.slice none 0 0,.slice none 0 0] 24);obtain ⟨W1,hW1⟩:∃ W1,W1=(w.alloc (.cells #[.bool sn,.slice so ns sc,.slice lo nl lc] 24)).alloc (.cells #[.bool false,.slice none 0 0,.slice none 0 0] 24):=⟨_,rfl⟩
 go_enter Tryz.func28,Tryz.ntmps28
 go_upto_region 1 with fail
 rw [←hW1] at HF ⊢;clear hW1;obtain ⟨c1,hc1⟩:∃ c,c=w.heap.size:=⟨_,rfl⟩
 rw [←hc1] at HF ⊢;obtain ⟨c2,hc2⟩:∃ c,c=c1+1:=⟨_,rfl⟩
 rw [←hc2] at HF ⊢;clear hc2 hc1;have f0:=HF.o;have fc0:FC w c1 c2 #[.bool sn,.slice so ns sc,.slice lo nl lc] 3 24 24 W1:=f0.fc;have HS:Hid (∀ W,FC w c1 c2 #[.bool sn,.slice so ns sc,.slice lo nl lc] 3 24 24 W->W.cell? ⟨c1,0,none⟩=some (.bool sn)/\W.cell? ⟨c1,1,none⟩=some (.slice so ns sc)/\W.cell? ⟨c1,2,none⟩=some (.slice lo nl lc)/\W.cell? ⟨c2,0,none⟩=some (atC W c2 0)/\W.frozen? ⟨c2,0,none⟩=false/\W.cell? ⟨c2,1,none⟩=some (atC W c2 1)/\W.frozen? ⟨c2,1,none⟩=false/\W.cell? ⟨c2,2,none⟩=some (atC W c2 2)/\W.frozen? ⟨c2,2,none⟩=false):=Hd (fun W h=>⟨h.b1.cell 0 rfl,h.b1.cell 1 rfl,h.b1.cell 2 rfl,h.at_ 0 (by omega),h.free 0,h.at_ 1 (by omega),h.free 1,h.at_ 2 (by omega),h.free 2⟩);have HBEL:Hid (∀ W,FB w c1 c2 #[.bool sn,.slice so ns sc,.slice lo nl lc] #[.bool false,.slice none 0 0,.slice none 0 0] 24 W->Below w.heap.size w W):=Hd (fun W h=>h.bel);have HKM:Hid (∀ W V v l,FB w c1 c2 #[.bool sn,.slice so ns sc,.slice lo nl lc] #[.bool false,.slice none 0 0,.slice none 0 0] 24 W->KR W.heap.size V v l->KR w.heap.size V v l/\v.ownBlock ≠ some c2):=Hd (fun W V v l h k=>⟨KRF.mono k h.bel.size,fun e=>by have h1:=(KRF.own k _ e).1;have h2:=h.b2.lt;omega⟩);obtain ⟨g1,g2,g3,g4,g5,g6,g7,g8,g9⟩:=HS.o W1 fc0;first
 | (go_region_held (fun W=>W.cell? ⟨c1,0,none⟩=some (.bool sn)/\W.cell? ⟨c1,1,none⟩=some (.slice so ns sc)/\W.cell? ⟨c1,2,none⟩=some (.slice lo nl lc)/\W.cell? ⟨c2,0,none⟩=some (atC W c2 0)/\W.frozen? ⟨c2,0,none⟩=false/\W.cell? ⟨c2,1,none⟩=some (atC W c2 1)/\W.frozen? ⟨c2,1,none⟩=false/\W.cell? ⟨c2,2,none⟩=some (atC W c2 2)/\W.frozen? ⟨c2,2,none⟩=false) ((refine HS.o _ ?_;(repeat (first|(with_reducible assumption)|(with_reducible refine ZpM ?_)|(with_reducible (apply Zom;assumption))|(with_reducible refine ZqA _ _ ?_)))))
   (first
    | ((go_at_call 37;(with_reducible refine (H1.o _ ?_).mono ?_);(focus (refine HBEL.o _ ?_;(repeat (first|(with_reducible assumption)|(with_reducible refine ZbR ?_)|(with_reducible (apply ZaN;assumption))));done));rintro en wx1 ⟨va,rfl,hk1,bx1⟩;obtain ⟨ao1,ac1,rfl⟩:=hk1.shape))
    | ((go_at_call 37;(with_reducible refine (H2.o _ ?_).mono ?_);(focus (refine HBEL.o _ ?_;(repeat (first|(with_reducible assumption)|(with_reducible refine ZbR ?_)|(with_reducible (apply ZaN;assumption))));done));rintro en wx2 ⟨vb,rfl,hk2,bx2⟩;obtain ⟨ao2,ac2,rfl⟩:=hk2.shape))))
 | fail
 all_goals
  have hF:FB w c1 c2 #[.bool sn,.slice so ns sc,.slice lo nl lc] #[.bool false,.slice none 0 0,.slice none 0 0] 24 wx2:=by (repeat (first|(with_reducible assumption)|(with_reducible refine ZbR ?_)|(with_reducible (apply ZaN;assumption))))
  obtain ⟨hk1',hn1⟩:=HKM.o _ _ _ _ (by (repeat (first|(with_reducible assumption)|(with_reducible refine ZbR ?_)|(with_reducible (apply ZaN;assumption))))) hk1;obtain ⟨hk2',hn2⟩:=HKM.o _ _ _ _ (by (repeat (first|(with_reducible assumption)|(with_reducible refine ZbR ?_)|(with_reducible (apply ZaN;assumption))))) hk2;have hk3:KR w.heap.size wx2 (.slice ao1 stk.length ac1) stk:=by
   with_reducible exact KRF.below hk1' bx2
  have hon:Only (fun i=>i=c2) wx2 (((wx2.setCell ⟨c2,0,none⟩ (.bool sn)).setCell ⟨c2,1,none⟩ (.slice ao1 stk.length ac1)).setCell ⟨c2,2,none⟩ (.slice ao2 loc.length ac2)):=(((Yan (fun i=>i=c2) wx2).setCell (p:=⟨c2,0,none⟩) rfl _).setCell (p:=⟨c2,1,none⟩) rfl _).setCell (p:=⟨c2,2,none⟩) rfl _;have HK1:Hid (KR w.heap.size (((wx2.setCell ⟨c2,0,none⟩ (.bool sn)).setCell ⟨c2,1,none⟩ (.slice ao1 stk.length ac1)).setCell ⟨c2,2,none⟩ (.slice ao2 loc.length ac2)) (.slice ao1 stk.length ac1) stk):=Hd (hk3.keep hon (fun g hg e=>hn1 (by rw [hg,e])));have HK2:Hid (KR w.heap.size (((wx2.setCell ⟨c2,0,none⟩ (.bool sn)).setCell ⟨c2,1,none⟩ (.slice ao1 stk.length ac1)).setCell ⟨c2,2,none⟩ (.slice ao2 loc.length ac2)) (.slice ao2 loc.length ac2) loc):=Hd (hk2'.keep hon (fun g hg e=>hn2 (by rw [hg,e])));have l:=ZaD (P:=Tryz.prog) (w:=(((wx2.setCell ⟨c2,0,none⟩ (.bool sn)).setCell ⟨c2,1,none⟩ (.slice ao1 stk.length ac1)).setCell ⟨c2,2,none⟩ (.slice ao2 loc.length ac2))) (cs:=#[.bool sn,.slice ao1 stk.length ac1,.slice ao2 loc.length ac2]) (((hF.b2.set 0 (.bool sn)).set 1 (.slice ao1 stk.length ac1)).set 2 (.slice ao2 loc.length ac2)) Tryz.underlying24 rfl Zbj;have hb:Below w.heap.size w (((wx2.setCell ⟨c2,0,none⟩ (.bool sn)).setCell ⟨c2,1,none⟩ (.slice ao1 stk.length ac1)).setCell ⟨c2,2,none⟩ (.slice ao2 loc.length ac2)):=(((hF.bel.setCell hF.ge2 _).setCell hF.ge2 _).setCell hF.ge2 _);go_wp2;refine bodyPost_ret (v:=.agg #[.bool sn,.slice ao1 stk.length ac1,.slice ao2 loc.length ac2]) ?_ rfl ⟨_,_,rfl,HK1.o,HK2.o,hb⟩;simp only [results,Tryz.results28];simp [asAddr,l]
