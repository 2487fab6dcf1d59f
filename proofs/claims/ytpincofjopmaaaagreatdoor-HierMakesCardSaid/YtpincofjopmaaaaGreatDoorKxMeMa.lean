/-
  Texts LSame1, LSame2, LRef4, LRef5, LEqR2: laws that the claims lean on.
  Conditions: as each law says.
-/
import Derived.Test.YtpincofjopmaaaaGreatDoorK62
set_option maxRecDepth 100000
set_option maxHeartbeats 16000000
namespace Go.Proofs.YtpincofjopmaaaaGreatDoor
open Go.RowKit
attribute [local go_sem ↓] Go.wp_at_zero Go.wp_at_succ
def strEq (x y:List UInt8):Bool:=x == y
def Fld.eqB (x y:Fld):Bool:=x.name == y.name && (x.kind == y.kind && x.tr == y.tr)
def Ins.eqB (x y:Ins):Bool:=x.op == y.op && (x.n == y.n && x.s == y.s)
def Cat.eqB (x y:Cat):Bool:=x.fr == y.fr && (x.till == y.till && (x.at_ == y.at_ && x.cls == y.cls))
def samB {α:Type} (p:α->α->Bool) (a b:List α):Bool:=decide (a.length=b.length) && (a.zip b).all fun q=>p q.1 q.2
def pairT {α:Type} (p:α->α->Bool) (a b:List α) (k:Nat):Bool:=((a.zip b).take k).all fun q=>p q.1 q.2
theorem pairT_succ {α:Type} (p:α->α->Bool) (a b:List α) (k:Nat) (x y:α) (hx:a[k]? = some x) (hy:b[k]? = some y):pairT p a b (k+1)=(pairT p a b k && p x y):=by
 unfold pairT;rw [take_all_succ _ _ _ (x,y) (by rw [List.getElem?_zip_eq_some];exact ⟨hx,hy⟩)]
theorem pairT_le {α:Type} (p:α->α->Bool) (a b:List α) (k:Nat) (h:pairT p a b k=false):((a.zip b).all fun q=>p q.1 q.2)=false:=by
 unfold pairT at h;rw [List.all_eq_false] at h ⊢;obtain ⟨q,hq,hn⟩:=h;exact ⟨q,List.mem_of_mem_take hq,hn⟩
def Mth.eqB (a b:Mth):Bool:=(a.name == b.name) && (samB strEq a.params b.params && ((a.res == b.res) && ((a.abs == b.abs) && ((a.loc == b.loc) && (samB Ins.eqB a.code b.code && samB Cat.eqB a.cats b.cats)))))
def Cls.eqB (a b:Cls):Bool:=(a.name == b.name) && ((a.sup == b.sup) && (samB strEq a.like b.like && ((a.itf == b.itf) && ((a.abs == b.abs) && ((a.fin == b.fin) && (samB Fld.eqB a.flds b.flds && samB Mth.eqB a.mths b.mths))))))
theorem refst_any {A1 A2:Nat->Prop} (la lb:List (List UInt8)) (sa sb:Value) (w:World) (ha:Src 1 StrR A1 w sa la) (hb:Src 1 StrR A2 w sb lb) (hl1:la.length<=9223372036854775807) (hl2:lb.length<=9223372036854775807) :
  Calls Tryz.prog 54 #[sa,sb] w (Said (samB strEq la lb) w):=by
 obtain ⟨n,hn⟩:∃ n,n=la.length:=⟨_,rfl⟩
 obtain ⟨m,hm⟩:∃ m,m=lb.length:=⟨_,rfl⟩
 obtain ⟨so,sc,rfl⟩:∃ so sc,sa=.slice so n sc:=by rw [hn];exact ha.shape
 obtain ⟨to_,tc,rfl⟩:∃ so sc,sb=.slice so m sc:=by rw [hm];exact hb.shape
 have HN:=Hd hn;have HM:=Hd hm;have hn1:n<=9223372036854775807:=by omega
 have hm1:m<=9223372036854775807:=by omega
 by_cases hnm:n=m
 case neg=>
  have hR:samB strEq la lb=false:=by unfold samB;rw [decide_eq_false (by rw [←hn,←hm];exact hnm),Bool.false_and]
  rw [hR];have hq:((n:Int) != (m:Int))=true:=by rw [bne_iff_ne];omega
  clear ha hb hn hm hnm hR hl1 hl2;go_enter Tryz.func54,Tryz.ntmps54;go_wp2;go_ret;exact ⟨rfl,Below.refl _ _⟩
 subst hnm;have HR:Hid (samB strEq la lb=(la.zip lb).all fun q=>strEq q.1 q.2):=Hd (by unfold samB;rw [decide_eq_true (by rw [←hn,←hm]),Bool.true_and]);obtain ⟨R,hr⟩:∃ R,R=samB strEq la lb:=⟨_,rfl⟩
 rw [←hr] at HR ⊢;clear hr;have HC:=Hd (Src.elem ha);have HD:=Hd (Src.elem hb);clear ha hb hn hm hl1 hl2;go_enter Tryz.func54,Tryz.ntmps54;go_wp2
 go_loopw [5] (fun vi wr=>∃ k:Nat,k<=n/\vi=.int .i64 k/\pairT strEq la lb k=true/\Below w.heap.size w wr) (fun vi _=>n - (intOf vi).toNat)
 case atStart=>exact ⟨0,Nat.zero_le _,rfl,by simp [pairT],Below.refl _ _⟩
 case round=>
  obtain ⟨k,hk,rfl,hall,hbw⟩:=hrel;have HA:=Hd hall;have HB:=Hd hbw;clear hall hbw;by_cases hlt:k<n
  ·have hkl:k<la.length:=by have:=HN.out;omega
   have hkm:k<lb.length:=by have:=HM.out;omega
   obtain ⟨x,hx⟩:∃ x,la[k]? = some x:=⟨_,List.getElem?_eq_getElem hkl⟩
   obtain ⟨y,hy⟩:∃ y,lb[k]? = some y:=⟨_,List.getElem?_eq_getElem hkm⟩
   have hoW:=Only.ofBelow (S:=fun _=>False) HB.out;obtain ⟨b1,o1,ux,rfl,hux,_,hcx⟩:=HC.out k x hx;obtain ⟨b2,o2,uy,rfl,huy,_,hcy⟩:=HD.out k y hy;obtain rfl:=hux;obtain rfl:=huy;have dx0:=hoW.cell (a:=⟨b1,o1+k,none⟩) (by have q:=hcx 0 _ rfl;rw [Nat.mul_one] at q;exact q) id;have dy0:=hoW.cell (a:=⟨b2,o2+k,none⟩) (by have q:=hcy 0 _ rfl;rw [Nat.mul_one] at q;exact q) id;have e0:=S_toList x;have f0:=S_toList y;have HPS:=Hd (pairT_succ strEq la lb k x y hx hy);rw [HA.out,Bool.true_and] at HPS;have hk0:(0:Int)<=k:=by omega
   have hkn:(k:Int)<(n:Int):=by omega
   clear hx hy hkl hkm hoW hcx hcy;have hpe:strEq x y=(x == y):=rfl;rw [hpe] at HPS;clear hpe;generalize hp:(x == y)=p at HPS;cases p
   case false=>
    obtain rfl:R=false:=by rw [HR.out];exact pairT_le strEq la lb (k+1) HPS.out
    have HBE:=Hd (HB.out)
    go_wp2_with (go_quiet (fail))
    go_ret;exact ⟨rfl,below_quiet HBE.out _⟩
   go_wp2_with (go_quiet (fail))
   go_roundw
   case rel=>exact ⟨k+1,by omega,by go_num,HPS.out,below_quiet HB.out _⟩
   case measure=>simp [intOf];omega
  ·obtain rfl:n=k:=by omega
   have hfin:R=true:=by
    have h:=HA.out;unfold pairT at h;rw [List.take_of_length_le (by rw [List.length_zip,←HN.out,←HM.out];omega)] at h;rw [HR.out];exact h
   subst hfin;go_wp2;go_ret;exact ⟨rfl,HB.out⟩
theorem refins_any {A1 A2:Nat->Prop} (la lb:List (Ins)) (sa sb:Value) (w:World) (ha:Src 3 InsR A1 w sa la) (hb:Src 3 InsR A2 w sb lb) (hl1:la.length<=9223372036854775807) (hl2:lb.length<=9223372036854775807) :
  Calls Tryz.prog 110 #[sa,sb] w (Said (samB Ins.eqB la lb) w):=by
 obtain ⟨n,hn⟩:∃ n,n=la.length:=⟨_,rfl⟩
 obtain ⟨m,hm⟩:∃ m,m=lb.length:=⟨_,rfl⟩
 obtain ⟨so,sc,rfl⟩:∃ so sc,sa=.slice so n sc:=by rw [hn];exact ha.shape
 obtain ⟨to_,tc,rfl⟩:∃ so sc,sb=.slice so m sc:=by rw [hm];exact hb.shape
 have HN:=Hd hn;have HM:=Hd hm;have hn1:n<=9223372036854775807:=by omega
 have hm1:m<=9223372036854775807:=by omega
 by_cases hnm:n=m
 case neg=>
  have hR:samB Ins.eqB la lb=false:=by unfold samB;rw [decide_eq_false (by rw [←hn,←hm];exact hnm),Bool.false_and]
  rw [hR];have hq:((n:Int) != (m:Int))=true:=by rw [bne_iff_ne];omega
  clear ha hb hn hm hnm hR hl1 hl2;go_enter Tryz.func110,Tryz.ntmps110;go_wp2;go_ret;exact ⟨rfl,Below.refl _ _⟩
 subst hnm;have HR:Hid (samB Ins.eqB la lb=(la.zip lb).all fun q=>Ins.eqB q.1 q.2):=Hd (by unfold samB;rw [decide_eq_true (by rw [←hn,←hm]),Bool.true_and]);obtain ⟨R,hr⟩:∃ R,R=samB Ins.eqB la lb:=⟨_,rfl⟩
 rw [←hr] at HR ⊢;clear hr;have HC:=Hd (Src.elem ha);have HD:=Hd (Src.elem hb);clear ha hb hn hm hl1 hl2;go_enter Tryz.func110,Tryz.ntmps110;go_wp2
 go_loopw [5] (fun vi wr=>∃ k:Nat,k<=n/\vi=.int .i64 k/\pairT Ins.eqB la lb k=true/\Below w.heap.size w wr) (fun vi _=>n - (intOf vi).toNat)
 case atStart=>exact ⟨0,Nat.zero_le _,rfl,by simp [pairT],Below.refl _ _⟩
 case round=>
  obtain ⟨k,hk,rfl,hall,hbw⟩:=hrel;have HA:=Hd hall;have HB:=Hd hbw;clear hall hbw;by_cases hlt:k<n
  ·have hkl:k<la.length:=by have:=HN.out;omega
   have hkm:k<lb.length:=by have:=HM.out;omega
   obtain ⟨x,hx⟩:∃ x,la[k]? = some x:=⟨_,List.getElem?_eq_getElem hkl⟩
   obtain ⟨y,hy⟩:∃ y,lb[k]? = some y:=⟨_,List.getElem?_eq_getElem hkm⟩
   have hoW:=Only.ofBelow (S:=fun _=>False) HB.out;obtain ⟨b1,o1,ux,rfl,hux,_,hcx⟩:=HC.out k x hx;obtain ⟨b2,o2,uy,rfl,huy,_,hcy⟩:=HD.out k y hy;obtain rfl:=hux;obtain rfl:=huy;have dx0:=hoW.cell (a:=⟨b1,o1+k * 3,none⟩) (hcx 0 _ rfl) id;have dy0:=hoW.cell (a:=⟨b2,o2+k * 3,none⟩) (hcy 0 _ rfl) id;have dx1:=hoW.cell (a:=⟨b1,o1+k * 3+1,none⟩) (hcx 1 _ rfl) id;have dy1:=hoW.cell (a:=⟨b2,o2+k * 3+1,none⟩) (hcy 1 _ rfl) id;have dx2:=hoW.cell (a:=⟨b1,o1+k * 3+2,none⟩) (hcx 2 _ rfl) id;have dy2:=hoW.cell (a:=⟨b2,o2+k * 3+2,none⟩) (hcy 2 _ rfl) id;have e0:=S_toList x.op;have f0:=S_toList y.op;have e2:=S_toList x.s;have f2:=S_toList y.s;have HPS:=Hd (pairT_succ Ins.eqB la lb k x y hx hy);rw [HA.out,Bool.true_and] at HPS;have hk0:(0:Int)<=k:=by omega
   have hkn:(k:Int)<(n:Int):=by omega
   clear hx hy hkl hkm hoW hcx hcy;have hpe:Ins.eqB x y=((x.op == y.op) && ((x.n == y.n) && ((x.s == y.s)))):=rfl;rw [hpe] at HPS;clear hpe;generalize hp0:(x.op == y.op)=p0 at HPS;generalize hp1:(x.n == y.n)=p1 at HPS;generalize hp2:(x.s == y.s)=p2 at HPS;cases p0
   case false=>
    have HPS:Hid (pairT Ins.eqB la lb (k+1)=false):=Hd (by rw [HPS.out];simp);obtain rfl:R=false:=by rw [HR.out];exact pairT_le Ins.eqB la lb (k+1) HPS.out
    have HBE:=Hd (HB.out)
    go_wp2_with (go_quiet (fail))
    go_ret;exact ⟨rfl,below_quiet HBE.out _⟩
   cases p1
   case false=>
    have HPS:Hid (pairT Ins.eqB la lb (k+1)=false):=Hd (by rw [HPS.out];simp);obtain rfl:R=false:=by rw [HR.out];exact pairT_le Ins.eqB la lb (k+1) HPS.out
    have HBE:=Hd (HB.out)
    go_wp2_with (go_quiet (fail))
    go_ret;exact ⟨rfl,below_quiet HBE.out _⟩
   cases p2
   case false=>
    have HPS:Hid (pairT Ins.eqB la lb (k+1)=false):=Hd (by rw [HPS.out];simp);obtain rfl:R=false:=by rw [HR.out];exact pairT_le Ins.eqB la lb (k+1) HPS.out
    have HBE:=Hd (HB.out)
    go_wp2_with (go_quiet (fail))
    go_ret;exact ⟨rfl,below_quiet HBE.out _⟩
   go_wp2_with (go_quiet (fail))
   go_roundw
   case rel=>exact ⟨k+1,by omega,by go_num,HPS.out,below_quiet HB.out _⟩
   case measure=>simp [intOf];omega
  ·obtain rfl:n=k:=by omega
   have hfin:R=true:=by
    have h:=HA.out;unfold pairT at h;rw [List.take_of_length_le (by rw [List.length_zip,←HN.out,←HM.out];omega)] at h;rw [HR.out];exact h
   subst hfin;go_wp2;go_ret;exact ⟨rfl,HB.out⟩
theorem refsamem_any {A1 A2:Nat->Prop} (a b:Mth) (u v:Value) (w:World) (hu:MthR A1 w a u) (hv:MthR A2 w b v) (ha:a.Fit) (hb:b.Fit) :
  Calls Tryz.prog 55 #[u,v] w (Said (Mth.eqB a b) w):=by
 obtain ⟨pv1,cv1,kv1,rfl,hp1,hc1,hk1⟩:=hu;obtain ⟨po1,pc1,rfl⟩:=hp1.shape;obtain ⟨co1,cc1,rfl⟩:=hc1.shape;obtain ⟨ko1,kc1,rfl⟩:=hk1.shape;obtain ⟨pv2,cv2,kv2,rfl,hp2,hc2,hk2⟩:=hv;obtain ⟨po2,pc2,rfl⟩:=hp2.shape;obtain ⟨co2,cc2,rfl⟩:=hc2.shape;obtain ⟨ko2,kc2,rfl⟩:=hk2.shape;have hbA:Below w.heap.size w (w.alloc (.cells #[.string (S a.name),.slice po1 a.params.length pc1,.string (S a.res),.bool a.abs,.int .i64 a.loc,.slice co1 a.code.length cc1,.slice ko1 a.cats.length kc1] 33)):=(Below.refl _ w).alloc (Nat.le_refl _) _;have hb0:Below w.heap.size w ((w.alloc (.cells #[.string (S a.name),.slice po1 a.params.length pc1,.string (S a.res),.bool a.abs,.int .i64 a.loc,.slice co1 a.code.length cc1,.slice ko1 a.cats.length kc1] 33)).alloc (.cells #[.string (S b.name),.slice po2 b.params.length pc2,.string (S b.res),.bool b.abs,.int .i64 b.loc,.slice co2 b.code.length cc2,.slice ko2 b.cats.length kc2] 33)):=below_alloc hbA _;have HB0:=Hd hb0;have HBA:=Hd ((Box.new w #[.string (S a.name),.slice po1 a.params.length pc1,.string (S a.res),.bool a.abs,.int .i64 a.loc,.slice co1 a.code.length cc1,.slice ko1 a.cats.length kc1] 33).below (w':=((w.alloc (.cells #[.string (S a.name),.slice po1 a.params.length pc1,.string (S a.res),.bool a.abs,.int .i64 a.loc,.slice co1 a.code.length cc1,.slice ko1 a.cats.length kc1] 33)).alloc (.cells #[.string (S b.name),.slice po2 b.params.length pc2,.string (S b.res),.bool b.abs,.int .i64 b.loc,.slice co2 b.code.length cc2,.slice ko2 b.cats.length kc2] 33))) ((Below.refl _ _).alloc (Nat.le_refl _) _));have HBB:=Hd (show Box ((w.alloc (.cells #[.string (S a.name),.slice po1 a.params.length pc1,.string (S a.res),.bool a.abs,.int .i64 a.loc,.slice co1 a.code.length cc1,.slice ko1 a.cats.length kc1] 33)).alloc (.cells #[.string (S b.name),.slice po2 b.params.length pc2,.string (S b.res),.bool b.abs,.int .i64 b.loc,.slice co2 b.code.length cc2,.slice ko2 b.cats.length kc2] 33)) (w.heap.size+1) #[.string (S b.name),.slice po2 b.params.length pc2,.string (S b.res),.bool b.abs,.int .i64 b.loc,.slice co2 b.code.length cc2,.slice ko2 b.cats.length kc2] 33 from by have q:=Box.new (w.alloc (.cells #[.string (S a.name),.slice po1 a.params.length pc1,.string (S a.res),.bool a.abs,.int .i64 a.loc,.slice co1 a.code.length cc1,.slice ko1 a.cats.length kc1] 33)) #[.string (S b.name),.slice po2 b.params.length pc2,.string (S b.res),.bool b.abs,.int .i64 b.loc,.slice co2 b.code.length cc2,.slice ko2 b.cats.length kc2] 33;simpa using q);have HL1:Hid (∀ W,Below ((w.alloc (.cells #[.string (S a.name),.slice po1 a.params.length pc1,.string (S a.res),.bool a.abs,.int .i64 a.loc,.slice co1 a.code.length cc1,.slice ko1 a.cats.length kc1] 33)).alloc (.cells #[.string (S b.name),.slice po2 b.params.length pc2,.string (S b.res),.bool b.abs,.int .i64 b.loc,.slice co2 b.code.length cc2,.slice ko2 b.cats.length kc2] 33)).heap.size ((w.alloc (.cells #[.string (S a.name),.slice po1 a.params.length pc1,.string (S a.res),.bool a.abs,.int .i64 a.loc,.slice co1 a.code.length cc1,.slice ko1 a.cats.length kc1] 33)).alloc (.cells #[.string (S b.name),.slice po2 b.params.length pc2,.string (S b.res),.bool b.abs,.int .i64 b.loc,.slice co2 b.code.length cc2,.slice ko2 b.cats.length kc2] 33)) W->Calls Tryz.prog 54 #[.slice po1 a.params.length pc1,.slice po2 b.params.length pc2] W (Said (samB strEq a.params b.params) W)):=Hd (fun W hW=>refst_any a.params b.params _ _ W (StrR.st.below (StrR.st.below hp1 hb0) hW) (StrR.st.below (StrR.st.below hp2 hb0) hW) ha.n1 hb.n1);have HL5:Hid (∀ W,Below ((w.alloc (.cells #[.string (S a.name),.slice po1 a.params.length pc1,.string (S a.res),.bool a.abs,.int .i64 a.loc,.slice co1 a.code.length cc1,.slice ko1 a.cats.length kc1] 33)).alloc (.cells #[.string (S b.name),.slice po2 b.params.length pc2,.string (S b.res),.bool b.abs,.int .i64 b.loc,.slice co2 b.code.length cc2,.slice ko2 b.cats.length kc2] 33)).heap.size ((w.alloc (.cells #[.string (S a.name),.slice po1 a.params.length pc1,.string (S a.res),.bool a.abs,.int .i64 a.loc,.slice co1 a.code.length cc1,.slice ko1 a.cats.length kc1] 33)).alloc (.cells #[.string (S b.name),.slice po2 b.params.length pc2,.string (S b.res),.bool b.abs,.int .i64 b.loc,.slice co2 b.code.length cc2,.slice ko2 b.cats.length kc2] 33)) W->Calls Tryz.prog 110 #[.slice co1 a.code.length cc1,.slice co2 b.code.length cc2] W (Said (samB Ins.eqB a.code b.code) W)):=Hd (fun W hW=>refins_any a.code b.code _ _ W (InsR.st.below (InsR.st.below hc1 hb0) hW) (InsR.st.below (InsR.st.below hc2 hb0) hW) ha.n2 hb.n2);have HC:=Hd (Src.elem (CatR.st.below hk1 hb0));have HD:=Hd (Src.elem (CatR.st.below hk2 hb0));have hR:Mth.eqB a b=((a.name == b.name) && (samB strEq a.params b.params && ((a.res == b.res) && ((a.abs == b.abs) && ((a.loc == b.loc) && (samB Ins.eqB a.code b.code && samB Cat.eqB a.cats b.cats)))))):=rfl;obtain ⟨R,hr⟩:∃ R,R=Mth.eqB a b:=⟨_,rfl⟩
 rw [←hr] at hR ⊢;have hn1:=ha.n3;have hm1:=hb.n3;have ea0:=S_toList a.name;have eb0:=S_toList b.name;have ea2:=S_toList a.res;have eb2:=S_toList b.res;clear hr hb0 hbA ha hb hp1 hc1 hk1 hp2 hc2 hk2;generalize h0:(a.name == b.name)=d0 at hR;generalize samB strEq a.params b.params=d1 at HL1 hR;generalize h2:(a.res == b.res)=d2 at hR;generalize h3:(a.abs == b.abs)=d3 at hR;generalize h4:(a.loc == b.loc)=d4 at hR;generalize samB Ins.eqB a.code b.code=d5 at HL5 hR;obtain ⟨n,hn⟩:∃ n,n=a.cats.length:=⟨_,rfl⟩
 obtain ⟨m,hm⟩:∃ m,m=b.cats.length:=⟨_,rfl⟩
 simp only [←hn,←hm] at HB0 HBA HBB HL1 HL5 HC HD hn1 hm1 ⊢;have HN:=Hd hn;have HM:=Hd hm;have HR:=Hd hR;have H0:=Hd h0;have H2:=Hd h2;have H3:=Hd h3;have H4:=Hd h4;clear hn hm hR h0 h2 h3 h4;go_enter Tryz.func55,Tryz.ntmps55
 go_upto_region 1 with fail
 generalize ((w.alloc (.cells #[.string (S a.name),.slice po1 a.params.length pc1,.string (S a.res),.bool a.abs,.int .i64 a.loc,.slice co1 a.code.length cc1,.slice ko1 n kc1] 33)).alloc (.cells #[.string (S b.name),.slice po2 b.params.length pc2,.string (S b.res),.bool b.abs,.int .i64 b.loc,.slice co2 b.code.length cc2,.slice ko2 m kc2] 33))=W0 at HB0 HBA HBB HL1 HL5 HC HD ⊢;generalize w.heap.size+1=BB at HBB ⊢;obtain ⟨BA,hBA⟩:∃ B,B=w.heap.size:=⟨_,rfl⟩
 rw [←hBA] at HBA ⊢;clear hBA;have p0:=HBA.out.cell 0 rfl;have q0:=HBB.out.cell 0 rfl;have p1:=HBA.out.cell 1 rfl;have q1:=HBB.out.cell 1 rfl;have p2:=HBA.out.cell 2 rfl;have q2:=HBB.out.cell 2 rfl;have p3:=HBA.out.cell 3 rfl;have q3:=HBB.out.cell 3 rfl;have p4:=HBA.out.cell 4 rfl;have q4:=HBB.out.cell 4 rfl;have h0:=H0.out;cases d0
 case false=>
  obtain rfl:R=false:=by rw [HR.out];simp
  go_wp2;go_ret;exact ⟨rfl,HB0.out⟩
 have h2:=H2.out;cases d2
 case false=>
  obtain rfl:R=false:=by rw [HR.out];simp
  go_wp2;go_ret;exact ⟨rfl,HB0.out⟩
 have h3:=H3.out;cases d3
 case false=>
  obtain rfl:R=false:=by rw [HR.out];simp
  go_wp2;go_ret;exact ⟨rfl,HB0.out⟩
 have g3:a.abs=b.abs:=by simpa using h3
 clear h3;have h4:=H4.out;cases d4
 case false=>
  have g4:(a.loc != b.loc)=true:=by rw [bne,h4];rfl
  obtain rfl:R=false:=by rw [HR.out];simp
  go_wp2;go_ret;exact ⟨rfl,HB0.out⟩
 have g4:a.loc=b.loc:=by simpa using h4
 clear h4
 go_wp2_with fail
 refine (HL1.out _ (Below.refl _ _)).mono ?_;rintro e w2 ⟨rfl,hb⟩;have HB2:=Hd hb;have HC2:=Hd (HB0.out.trans (HB2.out.mono HB0.out.size));clear hb p0 q0 p1 q1 p2 q2 p3 q3 p4 q4 h0 h2 g3 g4;cases d1
 case false=>
  obtain rfl:R=false:=by rw [HR.out];simp
  go_wp2;go_ret;exact ⟨rfl,HC2.out⟩
 have p5:=(HBA.out.below HB2.out).cell 5 rfl;have q5:=(HBB.out.below HB2.out).cell 5 rfl
 go_wp2_with fail
 refine (HL5.out _ HB2.out).mono ?_;rintro e w6 ⟨rfl,hb⟩;have HB6:=Hd (below_step HB2.out hb);have HC6:=Hd (HB0.out.trans (HB6.out.mono HB0.out.size));clear hb p5 q5;cases d5
 case false=>
  obtain rfl:R=false:=by rw [HR.out];simp
  go_wp2;go_ret;exact ⟨rfl,HC6.out⟩
 simp only [Bool.true_and] at HR;have p6:=(HBA.out.below HB6.out).cell 6 rfl;have q6:=(HBB.out.below HB6.out).cell 6 rfl;by_cases hnm:n=m
 case neg=>
  have hq:((n:Int) != (m:Int))=true:=by rw [bne_iff_ne];omega
  obtain rfl:R=false:=by rw [HR.out];unfold samB;rw [decide_eq_false (by rw [←HN.out,←HM.out];exact hnm),Bool.false_and]
  clear hnm;go_wp2;go_ret;exact ⟨rfl,HC6.out⟩
 subst hnm;have HR:Hid (R=(a.cats.zip b.cats).all fun q=>Cat.eqB q.1 q.2):=Hd (by rw [HR.out];unfold samB;rw [decide_eq_true (by rw [←HN.out,←HM.out]),Bool.true_and]);go_wp2
 go_loopw [5] (fun vi wr=>∃ k:Nat,k<=n/\vi=.int .i64 k/\pairT Cat.eqB a.cats b.cats k=true/\Below W0.heap.size W0 wr) (fun vi _=>n - (intOf vi).toNat)
 case atStart=>exact ⟨0,Nat.zero_le _,rfl,by simp [pairT],HB6.out⟩
 case round=>
  obtain ⟨k,hk,rfl,hall,hbw⟩:=hrel;have HA:=Hd hall;have HB:=Hd hbw;have p6:=(HBA.out.below HB.out).cell 6 rfl;have q6:=(HBB.out.below HB.out).cell 6 rfl;clear hall hbw;by_cases hlt:k<n
  ·have hkl:k<a.cats.length:=by have:=HN.out;omega
   have hkm:k<b.cats.length:=by have:=HM.out;omega
   obtain ⟨x,hx⟩:∃ x,a.cats[k]? = some x:=⟨_,List.getElem?_eq_getElem hkl⟩
   obtain ⟨y,hy⟩:∃ y,b.cats[k]? = some y:=⟨_,List.getElem?_eq_getElem hkm⟩
   have hoW:=Only.ofBelow (S:=fun _=>False) HB.out;obtain ⟨b1,o1,ux,rfl,hux,_,hcx⟩:=HC.out k x hx;obtain ⟨b2,o2,uy,rfl,huy,_,hcy⟩:=HD.out k y hy;obtain rfl:=hux;obtain rfl:=huy;have dx0:=hoW.cell (a:=⟨b1,o1+k * 4,none⟩) (hcx 0 _ rfl) id;have dy0:=hoW.cell (a:=⟨b2,o2+k * 4,none⟩) (hcy 0 _ rfl) id;have dx1:=hoW.cell (a:=⟨b1,o1+k * 4+1,none⟩) (hcx 1 _ rfl) id;have dy1:=hoW.cell (a:=⟨b2,o2+k * 4+1,none⟩) (hcy 1 _ rfl) id;have dx2:=hoW.cell (a:=⟨b1,o1+k * 4+2,none⟩) (hcx 2 _ rfl) id;have dy2:=hoW.cell (a:=⟨b2,o2+k * 4+2,none⟩) (hcy 2 _ rfl) id;have dx3:=hoW.cell (a:=⟨b1,o1+k * 4+3,none⟩) (hcx 3 _ rfl) id;have dy3:=hoW.cell (a:=⟨b2,o2+k * 4+3,none⟩) (hcy 3 _ rfl) id;have e3:=S_toList x.cls;have f3:=S_toList y.cls;have HPS:=Hd (pairT_succ Cat.eqB a.cats b.cats k x y hx hy);rw [HA.out,Bool.true_and] at HPS;have hk0:(0:Int)<=k:=by omega
   have hkn:(k:Int)<(n:Int):=by omega
   clear hx hy hkl hkm hoW hcx hcy;have hpe:Cat.eqB x y=((x.fr == y.fr) && ((x.till == y.till) && ((x.at_ == y.at_) && ((x.cls == y.cls))))):=rfl;rw [hpe] at HPS;clear hpe;generalize hp0:(x.fr == y.fr)=p0 at HPS;generalize hp1:(x.till == y.till)=p1 at HPS;generalize hp2:(x.at_ == y.at_)=p2 at HPS;generalize hp3:(x.cls == y.cls)=p3 at HPS;cases p0
   case false=>
    have HPS:Hid (pairT Cat.eqB a.cats b.cats (k+1)=false):=Hd (by rw [HPS.out];simp);obtain rfl:R=false:=by rw [HR.out];exact pairT_le Cat.eqB a.cats b.cats (k+1) HPS.out
    have HBE:=Hd (HB.out)
    go_wp2_with (go_quiet (fail))
    go_ret;exact ⟨rfl,HB0.out.trans ((below_quiet HBE.out _).mono HB0.out.size)⟩
   cases p1
   case false=>
    have HPS:Hid (pairT Cat.eqB a.cats b.cats (k+1)=false):=Hd (by rw [HPS.out];simp);obtain rfl:R=false:=by rw [HR.out];exact pairT_le Cat.eqB a.cats b.cats (k+1) HPS.out
    have HBE:=Hd (HB.out)
    go_wp2_with (go_quiet (fail))
    go_ret;exact ⟨rfl,HB0.out.trans ((below_quiet HBE.out _).mono HB0.out.size)⟩
   cases p2
   case false=>
    have HPS:Hid (pairT Cat.eqB a.cats b.cats (k+1)=false):=Hd (by rw [HPS.out];simp);obtain rfl:R=false:=by rw [HR.out];exact pairT_le Cat.eqB a.cats b.cats (k+1) HPS.out
    have HBE:=Hd (HB.out)
    go_wp2_with (go_quiet (fail))
    go_ret;exact ⟨rfl,HB0.out.trans ((below_quiet HBE.out _).mono HB0.out.size)⟩
   cases p3
   case false=>
    have HPS:Hid (pairT Cat.eqB a.cats b.cats (k+1)=false):=Hd (by rw [HPS.out];simp);obtain rfl:R=false:=by rw [HR.out];exact pairT_le Cat.eqB a.cats b.cats (k+1) HPS.out
    have HBE:=Hd (HB.out)
    go_wp2_with (go_quiet (fail))
    go_ret;exact ⟨rfl,HB0.out.trans ((below_quiet HBE.out _).mono HB0.out.size)⟩
   go_wp2_with (go_quiet (fail))
   go_roundw
   case rel=>exact ⟨k+1,by omega,by go_num,HPS.out,below_quiet HB.out _⟩
   case measure=>simp [intOf];omega
  ·obtain rfl:n=k:=by omega
   have hfin:R=true:=by
    have h:=HA.out;unfold pairT at h;rw [List.take_of_length_le (by rw [List.length_zip,←HN.out,←HM.out];omega)] at h;rw [HR.out];exact h
   subst hfin;go_wp2;go_ret;exact ⟨rfl,HB0.out.trans (HB.out.mono HB0.out.size)⟩
theorem refsame5_any {A1 A2:Nat->Prop} (a b:Cls) (u v:Value) (w:World) (hu:ClsR A1 w a u) (hv:ClsR A2 w b v) (ha:a.Fit) (hb:b.Fit) :
  Calls Tryz.prog 19 #[u,v] w (Said (Cls.eqB a b) w):=by
 obtain ⟨lv1,fv1,mv1,rfl,hp1,hc1,hk1⟩:=hu;obtain ⟨lo1,lc1,rfl⟩:=hp1.shape;obtain ⟨fo1,fc1,rfl⟩:=hc1.shape;obtain ⟨mo1,mc1,rfl⟩:=hk1.shape;obtain ⟨lv2,fv2,mv2,rfl,hp2,hc2,hk2⟩:=hv;obtain ⟨lo2,lc2,rfl⟩:=hp2.shape;obtain ⟨fo2,fc2,rfl⟩:=hc2.shape;obtain ⟨mo2,mc2,rfl⟩:=hk2.shape;have hbA:Below w.heap.size w (w.alloc (.cells #[.string (S a.name),.string (S a.sup),.slice lo1 a.like.length lc1,.bool a.itf,.bool a.abs,.bool a.fin,.slice fo1 a.flds.length fc1,.slice mo1 a.mths.length mc1] 26)):=(Below.refl _ w).alloc (Nat.le_refl _) _;have hb0:Below w.heap.size w ((w.alloc (.cells #[.string (S a.name),.string (S a.sup),.slice lo1 a.like.length lc1,.bool a.itf,.bool a.abs,.bool a.fin,.slice fo1 a.flds.length fc1,.slice mo1 a.mths.length mc1] 26)).alloc (.cells #[.string (S b.name),.string (S b.sup),.slice lo2 b.like.length lc2,.bool b.itf,.bool b.abs,.bool b.fin,.slice fo2 b.flds.length fc2,.slice mo2 b.mths.length mc2] 26)):=below_alloc hbA _;have HB0:=Hd hb0;have HBA:=Hd ((Box.new w #[.string (S a.name),.string (S a.sup),.slice lo1 a.like.length lc1,.bool a.itf,.bool a.abs,.bool a.fin,.slice fo1 a.flds.length fc1,.slice mo1 a.mths.length mc1] 26).below (w':=((w.alloc (.cells #[.string (S a.name),.string (S a.sup),.slice lo1 a.like.length lc1,.bool a.itf,.bool a.abs,.bool a.fin,.slice fo1 a.flds.length fc1,.slice mo1 a.mths.length mc1] 26)).alloc (.cells #[.string (S b.name),.string (S b.sup),.slice lo2 b.like.length lc2,.bool b.itf,.bool b.abs,.bool b.fin,.slice fo2 b.flds.length fc2,.slice mo2 b.mths.length mc2] 26))) ((Below.refl _ _).alloc (Nat.le_refl _) _));have HBB:=Hd (show Box ((w.alloc (.cells #[.string (S a.name),.string (S a.sup),.slice lo1 a.like.length lc1,.bool a.itf,.bool a.abs,.bool a.fin,.slice fo1 a.flds.length fc1,.slice mo1 a.mths.length mc1] 26)).alloc (.cells #[.string (S b.name),.string (S b.sup),.slice lo2 b.like.length lc2,.bool b.itf,.bool b.abs,.bool b.fin,.slice fo2 b.flds.length fc2,.slice mo2 b.mths.length mc2] 26)) (w.heap.size+1) #[.string (S b.name),.string (S b.sup),.slice lo2 b.like.length lc2,.bool b.itf,.bool b.abs,.bool b.fin,.slice fo2 b.flds.length fc2,.slice mo2 b.mths.length mc2] 26 from by have q:=Box.new (w.alloc (.cells #[.string (S a.name),.string (S a.sup),.slice lo1 a.like.length lc1,.bool a.itf,.bool a.abs,.bool a.fin,.slice fo1 a.flds.length fc1,.slice mo1 a.mths.length mc1] 26)) #[.string (S b.name),.string (S b.sup),.slice lo2 b.like.length lc2,.bool b.itf,.bool b.abs,.bool b.fin,.slice fo2 b.flds.length fc2,.slice mo2 b.mths.length mc2] 26;simpa using q);have HL2:Hid (∀ W,Below ((w.alloc (.cells #[.string (S a.name),.string (S a.sup),.slice lo1 a.like.length lc1,.bool a.itf,.bool a.abs,.bool a.fin,.slice fo1 a.flds.length fc1,.slice mo1 a.mths.length mc1] 26)).alloc (.cells #[.string (S b.name),.string (S b.sup),.slice lo2 b.like.length lc2,.bool b.itf,.bool b.abs,.bool b.fin,.slice fo2 b.flds.length fc2,.slice mo2 b.mths.length mc2] 26)).heap.size ((w.alloc (.cells #[.string (S a.name),.string (S a.sup),.slice lo1 a.like.length lc1,.bool a.itf,.bool a.abs,.bool a.fin,.slice fo1 a.flds.length fc1,.slice mo1 a.mths.length mc1] 26)).alloc (.cells #[.string (S b.name),.string (S b.sup),.slice lo2 b.like.length lc2,.bool b.itf,.bool b.abs,.bool b.fin,.slice fo2 b.flds.length fc2,.slice mo2 b.mths.length mc2] 26)) W->Calls Tryz.prog 54 #[.slice lo1 a.like.length lc1,.slice lo2 b.like.length lc2] W (Said (samB strEq a.like b.like) W)):=Hd (fun W hW=>refst_any a.like b.like _ _ W (StrR.st.below (StrR.st.below hp1 hb0) hW) (StrR.st.below (StrR.st.below hp2 hb0) hW) ha.n1 hb.n1);have HC:=Hd (Src.elem (FldR.st.below hc1 hb0));have HD:=Hd (Src.elem (FldR.st.below hc2 hb0));have HC7:=Hd (Src.elem (MthR.st.below hk1 hb0));have HD7:=Hd (Src.elem (MthR.st.below hk2 hb0));have HFA:=Hd ha.mths;have HFB:=Hd hb.mths;have hR:Cls.eqB a b=((a.name == b.name) && ((a.sup == b.sup) && (samB strEq a.like b.like && ((a.itf == b.itf) && ((a.abs == b.abs) && ((a.fin == b.fin) && (samB Fld.eqB a.flds b.flds && samB Mth.eqB a.mths b.mths))))))):=rfl;obtain ⟨R,hr⟩:∃ R,R=Cls.eqB a b:=⟨_,rfl⟩
 rw [←hr] at hR ⊢;have hn1:=ha.n2;have hm1:=hb.n2;have hn2:=ha.n3;have hm2:=hb.n3;have ea0:=S_toList a.name;have eb0:=S_toList b.name;have ea1:=S_toList a.sup;have eb1:=S_toList b.sup;clear hr hb0 hbA ha hb hp1 hc1 hk1 hp2 hc2 hk2;generalize h0:(a.name == b.name)=d0 at hR;generalize h1:(a.sup == b.sup)=d1 at hR;generalize samB strEq a.like b.like=d2 at HL2 hR;generalize h3:(a.itf == b.itf)=d3 at hR;generalize h4:(a.abs == b.abs)=d4 at hR;generalize h5:(a.fin == b.fin)=d5 at hR;obtain ⟨n,hn⟩:∃ n,n=a.flds.length:=⟨_,rfl⟩
 obtain ⟨m,hm⟩:∃ m,m=b.flds.length:=⟨_,rfl⟩
 obtain ⟨n2,hnn⟩:∃ n,n=a.mths.length:=⟨_,rfl⟩
 obtain ⟨m2,hmm⟩:∃ m,m=b.mths.length:=⟨_,rfl⟩
 simp only [←hn,←hm,←hnn,←hmm] at HB0 HBA HBB HL2 HC HD HC7 HD7 hn1 hm1 hn2 hm2 ⊢;have HN:=Hd hn;have HM:=Hd hm;have HN7:=Hd hnn;have HM7:=Hd hmm;have HR:=Hd hR;have H0:=Hd h0;have H1:=Hd h1;have H3:=Hd h3;have H4:=Hd h4;have H5:=Hd h5;clear hn hm hnn hmm hR h0 h1 h3 h4 h5;go_enter Tryz.func19,Tryz.ntmps19
 go_upto_region 1 with fail
 generalize ((w.alloc (.cells #[.string (S a.name),.string (S a.sup),.slice lo1 a.like.length lc1,.bool a.itf,.bool a.abs,.bool a.fin,.slice fo1 n fc1,.slice mo1 n2 mc1] 26)).alloc (.cells #[.string (S b.name),.string (S b.sup),.slice lo2 b.like.length lc2,.bool b.itf,.bool b.abs,.bool b.fin,.slice fo2 m fc2,.slice mo2 m2 mc2] 26))=W0 at HB0 HBA HBB HL2 HC HD HC7 HD7 ⊢;generalize w.heap.size+1=BB at HBB ⊢;obtain ⟨BA,hBA⟩:∃ B,B=w.heap.size:=⟨_,rfl⟩
 rw [←hBA] at HBA ⊢;clear hBA;have p0:=HBA.out.cell 0 rfl;have q0:=HBB.out.cell 0 rfl;have p1:=HBA.out.cell 1 rfl;have q1:=HBB.out.cell 1 rfl;have p2:=HBA.out.cell 2 rfl;have q2:=HBB.out.cell 2 rfl;have p3:=HBA.out.cell 3 rfl;have q3:=HBB.out.cell 3 rfl;have p4:=HBA.out.cell 4 rfl;have q4:=HBB.out.cell 4 rfl;have p5:=HBA.out.cell 5 rfl;have q5:=HBB.out.cell 5 rfl;have h0:=H0.out;cases d0
 case false=>
  obtain rfl:R=false:=by rw [HR.out];simp
  go_wp2;go_ret;exact ⟨rfl,HB0.out⟩
 have h1:=H1.out;cases d1
 case false=>
  obtain rfl:R=false:=by rw [HR.out];simp
  go_wp2;go_ret;exact ⟨rfl,HB0.out⟩
 have h3:=H3.out;cases d3
 case false=>
  obtain rfl:R=false:=by rw [HR.out];simp
  go_wp2;go_ret;exact ⟨rfl,HB0.out⟩
 have g3:a.itf=b.itf:=by simpa using h3
 clear h3;have h4:=H4.out;cases d4
 case false=>
  obtain rfl:R=false:=by rw [HR.out];simp
  go_wp2;go_ret;exact ⟨rfl,HB0.out⟩
 have g4:a.abs=b.abs:=by simpa using h4
 clear h4;have h5:=H5.out;cases d5
 case false=>
  obtain rfl:R=false:=by rw [HR.out];simp
  go_wp2;go_ret;exact ⟨rfl,HB0.out⟩
 have g5:a.fin=b.fin:=by simpa using h5
 clear h5
 go_wp2_with fail
 refine (HL2.out _ (Below.refl _ _)).mono ?_;rintro e w2 ⟨rfl,hb⟩;have HB2:=Hd hb;have HC2:=Hd (HB0.out.trans (HB2.out.mono HB0.out.size));clear hb p0 q0 p1 q1 p2 q2 p3 q3 p4 q4 p5 q5 h0 h1 g3 g4 g5;cases d2
 case false=>
  obtain rfl:R=false:=by rw [HR.out];simp
  go_wp2;go_ret;exact ⟨rfl,HC2.out⟩
 simp only [Bool.true_and] at HR;have p6:=(HBA.out.below HB2.out).cell 6 rfl;have q6:=(HBB.out.below HB2.out).cell 6 rfl;have p7:=(HBA.out.below HB2.out).cell 7 rfl;have q7:=(HBB.out.below HB2.out).cell 7 rfl;by_cases hnm:n=m
 case neg=>
  have hq:((n:Int) != (m:Int))=true:=by rw [bne_iff_ne];omega
  obtain rfl:R=false:=by rw [HR.out];unfold samB;rw [decide_eq_false (by rw [←HN.out,←HM.out];exact hnm),Bool.false_and,Bool.false_and]
  clear hnm;go_wp2;go_ret;exact ⟨rfl,HC2.out⟩
 subst hnm;by_cases hnm:n2=m2
 case neg=>
  have hq:((n2:Int) != (m2:Int))=true:=by rw [bne_iff_ne];omega
  obtain rfl:R=false:=by rw [HR.out];unfold samB;rw [decide_eq_false (p:=a.mths.length=b.mths.length) (by rw [←HN7.out,←HM7.out];exact hnm),Bool.false_and,Bool.and_false]
  clear hnm;go_wp2;go_ret;exact ⟨rfl,HC2.out⟩
 subst hnm;have HR:Hid (R=(((a.flds.zip b.flds).all fun q=>Fld.eqB q.1 q.2) && ((a.mths.zip b.mths).all fun q=>Mth.eqB q.1 q.2))):=Hd (by rw [HR.out];unfold samB;rw [decide_eq_true (p:=a.mths.length=b.mths.length) (by rw [←HN7.out,←HM7.out]),decide_eq_true (p:=a.flds.length=b.flds.length) (by rw [←HN.out,←HM.out]),Bool.true_and,Bool.true_and]);go_wp2;clear p6 q6 p7 q7
 go_loopw [5] (fun vi wr=>∃ k:Nat,k<=n/\vi=.int .i64 k/\pairT Fld.eqB a.flds b.flds k=true/\Below W0.heap.size W0 wr) (fun vi _=>n - (intOf vi).toNat)
 case atStart=>exact ⟨0,Nat.zero_le _,rfl,by simp [pairT],HB2.out⟩
 case round=>
  obtain ⟨k,hk,rfl,hall,hbw⟩:=hrel;have HA:=Hd hall;have HB:=Hd hbw;have p6:=(HBA.out.below HB.out).cell 6 rfl;have q6:=(HBB.out.below HB.out).cell 6 rfl;clear hall hbw;by_cases hlt:k<n
  ·have hkl:k<a.flds.length:=by have:=HN.out;omega
   have hkm:k<b.flds.length:=by have:=HM.out;omega
   obtain ⟨x,hx⟩:∃ x,a.flds[k]? = some x:=⟨_,List.getElem?_eq_getElem hkl⟩
   obtain ⟨y,hy⟩:∃ y,b.flds[k]? = some y:=⟨_,List.getElem?_eq_getElem hkm⟩
   have hoW:=Only.ofBelow (S:=fun _=>False) HB.out;obtain ⟨b1,o1,ux,rfl,hux,_,hcx⟩:=HC.out k x hx;obtain ⟨b2,o2,uy,rfl,huy,_,hcy⟩:=HD.out k y hy;obtain rfl:=hux;obtain rfl:=huy;have dx0:=hoW.cell (a:=⟨b1,o1+k * 3,none⟩) (hcx 0 _ rfl) id;have dy0:=hoW.cell (a:=⟨b2,o2+k * 3,none⟩) (hcy 0 _ rfl) id;have dx1:=hoW.cell (a:=⟨b1,o1+k * 3+1,none⟩) (hcx 1 _ rfl) id;have dy1:=hoW.cell (a:=⟨b2,o2+k * 3+1,none⟩) (hcy 1 _ rfl) id;have dx2:=hoW.cell (a:=⟨b1,o1+k * 3+2,none⟩) (hcx 2 _ rfl) id;have dy2:=hoW.cell (a:=⟨b2,o2+k * 3+2,none⟩) (hcy 2 _ rfl) id;have e0:=S_toList x.name;have f0:=S_toList y.name;have e1:=S_toList x.kind;have f1:=S_toList y.kind;have HPS:=Hd (pairT_succ Fld.eqB a.flds b.flds k x y hx hy);rw [HA.out,Bool.true_and] at HPS;have hk0:(0:Int)<=k:=by omega
   have hkn:(k:Int)<(n:Int):=by omega
   clear hx hy hkl hkm hoW hcx hcy;have hpe:Fld.eqB x y=((x.name == y.name) && ((x.kind == y.kind) && ((x.tr == y.tr)))):=rfl;rw [hpe] at HPS;clear hpe;generalize hp0:(x.name == y.name)=p0 at HPS;generalize hp1:(x.kind == y.kind)=p1 at HPS;generalize hp2:(x.tr == y.tr)=p2 at HPS;cases p0
   case false=>
    have HPS:Hid (pairT Fld.eqB a.flds b.flds (k+1)=false):=Hd (by rw [HPS.out];simp);obtain rfl:R=false:=by rw [HR.out,Bool.and_eq_false_iff];exact .inl <| pairT_le Fld.eqB a.flds b.flds (k+1) HPS.out
    have HBE:=Hd (HB.out)
    go_wp2_with (go_quiet (fail))
    go_ret;exact ⟨rfl,HB0.out.trans ((below_quiet HBE.out _).mono HB0.out.size)⟩
   cases p1
   case false=>
    have HPS:Hid (pairT Fld.eqB a.flds b.flds (k+1)=false):=Hd (by rw [HPS.out];simp);obtain rfl:R=false:=by rw [HR.out,Bool.and_eq_false_iff];exact .inl <| pairT_le Fld.eqB a.flds b.flds (k+1) HPS.out
    have HBE:=Hd (HB.out)
    go_wp2_with (go_quiet (fail))
    go_ret;exact ⟨rfl,HB0.out.trans ((below_quiet HBE.out _).mono HB0.out.size)⟩
   cases p2
   case false=>
    have HPS:Hid (pairT Fld.eqB a.flds b.flds (k+1)=false):=Hd (by rw [HPS.out];simp);obtain rfl:R=false:=by rw [HR.out,Bool.and_eq_false_iff];exact .inl <| pairT_le Fld.eqB a.flds b.flds (k+1) HPS.out
    have HBE:=Hd (HB.out)
    go_wp2_with (go_quiet (fail))
    go_ret;exact ⟨rfl,HB0.out.trans ((below_quiet HBE.out _).mono HB0.out.size)⟩
   go_wp2_with (go_quiet (fail))
   go_roundw
   case rel=>exact ⟨k+1,by omega,by go_num,HPS.out,below_quiet HB.out _⟩
   case measure=>simp [intOf];omega
  ·obtain rfl:n=k:=by omega
   have hfin:((a.flds.zip b.flds).all fun q=>Fld.eqB q.1 q.2)=true:=by
    have h:=HA.out;unfold pairT at h;rw [List.take_of_length_le (by rw [List.length_zip,←HN.out,←HM.out];omega)] at h;exact h
   have HR:Hid (R=(a.mths.zip b.mths).all fun q=>Mth.eqB q.1 q.2):=Hd (by rw [HR.out,hfin,Bool.true_and]);have HB3:=HB;clear hfin hlt;go_wp2;clear p6 q6
   go_loopw [6] (fun vi wr=>∃ k:Nat,k<=n2/\vi=.int .i64 k/\pairT Mth.eqB a.mths b.mths k=true/\Below W0.heap.size W0 wr) (fun vi _=>n2 - (intOf vi).toNat)
   case atStart=>exact ⟨0,Nat.zero_le _,rfl,by simp [pairT],HB3.out⟩
   case round=>
    obtain ⟨k,hk,rfl,hall,hbw⟩:=hrel;have HA:=Hd hall;have HB:=Hd hbw;have p7:=(HBA.out.below HB.out).cell 7 rfl;have q7:=(HBB.out.below HB.out).cell 7 rfl;clear hall hbw;by_cases hlt:k<n2
    ·have hkl:k<a.mths.length:=by have:=HN7.out;omega
     have hkm:k<b.mths.length:=by have:=HM7.out;omega
     obtain ⟨x,hx⟩:∃ x,a.mths[k]? = some x:=⟨_,List.getElem?_eq_getElem hkl⟩
     obtain ⟨y,hy⟩:∃ y,b.mths[k]? = some y:=⟨_,List.getElem?_eq_getElem hkm⟩
     obtain ⟨b1,o1,ux,rfl,hux,_,hcx⟩:=HC7.out k x hx;obtain ⟨b2,o2,uy,rfl,huy,_,hcy⟩:=HD7.out k y hy;have HUX:=Hd hux;have HUY:=Hd huy;obtain ⟨_,_,_,rfl,⟨po,pc,rfl⟩,⟨co,cc,rfl⟩,⟨ko,kc,rfl⟩⟩:=mth_shape hux;obtain ⟨_,_,_,rfl,⟨po1,pc1,rfl⟩,⟨co1,cc1,rfl⟩,⟨ko1,kc1,rfl⟩⟩:=mth_shape huy;have HPS:=Hd (pairT_succ Mth.eqB a.mths b.mths k x y hx hy);rw [HA.out,Bool.true_and] at HPS;have HFX:Hid (∀ W,Below W0.heap.size W0 W->Calls Tryz.prog 55 #[.agg #[.string (S x.name),.slice po x.params.length pc,.string (S x.res),.bool x.abs,.int .i64 x.loc,.slice co x.code.length cc,.slice ko x.cats.length kc],.agg #[.string (S y.name),.slice po1 y.params.length pc1,.string (S y.res),.bool y.abs,.int .i64 y.loc,.slice co1 y.code.length cc1,.slice ko1 y.cats.length kc1]] W (Said (Mth.eqB x y) W)):=Hd (fun W hW=>
      refsamem_any (A1:=A1) (A2:=A2) x y _ _ W (MthR.st.keep HUX.out (Only.ofBelow (S:=fun _=>False) hW) (fun _ _=>id)) (MthR.st.keep HUY.out (Only.ofBelow (S:=fun _=>False) hW) (fun _ _=>id)) (HFA.out x (List.mem_of_getElem? hx)) (HFB.out y (List.mem_of_getElem? hy)))
     have HS:Hid (∀ W,Below W0.heap.size W0 W->W.cell? ⟨BA,7,none⟩=some (.slice (some ⟨b1,o1,none⟩) n2 mc1)/\W.cell? ⟨BB,7,none⟩=some (.slice (some ⟨b2,o2,none⟩) n2 mc2)/\W.cell? ⟨b1,o1+k * 7,none⟩=some (.string (S x.name))/\W.cell? ⟨b1,o1+k * 7+1,none⟩=some (.slice po x.params.length pc)/\W.cell? ⟨b1,o1+k * 7+2,none⟩=some (.string (S x.res))/\W.cell? ⟨b1,o1+k * 7+3,none⟩=some (.bool x.abs)/\W.cell? ⟨b1,o1+k * 7+4,none⟩=some (.int .i64 x.loc)/\W.cell? ⟨b1,o1+k * 7+5,none⟩=some (.slice co x.code.length cc)/\W.cell? ⟨b1,o1+k * 7+6,none⟩=some (.slice ko x.cats.length kc)/\W.cell? ⟨b2,o2+k * 7,none⟩=some (.string (S y.name))/\W.cell? ⟨b2,o2+k * 7+1,none⟩=some (.slice po1 y.params.length pc1)/\W.cell? ⟨b2,o2+k * 7+2,none⟩=some (.string (S y.res))/\W.cell? ⟨b2,o2+k * 7+3,none⟩=some (.bool y.abs)/\W.cell? ⟨b2,o2+k * 7+4,none⟩=some (.int .i64 y.loc)/\W.cell? ⟨b2,o2+k * 7+5,none⟩=some (.slice co1 y.code.length cc1)/\W.cell? ⟨b2,o2+k * 7+6,none⟩=some (.slice ko1 y.cats.length kc1)):=Hd (fun W hW=>by
      have ho:=Only.ofBelow (S:=fun _=>False) hW;exact ⟨(HBA.out.below hW).cell 7 rfl,(HBB.out.below hW).cell 7 rfl,ho.cell (a:=⟨b1,o1+k * 7,none⟩) (hcx 0 _ rfl) id,ho.cell (a:=⟨b1,o1+k * 7+1,none⟩) (hcx 1 _ rfl) id,ho.cell (a:=⟨b1,o1+k * 7+2,none⟩) (hcx 2 _ rfl) id,ho.cell (a:=⟨b1,o1+k * 7+3,none⟩) (hcx 3 _ rfl) id,ho.cell (a:=⟨b1,o1+k * 7+4,none⟩) (hcx 4 _ rfl) id,ho.cell (a:=⟨b1,o1+k * 7+5,none⟩) (hcx 5 _ rfl) id,ho.cell (a:=⟨b1,o1+k * 7+6,none⟩) (hcx 6 _ rfl) id,ho.cell (a:=⟨b2,o2+k * 7,none⟩) (hcy 0 _ rfl) id,ho.cell (a:=⟨b2,o2+k * 7+1,none⟩) (hcy 1 _ rfl) id,ho.cell (a:=⟨b2,o2+k * 7+2,none⟩) (hcy 2 _ rfl) id,ho.cell (a:=⟨b2,o2+k * 7+3,none⟩) (hcy 3 _ rfl) id,ho.cell (a:=⟨b2,o2+k * 7+4,none⟩) (hcy 4 _ rfl) id,ho.cell (a:=⟨b2,o2+k * 7+5,none⟩) (hcy 5 _ rfl) id,ho.cell (a:=⟨b2,o2+k * 7+6,none⟩) (hcy 6 _ rfl) id⟩)
     have hk0:(0:Int)<=k:=by omega
     have hkn:(k:Int)<(n2:Int):=by omega
     clear hx hy hkl hkm hcx hcy hux huy
     go_upto_region 11 with fail
     clear p7 q7;have hB:=HB.out;obtain ⟨g0,g1,g2,g3,g4,g5,g6,g7,g8,g9,g10,g11,g12,g13,g14,g15⟩:=HS.out _ hB;first
     | (go_region_held (fun W=>W.cell? ⟨BA,7,none⟩=some (.slice (some ⟨b1,o1,none⟩) n2 mc1)/\W.cell? ⟨BB,7,none⟩=some (.slice (some ⟨b2,o2,none⟩) n2 mc2)/\W.cell? ⟨b1,o1+k * 7,none⟩=some (.string (S x.name))/\W.cell? ⟨b1,o1+k * 7+1,none⟩=some (.slice po x.params.length pc)/\W.cell? ⟨b1,o1+k * 7+2,none⟩=some (.string (S x.res))/\W.cell? ⟨b1,o1+k * 7+3,none⟩=some (.bool x.abs)/\W.cell? ⟨b1,o1+k * 7+4,none⟩=some (.int .i64 x.loc)/\W.cell? ⟨b1,o1+k * 7+5,none⟩=some (.slice co x.code.length cc)/\W.cell? ⟨b1,o1+k * 7+6,none⟩=some (.slice ko x.cats.length kc)/\W.cell? ⟨b2,o2+k * 7,none⟩=some (.string (S y.name))/\W.cell? ⟨b2,o2+k * 7+1,none⟩=some (.slice po1 y.params.length pc1)/\W.cell? ⟨b2,o2+k * 7+2,none⟩=some (.string (S y.res))/\W.cell? ⟨b2,o2+k * 7+3,none⟩=some (.bool y.abs)/\W.cell? ⟨b2,o2+k * 7+4,none⟩=some (.int .i64 y.loc)/\W.cell? ⟨b2,o2+k * 7+5,none⟩=some (.slice co1 y.code.length cc1)/\W.cell? ⟨b2,o2+k * 7+6,none⟩=some (.slice ko1 y.cats.length kc1)) ((refine HS.out _ ?_;(repeat (first|(with_reducible exact hB)|(with_reducible (apply below_step;rotate_left;assumption))|(with_reducible refine below_alloc ?_ _)|(with_reducible refine below_drew ?_)))))
       (first|((with_reducible refine (HFX.out _ ?_).mono ?_);(focus ((repeat (first|(with_reducible exact hB)|(with_reducible (apply below_step;rotate_left;assumption))|(with_reducible refine below_alloc ?_ _)|(with_reducible refine below_drew ?_)));done));rintro e w1 ⟨rfl,b9⟩)))
     | fail
     have hb9:Below W0.heap.size W0 w1:=by (repeat (first|(with_reducible exact hB)|(with_reducible (apply below_step;rotate_left;assumption))|(with_reducible refine below_drew ?_)))
     have HB9:=Hd hb9;clear b9 hb9 hB HFX HS g0 g1 g2 g3 g4 g5 g6 g7 g8 g9 g10 g11 g12 g13 g14 g15;generalize Mth.eqB x y=p at HPS ⊢;cases p
     case true=>
      go_wp2
      go_roundw
      case rel=>exact ⟨k+1,by omega,by go_num,HPS.out,HB9.out⟩
      case measure=>simp [intOf];omega
     case false=>
      obtain rfl:R=false:=by rw [HR.out];exact pairT_le Mth.eqB a.mths b.mths (k+1) HPS.out
      go_wp2;go_ret;exact ⟨rfl,HB0.out.trans (HB9.out.mono HB0.out.size)⟩
    ·obtain rfl:n2=k:=by omega
     have hfin:R=true:=by
      have h:=HA.out;unfold pairT at h;rw [List.take_of_length_le (by rw [List.length_zip,←HN7.out,←HM7.out];omega)] at h;rw [HR.out];exact h
     subst hfin;go_wp2;go_ret;exact ⟨rfl,HB0.out.trans (HB.out.mono HB0.out.size)⟩
theorem samB_refl {α:Type} {p:α->α->Bool} (h:∀ x,p x x=true) (l:List α):samB p l l=true:=by
 unfold samB;rw [decide_eq_true rfl,Bool.true_and];induction l with
 | nil=>rfl
 | cons x r ih=>rw [List.zip_cons_cons,List.all_cons,h x,ih];rfl
theorem mth_refl (m:Mth):Mth.eqB m m=true:=by
 unfold Mth.eqB;rw [samB_refl (p:=strEq) (fun x=>by simp [strEq]),samB_refl (p:=Ins.eqB) (fun x=>by simp [Ins.eqB]),samB_refl (p:=Cat.eqB) (fun x=>by simp [Cat.eqB])];simp
theorem cls_refl (c:Cls):Cls.eqB c c=true:=by
 unfold Cls.eqB;rw [samB_refl (p:=strEq) (fun x=>by simp [strEq]),samB_refl (p:=Fld.eqB) (fun x=>by simp [Fld.eqB]),samB_refl (p:=Mth.eqB) mth_refl];simp
end Go.Proofs.YtpincofjopmaaaaGreatDoor
