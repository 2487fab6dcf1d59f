/- laws -/
import Derived.Test.YtggcdinoflchjaaGreatDoorK73
import Derived.Test.YtggcdinoflchjaaGreatDoorKxMeUp
import Derived.Test.YtggcdinoflchjaaGreatDoorK78
set_option maxRecDepth 100000
set_option maxHeartbeats 16000000
namespace Go.Proofs.YtggcdinoflchjaaGreatDoor
open Go.RowKit
theorem Wise.kind_nil {es:List Ent} (W:Wise es):ZaK es []=false:=by
 unfold ZaK Zbs;rw [ZeE (Zcz (by decide +kernel)),W.not_class (by decide)];decide
theorem Zph:depN Za1=0:=by
 unfold depN;split
 ·exact ZdL (show ZbN Za1=true by decide)
 ·rfl
theorem ZnB:Zak objL=true:=by decide
theorem Wise.kind_at {es:List Ent} (W:Wise es) {i:Nat} (hi:i<es.length):ZaK es (nmE es i)=true:=W.kind_class (W.at hi).1
theorem Wise.sub_trans {es:List Ent} (W:Wise es) {a b c:List UInt8} (h:subE es a b=true) (k:subE es b c=true):subE es a c=true:=by
 rw [W.sub_case] at h k ⊢;obtain ⟨ha,hb,h⟩:=h;obtain ⟨_,hc,k⟩:=k;refine ⟨ha,hc,?_⟩;cases h with
 | same=>exact k
 | null _ hn hp=>
  cases k with
  | same=>exact .null b hn hp
  | null=>exact absurd rfl hn
  | arr=>exact .null _ (by decide) (by decide)
  | cls _ _ i j p q r=>
   obtain ⟨_,_,_,_,hc,_⟩:=W.place q;exact .null c (fun e=>by rw [e,ZcH] at hc;cases hc) (class_plain hc)
 | arr _ hn hd=>
  cases k with
  | same=>exact .arr a hn hd
  | arr _ _ h=>rw [ZcO ZnB] at h;omega
  | cls _ _ i j p q r=>
   rw [W.objAt] at p;obtain rfl:=Yae p;have:=Zrj r W.par0;subst this;obtain ⟨_,_,_,_,_,hnm⟩:=W.place q;rw [W.nm0] at hnm;rw [←hnm];exact .arr a hn hd
 | cls _ _ i j p q r=>
  cases k with
  | same=>exact .cls a b i j p q r
  | null=>obtain ⟨_,_,_,_,hc,_⟩:=W.place q;rw [ZcH] at hc;cases hc
  | arr _ _ hd=>obtain ⟨_,_,_,_,hc,_⟩:=W.place q;rw [ZcO hc] at hd;omega
  | cls _ _ i2 j2 p2 q2 r2=>
   rw [q] at p2;obtain rfl:=Yae p2;exact .cls a c i j2 p q2 (r.trans r2)
theorem Wise.sub_cls {es:List Ent} (W:Wise es) {i j:Nat} (hi:i<es.length) (h:Up es i j) (hj:j<es.length):subE es (nmE es i) (nmE es j)=true:=
 W.sub_case.2 ⟨W.kind_at hi,W.kind_at hj,.cls _ _ i j (W.at hi).1 (W.at hj).1 h⟩
theorem Wise.join_up {es:List Ent} (W:Wise es) (a b:List UInt8):Za7 es a b=[]\/subE es a (Za7 es a b)=true/\subE es b (Za7 es a b)=true:=by
 unfold Za7;split
 ·rename_i h;exact .inr ⟨h,W.sub_self (W.sub_kind h).2⟩
 ·split
  ·rename_i h;exact .inr ⟨W.sub_self (W.sub_kind h).2,h⟩
  ·split
   ·rename_i x hx
    have hb:=Yb6 hx;have hm:=YbK hx;refine .inr ⟨?_,hb⟩;unfold derE at hm;split at hm
    ·rename_i hd
     rw [W.objAt,W.line W.obj,show (⟨objC,none,[]⟩:Ent).up=none from rfl,ZaC] at hm;obtain rfl:=Yav.1 hm;rw [W.nm0];have hn:a ≠ Za1:=fun e=>by have:=hd.1;rw [e,Zph] at this;omega
     exact W.sub_case.2 ⟨by unfold ZaK;rw [hd.2];simp,W.kind_class W.objAt,.arr a hn hd.1⟩
    ·cases hp:Zac es a with
     | none=>rw [hp,ZaC] at hm;cases hm
     | some i=>
      rw [hp] at hm;obtain ⟨hi,_,_,_,_,hnm⟩:=W.place hp;have hx:x<es.length:=by
       obtain ⟨e,he⟩:=Zbg (W.sh.line (some i) (fun j h=>by obtain rfl:=Yae h;exact hi)) x hm;exact (Yag.1 he).1
      have:=W.sub_cls hi (W.line_up i hi x hm) hx;rw [hnm] at this;exact this
   ·exact .inl rfl
theorem ZgL {n:List UInt8} (h:Zak n=true):n ≠ Za1:=fun e=>by rw [e,ZcH] at h;cases h
theorem ZhY (es:List Ent):ZaK es Za1=true:=by unfold ZaK;rw [YaV];rfl
theorem Wise.join_no {es:List Ent} (W:Wise es) {a b:List UInt8} (h:Za7 es a b=[]):Za7 es b a=[]:=by
 rcases W.join_up b a with h1|⟨h1,h2⟩
 ·exact h1
 exfalso
 generalize Za7 es b a=j at h1 h2;have kk:=W.sub_kind h2;have kb:=(W.sub_kind h1).1;have hab:subE es a b=false:=by
  cases q:subE es a b with
  | false=>rfl
  | true=>unfold Za7 at h;rw [YaA q] at h;rw [h,W.kind_nil] at kb;cases kb
 have hba:subE es b a=false:=by
  cases q:subE es b a with
  | false=>rfl
  | true=>unfold Za7 at h;rw [Yaq (by rw [hab];decide),YaA q] at h;rw [h,W.kind_nil] at kk;cases kk.1
 have hno:∀ x ∈ Zal es (derE es a),x<es.length->subE es b (nmE es x)=false:=by
  intro x hx hl;unfold Za7 at h;rw [Yaq (by rw [hab];decide),Yaq (by rw [hba];decide)] at h;split at h
  ·rename_i y hy
   exfalso
   have hm:=YbK hy;have hk:=(W.sub_kind (show subE es b (nmE es y)=true from Yb6 (p:=fun x=>subE es b (nmE es x)) hy)).2;rw [h,W.kind_nil] at hk;cases hk
  ·rename_i hn
   have:=Yby.1 hn x hx
   simpa using this
 -- is b a reference kind,null is below it
 have hnb:subE es Za1 b=false\/a ≠ Za1:=by
  by_cases e:a=Za1
  ·exact .inl (e ▸ hab)
  ·exact .inr e
 have href:∀ k,subE es b k=true->b ≠ k->Zas b=false:=by
  intro k hk hne;obtain ⟨_,_,hc⟩:=W.sub_case.1 hk;cases hc with
  | same=>exact absurd rfl hne
  | null=>exact Zgt
  | arr _ _ hd=>
   cases hp:Zas b with
   | false=>rfl
   | true=>have:=plain_dep hp;omega
  | cls _ _ i j p q r=>obtain ⟨_,_,_,_,hc,_⟩:=W.place p;exact class_plain hc
 have hobj:a ≠ Za1->(0:Nat) ∈ Zal es (derE es a)->subE es b objL=true->False:=fun _ hm hs=>by
  have:=hno 0 hm (by have:=W.pos;omega);rw [W.nm0,hs] at this;cases this
 obtain ⟨_,_,hc⟩:=W.sub_case.1 h2;cases hc with
 | same=>rw [h1] at hba;cases hba
 | null _ hn hp=>
  have hbn:b ≠ Za1:=fun e=>by
   rw [e] at hab;rw [W.sub_self (ZhY es)] at hab;cases hab
  have hbp:Zas b=false:=by
   by_cases e:b=j
   ·rw [e];exact hp
   ·exact href j h1 e
  rw [W.sub_case.2 ⟨ZhY es,kb,.null b hbn hbp⟩] at hab;cases hab
 | arr _ hn hd=>
  refine hobj hn ?_ h1;have hd2:Zbs es a=true:=by
   have:=kk.1;unfold ZaK at this;rw [Yah.2 hn,YaR] at this;exact this
  unfold derE;rw [YaA ⟨hd,hd2⟩,W.objAt];exact W.zero_line (by have:=W.pos;omega)
 | cls _ _ i jj p q r=>
  obtain ⟨hi,_,_,_,hcl,hnm⟩:=W.place p;obtain ⟨hj,_,_,_,_,hnj⟩:=W.place q;refine hobj (ZgL hcl) ?_ ?_
  ·unfold derE;rw [Yaq (by rw [ZcO hcl];omega),p];exact W.zero_line hi
  ·have k:=W.sub_cls hj (W.up0 hj) (by have:=W.pos;omega);rw [hnj,W.nm0] at k;exact W.sub_trans h1 k
def Ze6 (es:List Ent) (free:Bool) (a b:List (List UInt8)):Bool:=(a.zip b).all fun q=>(free && q.2 == []) || subE es q.1 q.2
def ZbD (es:List Ent) (a b:Shp):Bool:=decide (a.stk.length=b.stk.length) && (decide (a.loc.length=b.loc.length) && (Ze6 es false a.stk b.stk && Ze6 es true a.loc b.loc))
theorem Zgo {es:List Ent} (W:Wise es) (a b:List (List UInt8)):Zbh (Zam es a b)=Zbh (Zam es b a):=by
 have key:∀ a b,Zbh (Zam es a b)=true->Zbh (Zam es b a)=true:=by
  intro a;induction a with
  | nil=>intro b h;cases b <;> cases h
  | cons x a ih=>
   intro b h;cases b with
   | nil=>cases h
   | cons y b=>
    unfold Zbh Zam at h ih ⊢;rw [YbQ,List.any_cons,YaS] at h ⊢;rcases h with h|h
    ·exact .inl (by rw [W.join_no (eq_of_beq h)];rfl)
    ·exact .inr (ih b h)
 cases h:Zbh (Zam es a b) with
 | true=>exact (key a b h).symm
 | false=>
  cases k:Zbh (Zam es b a) with
  | false=>rfl
  | true=>rw [key b a k] at h;cases h
theorem ZeD {es:List Ent} (W:Wise es) (free:Bool):∀ (a b:List (List UInt8)),a.length=b.length->(free=false->Zbh (Zam es a b)=false)->Ze6 es free a (Zam es a b)=true/\Ze6 es free b (Zam es a b)=true:=by
 intro a;induction a with
 | nil=>intro b hl _;cases b with
  | nil=>exact ⟨rfl,rfl⟩
  | cons y b=>cases hl
 | cons x a ih=>
  intro b hl hn;cases b with
  | nil=>cases hl
  | cons y b=>
   have hn2:free=false->Za7 es x y ≠ []/\Zbh (Zam es a b)=false:=fun hf=>by
    have:=hn hf;unfold Zbh Zam at this ⊢;rw [YbQ,List.any_cons,Ybk] at this;exact ⟨(fun e=>by have h1:=this.1;rw [e] at h1;cases h1),this.2⟩
   have ih2:=ih b (by simpa using hl) (fun hf=>(hn2 hf).2);unfold Ze6 Zam at ih2 ⊢;rw [YbQ,List.zip_cons_cons,List.zip_cons_cons,YbY,YbY,ih2.1,ih2.2,YbX,YbX];rcases W.join_up x y with h|⟨h1,h2⟩
   ·cases free with
    | false=>exact absurd h (hn2 rfl).1
    | true=>simp [h]
   ·simp [h1,h2]
theorem Zje {es:List Ent} (W:Wise es) (a b:Shp) (ha:a.seen=true) (hb:b.seen=true) :
  ((ZaR es a b).2=0->(ZaR es b a).2=0/\(ZbD es a (ZaR es a b).1=true/\ZbD es b (ZaR es a b).1=true)/\(ZbD es a (ZaR es b a).1=true/\ZbD es b (ZaR es b a).1=true))/\
  ((ZaR es a b).2 ≠ 0->(ZaR es b a).2=(ZaR es a b).2):=by
 unfold ZaR;simp only [ha,hb,Bool.true_eq_false,if_false];by_cases hl:a.stk.length=b.stk.length/\a.loc.length=b.loc.length
 ·have hl2:b.stk.length=a.stk.length/\b.loc.length=a.loc.length:=⟨hl.1.symm,hl.2.symm⟩;rw [YaA hl,YaA hl2,Zgo W b.stk a.stk];cases hn:Zbh (Zam es a.stk b.stk) with
  | true=>exact ⟨(fun h=>by cases h),fun _=>rfl⟩
  | false=>
   simp only [YbR,if_false];have hn':Zbh (Zam es b.stk a.stk)=false:=by rw [Zgo W];exact hn
   have s1:=ZeD W false a.stk b.stk hl.1 (fun _=>hn);have s2:=ZeD W true a.loc b.loc hl.2 (fun h=>by cases h);have s3:=ZeD W false b.stk a.stk hl.1.symm (fun _=>hn');have s4:=ZeD W true b.loc a.loc hl.2.symm (fun h=>by cases h);have l1:=Zb6 (es:=es) hl.1;have l2:=Zb6 (es:=es) hl.2;have l3:=Zb6 (es:=es) hl.1.symm;have l4:=Zb6 (es:=es) hl.2.symm;refine ⟨fun _=>⟨trivial,⟨?_,?_⟩,?_,?_⟩,fun h=>absurd rfl h⟩
   ·unfold ZbD;simp only [s1.1,s2.1,l1,l2,decide_true,YbX]
   ·unfold ZbD;simp only [s1.2,s2.2,l1,l2,hl.1,hl.2,decide_true,YbX]
   ·unfold ZbD;simp only [s3.2,s4.2,l3,l4,hl.1,hl.2,decide_true,YbX]
   ·unfold ZbD;simp only [s3.1,s4.1,l3,l4,decide_true,YbX]
 ·have hl2:¬ (b.stk.length=a.stk.length/\b.loc.length=a.loc.length):=fun h=>hl ⟨h.1.symm,h.2.symm⟩
  rw [Yaq hl,Yaq hl2];exact ⟨(fun h=>by cases h),fun _=>rfl⟩
def Zf1 (es:List Ent) (free:Bool) (a b:List (List UInt8)) (k:Nat):Bool:=((a.zip b).take k).all fun q=>(free && q.2 == []) || subE es q.1 q.2
theorem Zgy (es:List Ent) (free:Bool) (a b:List (List UInt8)):Zf1 es free a b 0=true:=rfl
theorem ZeU {es:List Ent} {free:Bool} {a b:List (List UInt8)} {k:Nat} {x y:List UInt8} (hx:a[k]? = some x) (hy:b[k]? = some y):Zf1 es free a b (k+1)=(Zf1 es free a b k && ((free && y == []) || subE es x y)):=by
 unfold Zf1;rw [Zcb _ _ _ (x,y) (by rw [Ycn];exact ⟨hx,hy⟩)]
theorem Ziu {es:List Ent} {free:Bool} {a b:List (List UInt8)} {n:Nat} (hn:n=a.length) (h:Zf1 es free a b n=true):Ze6 es free a b=true:=by
 unfold Zf1 at h;rw [Yay (by rw [List.length_zip];omega)] at h;exact h
theorem Zoj {es:List Ent} {free:Bool} {a b:List (List UInt8)} {k:Nat} {x y:List UInt8} (hx:a[k]? = some x) (hy:b[k]? = some y) (h:((free && y == []) || subE es x y)=false):Ze6 es free a b=false:=by
 unfold Ze6;rw [YbZ];exact ⟨(x,y),Yad (Ycn.2 ⟨hx,hy⟩),by simp only [h];decide⟩
theorem Zki {es:List Ent} {a b:Shp} (h:a.stk.length ≠ b.stk.length):ZbD es a b=false:=by unfold ZbD;rw [Yaj h,YaD]
theorem Zkj {es:List Ent} {a b:Shp} (h:a.loc.length ≠ b.loc.length):ZbD es a b=false:=by unfold ZbD;rw [Yaj h,YaD,Ybv]
theorem Zl9 {es:List Ent} {a b:Shp} (h:Ze6 es false a.stk b.stk=false):ZbD es a b=false:=by unfold ZbD;rw [h,YaD,Ybv,Ybv]
theorem Zma {es:List Ent} {a b:Shp} (h:Ze6 es true a.loc b.loc=false):ZbD es a b=false:=by unfold ZbD;rw [h,Ybv,Ybv,Ybv]
theorem Zmb {es:List Ent} {a b:Shp} (h1:a.stk.length=b.stk.length) (h2:a.loc.length=b.loc.length) (h3:Ze6 es false a.stk b.stk=true) (h4:Ze6 es true a.loc b.loc=true):ZbD es a b=true:=by
 unfold ZbD;rw [h3,h4,Yar h1,Yar h2];rfl
theorem ZfU {A A1 A2:Nat->Prop} (cs:List Cls) (hL:Lined cs) (W0:Wise (newT cs)) (tv:Value) (a b:Shp) (u v:Value) (w:World) (ht:Src 8 ClsR A w tv (allR cs)) (hu:ShpR A1 w a u) (hv:ShpR A2 w b v) (ha:a.Small) (hb:b.Small) :
  Calls Tryz.prog 17 #[tv,u,v] w (Said (ZbD (newT cs) a b) w):=by
 obtain ⟨s1,l1,rfl,hs1,hl1⟩:=hu;obtain ⟨s2,l2,rfl,hs2,hl2⟩:=hv;obtain ⟨so1,sc1,rfl⟩:=hs1.shape;obtain ⟨lo1,lc1,rfl⟩:=hl1.shape;obtain ⟨so2,sc2,rfl⟩:=hs2.shape;obtain ⟨lo2,lc2,rfl⟩:=hl2.shape;have E1:=Hd (Src.elem hs1);have E2:=Hd (Src.elem hs2);have E3:=Hd (Src.elem hl1);have E4:=Hd (Src.elem hl2);have HSB:Hid (∀ W x y,Below w.heap.size w W->x.length<=281474976710656->y.length<=281474976710656->Calls Tryz.prog 34 #[tv,.string (S x),.string (S y)] W (Said (subE (newT cs) x y) W)):=Hd (fun W x y h h1 h2=>rsub_any cs hL W0 tv x y W (ClsR.st.below ht h) (by omega) (by omega));have HA:=Hd ha;have HB:=Hd hb;generalize newT cs=es at HSB ⊢;obtain ⟨R,hr⟩:∃ R,R=ZbD es a b:=⟨_,rfl⟩
 rw [←hr];have HR:=Hd hr;obtain ⟨n1,hn1⟩:∃ n,n=a.stk.length:=⟨_,rfl⟩
 obtain ⟨n2,hn2⟩:∃ n,n=b.stk.length:=⟨_,rfl⟩
 obtain ⟨m1,hm1⟩:∃ n,n=a.loc.length:=⟨_,rfl⟩
 obtain ⟨m2,hm2⟩:∃ n,n=b.loc.length:=⟨_,rfl⟩
 have hz1:n1<=1048576:=by rw [hn1];exact ha.n1
 have hz2:m1<=1048576:=by rw [hm1];exact ha.n2
 have hz3:n2<=1048576:=by rw [hn2];exact hb.n1
 have hz4:m2<=1048576:=by rw [hm2];exact hb.n2
 rw [←hn1,←hn2,←hm1,←hm2];have N1:=Hd hn1;have N2:=Hd hn2;have M1:=Hd hm1;have M2:=Hd hm2;generalize a.seen=q1;generalize b.seen=q2;unfold Said at HSB ⊢;have HX1:=Hd ((Box.new w #[.bool q1,.slice so1 n1 sc1,.slice lo1 m1 lc1] 24).below (Zaa (Yab _ _) (.cells #[.bool q2,.slice so2 n2 sc2,.slice lo2 m2 lc2] 24)));have hx2:=Box.new (w.alloc (.cells #[.bool q1,.slice so1 n1 sc1,.slice lo1 m1 lc1] 24)) #[.bool q2,.slice so2 n2 sc2,.slice lo2 m2 lc2] 24;rw [show (w.alloc (.cells #[.bool q1,.slice so1 n1 sc1,.slice lo1 m1 lc1] 24)).heap.size=w.heap.size+1 by simp] at hx2;have HX2:=Hd hx2;have HB0:Hid (Below w.heap.size w ((w.alloc (.cells #[.bool q1,.slice so1 n1 sc1,.slice lo1 m1 lc1] 24)).alloc (.cells #[.bool q2,.slice so2 n2 sc2,.slice lo2 m2 lc2] 24))):=Hd (Zaa (Zaa (Yab _ _) _) _);clear hx2 hs1 hs2 hl1 hl2 ht ha hb hr hn1 hn2 hm1 hm2;by_cases g1:n1=n2
 case neg=>
  have hR:R=false:=by rw [HR.o];exact Zki (by rw [←N1.o,←N2.o];exact g1)
  have i1:¬ ((n1:Int)=(n2:Int)):=by omega
  subst hR;clear g1;go_enter Tryz.func17,Tryz.ntmps17;go_wp2;go_ret;exact ⟨rfl,HB0.o⟩
 by_cases g2:m1=m2
 case neg=>
  have hR:R=false:=by rw [HR.o];exact Zkj (by rw [←M1.o,←M2.o];exact g2)
  have i2:¬ ((m1:Int)=(m2:Int)):=by omega
  subst hR;subst g1;clear g2;go_enter Tryz.func17,Tryz.ntmps17;go_wp2;go_ret;exact ⟨rfl,HB0.o⟩
 subst g1;subst g2;obtain ⟨w1,hw1⟩:∃ w1,w1=((w.alloc (.cells #[.bool q1,.slice so1 n1 sc1,.slice lo1 m1 lc1] 24)).alloc (.cells #[.bool q2,.slice so2 n1 sc2,.slice lo2 m1 lc2] 24)):=⟨_,rfl⟩
 go_enter Tryz.func17,Tryz.ntmps17;go_wp2;rw [←hw1] at HX1 HX2 HB0 ⊢;clear hw1;have HW0:Hid (∀ W,Below w1.heap.size w1 W->Below w.heap.size w W):=Hd (fun W h=>HB0.o.trans (h.mono HB0.o.size))
 go_loopw [7] (fun vv wr=>∃ k:Nat,k<=n1/\vv=.int .i64 k/\Zf1 es false a.stk b.stk k=true/\Below w1.heap.size w1 wr) (fun vv _=>n1 - (intOf vv).toNat)
 case atStart=>exact ⟨0,Yai _,rfl,Zgy ..,Yab _ _⟩
 case round=>
  obtain ⟨k,hk,rfl,hall,hbw⟩:=hrel;have HAll:=Hd hall;have HBR:=Hd hbw;clear hall hbw;by_cases hlt:k<n1
  ·obtain ⟨x,hx⟩:∃ x,a.stk[k]? = some x:=⟨_,Yaa (by rw [←N1.o];exact hlt)⟩
   obtain ⟨y,hy⟩:∃ y,b.stk[k]? = some y:=⟨_,Yaa (by rw [←N2.o];exact hlt)⟩
   obtain ⟨b1,o1,u1,rfl,hu1,_,hc1⟩:=E1.o k x hx;obtain ⟨b2,o2,u2,rfl,hu2,_,hc2⟩:=E2.o k y hy;obtain rfl:=hu1;obtain rfl:=hu2;have HJS:Hid (∀ W,Below wr.heap.size wr W->W.cell? ⟨w.heap.size,1,none⟩=some (.slice (some ⟨b1,o1,none⟩) n1 sc1)/\W.cell? ⟨w.heap.size+1,1,none⟩=some (.slice (some ⟨b2,o2,none⟩) n1 sc2)/\W.cell? ⟨b1,o1+k,none⟩=some (.string (S x))/\W.cell? ⟨b2,o2+k,none⟩=some (.string (S y))):=Hd (fun W h=>by
    have h1:=bel_after h HBR.o;have hoW:=Yaf (S:=fun _=>False) (HW0.o W h1);exact ⟨(HX1.o.below h1).cell 1 rfl,(HX2.o.below h1).cell 1 rfl,
     hoW.cell (a:=⟨b1,o1+k,none⟩) (by have p:=hc1 0 _ rfl;rw [YaC] at p;exact p) id,
     hoW.cell (a:=⟨b2,o2+k,none⟩) (by have p:=hc2 0 _ rfl;rw [YaC] at p;exact p) id⟩)
   obtain ⟨f1,f2,f3,f4⟩:=HJS.o wr (Yab _ _);have hk0:(0:Int)<=(k:Int):=by omega
   have hkn:(k:Int)<(n1:Int):=by omega
   have HK1:Hid (subE es x y=true->Zf1 es false a.stk b.stk (k+1)=true):=Hd (fun h=>by rw [ZeU hx hy,HAll.o,h];rfl);have HK2:Hid (subE es x y=false->R=false):=Hd (fun h=>by rw [HR.o];exact Zl9 (Zoj hx hy (by rw [h];rfl)));have HC:Hid (∀ W,Below wr.heap.size wr W->Calls Tryz.prog 34 #[tv,.string (S x),.string (S y)] W (fun e w'=>e=.returned (.bool (subE es x y))/\Below W.heap.size W w')):=Hd (fun W h=>HSB.o W x y (HW0.o _ (bel_after h HBR.o)) (HA.o.k1 x (Yad hx)) (HB.o.k1 y (Yad hy)));generalize subE es x y=z at HK1 HK2 HC;clear hc1 hc2 hx hy
   go_upto_region 6 with fail
   first
   | (go_region_held (fun W=>W.cell? ⟨w.heap.size,1,none⟩=some (.slice (some ⟨b1,o1,none⟩) n1 sc1)/\W.cell? ⟨w.heap.size+1,1,none⟩=some (.slice (some ⟨b2,o2,none⟩) n1 sc2)/\W.cell? ⟨b1,o1+k,none⟩=some (.string (S x))/\W.cell? ⟨b2,o2+k,none⟩=some (.string (S y))) ((refine HJS.o _ ?_;(repeat (first|(with_reducible assumption)|(with_reducible exact Yab _ _)|(with_reducible refine bel_drew ?_)|(with_reducible (apply bel_after;assumption))))))
     ((go_at_call 34;(with_reducible refine (HC.o _ ?_).mono ?_);(focus ((repeat (first|(with_reducible assumption)|(with_reducible exact Yab _ _)|(with_reducible refine bel_drew ?_)|(with_reducible (apply bel_after;assumption))));done));rintro en w2 ⟨rfl,hb2⟩)))
   | fail
   all_goals
    have HBR2:Hid (Below wr.heap.size wr w2):=Hd (by (repeat (first|(with_reducible assumption)|(with_reducible exact Yab _ _)|(with_reducible refine bel_drew ?_)|(with_reducible (apply bel_after;assumption)))));have HBE:=Hd (HW0.o _ (bel_after HBR2.o HBR.o));have HB1:=Hd (bel_after HBR2.o HBR.o);clear hb2 f1 f2 f3 f4 HJS HC;cases z
    ·have hR:=HK2.o rfl;subst hR;go_wp2;go_ret;exact ⟨rfl,HBE.o⟩
    ·go_wp2
     go_roundw
     case rel=>exact ⟨k+1,by omega,by go_num,HK1.o rfl,HB1.o⟩
     case measure=>simp [intOf];omega
  ·obtain rfl:n1=k:=by omega
   have HALL1:=Hd (Ziu N1.o HAll.o);obtain ⟨w5,hw5⟩:∃ w5,w5=wr:=⟨_,rfl⟩
   have HB5:=HBR;have f1:=(HX1.o.below HBR.o).cell 1 rfl;have f2:=(HX1.o.below HBR.o).cell 2 rfl;clear HAll HBR;rw [←hw5] at HB5 f1 f2 ⊢;clear hw5;go_wp2;have HW5:Hid (∀ W,Below w5.heap.size w5 W->Below w1.heap.size w1 W):=Hd (fun W h=>HB5.o.trans (h.mono HB5.o.size))
   go_loopw [8] (fun vv wr=>∃ k:Nat,k<=m1/\vv=.int .i64 k/\Zf1 es true a.loc b.loc k=true/\Below w5.heap.size w5 wr) (fun vv _=>m1 - (intOf vv).toNat)
   case atStart=>exact ⟨0,Yai _,rfl,Zgy ..,Yab _ _⟩
   case round=>
    obtain ⟨k,hk,rfl,hall,hbw⟩:=hrel;have HAll:=Hd hall;have HBR:=Hd hbw;clear hall hbw f1 f2;by_cases hlt:k<m1
    ·obtain ⟨x,hx⟩:∃ x,a.loc[k]? = some x:=⟨_,Yaa (by rw [←M1.o];exact hlt)⟩
     obtain ⟨y,hy⟩:∃ y,b.loc[k]? = some y:=⟨_,Yaa (by rw [←M2.o];exact hlt)⟩
     obtain ⟨b1,o1,u1,rfl,hu1,_,hc1⟩:=E3.o k x hx;obtain ⟨b2,o2,u2,rfl,hu2,_,hc2⟩:=E4.o k y hy;obtain rfl:=hu1;obtain rfl:=hu2;have HJS:Hid (∀ W,Below wr.heap.size wr W->W.cell? ⟨w.heap.size,2,none⟩=some (.slice (some ⟨b1,o1,none⟩) m1 lc1)/\W.cell? ⟨w.heap.size+1,2,none⟩=some (.slice (some ⟨b2,o2,none⟩) m1 lc2)/\W.cell? ⟨b1,o1+k,none⟩=some (.string (S x))/\W.cell? ⟨b2,o2+k,none⟩=some (.string (S y))):=Hd (fun W h=>by
      have h1:=HW5.o _ (bel_after h HBR.o);have hoW:=Yaf (S:=fun _=>False) (HW0.o W h1);exact ⟨(HX1.o.below h1).cell 2 rfl,(HX2.o.below h1).cell 2 rfl,
       hoW.cell (a:=⟨b1,o1+k,none⟩) (by have p:=hc1 0 _ rfl;rw [YaC] at p;exact p) id,
       hoW.cell (a:=⟨b2,o2+k,none⟩) (by have p:=hc2 0 _ rfl;rw [YaC] at p;exact p) id⟩)
     have hk0:(0:Int)<=(k:Int):=by omega
     have hkn:(k:Int)<(m1:Int):=by omega
     by_cases hy0:y=[]
     ·have HK1:Hid (Zf1 es true a.loc b.loc (k+1)=true):=Hd (by rw [ZeU hx hy,HAll.o,hy0];rfl);have hse:S y=⟨#[]⟩:=by rw [hy0];rfl
      rw [hse] at HJS;obtain ⟨f1,f2,f3,f4⟩:=HJS.o wr (Yab _ _);clear hy0 hse hc1 hc2 hx hy HJS E1 E2 E3 E4 HSB
      go_wp2_with (go_quiet (fail))
      go_roundw
      case rel=>exact ⟨k+1,by omega,by go_num,HK1.o,below_quiet HBR.o _⟩
      case measure=>simp [intOf];omega
     ·have hse:y.isEmpty=false:=by
       cases y with
       | nil=>exact absurd rfl hy0
       | cons _ _=>rfl
      have e0:=Zae y;have hyb:(y == [])=false:=Yah.2 hy0;obtain ⟨f1,f2,f3,f4⟩:=HJS.o wr (Yab _ _);have HK1:Hid (subE es x y=true->Zf1 es true a.loc b.loc (k+1)=true):=Hd (fun h=>by rw [ZeU hx hy,HAll.o,h,Bool.or_true];rfl);have HK2:Hid (subE es x y=false->R=false):=Hd (fun h=>by rw [HR.o];exact Zma (Zoj hx hy (by rw [h,hyb];rfl)));have HC:Hid (∀ W,Below wr.heap.size wr W->Calls Tryz.prog 34 #[tv,.string (S x),.string (S y)] W (fun e w'=>e=.returned (.bool (subE es x y))/\Below W.heap.size W w')):=Hd (fun W h=>HSB.o W x y (HW0.o _ (HW5.o _ (bel_after h HBR.o))) (HA.o.k2 x (Yad hx)) (HB.o.k2 y (Yad hy)));generalize subE es x y=z at HK1 HK2 HC;clear hc1 hc2 hx hy hyb hy0
      go_upto_region 11 with fail
      first
      | (go_region_held (fun W=>W.cell? ⟨w.heap.size,2,none⟩=some (.slice (some ⟨b1,o1,none⟩) m1 lc1)/\W.cell? ⟨w.heap.size+1,2,none⟩=some (.slice (some ⟨b2,o2,none⟩) m1 lc2)/\W.cell? ⟨b1,o1+k,none⟩=some (.string (S x))/\W.cell? ⟨b2,o2+k,none⟩=some (.string (S y))) ((refine HJS.o _ ?_;(repeat (first|(with_reducible assumption)|(with_reducible exact Yab _ _)|(with_reducible refine bel_drew ?_)|(with_reducible (apply bel_after;assumption))))))
        ((go_at_call 34;(with_reducible refine (HC.o _ ?_).mono ?_);(focus ((repeat (first|(with_reducible assumption)|(with_reducible exact Yab _ _)|(with_reducible refine bel_drew ?_)|(with_reducible (apply bel_after;assumption))));done));rintro en w2 ⟨rfl,hb2⟩)))
      | fail
      all_goals
       have HBR2:Hid (Below wr.heap.size wr w2):=Hd (by (repeat (first|(with_reducible assumption)|(with_reducible exact Yab _ _)|(with_reducible refine bel_drew ?_)|(with_reducible (apply bel_after;assumption)))));have HB1:=Hd (bel_after HBR2.o HBR.o);have HBE:=Hd (HW0.o _ (HW5.o _ HB1.o));clear hb2 f1 f2 f3 f4 HJS HC;cases z
       ·have hR:=HK2.o rfl;subst hR;go_wp2;go_ret;exact ⟨rfl,HBE.o⟩
       ·go_wp2
        go_roundw
        case rel=>exact ⟨k+1,by omega,by go_num,HK1.o rfl,HB1.o⟩
        case measure=>simp [intOf];omega
    ·obtain rfl:m1=k:=by omega
     have HBE:=Hd (HW0.o _ (HW5.o _ HBR.o));have hR:R=true:=by rw [HR.o];exact Zmb (by rw [←N1.o];exact N2.o) (by rw [←M1.o];exact M2.o) HALL1.o (Ziu M1.o HAll.o)
     have f1:=(HX1.o.below (HW5.o _ HBR.o)).cell 2 rfl;subst hR;go_wp2;go_ret;exact ⟨rfl,HBE.o⟩
theorem Zm8 {cs:List Cls} (h:NewOk cs) (a b:List UInt8) (ha:a.length<=100) (hb:b.length<=100):(Za7 (newT cs) a b).length<=100:=by
 unfold Za7;split
 ·omega
 ·split
  ·omega
  ·split
   ·have:=h.shape.nmE_le (es:=newT cs)
    rename_i x _
    have:=this x;omega
   ·simp
theorem ZhW {cs:List Cls} (h:NewOk cs) {a b:List (List UInt8)} (ha:∀ x ∈ a,x.length<=100) (hb:∀ x ∈ b,x.length<=100):∀ x ∈ Zam (newT cs) a b,x.length<=100:=by
 intro x hx;unfold Zam at hx;obtain ⟨k,hk⟩:=Ya0.1 hx;rw [List.getElem?_zipWith] at hk;split at hk
 ·rename_i y z hy hz
  rw [←Yae hk];exact Zm8 h y z (ha y (Yad hy)) (hb z (Yad hz))
 ·cases hk
theorem Znq {cs:List Cls} (h:NewOk cs) {a b:Shp} (f1:a.Few) (f2:b.Few):(ZaR (newT cs) a b).1.Few:=by
 have z:Shp.zero.Few:=⟨by decide,by decide,(fun x hx=>by cases hx),(fun x hx=>by cases hx)⟩;unfold ZaR;split
 ·exact f2
 ·split
  ·exact f1
  ·split
   ·split
    ·exact z
    ·exact ⟨Yan (joins_le _ _ _) f1.n1,Yan (joins_le _ _ _) f1.n2,ZhW h f1.k1 f2.k1,ZhW h f1.k2 f2.k2⟩
   ·exact z
theorem ZfI {cs:List Cls} (h:NewOk cs) {a b:Shp} (f1:a.Few) (f2:b.Few):(ZaR (newT cs) a b).1.Small:=(Znq h f1 f2).small
theorem Zhl (a b:Shp) (u v:Value) (w:World) (ha:ShpR Anyw w a u) (hb:ShpR Anyw w b v) (hfa:a.Fit) (hfb:b.Fit) (hT:HT6 w) :
  Calls Tryz.prog 4 #[u,v] w (Said true w):=by
 have HTB:Hid (∀ W,Below w.heap.size w W->Calls Tryz.prog 10 #[] W (Zdv W)):=Hd (fun W hW=>ZdH W (hT.ft.keep hW) (hT.ct.keep hW));have HA:Hid (∀ W,Below w.heap.size w W->Calls Tryz.prog 11 #[] W (Said true W)):=Hd (fun W hW=>ZeJ W (hT.ft.keep hW) (hT.ct.keep hW));have HF1:Hid (∀ W,Below w.heap.size w W->Calls Tryz.prog 12 #[u] W (Zeg a W)):=Hd (fun W hW=>Zeo a u W (ShpR.below ha hW) hfa);have HF2:Hid (∀ W,Below w.heap.size w W->Calls Tryz.prog 12 #[v] W (Zeg b W)):=Hd (fun W hW=>Zeo b v W (ShpR.below hb hW) hfb);have HMG:Hid (∀ (T mb:Nat) (B:Nat->Nat) (A:Nat->Prop) (W0 W:World),NewOk cls7->Tab A W0 T mb B (newT cls7)->Below W0.heap.size W0 W->Below w.heap.size w W->a.Few->b.Few->Calls Tryz.prog 13 #[.pointer (some ⟨T,0,none⟩),u,v] W (DoG (ZaR (newT cls7) a b) W)):=
  Hd (fun T mb B A W0 W ok ht h1 h2 f1 f2=>Zcm ht ok.shape a b u v W h1 (ShpR.below ha h2) (ShpR.below hb h2) f1.small f2.small)
 have HMG':Hid (∀ (T mb:Nat) (B:Nat->Nat) (A:Nat->Prop) (W0 W:World),NewOk cls7->Tab A W0 T mb B (newT cls7)->Below W0.heap.size W0 W->Below w.heap.size w W->a.Few->b.Few->Calls Tryz.prog 13 #[.pointer (some ⟨T,0,none⟩),v,u] W (DoG (ZaR (newT cls7) b a) W)):=
  Hd (fun T mb B A W0 W ok ht h1 h2 f1 f2=>Zcm ht ok.shape b a v u W h1 (ShpR.below hb h2) (ShpR.below ha h2) f2.small f1.small)
 have HLA:Hid (∀ (tv:Value) (W:World) (r:Shp) (z:Value),NewOk cls7->Src 8 ClsR Anyw W tv (allR cls7)->Below w.heap.size w W->a.Few->r.Small->ShpR Anyw W r z->ZbD (newT cls7) a r=true->Calls Tryz.prog 17 #[tv,u,z] W (fun e w'=>e=.returned (.bool true)/\Below W.heap.size W w')):=
  Hd (fun tv W r z ok ht h2 f1 f2 hz hbe=>by
   have h:=ZfU cls7 ok.lined ok.wise tv a r u z W ht (ShpR.below ha h2) hz f1.small f2;rw [hbe] at h;exact h)
 have HLB:Hid (∀ (tv:Value) (W:World) (r:Shp) (z:Value),NewOk cls7->Src 8 ClsR Anyw W tv (allR cls7)->Below w.heap.size w W->b.Few->r.Small->ShpR Anyw W r z->ZbD (newT cls7) b r=true->Calls Tryz.prog 17 #[tv,v,z] W (fun e w'=>e=.returned (.bool true)/\Below W.heap.size W w')):=
  Hd (fun tv W r z ok ht h2 f1 f2 hz hbe=>by
   have h:=ZfU cls7 ok.lined ok.wise tv b r v z W ht (ShpR.below hb h2) hz f1.small f2;rw [hbe] at h;exact h)
 obtain ⟨s1,HS1⟩:∃ s,Hid (a.seen=s):=⟨_,Hd rfl⟩
 obtain ⟨s2,HS2⟩:∃ s,Hid (b.seen=s):=⟨_,Hd rfl⟩
 obtain ⟨so1,sc1,lo1,lc1,rfl⟩:=ha.shape;obtain ⟨so2,sc2,lo2,lc2,rfl⟩:=hb.shape;rw [HS1.o] at HF1 HMG HMG' HLA ⊢;rw [HS2.o] at HF2 HMG HMG' HLB ⊢;generalize a.stk.length=n1 at *;generalize b.stk.length=n2 at *;generalize a.loc.length=m1 at *;generalize b.loc.length=m2 at *;unfold Said at HA;unfold Zdv at HTB;unfold Zeg at HF1 HF2;unfold DoG at HMG HMG';unfold Said;have HX1:=Hd ((Box.new w #[.bool s1,.slice so1 n1 sc1,.slice lo1 m1 lc1] 24).below (Zaa (Yab _ _) (.cells #[.bool s2,.slice so2 n2 sc2,.slice lo2 m2 lc2] 24)));have hx2:=Box.new (w.alloc (.cells #[.bool s1,.slice so1 n1 sc1,.slice lo1 m1 lc1] 24)) #[.bool s2,.slice so2 n2 sc2,.slice lo2 m2 lc2] 24;rw [show (w.alloc (.cells #[.bool s1,.slice so1 n1 sc1,.slice lo1 m1 lc1] 24)).heap.size=w.heap.size+1 by simp] at hx2;have HX2:=Hd hx2;have HB0:Hid (Below w.heap.size w ((w.alloc (.cells #[.bool s1,.slice so1 n1 sc1,.slice lo1 m1 lc1] 24)).alloc (.cells #[.bool s2,.slice so2 n2 sc2,.slice lo2 m2 lc2] 24))):=Hd (Zaa (Zaa (Yab _ _) _) _);clear ha hb hfa hfb hT hx2;go_enter Tryz.func4,Tryz.ntmps4
 go_wp2_with fail
 with_reducible refine (HTB.o _ HB0.o).mono ?_
 rintro e w1 ⟨ok,T,mb,B,A,tv,rfl,ht,hts,hb1⟩;have HT:=Hd ht;have HTS:=Hd hts;have OK:=Hd ok;have HB1:=Hd (HB0.o.trans (hb1.mono HB0.o.size));have HX11:=Hd (HX1.o.below hb1);have HX21:=Hd (HX2.o.below hb1);clear ht hts ok hb1 HX1 HX2
 go_wp2_with fail
 with_reducible refine (HA.o _ HB1.o).mono ?_
 rintro e w2 ⟨rfl,hb2⟩;have x0:=(HX11.o.below hb2).cell 0 rfl;have x1:=(HX11.o.below hb2).cell 1 rfl;have x2:=(HX11.o.below hb2).cell 2 rfl;have HB2:=Hd (HB1.o.trans (hb2.mono HB1.o.size));have HX12:=Hd (HX11.o.below hb2);have HX22:=Hd (HX21.o.below hb2);have HT2:=Hd hb2;clear hb2 HX11 HX21
 go_wp2_with fail
 with_reducible refine (HF1.o _ HB2.o).mono ?_
 rintro e w3 ⟨b1,rfl,hfew1,hb3⟩;have y0:=(HX22.o.below hb3).cell 0 rfl;have y1:=(HX22.o.below hb3).cell 1 rfl;have y2:=(HX22.o.below hb3).cell 2 rfl;have HB3:=Hd (HB2.o.trans (hb3.mono HB2.o.size));have HX13:=Hd (HX12.o.below hb3);have HX23:=Hd (HX22.o.below hb3);have HT3:=Hd (HT2.o.trans (hb3.mono HT2.o.size));have HFew1:=Hd hfew1;clear hb3 hfew1 HX12 HX22 HT2 x0 x1 x2;cases b1
 ·go_wp2_with fail
  with_reducible refine (HA.o _ HB3.o).mono ?_
  rintro e w4 ⟨rfl,hb4⟩;have HB4:=Hd (HB3.o.trans (hb4.mono HB3.o.size));clear hb4;go_wp2;go_ret;exact ⟨rfl,HB4.o⟩
 go_wp2_with fail
 with_reducible refine (HF2.o _ HB3.o).mono ?_
 rintro e w4 ⟨b2,rfl,hfew2,hb4⟩;have HB4:=Hd (HB3.o.trans (hb4.mono HB3.o.size));have HX14:=Hd (HX13.o.below hb4);have HX24:=Hd (HX23.o.below hb4);have HT4:=Hd (HT3.o.trans (hb4.mono HT3.o.size));have HFew2:=Hd hfew2;clear hb4 hfew2 HX13 HX23 HT3 y0 y1 y2;cases b2
 ·go_wp2_with fail
  with_reducible refine (HA.o _ HB4.o).mono ?_
  rintro e w5 ⟨rfl,hb5⟩;have HB5:=Hd (HB4.o.trans (hb5.mono HB4.o.size));clear hb5;go_wp2;go_ret;exact ⟨rfl,HB5.o⟩
 obtain ⟨x0,x1,x2⟩:_/\_/\_:=⟨HX14.o.cell 0 rfl,HX14.o.cell 1 rfl,HX14.o.cell 2 rfl⟩;obtain ⟨y0,y1,y2⟩:_/\_/\_:=⟨HX24.o.cell 0 rfl,HX24.o.cell 1 rfl,HX24.o.cell 2 rfl⟩;have F1:=Hd (HFew1.o (by simp));have F2:=Hd (HFew2.o (by simp));clear HFew1 HFew2 HF1 HF2 HTB;by_cases hse:s1=true/\s2=true
 case neg=>
  cases s1 <;> cases s2 <;> first
  | exact absurd ⟨rfl,rfl⟩ hse
  | (clear HMG HMG' HLA HLB OK HT HTS F1 F2 hse;go_wp2_with fail;with_reducible refine (HA.o _ HB4.o).mono ?_;rintro e w5 ⟨rfl,hb5⟩;have HB5:=Hd (HB4.o.trans (hb5.mono HB4.o.size));clear hb5;go_wp2;go_ret;exact ⟨rfl,HB5.o⟩)
 obtain ⟨rfl,rfl⟩:=hse;have HUP:=Hd (Zje OK.o.wise a b HS1.o HS2.o);have HSM1:=Hd (ZfI OK.o F1.o F2.o);have HSM2:=Hd (ZfI OK.o F2.o F1.o);have HMG2:=Hd (fun W h1 h2=>HMG.o T mb B A w1 W OK.o HT.o h1 h2 F1.o F2.o);have HMG3:=Hd (fun W h1 h2=>HMG'.o T mb B A w1 W OK.o HT.o h1 h2 F1.o F2.o);obtain ⟨R1,hR1⟩:∃ R,R=ZaR (newT cls7) a b:=⟨_,rfl⟩
 obtain ⟨R2,hR2⟩:∃ R,R=ZaR (newT cls7) b a:=⟨_,rfl⟩
 rw [←hR1] at HUP HSM1 HMG2;rw [←hR2] at HUP HSM2 HMG3;have HLA2:=Hd (fun W r z (h1:Below w1.heap.size w1 W) h2 hr hz hbe=>HLA.o tv W r z OK.o (ClsR.st.below HTS.o h1) h2 F1.o hr hz hbe);have HLB2:=Hd (fun W r z (h1:Below w1.heap.size w1 W) h2 hr hz hbe=>HLB.o tv W r z OK.o (ClsR.st.below HTS.o h1) h2 F2.o hr hz hbe);clear HMG HMG' HLA HLB OK HT HTS F1 F2 hR1 hR2 HA
 go_wp2_with fail
 with_reducible refine (HMG2.o _ HT4.o HB4.o).mono ?_
 rintro e w5 ⟨vc,rfl,hrc,hb5⟩;obtain ⟨co,cc,do_,dc,rfl⟩:=hrc.shape;have hq:=Zaa (Yab w5.heap.size w5) (.cells #[.bool R1.1.seen,.slice co R1.1.stk.length cc,.slice do_ R1.1.loc.length dc] 24);have hbq:=hb5.trans (hq.mono hb5.size);have RC:=Hd (ShpR.below hrc hq);have XC:=Hd (Box.new w5 #[.bool R1.1.seen,.slice co R1.1.stk.length cc,.slice do_ R1.1.loc.length dc] 24);have HB5:=Hd (HB4.o.trans (hbq.mono HB4.o.size));have HT5:=Hd (HT4.o.trans (hbq.mono HT4.o.size));have HX15:=Hd (HX14.o.below hbq);have HX25:=Hd (HX24.o.below hbq);clear hrc hb5 hq hbq HX14 HX24 HB4 HT4 x0 x1 x2 y0 y1 y2 HMG2;obtain ⟨x0,x1,x2⟩:_/\_/\_:=⟨HX15.o.cell 0 rfl,HX15.o.cell 1 rfl,HX15.o.cell 2 rfl⟩;obtain ⟨y0,y1,y2⟩:_/\_/\_:=⟨HX25.o.cell 0 rfl,HX25.o.cell 1 rfl,HX25.o.cell 2 rfl⟩
 go_wp2_with fail
 with_reducible refine (HMG3.o _ HT5.o HB5.o).mono ?_
 rintro e w6 ⟨vd,rfl,hrd,hb6⟩;obtain ⟨eo,ec,fo,fc,rfl⟩:=hrd.shape;have hq:=Zaa (Yab w6.heap.size w6) (.cells #[.bool R2.1.seen,.slice eo R2.1.stk.length ec,.slice fo R2.1.loc.length fc] 24);have hbq:=hb6.trans (hq.mono hb6.size);have RC6:=Hd (ShpR.below RC.o hbq);have XC6:=Hd (XC.o.below hbq);have RD:=Hd (ShpR.below hrd hq);have XD:=Hd (Box.new w6 #[.bool R2.1.seen,.slice eo R2.1.stk.length ec,.slice fo R2.1.loc.length fc] 24);have HB6:=Hd (HB5.o.trans (hbq.mono HB5.o.size));have HT6:=Hd (HT5.o.trans (hbq.mono HT5.o.size));have HX16:=Hd (HX15.o.below hbq);have HX26:=Hd (HX25.o.below hbq);clear hrd hb6 hq hbq RC XC HX15 HX25 HB5 HT5 x0 x1 x2 y0 y1 y2 HMG3
 go_upto_region 6 with fail
 obtain ⟨Q1,E1⟩:=R1;obtain ⟨Q2,E2⟩:=R2;simp only at HUP HSM1 HSM2 RC6 XC6 RD XD HX16 HX26 HB6 HT6 ⊢;by_cases he:E1=0
 case neg=>
  obtain rfl:E2=E1:=HUP.o.2 he;have he2:¬ ((E2:Int)=0):=by omega
  clear he HUP HSM1 HSM2 HLA2 HLB2 RC6 XC6 RD XD HX16 HX26 HT6;go_wp2;go_ret;exact ⟨by simp,HB6.o⟩
 subst he;obtain ⟨hE2,⟨p1,p2⟩,p3,p4⟩:=HUP.o.1 rfl;subst hE2;have P1:=Hd p1;have P2:=Hd p2;have P3:=Hd p3;have P4:=Hd p4;clear HUP p1 p2 p3 p4;obtain ⟨W6,hW6⟩:∃ W,W=w6.alloc (.cells #[.bool Q2.seen,.slice eo Q2.stk.length ec,.slice fo Q2.loc.length fc] 24):=⟨_,rfl⟩
 rw [←hW6] at RC6 XC6 RD XD HB6 HT6 HX16 HX26 ⊢;clear hW6;obtain ⟨D,hD⟩:∃ D,D=w6.heap.size:=⟨_,rfl⟩
 rw [←hD] at XD ⊢;obtain ⟨C,hC⟩:∃ D,D=w5.heap.size:=⟨_,rfl⟩
 rw [←hC] at XC6 ⊢;clear hC hD;have BT:=Hd (fun W (h:Below W6.heap.size W6 W)=>HT6.o.trans (h.mono HT6.o.size));have BW:=Hd (fun W (h:Below W6.heap.size W6 W)=>HB6.o.trans (h.mono HB6.o.size));have K1:Hid (∀ W,Below W6.heap.size W6 W->Calls Tryz.prog 17 #[tv,.agg #[.bool true,.slice so1 n1 sc1,.slice lo1 m1 lc1],.agg #[.bool Q1.seen,.slice co Q1.stk.length cc,.slice do_ Q1.loc.length dc]] W (fun e w'=>e=.returned (.bool true)/\Below W.heap.size W w')):=Hd (fun W h=>HLA2.o W Q1 _ (BT.o W h) (BW.o W h) HSM1.o (ShpR.below RC6.o h) P1.o);have K2:Hid (∀ W,Below W6.heap.size W6 W->Calls Tryz.prog 17 #[tv,.agg #[.bool true,.slice so2 n2 sc2,.slice lo2 m2 lc2],.agg #[.bool Q1.seen,.slice co Q1.stk.length cc,.slice do_ Q1.loc.length dc]] W (fun e w'=>e=.returned (.bool true)/\Below W.heap.size W w')):=Hd (fun W h=>HLB2.o W Q1 _ (BT.o W h) (BW.o W h) HSM1.o (ShpR.below RC6.o h) P2.o);have K3:Hid (∀ W,Below W6.heap.size W6 W->Calls Tryz.prog 17 #[tv,.agg #[.bool true,.slice so1 n1 sc1,.slice lo1 m1 lc1],.agg #[.bool Q2.seen,.slice eo Q2.stk.length ec,.slice fo Q2.loc.length fc]] W (fun e w'=>e=.returned (.bool true)/\Below W.heap.size W w')):=Hd (fun W h=>HLA2.o W Q2 _ (BT.o W h) (BW.o W h) HSM2.o (ShpR.below RD.o h) P3.o);have K4:Hid (∀ W,Below W6.heap.size W6 W->Calls Tryz.prog 17 #[tv,.agg #[.bool true,.slice so2 n2 sc2,.slice lo2 m2 lc2],.agg #[.bool Q2.seen,.slice eo Q2.stk.length ec,.slice fo Q2.loc.length fc]] W (fun e w'=>e=.returned (.bool true)/\Below W.heap.size W w')):=Hd (fun W h=>HLB2.o W Q2 _ (BT.o W h) (BW.o W h) HSM2.o (ShpR.below RD.o h) P4.o);have B0:=Hd (Yab W6.heap.size W6);clear HLA2 HLB2 RC6 RD P1 P2 P3 P4 HSM1 HSM2 HT6 BT HB6;generalize Q1.seen=qs1 at *;generalize Q1.stk.length=qn1 at *;generalize Q1.loc.length=qm1 at *;generalize Q2.seen=qs2 at *;generalize Q2.stk.length=qn2 at *;generalize Q2.loc.length=qm2 at *;obtain ⟨x0,x1,x2⟩:_/\_/\_:=⟨(HX16.o.below B0.o).cell 0 rfl,(HX16.o.below B0.o).cell 1 rfl,(HX16.o.below B0.o).cell 2 rfl⟩;obtain ⟨y0,y1,y2⟩:_/\_/\_:=⟨(XC6.o.below B0.o).cell 0 rfl,(XC6.o.below B0.o).cell 1 rfl,(XC6.o.below B0.o).cell 2 rfl⟩
 go_wp2_with fail
 with_reducible refine (K1.o _ B0.o).mono ?_
 rintro e V1 ⟨rfl,hv⟩;have B1:=Hd (B0.o.trans (hv.mono B0.o.size));clear hv x0 x1 x2 y0 y1 y2 B0;obtain ⟨x0,x1,x2⟩:_/\_/\_:=⟨(HX26.o.below B1.o).cell 0 rfl,(HX26.o.below B1.o).cell 1 rfl,(HX26.o.below B1.o).cell 2 rfl⟩;obtain ⟨y0,y1,y2⟩:_/\_/\_:=⟨(XC6.o.below B1.o).cell 0 rfl,(XC6.o.below B1.o).cell 1 rfl,(XC6.o.below B1.o).cell 2 rfl⟩
 go_wp2_with fail
 with_reducible refine (K2.o _ B1.o).mono ?_
 rintro e V2 ⟨rfl,hv⟩;have B2:=Hd (B1.o.trans (hv.mono B1.o.size));clear hv x0 x1 x2 y0 y1 y2 B1;obtain ⟨x0,x1,x2⟩:_/\_/\_:=⟨(HX16.o.below B2.o).cell 0 rfl,(HX16.o.below B2.o).cell 1 rfl,(HX16.o.below B2.o).cell 2 rfl⟩;obtain ⟨y0,y1,y2⟩:_/\_/\_:=⟨(XD.o.below B2.o).cell 0 rfl,(XD.o.below B2.o).cell 1 rfl,(XD.o.below B2.o).cell 2 rfl⟩
 go_wp2_with fail
 with_reducible refine (K3.o _ B2.o).mono ?_
 rintro e V3 ⟨rfl,hv⟩;have B3:=Hd (B2.o.trans (hv.mono B2.o.size));clear hv x0 x1 x2 y0 y1 y2 B2;obtain ⟨x0,x1,x2⟩:_/\_/\_:=⟨(HX26.o.below B3.o).cell 0 rfl,(HX26.o.below B3.o).cell 1 rfl,(HX26.o.below B3.o).cell 2 rfl⟩;obtain ⟨y0,y1,y2⟩:_/\_/\_:=⟨(XD.o.below B3.o).cell 0 rfl,(XD.o.below B3.o).cell 1 rfl,(XD.o.below B3.o).cell 2 rfl⟩
 go_wp2_with fail
 with_reducible refine (K4.o _ B3.o).mono ?_
 rintro e V4 ⟨rfl,hv⟩;have B4:=Hd (B3.o.trans (hv.mono B3.o.size));clear hv x0 x1 x2 y0 y1 y2 B3;have HBE:=Hd (BW.o _ B4.o);go_wp2;go_ret;exact ⟨rfl,HBE.o⟩
theorem ZpD (u:Value) (a:Shp) (v:Value) (b:Shp) (w:World) (hT:HT6 w) (ha:ShpR Anyw w a u) (hra:a.real) (hb:ShpR Anyw w b v) (hrb:b.real) :
  Calls Tryz.prog 4 #[u,v] w (Said true w):=
 Zhl a b u v w ha hb hra.2.2 hrb.2.2 hT
